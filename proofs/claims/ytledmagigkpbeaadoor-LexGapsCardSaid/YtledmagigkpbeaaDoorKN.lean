/-
  What two lists of pieces have in common, where one of them is empty; whether two lists of pieces are the same.
-/
import Derived.Test.YtledmagigkpbeaaDoorKE
namespace Go.Proofs.YtledmagigkpbeaaDoor
open Go.RowKit

set_option maxHeartbeats 4000000 in
set_option maxRecDepth 100000 in
theorem kept_none (b1 b2 : Option Addr) (n1 c1 n2 c2 : Nat) (shift : Int) (hm : min (n1 : Int) (n2 : Int) = 0) (w : World) :
    Calls Tryd.prog 36 #[.slice b1 n1 c1, .slice b2 n2 c2, .int .i64 shift] w fun e w' => e = .returned (.agg #[.int .i64 0, .int .i64 0]) ∧ Below w.heap.size w w' := by
  go_enter Tryd.func36, Tryd.ntmps36
  go_wp2_with fail
  go_loopw [] (fun wr => KRel w 0 0 wr) (fun wr => 0)
  case atStart =>
    refine ⟨((Below.refl _ w).alloc (Nat.le_refl _) _).alloc (by simp) _, ?_, ?_, ?_, ?_, ?_, ?_, by simp⟩
    · exact new_cell _ _ _ _ _ _ (by simp) rfl
    · exact new_cell _ _ _ _ _ _ (by simp) rfl
    · exact two_firstB _ _ _ _ _ _ _ rfl rfl
    · exact two_firstB _ _ _ _ _ _ _ rfl rfl
    · exact fun j => two_frozenB _ _ _ _ _ _ rfl
    · exact fun j => new_frozen _ _ _ _ _ (by simp)
  case round =>
    have HR := Lib.hid hrel
    clear hrel
    have e0 : wr.cell? ⟨w.heap.size + 1, 0, none⟩ = some (.int .i64 0) := HR.out.c0
    have hdr : ∀ q, KRel w 0 0 (wr.drewN q) := fun q => by
      have h := HR.out
      exact ⟨⟨h.below.os, h.below.tape, h.below.output, h.below.size, h.below.block⟩, h.c0, h.c1, h.r0, h.r1, h.z0, h.z1, h.size⟩
    have HKR : Hid (∀ q, KRel w 0 0 (wr.drewN q)) := Lib.hid hdr
    clear hdr
    go_wp2_with fail
    go_quiet (fail)
    go_wp2_with fail
    have hkr := HKR.out nq
    go_loopw [] (fun wr => KRel w 0 0 wr) (fun wr => 0)
    case atStart => exact hkr
    case round =>
      clear HR e0
      have HR := Lib.hid hrel
      clear hrel
      have c0 : wr.cell? ⟨w.heap.size + 1, 0, none⟩ = some (.int .i64 0) := HR.out.c0
      have c1 : wr.cell? ⟨w.heap.size + 1, 1, none⟩ = some (.int .i64 0) := HR.out.c1
      have hz00 := HR.out.z0 0
      have hz01 := HR.out.z0 1
      have hr0 := HR.out.r0
      have hr1 := HR.out.r1
      go_wp2_with fail
      refine bodyPost_ret (v := .agg #[.int .i64 0, .int .i64 0]) ?_ rfl ⟨rfl, ?_⟩
      · simp [results, Tryd.results36, go_sem, hr0, hr1]
      · exact Below.setCell (Below.setCell HR.out.below (by simp) _) (by simp) _
end Go.Proofs.YtledmagigkpbeaaDoor
