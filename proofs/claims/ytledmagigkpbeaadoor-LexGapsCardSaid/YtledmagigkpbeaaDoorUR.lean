/-
  The number of pieces that lie well ahead of a place.
-/
import Derived.Test.YtledmagigkpbeaaDoorU
namespace Go.Proofs.YtledmagigkpbeaaDoor
open Go.RowKit

/-- Cells of a row of pieces. -/
def PcsAt (w : World) (g : Nat) (l : List (Nat × Nat × Nat)) : Prop := ∀ j u, (flatP l)[j]? = some u → w.cell? ⟨g, j, none⟩ = some u
theorem PcsAt.c0 {w : World} {g : Nat} {l : List (Nat × Nat × Nat)} (h : PcsAt w g l) {k : Nat} {x : Nat × Nat × Nat} (hx : l[k]? = some x) : w.cell? ⟨g, k * 3, none⟩ = some (.int .i64 (x.1 : Int)) :=
  h (k * 3 + 0) _ (by rw [flatP_get l k 0 x hx (by omega)]; rfl)
theorem PcsAt.c1 {w : World} {g : Nat} {l : List (Nat × Nat × Nat)} (h : PcsAt w g l) {k : Nat} {x : Nat × Nat × Nat} (hx : l[k]? = some x) : w.cell? ⟨g, k * 3 + 1, none⟩ = some (.int .i64 (x.2.1 : Int)) :=
  h (k * 3 + 1) _ (by rw [flatP_get l k 1 x hx (by omega)]; rfl)
theorem PcsAt.c2 {w : World} {g : Nat} {l : List (Nat × Nat × Nat)} (h : PcsAt w g l) {k : Nat} {x : Nat × Nat × Nat} (hx : l[k]? = some x) : w.cell? ⟨g, k * 3 + 2, none⟩ = some (.int .i64 (x.2.2 : Int)) :=
  h (k * 3 + 2) _ (by rw [flatP_get l k 2 x hx (by omega)]; rfl)
theorem PcsAt.kept {w w' : World} {g : Nat} {l : List (Nat × Nat × Nat)} (h : PcsAt w g l) (hk : ∀ j, w'.cell? ⟨g, j, none⟩ = w.cell? ⟨g, j, none⟩) : PcsAt w' g l :=
  fun j u hu => (hk j).trans (h j u hu)

/-- How many pieces lie well ahead of a place, from the k-th on. -/
def unrN (l : List (Nat × Nat × Nat)) (place : Int) (k : Nat) : Nat :=
  if h : k < l.length then (if (l[k].2.1 : Int) + (l[k].2.2 : Int) + 100 + 1 < place then unrN l place (k + 1) else k) else k
termination_by l.length - k

theorem unrN_on {l : List (Nat × Nat × Nat)} {place : Int} {k : Nat} {x : Nat × Nat × Nat} (hx : l[k]? = some x) (h : (x.2.1 : Int) + (x.2.2 : Int) + 100 + 1 < place) : unrN l place k = unrN l place (k + 1) := by
  obtain ⟨hk, rfl⟩ := List.getElem?_eq_some_iff.1 hx
  rw [unrN]; simp [hk, h]
theorem unrN_stop {l : List (Nat × Nat × Nat)} {place : Int} {k : Nat} {x : Nat × Nat × Nat} (hx : l[k]? = some x) (h : ¬ (x.2.1 : Int) + (x.2.2 : Int) + 100 + 1 < place) : unrN l place k = k := by
  obtain ⟨hk, rfl⟩ := List.getElem?_eq_some_iff.1 hx
  rw [unrN]; simp [hk, h]
theorem unrN_end {l : List (Nat × Nat × Nat)} {place : Int} {k : Nat} (h : ¬ k < l.length) : unrN l place k = k := by
  rw [unrN]; simp [h]

theorem unreached_some (g c : Nat) (l : List (Nat × Nat × Nat)) (place : Int) (hl : ∀ x ∈ l, x.2.1 + x.2.2 ≤ 1048576) (hn : l.length ≤ 1048576) (w : World) (hg : g < w.heap.size) (H : PcsAt w g l) :
    Calls Tryd.prog 53 #[.slice (some ⟨g, 0, none⟩) l.length c, .int .i64 place] w fun e w' => e = .returned (.int .i64 (unrN l place 0 : Int)) ∧ Below w.heap.size w w' := by
  go_enter Tryd.func53, Tryd.ntmps53
  go_wp2_with fail
  go_loopw [5] (fun n wr => ∃ k : Nat, k ≤ l.length ∧ n = .int .i64 k ∧ Hid (unrN l place k = unrN l place 0) ∧ Hid (Below w.heap.size w wr)) (fun n _ => l.length - (intOf n).toNat)
  case atStart => exact ⟨0, by omega, rfl, Lib.hid rfl, Lib.hid (Below.refl _ _)⟩
  case round =>
    obtain ⟨k, hk, rfl, hu, hbe⟩ := hrel
    by_cases hlt : k < l.length
    · obtain ⟨x, hx⟩ : ∃ x, l[k]? = some x := ⟨_, List.getElem?_eq_getElem hlt⟩
      have e1 : wr.cell? ⟨g, k * 3 + 1, none⟩ = some (.int .i64 (x.2.1 : Int)) := (hbe.out.cell (p := ⟨g, k * 3 + 1, none⟩) hg).trans (H.c1 hx)
      have e2 : wr.cell? ⟨g, k * 3 + 2, none⟩ = some (.int .i64 (x.2.2 : Int)) := (hbe.out.cell (p := ⟨g, k * 3 + 2, none⟩) hg).trans (H.c2 hx)
      have hb := hl x (List.mem_iff_getElem?.2 ⟨k, hx⟩)
      have w1 : IntKind.i64.wrap ((x.2.1 : Int) + (x.2.2 : Int)) = (x.2.1 : Int) + (x.2.2 : Int) := IntWalk.i64_in _ (by omega)
      have w2 : IntKind.i64.wrap ((x.2.1 : Int) + (x.2.2 : Int) + 100) = (x.2.1 : Int) + (x.2.2 : Int) + 100 := IntWalk.i64_in _ (by omega)
      have w3 : IntKind.i64.wrap ((x.2.1 : Int) + (x.2.2 : Int) + 100 + 1) = (x.2.1 : Int) + (x.2.2 : Int) + 100 + 1 := IntWalk.i64_in _ (by omega)
      have HU := Lib.hid (fun h => unrN_on (place := place) hx h)
      have HS := Lib.hid (fun h => unrN_stop (place := place) hx h)
      have hlt' : (k : Int) < (l.length : Int) := by omega
      by_cases hc : (x.2.1 : Int) + (x.2.2 : Int) + 100 + 1 < place
      · go_wp2_with fail
        go_region_held3 (fun w' => w'.cell? ⟨g, k * 3 + 1, none⟩ = some (.int .i64 (x.2.1 : Int)) ∧ w'.cell? ⟨g, k * 3 + 2, none⟩ = some (.int .i64 (x.2.2 : Int))) (go_keep) (fail)
        all_goals go_wp2_with fail
        go_roundw
        case rel => exact ⟨k + 1, by omega, by go_num, Lib.hid (by rw [← HU.out hc]; exact hu.out), Lib.hid hbe.out.drew⟩
        case measure => simp [intOf]; omega
      · go_wp2_with fail
        go_region_held3 (fun w' => w'.cell? ⟨g, k * 3 + 1, none⟩ = some (.int .i64 (x.2.1 : Int)) ∧ w'.cell? ⟨g, k * 3 + 2, none⟩ = some (.int .i64 (x.2.2 : Int))) (go_keep) (fail)
        all_goals go_wp2_with fail
        refine bodyPost_ret (v := .int .i64 (k : Int)) ?_ rfl ⟨by rw [← hu.out, HS.out hc], hbe.out.drew⟩
        simp [results, Tryd.results53, go_sem]
    · have hkl : k = l.length := by omega
      subst hkl
      go_wp2_with fail
      go_quiet (fail)
      go_wp2_with fail
      have HZ := unrN_end (place := place) (l := l) (k := l.length) (by omega)
      refine bodyPost_ret (v := .int .i64 (l.length : Int)) ?_ rfl ⟨by rw [← hu.out, HZ], ?_⟩
      · simp [results, Tryd.results53, go_sem]
      · have hb := hbe.out; exact ⟨hb.os, hb.tape, hb.output, hb.size, hb.block⟩

theorem unreached_none (b : Option Addr) (c : Nat) (place : Int) (w : World) :
    Calls Tryd.prog 53 #[.slice b 0 c, .int .i64 place] w fun e w' => e = .returned (.int .i64 0) ∧ Below w.heap.size w w' := by
  go_enter Tryd.func53, Tryd.ntmps53
  go_wp2_with fail
  go_loopw [5] (fun n wr => n = .int .i64 0 ∧ wr = w) (fun n _ => 0)
  case atStart => exact ⟨rfl, rfl⟩
  case round =>
    obtain ⟨rfl, rfl⟩ := hrel
    go_wp2_with fail
    go_quiet (fail)
    go_wp2_with fail
    refine bodyPost_ret (v := .int .i64 0) ?_ rfl ⟨rfl, ?_⟩
    · simp [results, Tryd.results53, go_sem]
    · exact ⟨rfl, rfl, rfl, Nat.le_refl _, fun _ _ => rfl⟩
end Go.Proofs.YtledmagigkpbeaaDoor
