/-
  The cursor's reading methods: they return what the text and the place give, and change nothing.
-/
import Derived.Test.YtledmagigkpbeaaDoorA
import Derived.Deep.QuietTactic
import Derived.BigQuiet
import Derived.BigRegion
import Derived.RegionTactic
import Derived.Lib.Hide
import Derived.IntWalk
import Derived.WalkSmall
namespace Go.Proofs.YtledmagigkpbeaaDoor
open Go.RowKit

theorem done_q (b i : Nat) (t : ByteArray) (w : World) (h0 : w.cell? ⟨b, 0, none⟩ = some (.string t)) (h1 : w.cell? ⟨b, 1, none⟩ = some (.int .i64 (i : Int))) :
    Calls Tryd.prog 28 #[.pointer (some ⟨b, 0, none⟩)] w fun e w' => e = .returned (.bool (decide (t.size ≤ i))) ∧ ∃ n, w' = w.drewN n := by
  go_enter Tryd.func28, Tryd.ntmps28
  go_wp2
  go_quiet (fail)
  go_wp2
  go_ret
  exact ⟨rfl, _, rfl⟩

theorem rest_q (b i : Nat) (t : ByteArray) (w : World) (hi : i ≤ t.size) (h0 : w.cell? ⟨b, 0, none⟩ = some (.string t)) (h1 : w.cell? ⟨b, 1, none⟩ = some (.int .i64 (i : Int))) :
    Calls Tryd.prog 60 #[.pointer (some ⟨b, 0, none⟩)] w fun e w' => e = .returned (.string (restB t i)) ∧ ∃ n, w' = w.drewN n := by
  have hi' : (i : Int) ≤ (t.size : Int) := by omega
  go_enter Tryd.func60, Tryd.ntmps60
  go_wp2
  go_quiet (fail)
  go_wp2
  go_ret
  exact ⟨rfl, _, rfl⟩

set_option maxHeartbeats 1000000 in
theorem window_q (b i : Nat) (t : ByteArray) (w : World) (hi : i ≤ t.size) (ht : t.size ≤ 1048576) (h0 : w.cell? ⟨b, 0, none⟩ = some (.string t)) (h1 : w.cell? ⟨b, 1, none⟩ = some (.int .i64 (i : Int))) :
    Calls Tryd.prog 95 #[.pointer (some ⟨b, 0, none⟩)] w fun e w' => e = .returned (.string (winB t i)) ∧ ∃ n, w' = w.drewN n := by
  have hi' : (i : Int) ≤ (t.size : Int) := by omega
  have hw : IntKind.i64.wrap ((i : Int) + 100) = (i : Int) + 100 := IntWalk.i64_in _ (by omega)
  by_cases hc : i + 100 ≤ t.size
  · have hm : min ((i : Int) + 100) (t.size : Int) = (i : Int) + 100 := by omega
    have hm2 : min (i + 100) t.size = i + 100 := by omega
    have h3 : (i : Int) ≤ (i : Int) + 100 := by omega
    have h4 : (i : Int) + 100 ≤ (t.size : Int) := by omega
    go_enter Tryd.func95, Tryd.ntmps95
    go_wp2
    go_quiet (fail)
    go_wp2
    go_ret
    exact ⟨by rw [winB, hm2]; rfl, _, rfl⟩
  · have hm : min ((i : Int) + 100) (t.size : Int) = (t.size : Int) := by omega
    have hm2 : min (i + 100) t.size = t.size := by omega
    go_enter Tryd.func95, Tryd.ntmps95
    go_wp2
    go_quiet (fail)
    go_wp2
    go_ret
    exact ⟨by rw [winB, hm2]; rfl, _, rfl⟩

theorem ahead_q (b i n : Nat) (t : ByteArray) (w : World) (hi : i ≤ 1048576) (hn : n ≤ 1048576) (h0 : w.cell? ⟨b, 0, none⟩ = some (.string t)) (h1 : w.cell? ⟨b, 1, none⟩ = some (.int .i64 (i : Int))) :
    Calls Tryd.prog 46 #[.pointer (some ⟨b, 0, none⟩), .int .i64 (n : Int)] w fun e w' => e = .returned (.int .u8 ((aheadB t (i + n)).toNat : Int)) ∧ ∃ n, w' = w.drewN n := by
  have hw : IntKind.i64.wrap ((i : Int) + (n : Int)) = (i : Int) + (n : Int) := IntWalk.i64_in _ (by omega)
  have ht : ((i : Int) + (n : Int)).toNat = i + n := by omega
  have hp : (0 : Int) ≤ (i : Int) + (n : Int) := by omega
  by_cases hc : i + n < t.size
  · have hl : (i : Int) + (n : Int) < (t.size : Int) := by omega
    have hg : decide ((t.size : Int) ≤ (i : Int) + (n : Int)) = false := by simp; omega
    have he := aheadB_lt hc
    have He := Lib.hid he; clear he
    go_enter Tryd.func46, Tryd.ntmps46
    go_wp2
    go_quiet (fail)
    go_wp2
    go_quiet (fail)
    go_wp2
    go_ret
    exact ⟨by rw [He.out]; rfl, _, World.drewN_drewN _ _ _⟩
  · have hg : decide ((t.size : Int) ≤ (i : Int) + (n : Int)) = true := by simp; omega
    have he := aheadB_ge (t := t) (k := i + n) (by omega)
    have He := Lib.hid he; clear he
    go_enter Tryd.func46, Tryd.ntmps46
    go_wp2
    go_quiet (fail)
    go_wp2
    go_ret
    exact ⟨by rw [He.out]; rfl, _, rfl⟩


theorem piece_any (b k a l : Nat) (t : ByteArray) (w : World) (hb : b < w.heap.size) (ha : a + l ≤ t.size) (ht : t.size ≤ 1048576) (h0 : w.cell? ⟨b, 0, none⟩ = some (.string t)) :
    Calls Tryd.prog 62 #[.pointer (some ⟨b, 0, none⟩), .agg #[.int .i64 (k : Int), .int .i64 (a : Int), .int .i64 (l : Int)]] w fun e w' => e = .returned (.string (cutB t a l)) ∧ Below w.heap.size w w' := by
  have hw : IntKind.i64.wrap ((a : Int) + (l : Int)) = (a : Int) + (l : Int) := IntWalk.i64_in _ (by omega)
  have h3 : (a : Int) ≤ (a : Int) + (l : Int) := by omega
  have h4 : (a : Int) + (l : Int) ≤ (t.size : Int) := by omega
  have hx : ∀ o, (w.alloc o).cell? ⟨b, 0, none⟩ = some (.string t) := fun o => (((Below.refl _ w).alloc (Nat.le_refl _) o).cell (p := ⟨b, 0, none⟩) hb).trans h0
  have ht2 : ((a : Int) + (l : Int)).toNat = a + l := by omega
  go_enter Tryd.func62, Tryd.ntmps62
  go_wp2
  go_quiet (fail)
  go_wp2
  go_ret
  refine ⟨?_, ?_⟩
  · rfl
  · exact below_drewN ((Below.refl _ w).alloc (Nat.le_refl _) _) _

theorem begins_any (b i : Nat) (t p : ByteArray) (w : World) (hi : i ≤ t.size) (h0 : w.cell? ⟨b, 0, none⟩ = some (.string t)) (h1 : w.cell? ⟨b, 1, none⟩ = some (.int .i64 (i : Int))) :
    Calls Tryd.prog 42 #[.pointer (some ⟨b, 0, none⟩), .string p] w fun e w' => e = .returned (.bool (Lib.hasPrefix (restB t i).data.toList p.data.toList)) ∧ ∃ n, w' = w.drewN n := by
  go_enter Tryd.func42, Tryd.ntmps42
  go_wp2_with (first | (go_at_call 60; refine (rest_q b i t _ hi h0 h1).mono ?_; rintro e w1 ⟨rfl, n, rfl⟩) | (go_at_call 59; refine (Tryd.strings_HasPrefix _ _ _).mono ?_; rintro e w2 ⟨rfl, rfl⟩))
  go_ret
  exact ⟨rfl, _, rfl⟩

theorem joins_any (b i n : Nat) (t : ByteArray) (w : World) (hi : i ≤ 1048576) (hn : n ≤ 1048576) (h0 : w.cell? ⟨b, 0, none⟩ = some (.string t)) (h1 : w.cell? ⟨b, 1, none⟩ = some (.int .i64 (i : Int))) :
    Calls Tryd.prog 99 #[.pointer (some ⟨b, 0, none⟩), .int .i64 (n : Int)] w fun e w' => e = .returned (.bool (joinsB (aheadB t (i + n)))) ∧ ∃ n, w' = w.drewN n := by
  go_enter Tryd.func99, Tryd.ntmps99
  go_wp2_with (go_at_call 46; refine (ahead_q b i n t _ hi hn h0 h1).mono ?_; rintro e w1 ⟨rfl, n, rfl⟩)
  all_goals
    go_ret
    refine ⟨?_, _, rfl⟩
    simp [joinsB, *]

theorem line_any (b i : Nat) (t : ByteArray) (w : World) (hi : i ≤ t.size) (h0 : w.cell? ⟨b, 0, none⟩ = some (.string t)) (h1 : w.cell? ⟨b, 1, none⟩ = some (.int .i64 (i : Int))) :
    Calls Tryd.prog 43 #[.pointer (some ⟨b, 0, none⟩)] w fun e w' => e = .returned (.int .i64 (lineN (restB t i) : Int)) ∧ ∃ n, w' = w.drewN n := by
  go_enter Tryd.func43, Tryd.ntmps43
  go_wp2_with (first | (go_at_call 60; refine (rest_q b i t _ hi h0 h1).mono ?_; rintro e w1 ⟨rfl, n, rfl⟩) | (go_at_call 39; refine (idx_any _ (10 : UInt8) _).mono ?_; rintro e w2 ⟨rfl, rfl⟩))
  all_goals
    go_ret
    refine ⟨?_, _, rfl⟩
  · have h : 0 ≤ Lib.indexByte (restB t i).data.toList 10 := by assumption
    simp [lineN, h]; omega
  · have h : ¬ 0 ≤ Lib.indexByte (restB t i).data.toList 10 := by omega
    simp only [lineN, if_neg h]; rfl
end Go.Proofs.YtledmagigkpbeaaDoor
