/-
  Blanks and nested comments.
-/
import Derived.Test.YtledmagigkpbeaaDoorC2
import Derived.Test.YtledmagigkpbeaaDoorMath2
namespace Go.Proofs.YtledmagigkpbeaaDoor
open Go.RowKit

set_option maxHeartbeats 1000000 in
set_option maxRecDepth 100000 in
theorem blanks_q (b i : Nat) (t : ByteArray) (w : World) (hi : i < t.size) (ht : t.size ≤ 1048576) (h0 : w.cell? ⟨b, 0, none⟩ = some (.string t)) (h1 : w.cell? ⟨b, 1, none⟩ = some (.int .i64 (i : Int))) :
    Calls Tryd.prog 47 #[.pointer (some ⟨b, 0, none⟩)] w fun e w' => e = .returned (.int .i64 (blanksN t i : Int)) ∧ ∃ n, w' = w.drewN n := by
  go_enter Tryd.func47, Tryd.ntmps47
  go_wp2
  go_loopw [3] (fun n wr => ∃ k : Nat, i + k ≤ t.size ∧ n = .int .i64 k ∧ Hid (runN bBlank t (i + k) = runN bBlank t (i + 1)) ∧ ∃ q, wr = w.drewN q) (fun n _ => t.size - i - (intOf n).toNat)
  case atStart => exact ⟨1, by omega, rfl, Lib.hid rfl, 0, rfl⟩
  case round =>
    obtain ⟨k, hk, rfl, hr, q, rfl⟩ := hrel
    have ha := ahead_q b i k t (w.drewN q) (by omega) (by omega) h0 h1
    by_cases hlt : i + k < t.size
    · cases hp : bBlank (aheadB t (i + k))
      · have HE := Lib.hid (runN_no hlt (by rw [← aheadB_lt hlt]; exact hp))
        go_wp2_with (first | (go_at_call 46; refine ha.mono ?_; clear ha; rintro e w1 ⟨rfl, q1, rfl⟩) | (go_at_call 45; refine (isBlank_any _ _).mono ?_; rintro e w2 ⟨rfl, rfl⟩))
        go_ret
        exact ⟨ret_int (by rw [blanksN, ← hr.out, HE.out]; omega), _, rfl⟩
      · have HE := Lib.hid (runN_go hlt (by rw [← aheadB_lt hlt]; exact hp))
        go_wp2_with (first | (go_at_call 46; refine ha.mono ?_; clear ha; rintro e w1 ⟨rfl, q1, rfl⟩) | (go_at_call 45; refine (isBlank_any _ _).mono ?_; rintro e w2 ⟨rfl, rfl⟩))
        go_roundw
        case rel => exact ⟨k + 1, by omega, by go_num, Lib.hid (by rw [← hr.out, HE.out]; rfl), _, rfl⟩
        case measure => simp [intOf]; omega
    · have hp : bBlank (aheadB t (i + k)) = false := by rw [aheadB_ge (by omega)]; decide
      have HE := Lib.hid (runN_end (p := bBlank) hlt)
      go_wp2_with (first | (go_at_call 46; refine ha.mono ?_; clear ha; rintro e w1 ⟨rfl, q1, rfl⟩) | (go_at_call 45; refine (isBlank_any _ _).mono ?_; rintro e w2 ⟨rfl, rfl⟩))
      go_ret
      exact ⟨ret_int (by rw [blanksN, ← hr.out, HE.out]; omega), _, rfl⟩

/-- What the panic with a refusal ends in. -/
def refusedEnd (i c : Nat) : Ending := .panicked [{ v := .iface 59 (.agg #[.int .i64 (i : Int), .int .i64 (c : Int)]), recovered := false }]
def nestedEnd (i : Nat) : Except Nat Nat → Ending
  | .ok n => .returned (.int .i64 (n : Int))
  | .error c => refusedEnd i c

set_option maxHeartbeats 2000000 in
set_option maxRecDepth 100000 in
theorem nested_q (b i : Nat) (t : ByteArray) (w : World) (hi : i ≤ t.size) (ht : t.size ≤ 1048576) (h0 : w.cell? ⟨b, 0, none⟩ = some (.string t)) (h1 : w.cell? ⟨b, 1, none⟩ = some (.int .i64 (i : Int))) :
    Calls Tryd.prog 44 #[.pointer (some ⟨b, 0, none⟩)] w fun e w' => e = nestedEnd i (nestedGo (restB t i) 0 0) ∧ ∃ n, w' = w.drewN n := by
  have hrs : (restB t i).size ≤ 1048576 := by rw [rest_size]; omega
  have hcr := rest_q b i t w hi h0 h1
  generalize restB t i = r at *
  go_enter Tryd.func44, Tryd.ntmps44
  go_wp2_with (go_at_call 60; refine hcr.mono ?_; clear hcr; rintro e w1 ⟨rfl, n, rfl⟩)
  go_loopw [4, 5] (fun o i wr => ∃ (k : Nat) (m : Int), k ≤ r.size ∧ -(k : Int) ≤ m ∧ m ≤ 100 ∧ i = .int .i64 k ∧ o = .int .i64 m ∧ Hid (nestedGo r k m = nestedGo r 0 0) ∧ ∃ q, wr = w.drewN q) (fun _ i _ => r.size - (intOf i).toNat)
  case atStart => exact ⟨0, 0, by omega, by omega, by omega, rfl, rfl, Lib.hid rfl, _, rfl⟩
  case round =>
    obtain ⟨k, m, hk, hm1, hm2, rfl, rfl, hr, q, rfl⟩ := hrel
    by_cases hlt : k + 2 ≤ r.size
    · have hmn : min ((k : Int) + 2) (r.size : Int) = (k : Int) + 2 := by omega
      have hN : Hid (min (k + 2) r.size = k + 2) := Lib.hid (by omega)
      have hw : IntKind.i64.wrap ((k : Int) + 2) = (k : Int) + 2 := IntWalk.i64_in _ (by omega)
      have h3 : (k : Int) ≤ (k : Int) + 2 := by omega
      have h4 : (k : Int) + 2 ≤ r.size := by omega
      have hkl : k < r.size := by omega
      cases ho : ((r.extract k (k + 2)).toList == [47, 42])
      · cases hc : ((r.extract k (k + 2)).toList == [42, 47])
        · have HE := Lib.hid (nested_on (m := m) hkl (by rw [hN.out]; exact ho) (by rw [hN.out]; exact hc))
          go_wp2
          go_roundw
          case rel => exact ⟨k + 1, m, by omega, by omega, by omega, by go_num, rfl, Lib.hid (by rw [← HE.out]; exact hr.out), _, rfl⟩
          case measure => simp [intOf]; omega
        · cases hz : (m - 1 == 0)
          · have HE := Lib.hid (nested_less (m := m) hkl (by rw [hN.out]; exact ho) (by rw [hN.out]; exact hc) hz)
            go_wp2
            go_roundw
            case rel => exact ⟨k + 2, m - 1, by omega, by omega, by omega, by go_num, rfl, Lib.hid (by rw [← HE.out]; exact hr.out), _, rfl⟩
            case measure => simp [intOf]; omega
          · have HE := Lib.hid (nested_shut (m := m) hkl (by rw [hN.out]; exact ho) (by rw [hN.out]; exact hc) hz)
            go_wp2
            go_ret
            exact ⟨by rw [← hr.out, HE.out]; rfl, _, rfl⟩
      · by_cases hd : 100 < m + 1
        · have HE := Lib.hid (nested_deep (m := m) hkl (by rw [hN.out]; exact ho) hd)
          go_wp2
          exact ⟨rfl, by rw [← hr.out, HE.out]; rfl, _, rfl⟩
        · have HE := Lib.hid (nested_open (m := m) hkl (by rw [hN.out]; exact ho) hd)
          go_wp2
          go_roundw
          case rel => exact ⟨k + 2, m + 1, by omega, by omega, by omega, by go_num, rfl, Lib.hid (by rw [← HE.out]; exact hr.out), _, rfl⟩
          case measure => simp [intOf]; omega
    · by_cases hkl : k < r.size
      · have hmn : min ((k : Int) + 2) (r.size : Int) = (r.size : Int) := by omega
        have hN : Hid (min (k + 2) r.size = r.size) := Lib.hid (by omega)
        have hw : IntKind.i64.wrap ((k : Int) + 2) = (k : Int) + 2 := IntWalk.i64_in _ (by omega)
        have ho := two_short (s := r) (i := k) (by omega) 47 42
        have hc := two_short (s := r) (i := k) (by omega) 42 47
        have HE := Lib.hid (nested_on (m := m) hkl (by rw [hN.out]; exact ho) (by rw [hN.out]; exact hc))
        go_wp2
        go_roundw
        case rel => exact ⟨k + 1, m, by omega, by omega, by omega, by go_num, rfl, Lib.hid (by rw [← HE.out]; exact hr.out), _, rfl⟩
        case measure => simp [intOf]; omega
      · have HE := Lib.hid (nested_end (m := m) hkl)
        go_wp2
        exact ⟨rfl, by rw [← hr.out, HE.out]; rfl, _, rfl⟩
end Go.Proofs.YtledmagigkpbeaaDoor
