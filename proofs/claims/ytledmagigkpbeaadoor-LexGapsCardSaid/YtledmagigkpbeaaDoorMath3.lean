/-
  The plain functions of one piece; nothing of a program is imported here.
-/
import Derived.Test.YtledmagigkpbeaaDoorMath2
import Derived.Lib.AtoiAll
import Derived.Lib.ItoaNum
namespace Go.Proofs.YtledmagigkpbeaaDoor

theorem win_sz (t : ByteArray) (i : Nat) : (winB t i).size = min (i + 100) t.size - i := by simp [winB]
theorem intN_le (s : ByteArray) (c : UInt8) (op : Bool) (h : 1 ≤ s.size) : intN s c op ≤ s.size := by
  unfold intN
  have h1 := (runN_le bD (s.extract 1 s.size) 0 (by omega)).2
  have h0 := (runN_le bD (s.extract 0 s.size) 0 (by omega)).2
  simp only [ByteArray.size_extract, Nat.min_self] at h1 h0
  split
  · split <;> omega
  · omega
theorem aheadB_pos {s : ByteArray} {k : Nat} (h : ¬ aheadB s k = 0) : k < s.size := by
  apply Classical.byContradiction; intro hn; exact h (aheadB_ge (by omega))
theorem keyN_le (t : ByteArray) (i : Nat) (s : ByteArray) : keyN t i s ≤ s.size := by
  unfold keyN
  split
  · omega
  · split
    · rename_i h
      have := aheadB_pos (s := s) (k := plainN s) (by rw [h]; decide)
      split <;> omega
    · omega
theorem hashN_le (r : ByteArray) : hashN r ≤ r.size := by
  unfold hashN
  split
  · rename_i h
    rw [Bool.or_eq_true] at h
    rcases h with h | h
    all_goals
      simp only [Lib.hasPrefix, List.isPrefixOf_iff_prefix] at h
      have := h.length_le
      simp at this
      omega
  · omega
theorem signN_le (s : ByteArray) : signN s ≤ s.size := by
  unfold signN
  split
  · rename_i h
    have hl : (s.extract 0 (min 2 s.size)).toList.length = 2 := by
      simp only [signTwo, Bool.or_eq_true, beq_iff_eq] at h
      rcases h with ((((h | h) | h) | h) | h) | h <;> rw [h] <;> rfl
    rw [ByteArray.toList_eq] at hl
    simp at hl
    omega
  · split
    · rename_i h
      have := aheadB_pos (s := s) (k := 0) (by intro h0; rw [h0] at h; revert h; decide)
      omega
    · omega
theorem patN_le (t : ByteArray) (i : Nat) (s : ByteArray) : patN t i s ≤ s.size := by
  unfold patN
  have h1 := plainN_le (s.extract 1 s.size)
  have h2 := plainN_le (s.extract (plainN (s.extract 1 s.size) + 1 + 1) s.size)
  simp only [ByteArray.size_extract, Nat.min_self] at h1 h2
  split
  · rename_i h
    have h0 := aheadB_pos (s := s) (k := 0) (by rw [h]; decide)
    split
    · omega
    · split
      · rename_i h3
        have h4 := aheadB_pos (s := s) (k := plainN (s.extract 1 s.size) + 1) (by rw [h3]; decide)
        split
        · omega
        · split <;> omega
      · omega
  · omega
theorem bestTo_le (n : Nat → Nat) (m : Nat) (h : ∀ k, n k ≤ m) : ∀ k, (bestTo n k).1 ≤ k ∧ (bestTo n k).2 ≤ m := by
  intro k
  induction k with
  | zero => exact ⟨Nat.le_refl _, Nat.zero_le _⟩
  | succ k ih =>
    rw [bestTo]
    split
    · exact ⟨Nat.le_refl _, h k⟩
    · exact ⟨by omega, ih.2⟩
theorem ruleN_le (t : ByteArray) (i : Nat) (op : Bool) (hi : i < t.size) (k : Nat) : ruleN t i op k ≤ t.size - i := by
  have hw : (winB t i).size ≤ t.size - i ∧ 1 ≤ (winB t i).size := by rw [win_sz]; omega
  unfold ruleN
  split
  · exact Nat.le_trans (nameN_le _) hw.1
  · exact Nat.le_trans (intN_le _ _ _ hw.2) hw.1
  · exact Nat.le_trans (keyN_le _ _ _) hw.1
  · have := hashN_le (restB t i); rw [rest_size] at this; exact this
  · exact Nat.le_trans (signN_le _) hw.1
  · exact Nat.le_trans (patN_le _ _ _) hw.1
/-- The value of canonical digits. -/
def valO (s : ByteArray) : Option Int := match Lib.atoiAll s.data.toList with
  | .ok v => if (Lib.itoa v) = s.data.toList then some v else none
  | _ => none
/-- The error of a token of the kind k and the length l at the place i; 0: none. -/
def faultN (t : ByteArray) (i k l : Nat) : Nat :=
  if k = 2 then (if (valO (cutB t i l)).isSome && !bSpoils (aheadB t (i + l)) then 0 else 11)
  else if k = 4 then (if bW (aheadB t (i + l)) then 12 else 0)
  else if k = 1 ∨ k = 3 ∨ k = 6 then (if 40 < l then 2 else 0)
  else if k = 0 then (if aheadB t i = 35 then 12 else 10)
  else 0

/-- The piece at the place i: its kind and its length, or the error's number. -/
def nextR (t : ByteArray) (i : Nat) (op : Bool) : Except Nat (Nat × Nat) :=
  if Lib.hasPrefix (restB t i).data.toList [47, 47] then .ok (8, lineN (restB t i))
  else if Lib.hasPrefix (restB t i).data.toList [47, 42] then (match nestedGo (restB t i) 0 0 with | .ok n => .ok (8, n) | .error c => .error c)
  else if bBlank (aheadB t i) then .ok (7, blanksN t i)
  else if faultN t i (bestTo (ruleN t i op) 6).1 (bestTo (ruleN t i op) 6).2 = 0 then .ok (bestTo (ruleN t i op) 6) else .error (faultN t i (bestTo (ruleN t i op) 6).1 (bestTo (ruleN t i op) 6).2)
/-- Does a token end an operand? -/
def opE (k : Nat) (s : ByteArray) : Bool := if k = 1 ∨ k = 2 ∨ k = 4 then true else s.toList == [41] || s.toList == [93]
def isTok (k : Nat) : Bool := decide (1 ≤ (k : Int)) && decide ((k : Int) ≤ 6)


/-- All pieces from a place on (kind, beginning, length), and the error with the place where it was found. -/
def cutF (t : ByteArray) : Nat → Nat → Bool → Nat → List (Nat × Nat × Nat) × Option (Nat × Nat)
  | 0, _, _, _ => ([], none)
  | f + 1, i, op, n =>
    if i < t.size then
      match nextR t i op with
      | .error c => ([], some (i, c))
      | .ok p => if isTok p.1 = true ∧ n = 6000 then ([], some (i, 2)) else
          ((p.1, i, p.2) :: (cutF t f (i + p.2) (if isTok p.1 then opE p.1 (cutB t i p.2) else op) (if isTok p.1 then n + 1 else n)).1,
           (cutF t f (i + p.2) (if isTok p.1 then opE p.1 (cutB t i p.2) else op) (if isTok p.1 then n + 1 else n)).2)
    else ([], none)
def cutAll (t : ByteArray) : List (Nat × Nat × Nat) × Option (Nat × Nat) := cutF t (t.size + 1) 0 false 0
end Go.Proofs.YtledmagigkpbeaaDoor
