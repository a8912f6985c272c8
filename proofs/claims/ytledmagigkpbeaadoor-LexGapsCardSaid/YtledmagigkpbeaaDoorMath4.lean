/-
  A piece is not empty, and lies within the text; nothing of a program is imported here.
-/
import Derived.Test.YtledmagigkpbeaaDoorMath3
namespace Go.Proofs.YtledmagigkpbeaaDoor

theorem idx_spec {c : UInt8} : ∀ {l : List UInt8}, 0 ≤ Lib.indexByte l c → ∃ k : Nat, Lib.indexByte l c = (k : Int) ∧ k < l.length ∧ l[k]? = some c
  | [], h => by simp [Lib.indexByte] at h
  | x :: l, h => by
    rw [Lib.indexByte] at h ⊢
    cases hx : (x == c)
    · rw [hx] at h
      simp only [Bool.false_eq_true, if_false] at h ⊢
      cases hy : (Lib.indexByte l c == -1)
      · have hg := Lib.indexByte_ge l c
        have hn : Lib.indexByte l c ≠ -1 := by simpa using hy
        obtain ⟨k, e, hk, hv⟩ := idx_spec (c := c) (l := l) (by omega)
        refine ⟨k + 1, ?_, by simpa using hk, by simpa using hv⟩
        simp only [Bool.false_eq_true, if_false]
        omega
      · rw [hy] at h; simp at h
    · refine ⟨0, by simp, by simp, ?_⟩
      simp at hx; simp [hx]
theorem line_bounds {r : ByteArray} (h : Lib.hasPrefix r.data.toList [47, 47] = true) : 2 ≤ lineN r ∧ lineN r ≤ r.size := by
  simp only [Lib.hasPrefix, List.isPrefixOf_iff_prefix] at h
  have hl := h.length_le
  simp at hl
  have e0 : r.data.toList[0]? = some 47 := by obtain ⟨z, hz⟩ := h; rw [← hz]; rfl
  have e1 : r.data.toList[1]? = some 47 := by obtain ⟨z, hz⟩ := h; rw [← hz]; rfl
  unfold lineN
  split
  · rename_i hi
    obtain ⟨k, e, hk, hv⟩ := idx_spec hi
    rw [e]
    have k0 : k ≠ 0 := by rintro rfl; rw [e0] at hv; cases hv
    have k1 : k ≠ 1 := by rintro rfl; rw [e1] at hv; cases hv
    simp at hk
    omega
  · omega
theorem nested_bounds (s : ByteArray) : ∀ (f i : Nat) (m : Int) (n : Nat), s.size - i ≤ f → nestedGo s i m = .ok n → i + 2 ≤ n ∧ n ≤ s.size := by
  intro f
  induction f with
  | zero =>
    intro i m n hf h
    rw [nested_end (by omega)] at h; cases h
  | succ f ih =>
    intro i m n hf h
    by_cases hi : i < s.size
    · have htwo : ∀ x y : UInt8, ((s.extract i (min (i + 2) s.size)).toList == [x, y]) = true → i + 2 ≤ s.size := by
        intro x y hx
        have := congrArg List.length (beq_iff_eq.1 hx)
        rw [ByteArray.toList_eq] at this
        simp at this
        omega
      cases ho : ((s.extract i (min (i + 2) s.size)).toList == [47, 42])
      · cases hc : ((s.extract i (min (i + 2) s.size)).toList == [42, 47])
        · rw [nested_on hi ho hc] at h
          have := ih (i + 1) m n (by omega) h
          omega
        · cases hz : (m - 1 == 0)
          · rw [nested_less hi ho hc hz] at h
            have := ih (i + 2) (m - 1) n (by omega) h
            omega
          · rw [nested_shut hi ho hc hz] at h
            injection h with h
            have := htwo _ _ hc
            omega
      · by_cases hd : 100 < m + 1
        · rw [nested_deep hi ho hd] at h; cases h
        · rw [nested_open hi ho hd] at h
          have := ih (i + 2) (m + 1) n (by omega) h
          omega
    · rw [nested_end hi] at h; cases h
theorem best_pos (n : Nat → Nat) : ∀ k, (bestTo n k).1 ≠ 0 → 0 < (bestTo n k).2
  | 0, h => absurd rfl h
  | k + 1, h => by
    rw [bestTo] at h ⊢
    split
    · simp only; omega
    · rename_i hk; rw [if_neg hk] at h; exact best_pos n k h
theorem best_bounds (t : ByteArray) (i : Nat) (op : Bool) (hi : i < t.size) : (bestTo (ruleN t i op) 6).1 ≤ 6 ∧ i + (bestTo (ruleN t i op) 6).2 ≤ t.size := by
  have := bestTo_le (ruleN t i op) (t.size - i) (fun k => ruleN_le t i op hi k) 6
  omega
theorem next_bounds {t : ByteArray} {i : Nat} {op : Bool} {p : Nat × Nat} (hi : i < t.size) (h : nextR t i op = .ok p) : 1 ≤ p.1 ∧ p.1 ≤ 8 ∧ 1 ≤ p.2 ∧ i + p.2 ≤ t.size := by
  unfold nextR at h
  split at h
  · rename_i hA
    injection h with h; subst h
    have := line_bounds hA
    rw [rest_size] at this
    simp only; omega
  · split at h
    · split at h
      · rename_i n hM
        injection h with h; subst h
        have := nested_bounds _ _ 0 0 n (Nat.le_refl _) hM
        rw [rest_size] at this
        simp only; omega
      · cases h
    · split at h
      · injection h with h; subst h
        have := runN_le bBlank t (i + 1) (by omega)
        simp only [blanksN]; omega
      · split at h
        · rename_i hf
          injection h with h; subst h
          have hb := best_bounds t i op hi
          have hk : (bestTo (ruleN t i op) 6).1 ≠ 0 := by
            intro h0
            rw [h0] at hf
            simp [faultN] at hf
            split at hf <;> omega
          have := best_pos _ _ hk
          omega
        · cases h
theorem cutF_len (t : ByteArray) : ∀ (f i : Nat) (op : Bool) (n : Nat), (cutF t f i op n).1.length ≤ t.size - i := by
  intro f
  induction f with
  | zero => intro i op n; simp [cutF]
  | succ f ih =>
    intro i op n
    rw [cutF]
    split
    · rename_i hi
      split
      · simp
      · rename_i p hp
        split
        · simp
        · have hb := next_bounds hi hp
          have := ih (i + p.2) (if isTok p.1 then opE p.1 (cutB t i p.2) else op) (if isTok p.1 then n + 1 else n)
          simp only [List.length_cons]
          omega
    · simp
theorem cutAll_len (t : ByteArray) : (cutAll t).1.length ≤ t.size := by
  have := cutF_len t (t.size + 1) 0 false 0
  unfold cutAll; omega
/-- The kind of the one token that a string is as a whole. -/
def kindN (s : ByteArray) : Nat := if s.size = 0 then 0 else match nextR s 0 false with
  | .error _ => 0
  | .ok p => if isTok p.1 = true ∧ p.2 = s.size then p.1 else 0
/-- What Pieces returns: the pieces, the place and the error's number. -/
def piecesR (t : ByteArray) : List (Nat × Nat × Nat) × Nat × Nat :=
  if 20000 < t.size then ([], 0, 2) else match (cutAll t).2 with
    | none => ((cutAll t).1, 0, 0)
    | some p => ([], p.1, p.2)
theorem nested_err (s : ByteArray) : ∀ (f i : Nat) (m : Int) (c : Nat), s.size - i ≤ f → nestedGo s i m = .error c → c ≠ 0 := by
  intro f
  induction f with
  | zero =>
    intro i m c hf h
    rw [nested_end (by omega)] at h; injection h with h; omega
  | succ f ih =>
    intro i m c hf h
    by_cases hi : i < s.size
    · cases ho : ((s.extract i (min (i + 2) s.size)).toList == [47, 42])
      · cases hc : ((s.extract i (min (i + 2) s.size)).toList == [42, 47])
        · rw [nested_on hi ho hc] at h; exact ih _ _ _ (by omega) h
        · cases hz : (m - 1 == 0)
          · rw [nested_less hi ho hc hz] at h; exact ih _ _ _ (by omega) h
          · rw [nested_shut hi ho hc hz] at h; cases h
      · by_cases hd : 100 < m + 1
        · rw [nested_deep hi ho hd] at h; injection h with h; omega
        · rw [nested_open hi ho hd] at h; exact ih _ _ _ (by omega) h
    · rw [nested_end hi] at h; injection h with h; omega
theorem next_err {t : ByteArray} {i : Nat} {op : Bool} {c : Nat} (h : nextR t i op = .error c) : c ≠ 0 := by
  unfold nextR at h
  split at h
  · cases h
  · split at h
    · split at h
      · cases h
      · rename_i e hM
        simp only [Except.error.injEq] at h
        rw [← h]
        exact nested_err _ _ 0 0 _ (Nat.le_refl _) hM
    · split at h
      · cases h
      · split at h
        · cases h
        · rename_i hf
          simp only [Except.error.injEq] at h
          rw [← h]; exact hf
theorem cutF_err (t : ByteArray) : ∀ (f i : Nat) (op : Bool) (n : Nat) (p : Nat × Nat), (cutF t f i op n).2 = some p → p.2 ≠ 0 := by
  intro f
  induction f with
  | zero => intro i op n p h; simp [cutF] at h
  | succ f ih =>
    intro i op n p h
    rw [cutF] at h
    split at h
    · split at h
      · rename_i c hc
        simp only [Option.some.injEq] at h
        subst h; exact next_err hc
      · split at h
        · simp only [Option.some.injEq] at h
          subst h; simp
        · exact ih _ _ _ _ h
    · simp at h
theorem piecesR_ok {t : ByteArray} (h : (piecesR t).2.2 = 0) : (piecesR t).2.1 = 0 ∧ (piecesR t).1 = (cutAll t).1 ∧ (cutAll t).2 = none ∧ t.size ≤ 20000 := by
  unfold piecesR at h ⊢
  split at h
  · simp at h
  · rename_i hs
    rw [if_neg hs]
    cases hc : (cutAll t).2 with
    | none => simp; omega
    | some p =>
      rw [hc] at h
      exact absurd h (cutF_err t _ _ _ _ p hc)
theorem piecesR_bad {t : ByteArray} (h : (piecesR t).2.2 ≠ 0) : (piecesR t).1 = [] := by
  unfold piecesR at h ⊢
  split
  · rfl
  · cases hc : (cutAll t).2 with
    | none => rename_i hs; rw [if_neg hs, hc] at h; simp at h
    | some p => rfl
/-- Each piece lies within the text. -/
theorem cutF_in (t : ByteArray) : ∀ (f i : Nat) (op : Bool) (n : Nat) (x : Nat × Nat × Nat), x ∈ (cutF t f i op n).1 → 1 ≤ x.1 ∧ x.1 ≤ 8 ∧ 1 ≤ x.2.2 ∧ x.2.1 + x.2.2 ≤ t.size := by
  intro f
  induction f with
  | zero => intro i op n x h; simp [cutF] at h
  | succ f ih =>
    intro i op n x h
    rw [cutF] at h
    split at h
    · rename_i hi
      split at h
      · simp at h
      · rename_i p hp
        split at h
        · simp at h
        · simp only [List.mem_cons] at h
          rcases h with rfl | h
          · exact next_bounds hi hp
          · exact ih _ _ _ _ h
    · simp at h
end Go.Proofs.YtledmagigkpbeaaDoor
