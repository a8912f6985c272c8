/-
  A piece depends on what stands behind its beginning alone; nothing of a program is imported here.
-/
import Derived.Test.YtledmagigkpbeaaDoorMath6
namespace Go.Proofs.YtledmagigkpbeaaDoor

theorem extract_rest (t : ByteArray) (i b : Nat) : t.extract i (i + b) = (restB t i).extract 0 b := by
  have hs : t.data.size = t.size := rfl
  apply ByteArray.ext
  apply Array.ext_getElem?
  intro j
  simp only [ByteArray.data_extract, restB]
  by_cases hj : j < b ∧ i + j < t.size
  · rw [Array.getElem?_extract, if_pos (by omega), Array.getElem?_extract, if_pos (by simp; omega), Array.getElem?_extract, if_pos (by omega)]
    congr 1; omega
  · rw [Array.getElem?_extract, Array.getElem?_extract]
    split
    · rename_i h1; rw [Array.getElem?_eq_none (by omega)]
      split
      · rw [Array.getElem?_extract]; split
        · rw [Array.getElem?_eq_none (by omega)]
        · rfl
      · rfl
    · split
      · rw [Array.getElem?_extract]; split
        · rename_i h1 h2 h3; simp at h2; omega
        · rfl
      · rfl
theorem win_rest (t : ByteArray) (i : Nat) : winB t i = (restB t i).extract 0 100 := by
  rw [← extract_rest]
  have hs : t.data.size = t.size := rfl
  apply ByteArray.ext
  simp only [winB, ByteArray.data_extract]
  apply Array.ext_getElem?
  intro j
  rw [Array.getElem?_extract, Array.getElem?_extract]
  split <;> split <;> first | rfl | (rw [Array.getElem?_eq_none (by omega)]) | omega
theorem run_rest (p : UInt8 → Bool) (t : ByteArray) (i : Nat) : ∀ (f k : Nat), t.size - i - k ≤ f → i + k ≤ t.size → runN p t (i + k) = i + runN p (restB t i) k := by
  have hr := rest_size t i
  intro f
  induction f with
  | zero => intro k hf hk; rw [runN_end (by omega), runN_end (by omega)]
  | succ f ih =>
    intro k hf hk
    by_cases hlt : i + k < t.size
    · have e : (restB t i)[k]'(by omega) = t[i + k] := by
        have := ahead_rest t i k
        rw [aheadB_lt (by omega), aheadB_lt (by omega)] at this; exact this
      cases hp : p t[i + k] with
      | true => rw [runN_go hlt hp, runN_go (s := restB t i) (k := k) (by omega) (by rw [e]; exact hp)]; exact ih (k + 1) (by omega) (by omega)
      | false => rw [runN_no hlt hp, runN_no (s := restB t i) (k := k) (by omega) (by rw [e]; exact hp)]
    · rw [runN_end hlt, runN_end (by omega)]
/-- Where the same stands behind two places, the same piece stands there. -/
theorem next_shift {t u : ByteArray} {i j : Nat} {op : Bool} (hi : i < t.size) (hj : j < u.size) (h : restB t i = restB u j) : nextR t i op = nextR u j op := by
  have ew : winB t i = winB u j := by rw [win_rest, win_rest, h]
  have ea : ∀ x, aheadB t (i + x) = aheadB u (j + x) := fun x => by rw [← ahead_rest, ← ahead_rest, h]
  have e0 : aheadB t i = aheadB u j := ea 0
  have ec : ∀ x, cutB t i x = cutB u j x := fun x => by unfold cutB; rw [extract_rest, extract_rest, h]
  have er : ∀ q, ruleN t i op q = ruleN u j op q := by
    intro q
    match q with
    | 0 => simp only [ruleN, ew]
    | 1 => simp only [ruleN, ew, e0]
    | 2 => simp only [ruleN, ew, keyN, ea]
    | 3 => simp only [ruleN, h]
    | 4 => simp only [ruleN, ew]
    | q + 5 => simp only [ruleN, ew, patN, ea]
  have eb := bestTo_congr er 6
  have ef : ∀ k l, faultN t i k l = faultN u j k l := fun k l => by unfold faultN; rw [ec, ea, e0]
  have eB : blanksN t i = blanksN u j := by
    unfold blanksN
    rw [run_rest _ t i _ 1 (Nat.le_refl _) (by omega), run_rest _ u j _ 1 (Nat.le_refl _) (by omega), h]; omega
  unfold nextR
  rw [h, e0, eB, eb, ef]
theorem ext_ahead {s r : ByteArray} (hs : s.size = r.size) (h : ∀ q, q < s.size → aheadB s q = aheadB r q) : s = r := by
  have h1 : s.data.size = s.size := rfl
  have h2 : r.data.size = r.size := rfl
  apply ByteArray.ext
  apply Array.ext_getElem?
  intro q
  by_cases hq : q < s.size
  · rw [ahead_data hq, ahead_data (by omega), h q hq]
  · rw [Array.getElem?_eq_none (by omega), Array.getElem?_eq_none (by omega)]
theorem rest_step {t u : ByteArray} {i j : Nat} (h : restB t i = restB u j) (x : Nat) : restB t (i + x) = restB u (j + x) := by
  have hsz := congrArg ByteArray.size h
  rw [rest_size, rest_size] at hsz
  refine ext_ahead (by rw [rest_size, rest_size]; omega) (fun q hq => ?_)
  rw [ahead_rest, ahead_rest, Nat.add_assoc, Nat.add_assoc, ← ahead_rest t, ← ahead_rest u, h]
def shiftP (d : Int) (x : Nat × Nat × Nat) : Nat × Nat × Nat := (x.1, ((x.2.1 : Int) + d).toNat, x.2.2)
/-- Where the same stands behind two places, the same pieces stand there, as long as there are not too many. -/
theorem steps_shift {t u : ByteArray} : ∀ (l : List (Nat × Nat × Nat)) (i j : Nat) (op : Bool) (c c' : Nat) (st : Nat × Bool × Nat), Steps t i op c l st → i ≤ t.size → j ≤ u.size → restB t i = restB u j →
    c' + (l.filter fun x => isTok x.1).length ≤ 6000 → ∃ c'', Steps u j op c' (l.map (shiftP ((j : Int) - (i : Int)))) (st.1 + j - i, st.2.1, c'') := by
  intro l
  induction l with
  | nil =>
    intro i j op c c' st h hi hj _ _
    simp only [Steps] at h; subst h
    exact ⟨c', by simp only [List.map_nil, Steps]; rw [show i + j - i = j by omega]⟩
  | cons x l ih =>
    intro i j op c c' st h hi hj hr hc
    obtain ⟨h1, h3, h4, h5, h6⟩ := h
    have hb := next_bounds h1 h4
    have hsz := congrArg ByteArray.size hr
    rw [rest_size, rest_size] at hsz
    have hst := steps_bounds l _ _ _ st h6 (by omega)
    simp only [List.filter_cons] at hc
    have hcl : ¬ (isTok x.1 = true ∧ c' = 6000) := by
      rintro ⟨ht, rfl⟩; rw [if_pos ht] at hc; simp only [List.length_cons] at hc; omega
    have ec : cutB u j x.2.2 = cutB t i x.2.2 := by unfold cutB; rw [extract_rest, extract_rest, hr]
    obtain ⟨c'', hs⟩ := ih (i + x.2.2) (j + x.2.2) _ _ (if isTok x.1 then c' + 1 else c') st h6 (by omega) (by omega) (rest_step hr _) (by
      split at hc
      · rename_i ht; rw [if_pos ht]; simp only [List.length_cons] at hc; omega
      · rename_i ht; rw [if_neg ht]; omega)
    refine ⟨c'', ?_⟩
    simp only [List.map_cons, Steps]
    refine ⟨by omega, by simp only [shiftP]; omega, by simp only [shiftP]; rw [← next_shift h1 (by omega) hr]; exact h4, hcl, ?_⟩
    simp only [shiftP, ec]
    rw [show ((j : Int) - (i : Int)) = (((j + x.2.2 : Nat) : Int) - ((i + x.2.2 : Nat) : Int)) by omega, show st.1 + j - i = st.1 + (j + x.2.2) - (i + x.2.2) by omega]
    exact hs
end Go.Proofs.YtledmagigkpbeaaDoor
