/-
  The mathematics of cutting anew around a splice, step by step; nothing of a program is imported here but the count of unreached pieces.
-/
import Derived.Test.YtledmagigkpbeaaDoorMath8
import Derived.Test.YtledmagigkpbeaaDoorUR
namespace Go.Proofs.YtledmagigkpbeaaDoor

theorem unrN_spec (l : List (Nat × Nat × Nat)) (place : Int) : ∀ (m k : Nat), l.length - k ≤ m → k ≤ l.length → k ≤ unrN l place k ∧ unrN l place k ≤ l.length ∧ ∀ j x, k ≤ j → j < unrN l place k → l[j]? = some x → (x.2.1 : Int) + (x.2.2 : Int) + 100 + 1 < place := by
  intro m
  induction m with
  | zero =>
    intro k hm hk
    rw [unrN_end (by omega)]
    exact ⟨Nat.le_refl _, hk, fun j x h1 h2 => by omega⟩
  | succ m ih =>
    intro k hm hk
    by_cases hlt : k < l.length
    · obtain ⟨x, hx⟩ : ∃ x, l[k]? = some x := ⟨_, List.getElem?_eq_getElem hlt⟩
      by_cases hc : (x.2.1 : Int) + (x.2.2 : Int) + 100 + 1 < place
      · rw [unrN_on hx hc]
        obtain ⟨h1, h2, h3⟩ := ih (k + 1) (by omega) (by omega)
        refine ⟨by omega, h2, fun j y hj hj2 hy => ?_⟩
        by_cases hjk : j = k
        · subst hjk; rw [hx] at hy; cases hy; exact hc
        · exact h3 j y (by omega) hj2 hy
      · rw [unrN_stop hx hc]
        exact ⟨Nat.le_refl _, hk, fun j x h1 h2 => by omega⟩
    · rw [unrN_end hlt]
      exact ⟨Nat.le_refl _, hk, fun j x h1 h2 => by omega⟩

theorem steps_det {t : ByteArray} : ∀ (l : List (Nat × Nat × Nat)) (i : Nat) (op : Bool) (c : Nat) (st st' : Nat × Bool × Nat), Steps t i op c l st → Steps t i op c l st' → st = st' := by
  intro l
  induction l with
  | nil => intro i op c st st' h h'; simp only [Steps] at h h'; rw [h, h']
  | cons x l ih =>
    intro i op c st st' h h'
    exact ih _ _ _ _ _ h.2.2.2.2 h'.2.2.2.2

theorem take_steps {t : ByteArray} {L : List (Nat × Nat × Nat)} {st : Nat × Bool × Nat} (h : Steps t 0 false 0 L st) (k : Nat) : ∃ s, Steps t 0 false 0 (L.take k) s ∧ Steps t s.1 s.2.1 s.2.2 (L.drop k) st := by
  rw [← List.take_append_drop k L] at h
  exact steps_split _ _ _ _ _ _ h

/-- The piece with an index, where the pieces ahead of it end. -/
theorem steps_next {t : ByteArray} {L : List (Nat × Nat × Nat)} {st s : Nat × Bool × Nat} {k : Nat} {x : Nat × Nat × Nat} (h : Steps t 0 false 0 L st) (hk : Steps t 0 false 0 (L.take k) s) (hx : L[k]? = some x) :
    x.2.1 = s.1 ∧ s.1 < t.size ∧ nextR t s.1 s.2.1 = .ok (x.1, x.2.2) ∧ ¬ (isTok x.1 = true ∧ s.2.2 = 6000) ∧ Steps t 0 false 0 (L.take (k + 1)) (s.1 + x.2.2, (if isTok x.1 then opE x.1 (cutB t s.1 x.2.2) else s.2.1), (if isTok x.1 then s.2.2 + 1 else s.2.2)) := by
  obtain ⟨s', h1, h2⟩ := take_steps h k
  have e := steps_det _ _ _ _ _ _ hk h1
  subst e
  obtain ⟨hlt, rfl⟩ := List.getElem?_eq_some_iff.1 hx
  rw [List.drop_eq_getElem_cons hlt] at h2
  obtain ⟨a1, a2, a3, a4, a5⟩ := h2
  refine ⟨a2, a1, a3, a4, ?_⟩
  rw [List.take_succ_eq_append_getElem hlt]
  exact steps_append _ _ _ _ _ _ _ hk ⟨a1, a2, a3, a4, rfl⟩
theorem steps_count {t : ByteArray} : ∀ (l : List (Nat × Nat × Nat)) (i : Nat) (op : Bool) (c : Nat) (st : Nat × Bool × Nat), Steps t i op c l st → c ≤ 6000 → st.2.2 ≤ 6000 := by
  intro l
  induction l with
  | nil => intro i op c st h hc; simp only [Steps] at h; subst h; exact hc
  | cons x l ih =>
    intro i op c st h hc
    obtain ⟨a1, a2, a3, a4, a5⟩ := h
    refine ih _ _ _ _ a5 ?_
    split
    · next ht => simp only [ht, true_and] at a4; omega
    · exact hc

/-- The pieces that lie well ahead of a splice stand in both texts. -/
theorem pre_both {t u : ByteArray} {L : List (Nat × Nat × Nat)} {st : Nat × Bool × Nat} {a : Nat} (h : Steps t 0 false 0 L st) (hA : Agree t u a) :
    ∃ s, Steps t 0 false 0 (L.take (unrN L a 0)) s ∧ Steps u 0 false 0 (L.take (unrN L a 0)) s := by
  obtain ⟨s, h1, _⟩ := take_steps h (unrN L a 0)
  refine ⟨s, h1, steps_local hA _ _ _ _ _ h1 fun x hx => ?_⟩
  obtain ⟨j, hj⟩ := List.mem_iff_getElem?.1 hx
  have hj' := hj
  rw [List.getElem?_take] at hj
  split at hj
  · next hlt =>
    have := (unrN_spec L a L.length 0 (by omega) (by omega)).2.2 j x (by omega) hlt hj
    omega
  · cases hj

/-- How passing on goes, piece by piece: the count of tokens so far. -/
theorem passAll_step {M : List (Nat × Nat × Nat)} {q c : Nat} {y : Nat × Nat × Nat} (hy : M[q]? = some y) : passAll (M.drop q) c = if isTok y.1 = true ∧ c = 6000 then some y.2.1 else passAll (M.drop (q + 1)) (if isTok y.1 then c + 1 else c) := by
  obtain ⟨hlt, rfl⟩ := List.getElem?_eq_some_iff.1 hy
  rw [List.drop_eq_getElem_cons hlt, passAll]
end Go.Proofs.YtledmagigkpbeaaDoor
