/-
  Pieces one after another; nothing of a program is imported here.
-/
import Derived.Test.YtledmagigkpbeaaDoorMath5
namespace Go.Proofs.YtledmagigkpbeaaDoor

/-- From the place i on, with c tokens so far, the pieces l stand one after another, and lead to the state st. -/
def Steps (t : ByteArray) : Nat → Bool → Nat → List (Nat × Nat × Nat) → Nat × Bool × Nat → Prop
  | i, op, c, [], st => st = (i, op, c)
  | i, op, c, x :: l, st => i < t.size ∧ x.2.1 = i ∧ nextR t i op = .ok (x.1, x.2.2) ∧ ¬ (isTok x.1 = true ∧ c = 6000) ∧
      Steps t (i + x.2.2) (if isTok x.1 then opE x.1 (cutB t i x.2.2) else op) (if isTok x.1 then c + 1 else c) l st

theorem steps_append {t : ByteArray} : ∀ (l m : List (Nat × Nat × Nat)) (i : Nat) (op : Bool) (c : Nat) (st st' : Nat × Bool × Nat), Steps t i op c l st → Steps t st.1 st.2.1 st.2.2 m st' → Steps t i op c (l ++ m) st' := by
  intro l
  induction l with
  | nil => intro m i op c st st' h h2; simp only [Steps] at h; subst h; exact h2
  | cons x l ih =>
    intro m i op c st st' h h2
    obtain ⟨h1, h3, h4, h5, h6⟩ := h
    exact ⟨h1, h3, h4, h5, ih m _ _ _ st st' h6 h2⟩
theorem steps_split {t : ByteArray} : ∀ (l m : List (Nat × Nat × Nat)) (i : Nat) (op : Bool) (c : Nat) (st' : Nat × Bool × Nat), Steps t i op c (l ++ m) st' → ∃ st, Steps t i op c l st ∧ Steps t st.1 st.2.1 st.2.2 m st' := by
  intro l
  induction l with
  | nil => intro m i op c st' h; exact ⟨(i, op, c), rfl, h⟩
  | cons x l ih =>
    intro m i op c st' h
    obtain ⟨h1, h3, h4, h5, h6⟩ := h
    obtain ⟨st, ha, hb⟩ := ih m _ _ _ st' h6
    exact ⟨st, ⟨h1, h3, h4, h5, ha⟩, hb⟩
theorem steps_bounds {t : ByteArray} : ∀ (l : List (Nat × Nat × Nat)) (i : Nat) (op : Bool) (c : Nat) (st : Nat × Bool × Nat), Steps t i op c l st → i ≤ t.size → i + l.length ≤ st.1 ∧ st.1 ≤ t.size := by
  intro l
  induction l with
  | nil => intro i op c st h hi; simp only [Steps] at h; subst h; simp; exact hi
  | cons x l ih =>
    intro i op c st h hi
    obtain ⟨h1, h3, h4, h5, h6⟩ := h
    have hb := next_bounds h1 h4
    have := ih _ _ _ st h6 (by omega)
    simp only [List.length_cons]; omega
theorem steps_in {t : ByteArray} : ∀ (l : List (Nat × Nat × Nat)) (i : Nat) (op : Bool) (c : Nat) (st : Nat × Bool × Nat), Steps t i op c l st → ∀ x ∈ l, i ≤ x.2.1 ∧ x.2.1 + x.2.2 ≤ st.1 ∧ 1 ≤ x.2.2 := by
  intro l
  induction l with
  | nil => intro i op c st h x hx; simp at hx
  | cons y l ih =>
    intro i op c st h x hx
    obtain ⟨h1, h3, h4, h5, h6⟩ := h
    have hb := next_bounds h1 h4
    have hs := steps_bounds l _ _ _ st h6 (by omega)
    rcases List.mem_cons.1 hx with rfl | hx
    · refine ⟨by omega, by omega, hb.2.2.1⟩
    · have := ih _ _ _ st h6 x hx; omega
/-- How much there is to go does not matter, as long as it is enough. -/
theorem cutF_fuel (t : ByteArray) : ∀ (f g i : Nat) (op : Bool) (n : Nat), t.size - i < f → t.size - i < g → cutF t f i op n = cutF t g i op n := by
  intro f
  induction f with
  | zero => intro g i op n hf; omega
  | succ f ih =>
    intro g i op n hf hg
    cases g with
    | zero => omega
    | succ g =>
      rw [cutF, cutF]
      by_cases hi : i < t.size
      · rw [if_pos hi, if_pos hi]
        cases hp : nextR t i op with
        | error c => rfl
        | ok p =>
          have hb := next_bounds hi hp
          simp only
          rw [ih g (i + p.2) _ _ (by omega) (by omega)]
      · rw [if_neg hi, if_neg hi]
theorem cutF_cons {t : ByteArray} {f i : Nat} {op : Bool} {n : Nat} {p : Nat × Nat} (hi : i < t.size) (hp : nextR t i op = .ok p) (hc : ¬ (isTok p.1 = true ∧ n = 6000)) :
    cutF t (f + 1) i op n = ((p.1, i, p.2) :: (cutF t f (i + p.2) (if isTok p.1 then opE p.1 (cutB t i p.2) else op) (if isTok p.1 then n + 1 else n)).1, (cutF t f (i + p.2) (if isTok p.1 then opE p.1 (cutB t i p.2) else op) (if isTok p.1 then n + 1 else n)).2) := by
  rw [cutF, if_pos hi, hp]; simp only; rw [if_neg hc]
theorem steps_cutF {t : ByteArray} : ∀ (l : List (Nat × Nat × Nat)) (i : Nat) (op : Bool) (c : Nat) (st : Nat × Bool × Nat), Steps t i op c l st → i ≤ t.size → ∀ f g, t.size - i < f → t.size - st.1 < g → cutF t f i op c = (l ++ (cutF t g st.1 st.2.1 st.2.2).1, (cutF t g st.1 st.2.1 st.2.2).2) := by
  intro l
  induction l with
  | nil =>
    intro i op c st h hi f g hf hg
    simp only [Steps] at h; subst h
    rw [cutF_fuel t f g i op c hf hg]; simp
  | cons x l ih =>
    intro i op c st h hi f g hf hg
    obtain ⟨h1, h3, h4, h5, h6⟩ := h
    have hb := next_bounds h1 h4
    cases f with
    | zero => omega
    | succ f =>
      rw [cutF_cons h1 h4 h5, ih _ _ _ st h6 (by omega) f g (by omega) hg]
      subst h3
      rfl
theorem cutF_steps {t : ByteArray} : ∀ (f i : Nat) (op : Bool) (c : Nat), t.size - i < f → i ≤ t.size → (cutF t f i op c).2 = none → ∃ op' c', Steps t i op c (cutF t f i op c).1 (t.size, op', c') := by
  intro f
  induction f with
  | zero => intro i op c hf; omega
  | succ f ih =>
    intro i op c hf hi h
    by_cases hlt : i < t.size
    · cases hp : nextR t i op with
      | error e => rw [cutF, if_pos hlt, hp] at h; simp at h
      | ok p =>
        by_cases hc : isTok p.1 = true ∧ c = 6000
        · rw [cutF, if_pos hlt, hp] at h; simp only at h; rw [if_pos hc] at h; simp at h
        · have hb := next_bounds hlt hp
          rw [cutF_cons hlt hp hc] at h ⊢
          obtain ⟨op', c', hs⟩ := ih _ _ _ (by omega) (by omega) h
          exact ⟨op', c', hlt, rfl, hp, hc, hs⟩
    · have : i = t.size := by omega
      subst this
      rw [cutF, if_neg hlt]
      exact ⟨op, c, rfl⟩
/-- Pieces that end well ahead of where two texts part stand in both. -/
theorem steps_local {t u : ByteArray} {N : Nat} (h : Agree t u N) : ∀ (l : List (Nat × Nat × Nat)) (i : Nat) (op : Bool) (c : Nat) (st : Nat × Bool × Nat), Steps t i op c l st → (∀ x ∈ l, x.2.1 + x.2.2 + 102 ≤ N) → Steps u i op c l st := by
  have h1 := h.a; have h2 := h.b
  intro l
  induction l with
  | nil => intro i op c st hs _; exact hs
  | cons x l ih =>
    intro i op c st hs hN
    obtain ⟨a1, a2, a3, a4, a5⟩ := hs
    have hx := hN x (List.mem_cons_self)
    have e : cutB u i x.2.2 = cutB t i x.2.2 := h.symm.ext (by omega)
    refine ⟨by omega, a2, next_local h a3 (by omega), a4, ?_⟩
    rw [e]
    exact ih _ _ _ st a5 (fun y hy => hN y (List.mem_cons_of_mem _ hy))
end Go.Proofs.YtledmagigkpbeaaDoor
