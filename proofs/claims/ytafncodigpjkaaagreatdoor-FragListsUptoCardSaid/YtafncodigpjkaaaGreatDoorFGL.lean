/-
  Two readable lists, one behind the other: the models.
  The fragments of a group of a readable list: the models, part one: what is open on the way to a result.
  The fragments of a group of a readable list: the models, part two: they are read alone as within the group.
-/
import Derived.Test.YtafncodigpjkaaaGreatDoorFGK
namespace Go.Proofs.YtafncodigpjkaaaGreatDoor
section

section
variable {ok : Tkn → Bool} {ws : List ByteArray} {l m : List Tkn}
theorem nosk {r : List Tkn} {t : Tkn} {i : Nat} {s s' : RS} (hs : stepM ok ws l i t s = .ok s') (hn : (emM ok ws l (t :: r) i s).length = (t :: r).length) : s.beh ≤ i ∧ (emM ok ws l r (i + 1) s').length = r.length := by
  rw [em_cons hs, List.length_append, List.length_cons] at hn
  have h1 := em_len (ok := ok) (ws := ws) (l := l) r (i + 1) s'
  have h2 : (emit ws l i t s).length ≤ 1 := by unfold emit; split <;> simp
  refine ⟨?_, by omega⟩
  apply Nat.le_of_not_lt
  intro hlt
  have ha := (act_skip (ws := ws) (l := l) (t := t)).2 hlt
  have : emit ws l i t s = [] := by unfold emit; rw [ha]
  rw [this] at hn
  simp at hn; omega
end
end

section

section
variable {ok : Tkn → Bool} {ws : List ByteArray} {l : List Tkn}
end
section
variable {ok : Tkn → Bool} {ws : List ByteArray} {m : List Tkn}
/-- A run that drops nothing, on its way. -/
structure OnWay (ok : Tkn → Bool) (ws : List ByteArray) (m : List Tkn) (a : List Fg) (j : Nat) (s : RS) : Prop where
  rs : RsOk ws j s
  run : runM ok ws m (m.drop j) j s = .ok a
  no : (emM ok ws m (m.drop j) j s).length = (m.drop j).length
  w : StW m j s
theorem OnWay.len (hne : ∀ o ∈ basics ++ ws, ¬ o = sNo) {a : List Fg} {j : Nat} {s : RS} (h : OnWay ok ws m a j s) (hm : m = tkA a) (hj : j ≤ m.length) : (flS s).length = j := by
  have h1 := run_flat hne _ _ _ _ h.rs h.run
  have h2 := congrArg List.length h1
  rw [List.length_append, h.no, List.length_drop, ← hm] at h2
  omega
theorem OnWay.next {a : List Fg} {j : Nat} {s : RS} {t : Tkn} (h : OnWay ok ws m a j s) (ht : m[j]? = some t) : s.beh ≤ j ∧ ∃ s', stepM ok ws m j t s = .ok s' ∧ OnWay ok ws m a (j + 1) s' := by
  obtain ⟨hj, rfl⟩ := List.getElem?_eq_some_iff.1 ht
  have hd : m.drop j = m[j] :: m.drop (j + 1) := List.drop_eq_getElem_cons hj
  have hrun := h.run
  have hno := h.no
  rw [hd] at hrun hno
  obtain ⟨s', hs, hr⟩ := run_cons hrun
  obtain ⟨hb, hn⟩ := nosk hs hno
  exact ⟨hb, s', hs, stepM_ok h.rs hs, hr, hn, step_w h.w hs⟩
/-- The root is the one group without an opening. -/
theorem OnWay.root (hne : ∀ o ∈ basics ++ ws, ¬ o = sNo) {a : List Fg} {j : Nat} {s : RS} (h : OnWay ok ws m a j s) : ∀ g r, s.pre ++ [s.top] = g :: r → g.opn = sNo ∧ ∀ x ∈ r, ¬ x.opn = sNo := by
  intro g r e
  have hr := h.rs
  cases hp : s.pre with
  | nil =>
    rw [hp, List.nil_append] at e
    simp only [List.cons.injEq] at e
    obtain ⟨rfl, rfl⟩ := e
    exact ⟨hr.root hp, fun x hx => by cases hx⟩
  | cons g0 r0 =>
    rw [hp, List.cons_append] at e
    simp only [List.cons.injEq] at e
    obtain ⟨rfl, rfl⟩ := e
    refine ⟨hr.root' _ _ hp, fun x hx => ?_⟩
    rcases List.mem_append.1 hx with hx | hx
    · exact hne _ (hr.mid _ _ _ hp hx)
    · rw [List.mem_singleton.1 hx]; exact hne _ (hr.top (by rw [hp]; simp))
end
end

section

/-- Where the tokens of a group lie. -/
structure InG (m l : List Tkn) (x : Fg) (J : Nat) : Prop where
  same : ∀ q, q < l.length → l[q]? = m[J + q]?
  clos : m[J + l.length]? = some (closeTok x)
section
variable {m l : List Tkn} {x : Fg} {J : Nat}
theorem InG.name (h : InG m l x J) {q : Nat} (hq : q ≤ l.length) {y : ByteArray} (hy : ¬ y ∈ closers) : isNameM l q y = isNameM m (J + q) y ∧ (isNameM l q y = true → q < l.length) := by
  by_cases hlt : q < l.length
  · exact ⟨isName_kt (by rw [h.same q hlt]) y, fun _ => hlt⟩
  · have : q = l.length := by omega
    subst this
    have h1 : isNameM l l.length y = false := isNameM_out (by omega) y
    refine ⟨?_, fun e => by rw [h1] at e; cases e⟩
    rw [h1]
    unfold isNameM
    rw [h.clos]
    have hne : ¬ (closeTok x).2.2.1 = y := fun e => hy (by rw [← e]; exact closing_mem _)
    show false = (decide ((closeTok x).1 = 1) && decide ((closeTok x).2.2.1 = y))
    rw [decide_eq_false hne, Bool.and_false]
theorem InG.stop (h : InG m l x J) {q : Nat} (hq : q ≤ l.length) : isStopM l q = isStopM m (J + q) := by
  by_cases hlt : q < l.length
  · exact isStop_kt (by rw [h.same q hlt])
  · have : q = l.length := by omega
    subst this
    unfold isStopM
    rw [h.clos, List.getElem?_eq_none (Nat.le_refl _)]
    show true = ((decide ((closeTok x).1 = 1) && decide ((closeTok x).2.2.1 = sEnd)) || (decide ((closeTok x).1 = 5) && decide ((closeTok x).2.2.1 ∈ stops)))
    have hk : (closeTok x).1 = closeK x.opn := rfl
    have ht : (closeTok x).2.2.1 = closingM x.opn := rfl
    rw [hk, ht, closeK_kind]
    have hc := closing_mem x.opn
    generalize closingM x.opn = c at hc ⊢
    unfold closers at hc
    simp only [List.mem_cons, List.not_mem_nil, or_false] at hc
    rcases hc with rfl | rfl | rfl | rfl <;> decide
end
section
variable {ws : List ByteArray} {m l : List Tkn} {x : Fg} {J : Nat} {a : List Fg}
end
end

end Go.Proofs.YtafncodigpjkaaaGreatDoor
