/-
  Put.
-/
import Derived.Test.YtafncodigpjkaaaGreatDoorFJ3
import Derived.Test.YtafncodigpjkaaaGreatDoorFGB
namespace Go.Proofs.YtafncodigpjkaaaGreatDoor
section
open Go.RowKit

/-- What is put in the place with the number j - 1 of the way. -/
def PX (by' l : List Fg) (ls : List (List Fg)) (p : List Int) (j : Nat) (X : List Fg) : Prop :=
  (j = p.length ∧ X = by') ∨ (j < p.length ∧ 0 < j ∧ ∃ lk i x, ls[j - 1]? = some lk ∧ p[j - 1]? = some i ∧ getI lk i = some x ∧ X = [setK x (putM by' x.kids (p.drop j))]) ∨ (j = 0 ∧ X = putM by' l p)
theorem PX.up {by' l : List Fg} {ls : List (List Fg)} {p : List Int} {k : Nat} {X lk : List Fg} {i : Int} {x : Fg} (h : PX by' l ls p (k + 1) X) (hl : ls[k]? = some lk) (hi : p[k]? = some i) (hx : getI lk i = some x) : upM lk i X = putM by' lk (p.drop k) := by
  obtain ⟨hk, hik⟩ := List.getElem?_eq_some_iff.1 hi
  rw [List.drop_eq_getElem_cons hk, hik]
  unfold putM
  rw [hx]
  simp only
  rcases h with ⟨h1, rfl⟩ | ⟨h1, _, lk', i', x', e1, e2, e3, rfl⟩ | ⟨h1, _⟩
  · rw [if_pos (List.drop_eq_nil_of_le (by omega))]
  · have hd : p.drop (k + 1) ≠ [] := fun e => by
      have := congrArg List.length e
      rw [List.length_drop] at this
      simp at this
      omega
    rw [if_neg hd]
    rw [Nat.add_sub_cancel] at e1 e2
    rw [hl] at e1
    cases e1
    rw [hi] at e2
    cases e2
    rw [hx] at e3
    cases e3
    rfl
  · omega
theorem PX.size {by' l : List Fg} {ls : List (List Fg)} {p : List Int} {k : Nat} {X : List Fg} (h : PX by' l ls p (k + 1) X) : X.length ≤ by'.length + 1 := by
  rcases h with ⟨_, rfl⟩ | ⟨_, _, _, _, _, _, _, _, rfl⟩ | ⟨h1, _⟩
  · omega
  · simp
  · omega
end

end Go.Proofs.YtafncodigpjkaaaGreatDoor
