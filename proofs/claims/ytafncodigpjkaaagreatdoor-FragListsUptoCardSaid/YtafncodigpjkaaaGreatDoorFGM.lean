/-
  The law: parts of readable lists are readable, and two readable lists one behind the other.
-/
import Derived.Test.YtafncodigpjkaaaGreatDoorFGL
import Derived.Test.YtafncodigpjkaaaGreatDoorFGJ
namespace Go.Proofs.YtafncodigpjkaaaGreatDoor
section
open Go.RowKit

/-- The cells of a list that came in. -/
theorem fval_cells {W : World} {P : Nat → Prop} {g o : Nat} : ∀ {l : List Fg}, FRow W P l g o → ∃ kvs : List Value, kvs.length = l.length ∧ (∀ j u, (flatF l kvs)[j]? = some u → W.cell? ⟨g, o + j, none⟩ = some u) ∧ (∀ (i : Nat) (x : Fg) (u : Value), l[i]? = some x → kvs[i]? = some u → FVal W P u x.kids) ∧ ∀ u ∈ flatF l kvs, u.oneCell' = true := by
  intro l h
  induction l generalizing o with
  | nil => exact ⟨[], rfl, (fun j u hj => by simp [flatF] at hj), (fun i x u hx => by cases hx), (fun u hu => by simp [flatF] at hu)⟩
  | cons x r ih =>
    unfold FRow at h
    obtain ⟨kv, hc, hk⟩ := h.1.parts
    obtain ⟨kvs, h1, h2, h3, h4⟩ := ih h.2
    have e : flatF (x :: r) (kv :: kvs) = fgV x kv ++ flatF r kvs := by simp [flatF]
    refine ⟨kv :: kvs, by simp [h1], fun j u hj => ?_, fun i y u hy hu => ?_, fun u hu => ?_⟩
    · rw [e] at hj
      by_cases h7 : j < 7
      · rw [List.getElem?_append_left (by rw [fgV_length]; exact h7)] at hj
        exact hc j u hj
      · rw [List.getElem?_append_right (by rw [fgV_length]; omega), fgV_length] at hj
        have := h2 (j - 7) u hj
        have e2 : o + 7 + (j - 7) = o + j := by omega
        rwa [e2] at this
    · cases i with
      | zero =>
        simp only [List.getElem?_cons_zero, Option.some.injEq] at hy hu
        rw [← hy, ← hu]; exact hk
      | succ i => exact h3 i y u (by simpa using hy) (by simpa using hu)
    · rw [e] at hu
      rcases List.mem_append.1 hu with hu | hu
      · obtain ⟨a, c, hkv, _⟩ := hk
        unfold fgV at hu
        rw [hkv] at hu
        simp only [List.mem_cons, List.not_mem_nil, or_false] at hu
        rcases hu with rfl | rfl | rfl | rfl | rfl | rfl | rfl <;> rfl
      · exact h4 u hu
end

end Go.Proofs.YtafncodigpjkaaaGreatDoor
