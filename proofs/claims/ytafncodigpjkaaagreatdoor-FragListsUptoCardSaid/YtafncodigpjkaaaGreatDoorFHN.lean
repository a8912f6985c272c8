/-
  The law: parts of readable lists are readable, and two readable lists one behind the other: the walk.
-/
import Derived.Test.YtafncodigpjkaaaGreatDoorFGM
import Derived.Test.YtafncodigpjkaaaGreatDoorFGC
namespace Go.Proofs.YtafncodigpjkaaaGreatDoor
section
open Go.RowKit

theorem flatF_append {a b : List Fg} {ka kb : List Value} (h : ka.length = a.length) : flatF (a ++ b) (ka ++ kb) = flatF a ka ++ flatF b kb := by
  unfold flatF
  rw [List.zip_append h.symm, List.flatMap_append]
theorem frag_cells {W : World} {P : Nat → Prop} {b : Option Addr} {n c : Nat} {l : List Fg} (h : FVal W P (.slice b n c) l) : ∃ kvs : List Value, kvs.length = l.length ∧
    (l ≠ [] → ∃ g o, b = some ⟨g, o, none⟩ ∧ ∀ w', Below W.heap.size W w' → ∀ j u, (flatF l kvs)[j]? = some u → w'.cell? ((⟨g, o, none⟩ : Addr).add j) = some u) ∧ (∀ (i : Nat) (x : Fg) (u : Value), l[i]? = some x → kvs[i]? = some u → FVal W P u x.kids) ∧ ∀ u ∈ flatF l kvs, u.oneCell' = true := by
  obtain ⟨b', c', e, hr⟩ := h
  cases e
  by_cases hn : l = []
  · subst hn
    exact ⟨[], rfl, fun h => absurd rfl h, (fun i x u hx => by cases hx), (fun u hu => by simp [flatF] at hu)⟩
  · obtain ⟨g, o, rfl, _, hg, hrw⟩ := hr hn
    obtain ⟨kvs, h1, h2, h3, h4⟩ := fval_cells hrw
    refine ⟨kvs, h1, fun _ => ⟨g, o, rfl, fun w' hb j u hj => ?_⟩, h3, h4⟩
    rw [add_offs]
    exact (hb.cell (p := ⟨g, o + j, none⟩) hg).trans (h2 j u hj)
end

end Go.Proofs.YtafncodigpjkaaaGreatDoor
