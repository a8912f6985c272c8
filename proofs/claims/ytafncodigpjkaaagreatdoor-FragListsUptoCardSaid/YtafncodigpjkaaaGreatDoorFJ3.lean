/-
  slices.Grow and slices.Concat for fragments.
  slices.Concat for fragments.
  A way into fragments: follow and along.
  A fragment replaced by others in a list.
-/
import Derived.Test.YtafncodigpjkaaaGreatDoorFJ2
namespace Go.Proofs.YtafncodigpjkaaaGreatDoor
section
open Go.RowKit
end

section
open Go.RowKit
end

section
open Go.RowKit

/-- A list of integers in memory. -/
def IntRow (w : World) (v : Value) (p : List Int) : Prop :=
  ∃ b c, v = .slice b p.length c ∧ (p ≠ [] → ∃ g o, b = some ⟨g, o, none⟩ ∧ g < w.heap.size ∧ ∀ k i, p[k]? = some i → w.cell? ⟨g, o + k, none⟩ = some (.int .i64 i))
/-- Lists of fragments of the world W, in a row. -/
def LVal (W : World) (P : Nat → Prop) (w : World) (v : Value) (ls : List (List Fg)) : Prop :=
  ∃ a c, v = .slice a ls.length c ∧ (ls ≠ [] → ∃ g o, a = some ⟨g, o, none⟩ ∧ g < w.heap.size ∧ ∀ i l, ls[i]? = some l → ∃ u, w.cell? ⟨g, o + i, none⟩ = some u ∧ FVal W P u l ∧ ValC W u l)
def AOwn (W : World) (P : Nat → Prop) (w : World) (base : Nat) (v : Value) (ls : List (List Fg)) : Prop :=
  ∃ kvs : List Value, kvs.length = ls.length ∧ w.ownsRow base 25 1 v ls.length kvs ∧ ∀ (i : Nat) (l : List Fg) (u : Value), ls[i]? = some l → kvs[i]? = some u → FVal W P u l ∧ ValC W u l
theorem AOwn.val {W w : World} {P : Nat → Prop} {base : Nat} {v : Value} {ls : List (List Fg)} (h : AOwn W P w base v ls) : LVal W P w v ls := by
  obtain ⟨kvs, h1, h2, h3⟩ := h
  rcases h2.2 with ⟨rfl, hn⟩ | ⟨g, cap, cur, rfl, hbg, hg, _⟩
  · rw [List.length_eq_zero_iff.1 hn]
    exact ⟨none, 0, rfl, fun h => absurd rfl h⟩
  · refine ⟨some ⟨g, 0, none⟩, cap, rfl, fun _ => ⟨g, 0, rfl, (Array.getElem?_eq_some_iff.1 hg).1, fun i l hl => ?_⟩⟩
    have hil := (List.getElem?_eq_some_iff.1 hl).1
    obtain ⟨u, hu⟩ : ∃ u, kvs[i]? = some u := ⟨_, List.getElem?_eq_getElem (by omega)⟩
    refine ⟨u, ?_, h3 i l u hl hu⟩
    rw [Nat.zero_add, h2.cellAt i (by omega)]
    exact hu
end

section
open Go.RowKit

theorem FVal.take {w : World} {P : Nat → Prop} {a : Option Addr} {n c : Nat} {l : List Fg} (h : FVal w P (.slice a n c) l) {k : Nat} (hk : k ≤ l.length) : FVal w P (.slice a k c) (l.take k) := by
  obtain ⟨a', c', e, hr⟩ := h
  cases e
  refine ⟨a, c, by rw [List.length_take, Nat.min_eq_left hk], fun hne => ?_⟩
  obtain ⟨g, o, rfl, p, z, hrw⟩ := hr (by rintro rfl; simp at hne)
  exact ⟨g, o, rfl, p, z, FRow.of fun i x hx => hrw.get (by rw [List.getElem?_take] at hx; split at hx; exact hx; cases hx)⟩
end

end Go.Proofs.YtafncodigpjkaaaGreatDoor
