/-
  The pieces of a text.
-/
import Derived.Test.YtafncodigpjkaaaGreatDoorXF
import Derived.Test.YtafncodigpjkaaaGreatDoorXB
import Derived.Maps.AppendAt
import Derived.RangeFuncBox
namespace Go.Proofs.YtafncodigpjkaaaGreatDoor
section
open Go.RowKit Go.Shelf
attribute [local go_sem] Oper.semAt_some

def cellsP (x : Nat × Nat × Nat) : List Value := [.int .i64 (x.1 : Int), .int .i64 (x.2.1 : Int), .int .i64 (x.2.2 : Int)]
def flatP (l : List (Nat × Nat × Nat)) : List Value := l.flatMap cellsP
theorem flatP_snoc (l : List (Nat × Nat × Nat)) (x : Nat × Nat × Nat) : flatP (l ++ [x]) = flatP l ++ cellsP x := by simp [flatP]

/-- What holds between two rounds: the row of the pieces so far, and all else as it lay. -/
structure PRel (w : World) (R : Loop) (pre : List (Nat × Nat × Nat)) (W : World) : Prop where
  row : ∃ v, W.cell? ⟨w.heap.size, 0, none⟩ = some v ∧ W.ownsRow (w.heap.size + 7) 124 3 v pre.length (flatP pre)
  c1 : W.cell? ⟨w.heap.size + 1, 0, none⟩ = some (.int .i64 0)
  c2 : W.cell? ⟨w.heap.size + 2, 0, none⟩ = some (.int .i64 0)
  f0 : W.frozen? ⟨w.heap.size, 0, none⟩ = false
  f1 : W.frozen? ⟨w.heap.size + 1, 0, none⟩ = false
  f2 : W.frozen? ⟨w.heap.size + 2, 0, none⟩ = false
  loop : W.heap[w.heap.size + 6]? = some (.loop R)
  defd : W.heap[w.heap.size + 5]? = some (.deferred (some []))
  below : Below w.heap.size w W
  size : w.heap.size + 7 ≤ W.heap.size

theorem row_same {w w' : World} {base e size n : Nat} {v : Value} {xs : List Value} (h : w.ownsRow base e size v n xs) (hs : ∀ k, base ≤ k → k < w.heap.size → w'.heap[k]? = w.heap[k]?) : w'.ownsRow base e size v n xs := by
  refine ⟨h.1, ?_⟩
  rcases h.2 with hn | ⟨g, cap, cur, hv, hb, hg, rest⟩
  · exact .inl hn
  · exact .inr ⟨g, cap, cur, hv, hb, (hs g hb (Array.getElem?_eq_some_iff.1 hg).1).trans hg, rest⟩

/-- What turns nothing but the cutter's block and what is new. -/
theorem PRel.kept {w : World} {R : Loop} {pre : List (Nat × Nat × Nat)} {W W' : World} (h : PRel w R pre W) (hk : KeptBut (w.heap.size + 3) W W') : PRel w R pre W' := by
  have hs := h.size
  obtain ⟨v, hv, hrow⟩ := h.row
  refine ⟨⟨v, (hk.cell (by omega) (by omega)).trans hv, row_same hrow fun k h1 h2 => hk.block k h2 (by omega)⟩, (hk.cell (by omega) (by omega)).trans h.c1, (hk.cell (by omega) (by omega)).trans h.c2,
    (hk.frozen (by omega) (by omega)).trans h.f0, (hk.frozen (by omega) (by omega)).trans h.f1, (hk.frozen (by omega) (by omega)).trans h.f2,
    (hk.block _ (by omega) (by omega)).trans h.loop, (hk.block _ (by omega) (by omega)).trans h.defd, h.below.trans (hk.below (by omega) (by omega)), by have := hk.size; omega⟩

theorem cell_at {W : World} {k j : Nat} {cs : Array Value} {tt : TypeId} (h : W.heap[k]? = some (.cells cs tt)) : W.cell? ⟨k, j, none⟩ = cs[j]? := by simp [World.cell?, h]
theorem frozen_at {W : World} {k j : Nat} {cs : Array Value} {tt : TypeId} (h : W.heap[k]? = some (.cells cs tt)) : W.frozen? ⟨k, j, none⟩ = false := by simp [World.frozen?, h]
theorem row_base {w : World} {base base' e size n : Nat} {v : Value} {xs : List Value} (h : w.ownsRow base e size v n xs) (hb : base' ≤ base) : w.ownsRow base' e size v n xs := by
  refine ⟨h.1, ?_⟩
  rcases h.2 with hn | ⟨g, cap, cur, hv, hb', rest⟩
  · exact .inl hn
  · exact .inr ⟨g, cap, cur, hv, by omega, rest⟩

theorem infoP : (Tryz.prog.info? 124).map (fun i => (i.zero, i.size, i.bytes)) = some (some (.agg #[.int .i64 0, .int .i64 0, .int .i64 0]), 3, 24) := by kernel_rfl
end

end Go.Proofs.YtafncodigpjkaaaGreatDoor
