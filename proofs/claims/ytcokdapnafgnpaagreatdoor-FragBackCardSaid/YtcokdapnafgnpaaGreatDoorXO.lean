/-
  The pieces of a text.
-/
import Derived.Test.YtcokdapnafgnpaaGreatDoorXF
import Derived.Test.YtcokdapnafgnpaaGreatDoorXB
import Derived.Maps.AppendAt
import Derived.RangeFuncBox
namespace Go.Proofs.YtcokdapnafgnpaaGreatDoor
section
open Go.RowKit Go.Shelf
attribute [local go_sem] Oper.semAt_some

def cellsP (x : Nat × Nat × Nat) : List Value := [.int .i64 (x.1 : Int), .int .i64 (x.2.1 : Int), .int .i64 (x.2.2 : Int)]
def flatP (l : List (Nat × Nat × Nat)) : List Value := l.flatMap cellsP
theorem flatP_snoc (l : List (Nat × Nat × Nat)) (x : Nat × Nat × Nat) : flatP (l ++ [x]) = flatP l ++ cellsP x := by simp [flatP]

/-- What holds between two rounds: the row of the pieces so far, and all else as it lay. -/
structure PRel (w : World) (R : Loop) (pre : List (Nat × Nat × Nat)) (W : World) : Prop where
  row : ∃ v, W.cell? ⟨w.heap.size, 0, none⟩ = some v ∧ W.ownsRow (w.heap.size + 7) 130 3 v pre.length (flatP pre)
  c1 : W.cell? ⟨w.heap.size + 1, 0, none⟩ = some (.int .i64 0)
  c2 : W.cell? ⟨w.heap.size + 2, 0, none⟩ = some (.int .i64 0)
  f0 : W.frozen? ⟨w.heap.size, 0, none⟩ = false
  f1 : W.frozen? ⟨w.heap.size + 1, 0, none⟩ = false
  f2 : W.frozen? ⟨w.heap.size + 2, 0, none⟩ = false
  loop : W.heap[w.heap.size + 6]? = some (.loop R)
  defd : W.heap[w.heap.size + 5]? = some (.deferred (some []))
  below : Below w.heap.size w W
  size : w.heap.size + 7 ≤ W.heap.size

theorem row_same {w w' : World} {base e size n : Nat} {v : Value} {xs : List Value} (h : w.ownsRow base e size v n xs) (hs : ∀ k, base ≤ k → k < w.heap.size → w'.heap[k]? = w.heap[k]?) : w'.ownsRow base e size v n xs := by
  refine ⟨h.1, ?_⟩
  rcases h.2 with hn | ⟨g, cap, cur, hv, hb, hg, rest⟩
  · exact .inl hn
  · exact .inr ⟨g, cap, cur, hv, hb, (hs g hb (Array.getElem?_eq_some_iff.1 hg).1).trans hg, rest⟩

/-- What turns nothing but the cutter's block and what is new. -/
theorem PRel.kept {w : World} {R : Loop} {pre : List (Nat × Nat × Nat)} {W W' : World} (h : PRel w R pre W) (hk : KeptBut (w.heap.size + 3) W W') : PRel w R pre W' := by
  have hs := h.size
  obtain ⟨v, hv, hrow⟩ := h.row
  refine ⟨⟨v, (hk.cell (by omega) (by omega)).trans hv, row_same hrow fun k h1 h2 => hk.block k h2 (by omega)⟩, (hk.cell (by omega) (by omega)).trans h.c1, (hk.cell (by omega) (by omega)).trans h.c2,
    (hk.frozen (by omega) (by omega)).trans h.f0, (hk.frozen (by omega) (by omega)).trans h.f1, (hk.frozen (by omega) (by omega)).trans h.f2,
    (hk.block _ (by omega) (by omega)).trans h.loop, (hk.block _ (by omega) (by omega)).trans h.defd, h.below.trans (hk.below (by omega) (by omega)), by have := hk.size; omega⟩

/-- What a round leaves: the row is longer by one; else all lies as it lay. -/
theorem PRel.snoc {w : World} {R : Loop} {pre : List (Nat × Nat × Nat)} {x : Nat × Nat × Nat} {W W' : World} {v v' : Value} (h : PRel w R pre W)
    (hc : W'.cell? ⟨w.heap.size, 0, none⟩ = some v') (hrow : W'.ownsRow (w.heap.size + 7) 130 3 v' (pre.length + 1) (flatP pre ++ cellsP x)) (hf : W'.frozen? ⟨w.heap.size, 0, none⟩ = false)
    (hs : ∀ k, k < W.heap.size → k ≠ w.heap.size → v.ownBlock ≠ some k → W'.heap[k]? = W.heap[k]?) (hz : W.heap.size ≤ W'.heap.size) (hr : ∀ k, v.ownBlock = some k → w.heap.size + 7 ≤ k)
    (ho : W'.os = W.os) (ht : W'.tape = W.tape) (hp : W'.output = W.output) : PRel w R (pre ++ [x]) W' := by
  have hsz := h.size
  have old : ∀ k, k < w.heap.size + 7 → k ≠ w.heap.size → W'.heap[k]? = W.heap[k]? := fun k h1 h2 => hs k (by omega) h2 (fun e => by have := hr k e; omega)
  refine ⟨⟨v', hc, by rw [flatP_snoc]; simpa using hrow⟩, (World.cell?_of_block (w := W) (a := ⟨w.heap.size + 1, 0, none⟩) (old _ (by simp) (by simp))).trans h.c1, (World.cell?_of_block (w := W) (a := ⟨w.heap.size + 2, 0, none⟩) (old _ (by simp) (by simp))).trans h.c2,
    hf, (World.frozen?_of_block (w := W) (a := ⟨w.heap.size + 1, 0, none⟩) (old _ (by simp) (by simp))).trans h.f1, (World.frozen?_of_block (w := W) (a := ⟨w.heap.size + 2, 0, none⟩) (old _ (by simp) (by simp))).trans h.f2,
    (old _ (by omega) (by omega)).trans h.loop, (old _ (by omega) (by omega)).trans h.defd, ?_, by omega⟩
  exact ⟨ho.trans h.below.os, ht.trans h.below.tape, hp.trans h.below.output, Nat.le_trans h.below.size hz, fun k hk => (old k (by omega) (by omega)).trans (h.below.block k hk)⟩

theorem cell_at {W : World} {k j : Nat} {cs : Array Value} {tt : TypeId} (h : W.heap[k]? = some (.cells cs tt)) : W.cell? ⟨k, j, none⟩ = cs[j]? := by simp [World.cell?, h]
theorem frozen_at {W : World} {k j : Nat} {cs : Array Value} {tt : TypeId} (h : W.heap[k]? = some (.cells cs tt)) : W.frozen? ⟨k, j, none⟩ = false := by simp [World.frozen?, h]
theorem heap7 (w : World) (o0 o1 o2 o3 o4 o5 o6 : Obj) (W : World) (hW : W = ((((((w.alloc o0).alloc o1).alloc o2).alloc o3).alloc o4).alloc o5).alloc o6) :
    W.heap[w.heap.size]? = some o0 ∧ W.heap[w.heap.size + 1]? = some o1 ∧ W.heap[w.heap.size + 2]? = some o2 ∧ W.heap[w.heap.size + 3]? = some o3 ∧ W.heap[w.heap.size + 4]? = some o4 ∧ W.heap[w.heap.size + 5]? = some o5 ∧ W.heap[w.heap.size + 6]? = some o6 ∧
      W.heap.size = w.heap.size + 7 ∧ Below w.heap.size w W := by
  have hh : ∀ (x : World) (o : Obj), (x.alloc o).heap = x.heap.push o := fun _ _ => rfl
  have hB : Below w.heap.size w W := by
    subst hW
    exact (((((((Below.refl _ w).alloc (Nat.le_refl _) _).alloc (by simp) _).alloc (by simp; omega) _).alloc (by simp; omega) _).alloc (by simp; omega) _).alloc (by simp; omega) _).alloc (by simp; omega) _
  have hH : W.heap = ((((((w.heap.push o0).push o1).push o2).push o3).push o4).push o5).push o6 := by subst hW; rfl
  rw [hH]
  refine ⟨?_, ?_, ?_, ?_, ?_, ?_, ?_, by simp, hB⟩
  all_goals
    simp only [Array.getElem?_push, Array.size_push]
    repeat' first | rfl | (exfalso; omega) | split

def PiecesEnd (t : ByteArray) (w : World) (e : Ending) (w' : World) : Prop :=
  ∃ v, e = .returned (.tuple #[v, .int .i64 ((piecesR t).2.1 : Int), .int .i64 ((piecesR t).2.2 : Int)]) ∧ w'.ownsRow w.heap.size 130 3 v (piecesR t).1.length (flatP (piecesR t).1) ∧ Below w.heap.size w w'
theorem row_base {w : World} {base base' e size n : Nat} {v : Value} {xs : List Value} (h : w.ownsRow base e size v n xs) (hb : base' ≤ base) : w.ownsRow base' e size v n xs := by
  refine ⟨h.1, ?_⟩
  rcases h.2 with hn | ⟨g, cap, cur, hv, hb', rest⟩
  · exact .inl hn
  · exact .inr ⟨g, cap, cur, hv, by omega, rest⟩

theorem infoP : (Tryz.prog.info? 130).map (fun i => (i.zero, i.size, i.bytes)) = some (some (.agg #[.int .i64 0, .int .i64 0, .int .i64 0]), 3, 24) := by kernel_rfl
end

end Go.Proofs.YtcokdapnafgnpaaGreatDoor
