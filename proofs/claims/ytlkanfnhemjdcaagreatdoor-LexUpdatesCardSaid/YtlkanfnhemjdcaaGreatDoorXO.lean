/-
  The pieces of a text.
-/
import Derived.Test.YtlkanfnhemjdcaaGreatDoorXF
import Derived.Test.YtlkanfnhemjdcaaGreatDoorXB
import Derived.Maps.AppendAt
import Derived.RangeFuncBox
namespace Go.Proofs.YtlkanfnhemjdcaaGreatDoor
section
open Go.RowKit Go.Shelf
attribute [local go_sem] Oper.semAt_some

def cellsP (x : Nat × Nat × Nat) : List Value := [.int .i64 (x.1 : Int), .int .i64 (x.2.1 : Int), .int .i64 (x.2.2 : Int)]
def flatP (l : List (Nat × Nat × Nat)) : List Value := l.flatMap cellsP
theorem flatP_snoc (l : List (Nat × Nat × Nat)) (x : Nat × Nat × Nat) : flatP (l ++ [x]) = flatP l ++ cellsP x := by simp [flatP]

/-- What holds between two rounds: the row of the pieces so far, and all else as it lay. -/
structure PRel (w : World) (R : Loop) (pre : List (Nat × Nat × Nat)) (W : World) : Prop where
  row : ∃ v, W.cell? ⟨w.heap.size, 0, none⟩ = some v ∧ W.ownsRow (w.heap.size + 7) 59 3 v pre.length (flatP pre)
  c1 : W.cell? ⟨w.heap.size + 1, 0, none⟩ = some (.int .i64 0)
  c2 : W.cell? ⟨w.heap.size + 2, 0, none⟩ = some (.int .i64 0)
  f0 : W.frozen? ⟨w.heap.size, 0, none⟩ = false
  f1 : W.frozen? ⟨w.heap.size + 1, 0, none⟩ = false
  f2 : W.frozen? ⟨w.heap.size + 2, 0, none⟩ = false
  loop : W.heap[w.heap.size + 6]? = some (.loop R)
  defd : W.heap[w.heap.size + 5]? = some (.deferred (some []))
  below : Below w.heap.size w W
  size : w.heap.size + 7 ≤ W.heap.size

theorem row_same {w w' : World} {base e size n : Nat} {v : Value} {xs : List Value} (h : w.ownsRow base e size v n xs) (hs : ∀ k, base ≤ k → k < w.heap.size → w'.heap[k]? = w.heap[k]?) : w'.ownsRow base e size v n xs := by
  refine ⟨h.1, ?_⟩
  rcases h.2 with hn | ⟨g, cap, cur, hv, hb, hg, rest⟩
  · exact .inl hn
  · exact .inr ⟨g, cap, cur, hv, hb, (hs g hb (Array.getElem?_eq_some_iff.1 hg).1).trans hg, rest⟩

/-- What turns nothing but the cutter's block and what is new. -/
theorem PRel.kept {w : World} {R : Loop} {pre : List (Nat × Nat × Nat)} {W W' : World} (h : PRel w R pre W) (hk : KeptBut (w.heap.size + 3) W W') : PRel w R pre W' := by
  have hs := h.size
  obtain ⟨v, hv, hrow⟩ := h.row
  refine ⟨⟨v, (hk.cell (by omega) (by omega)).trans hv, row_same hrow fun k h1 h2 => hk.block k h2 (by omega)⟩, (hk.cell (by omega) (by omega)).trans h.c1, (hk.cell (by omega) (by omega)).trans h.c2,
    (hk.frozen (by omega) (by omega)).trans h.f0, (hk.frozen (by omega) (by omega)).trans h.f1, (hk.frozen (by omega) (by omega)).trans h.f2,
    (hk.block _ (by omega) (by omega)).trans h.loop, (hk.block _ (by omega) (by omega)).trans h.defd, h.below.trans (hk.below (by omega) (by omega)), by have := hk.size; omega⟩

/-- What a round leaves: the row is longer by one; else all lies as it lay. -/
theorem PRel.snoc {w : World} {R : Loop} {pre : List (Nat × Nat × Nat)} {x : Nat × Nat × Nat} {W W' : World} {v v' : Value} (h : PRel w R pre W)
    (hc : W'.cell? ⟨w.heap.size, 0, none⟩ = some v') (hrow : W'.ownsRow (w.heap.size + 7) 59 3 v' (pre.length + 1) (flatP pre ++ cellsP x)) (hf : W'.frozen? ⟨w.heap.size, 0, none⟩ = false)
    (hs : ∀ k, k < W.heap.size → k ≠ w.heap.size → v.ownBlock ≠ some k → W'.heap[k]? = W.heap[k]?) (hz : W.heap.size ≤ W'.heap.size) (hr : ∀ k, v.ownBlock = some k → w.heap.size + 7 ≤ k)
    (ho : W'.os = W.os) (ht : W'.tape = W.tape) (hp : W'.output = W.output) : PRel w R (pre ++ [x]) W' := by
  have hsz := h.size
  have old : ∀ k, k < w.heap.size + 7 → k ≠ w.heap.size → W'.heap[k]? = W.heap[k]? := fun k h1 h2 => hs k (by omega) h2 (fun e => by have := hr k e; omega)
  refine ⟨⟨v', hc, by rw [flatP_snoc]; simpa using hrow⟩, (World.cell?_of_block (w := W) (a := ⟨w.heap.size + 1, 0, none⟩) (old _ (by simp) (by simp))).trans h.c1, (World.cell?_of_block (w := W) (a := ⟨w.heap.size + 2, 0, none⟩) (old _ (by simp) (by simp))).trans h.c2,
    hf, (World.frozen?_of_block (w := W) (a := ⟨w.heap.size + 1, 0, none⟩) (old _ (by simp) (by simp))).trans h.f1, (World.frozen?_of_block (w := W) (a := ⟨w.heap.size + 2, 0, none⟩) (old _ (by simp) (by simp))).trans h.f2,
    (old _ (by omega) (by omega)).trans h.loop, (old _ (by omega) (by omega)).trans h.defd, ?_, by omega⟩
  exact ⟨ho.trans h.below.os, ht.trans h.below.tape, hp.trans h.below.output, Nat.le_trans h.below.size hz, fun k hk => (old k (by omega) (by omega)).trans (h.below.block k hk)⟩

theorem cell_at {W : World} {k j : Nat} {cs : Array Value} {tt : TypeId} (h : W.heap[k]? = some (.cells cs tt)) : W.cell? ⟨k, j, none⟩ = cs[j]? := by simp [World.cell?, h]
theorem frozen_at {W : World} {k j : Nat} {cs : Array Value} {tt : TypeId} (h : W.heap[k]? = some (.cells cs tt)) : W.frozen? ⟨k, j, none⟩ = false := by simp [World.frozen?, h]
theorem heap7 (w : World) (o0 o1 o2 o3 o4 o5 o6 : Obj) (W : World) (hW : W = ((((((w.alloc o0).alloc o1).alloc o2).alloc o3).alloc o4).alloc o5).alloc o6) :
    W.heap[w.heap.size]? = some o0 ∧ W.heap[w.heap.size + 1]? = some o1 ∧ W.heap[w.heap.size + 2]? = some o2 ∧ W.heap[w.heap.size + 3]? = some o3 ∧ W.heap[w.heap.size + 4]? = some o4 ∧ W.heap[w.heap.size + 5]? = some o5 ∧ W.heap[w.heap.size + 6]? = some o6 ∧
      W.heap.size = w.heap.size + 7 ∧ Below w.heap.size w W := by
  have hh : ∀ (x : World) (o : Obj), (x.alloc o).heap = x.heap.push o := fun _ _ => rfl
  have hB : Below w.heap.size w W := by
    subst hW
    exact (((((((Below.refl _ w).alloc (Nat.le_refl _) _).alloc (by simp) _).alloc (by simp; omega) _).alloc (by simp; omega) _).alloc (by simp; omega) _).alloc (by simp; omega) _).alloc (by simp; omega) _
  have hH : W.heap = ((((((w.heap.push o0).push o1).push o2).push o3).push o4).push o5).push o6 := by subst hW; rfl
  rw [hH]
  refine ⟨?_, ?_, ?_, ?_, ?_, ?_, ?_, by simp, hB⟩
  all_goals
    simp only [Array.getElem?_push, Array.size_push]
    repeat' first | rfl | (exfalso; omega) | split

def PiecesEnd (t : ByteArray) (w : World) (e : Ending) (w' : World) : Prop :=
  ∃ v, e = .returned (.tuple #[v, .int .i64 ((piecesR t).2.1 : Int), .int .i64 ((piecesR t).2.2 : Int)]) ∧ w'.ownsRow w.heap.size 59 3 v (piecesR t).1.length (flatP (piecesR t).1) ∧ Below w.heap.size w w'
theorem row_base {w : World} {base base' e size n : Nat} {v : Value} {xs : List Value} (h : w.ownsRow base e size v n xs) (hb : base' ≤ base) : w.ownsRow base' e size v n xs := by
  refine ⟨h.1, ?_⟩
  rcases h.2 with hn | ⟨g, cap, cur, hv, hb', rest⟩
  · exact .inl hn
  · exact .inr ⟨g, cap, cur, hv, by omega, rest⟩

theorem infoP : (Tryz.prog.info? 59).map (fun i => (i.zero, i.size, i.bytes)) = some (some (.agg #[.int .i64 0, .int .i64 0, .int .i64 0]), 3, 24) := by kernel_rfl

/-- The results' variables, read where the call leaves. -/
def ReadsRes (w : World) (tm : Array Value) : Prop := ∀ (W : World) (a : Option Addr) (n c : Nat) (x y : Int), W.cell? ⟨w.heap.size, 0, none⟩ = some (.slice a n c) → W.cell? ⟨w.heap.size + 1, 0, none⟩ = some (.int .i64 x) → W.cell? ⟨w.heap.size + 2, 0, none⟩ = some (.int .i64 y) →
  (results Tryz.f8 tm).run Tryz.prog W = .ok (.tuple #[.slice a n c, .int .i64 x, .int .i64 y]) W

theorem leave_ok (t : ByteArray) (w W : World) (tm : Array Value) (hres : ReadsRes w tm) (a : Option Addr) (n c : Nat)
    (h0 : W.cell? ⟨w.heap.size, 0, none⟩ = some (.slice a n c)) (h1 : W.cell? ⟨w.heap.size + 1, 0, none⟩ = some (.int .i64 ((piecesR t).2.1 : Int))) (h2 : W.cell? ⟨w.heap.size + 2, 0, none⟩ = some (.int .i64 ((piecesR t).2.2 : Int)))
    (hd : W.heap[w.heap.size + 5]? = some (.deferred (some []))) (hrow : W.ownsRow (w.heap.size + 7) 59 3 (.slice a n c) (piecesR t).1.length (flatP (piecesR t).1)) (hB : Below w.heap.size w W) (hs : w.heap.size + 7 ≤ W.heap.size) :
    LeavesInM Fence.wide 3 Tryz.prog Tryz.f8 tm (PiecesEnd t w) [{ target := .collected (w.heap.size + 5), args := #[] }, { target := .fn (.func 36) #[.pointer (some ⟨w.heap.size, 0, none⟩), .pointer (some ⟨w.heap.size + 1, 0, none⟩), .pointer (some ⟨w.heap.size + 2, 0, none⟩)], args := #[] }] .returning W := by
  refine ⟨by simp, .inl ⟨_, _, rfl, run_takeDeferred hd, ?_⟩⟩
  obtain ⟨W4, hW4⟩ : ∃ W4, W.putObj (w.heap.size + 5) (.deferred none) = W4 := ⟨_, rfl⟩
  have s4 : W4.heap.size = W.heap.size := by rw [← hW4]; simp
  have k4 : ∀ k, k ≠ w.heap.size + 5 → W4.heap[k]? = W.heap[k]? := fun k hk => by rw [← hW4]; exact World.putObj_heap_other hk
  have b4 : W4.os = W.os ∧ W4.tape = W.tape ∧ W4.output = W.output := by rw [← hW4]; exact ⟨rfl, rfl, rfl⟩
  rw [hW4]
  clear hW4
  refine ⟨by simp, .inr ⟨fun _ => by omega, .func 36, _, 36, #[.pointer (some ⟨w.heap.size, 0, none⟩), .pointer (some ⟨w.heap.size + 1, 0, none⟩), .pointer (some ⟨w.heap.size + 2, 0, none⟩)], rfl, ?_, fun _ _ => trivial, ?_⟩⟩
  · simp [invoke, go_sem]
  · refine (catch_none _ _ _ _ _).mono ?_
    rintro e u' W5 ⟨rfl, rfl, hb5⟩
    have z0 : W5.cell? ⟨w.heap.size, 0, none⟩ = some (.slice a n c) := (hb5.cell (p := ⟨w.heap.size, 0, none⟩) (by simp; omega)).trans ((World.cell?_of_block (w := W) (a := ⟨w.heap.size, 0, none⟩) (k4 _ (show w.heap.size ≠ w.heap.size + 5 by omega))).trans h0)
    have z1 : W5.cell? ⟨w.heap.size + 1, 0, none⟩ = some (.int .i64 ((piecesR t).2.1 : Int)) := (hb5.cell (p := ⟨w.heap.size + 1, 0, none⟩) (by simp; omega)).trans ((World.cell?_of_block (w := W) (a := ⟨w.heap.size + 1, 0, none⟩) (k4 _ (show w.heap.size + 1 ≠ w.heap.size + 5 by omega))).trans h1)
    have z2 : W5.cell? ⟨w.heap.size + 2, 0, none⟩ = some (.int .i64 ((piecesR t).2.2 : Int)) := (hb5.cell (p := ⟨w.heap.size + 2, 0, none⟩) (by simp; omega)).trans ((World.cell?_of_block (w := W) (a := ⟨w.heap.size + 2, 0, none⟩) (k4 _ (show w.heap.size + 2 ≠ w.heap.size + 5 by omega))).trans h2)
    have hr := hres W5 a n c _ _ z0 z1 z2
    have row5 : W5.ownsRow (w.heap.size + 7) 59 3 (.slice a n c) (piecesR t).1.length (flatP (piecesR t).1) :=
      row_same (row_same hrow fun k h1 h2 => k4 k (by omega)) fun k h1 h2 => hb5.block k h2
    have low5 : Below w.heap.size w W5 := (show Below w.heap.size w W4 from ⟨b4.1.trans hB.os, b4.2.1.trans hB.tape, b4.2.2.trans hB.output, by have := hB.size; omega, fun k hk => (k4 k (by omega)).trans (hB.block k hk)⟩).trans (hb5.mono (by omega))
    have fin : PiecesEnd t w (.returned (.tuple #[.slice a n c, .int .i64 ((piecesR t).2.1 : Int), .int .i64 ((piecesR t).2.2 : Int)])) W5 := ⟨_, rfl, row_base row5 (by omega), low5⟩
    simp [LeavesInM, LeavesIn, settle, hr]
    exact fin

theorem leave_bad (t : ByteArray) (w W : World) (tm : Array Value) (hres : ReadsRes w tm) (p : Nat × Nat) (hp : piecesR t = ([], p.1, p.2)) (v : Value)
    (h0 : W.cell? ⟨w.heap.size, 0, none⟩ = some v) (h1 : W.cell? ⟨w.heap.size + 1, 0, none⟩ = some (.int .i64 0)) (h2 : W.cell? ⟨w.heap.size + 2, 0, none⟩ = some (.int .i64 0))
    (f0 : W.frozen? ⟨w.heap.size, 0, none⟩ = false) (f1 : W.frozen? ⟨w.heap.size + 1, 0, none⟩ = false) (f2 : W.frozen? ⟨w.heap.size + 2, 0, none⟩ = false)
    (hd : W.heap[w.heap.size + 5]? = some (.deferred (some []))) (hB : Below w.heap.size w W) (hs : w.heap.size + 7 ≤ W.heap.size) :
    LeavesInM Fence.wide 3 Tryz.prog Tryz.f8 tm (PiecesEnd t w) [{ target := .collected (w.heap.size + 5), args := #[] }, { target := .fn (.func 36) #[.pointer (some ⟨w.heap.size, 0, none⟩), .pointer (some ⟨w.heap.size + 1, 0, none⟩), .pointer (some ⟨w.heap.size + 2, 0, none⟩)], args := #[] }]
      (.panicking [{ v := .iface 61 (.agg #[.int .i64 (p.1 : Int), .int .i64 (p.2 : Int)]), recovered := false }]) W := by
  refine ⟨by simp, .inl ⟨_, _, rfl, run_takeDeferred hd, ?_⟩⟩
  obtain ⟨W4, hW4⟩ : ∃ W4, W.putObj (w.heap.size + 5) (.deferred none) = W4 := ⟨_, rfl⟩
  have s4 : W4.heap.size = W.heap.size := by rw [← hW4]; simp
  have k4 : ∀ k, k ≠ w.heap.size + 5 → W4.heap[k]? = W.heap[k]? := fun k hk => by rw [← hW4]; exact World.putObj_heap_other hk
  have b4 : W4.os = W.os ∧ W4.tape = W.tape ∧ W4.output = W.output := by rw [← hW4]; exact ⟨rfl, rfl, rfl⟩
  rw [hW4]
  clear hW4
  refine ⟨by simp, .inr ⟨fun _ => by omega, .func 36, _, 36, #[.pointer (some ⟨w.heap.size, 0, none⟩), .pointer (some ⟨w.heap.size + 1, 0, none⟩), .pointer (some ⟨w.heap.size + 2, 0, none⟩)], rfl, ?_, fun _ _ => trivial, ?_⟩⟩
  · simp [invoke, go_sem]
  · have y0 := (World.cell?_of_block (w := W) (a := ⟨w.heap.size, 0, none⟩) (k4 _ (show w.heap.size ≠ w.heap.size + 5 by omega))).trans h0
    have y1 := (World.cell?_of_block (w := W) (a := ⟨w.heap.size + 1, 0, none⟩) (k4 _ (show w.heap.size + 1 ≠ w.heap.size + 5 by omega))).trans h1
    have y2 := (World.cell?_of_block (w := W) (a := ⟨w.heap.size + 2, 0, none⟩) (k4 _ (show w.heap.size + 2 ≠ w.heap.size + 5 by omega))).trans h2
    have u0 := (World.frozen?_of_block (w := W) (a := ⟨w.heap.size, 0, none⟩) (k4 _ (show w.heap.size ≠ w.heap.size + 5 by omega))).trans f0
    have u1 := (World.frozen?_of_block (w := W) (a := ⟨w.heap.size + 1, 0, none⟩) (k4 _ (show w.heap.size + 1 ≠ w.heap.size + 5 by omega))).trans f1
    have u2 := (World.frozen?_of_block (w := W) (a := ⟨w.heap.size + 2, 0, none⟩) (k4 _ (show w.heap.size + 2 ≠ w.heap.size + 5 by omega))).trans f2
    refine (catch_refusal _ p.1 p.2 w.heap.size W4 (by omega) ⟨_, y0⟩ ⟨_, y1⟩ ⟨_, y2⟩ ⟨u0, u1, u2⟩).mono ?_
    rintro e u' W5 ⟨rfl, rfl, z0, z1, z2, hb5⟩
    have hr := hres W5 none 0 0 _ _ z0 z1 z2
    have low5 : Below w.heap.size w W5 := (show Below w.heap.size w W4 from ⟨b4.1.trans hB.os, b4.2.1.trans hB.tape, b4.2.2.trans hB.output, by have := hB.size; omega, fun k hk => (k4 k (by omega)).trans (hB.block k hk)⟩).trans hb5
    have fin : PiecesEnd t w (.returned (.tuple #[.slice none 0 0, .int .i64 (p.1 : Int), .int .i64 (p.2 : Int)])) W5 := by
      unfold PiecesEnd
      rw [hp]
      exact ⟨_, rfl, World.ownsRow_nil _ _ _ _, low5⟩
    simp [LeavesInM, LeavesIn, settle, hr]
    exact fin

set_option maxHeartbeats 4000000 in
set_option maxRecDepth 100000 in
theorem pieces_run (t : ByteArray) (ht : t.size ≤ 20000) (w : World) (E : Env w) :
    CallsIn Fence.wide 3 Tryz.prog 8 #[.string t] w (PiecesEnd t w) := by
  have hlen : ¬ (20000 : Int) < (t.size : Int) := by omega
  have hmf : ∀ (fn : Fn) (first cap : Array Value) (w : World), (Instr.makeFunc fn first cap).run Tryz.prog w = .ok (.func fn first cap) w := fun _ _ _ _ => rfl
  refine callsIn_of_wp_marks Tryz.func8 rfl trivial ?_ rfl
  simp only [Tryz.ntmps8, List.size_toArray, List.length_cons, List.length_nil, Nat.reduceAdd, Nat.reduceSub, Array.replicate_succ,
     Array.replicate_zero, List.push_toArray, List.append_toArray, List.nil_append, List.cons_append]
  gi_wp2_with fail
  refine ⟨trivial, ?_⟩
  refine (callsIn_wide.2 (newCutter_any t _)).mono ?_
  rintro e w1 ⟨rfl, rfl⟩
  gi_wp2_with fail
  refine ⟨trivial, ?_⟩
  refine (callsIn_wide.2 (pieces_any _ _)).mono ?_
  rintro e w1 ⟨rfl, rfl⟩
  gi_wp2_with fail
  refine range_own rfl (by omega) (gf := 58) (lb := #[.pointer (some ⟨w.heap.size + 1 + 1 + 1 + 1, 0, none⟩)]) rfl trivial (enters_of Tryz.func58 (by kernel_rfl) rfl) ?_
  intro fn R _ hR
  have rs : R.state = .ready := by rw [hR]
  have rp : R.pending = none := by rw [hR]
  have rq : R.params = #[13] := by rw [hR]
  have rt := congrArg Loop.tmps hR
  have ra := congrArg Loop.assign hR
  have rb := congrArg Loop.body hR
  simp only at rt ra rb
  clear hR
  simp only [List.append_toArray, List.cons_append, List.nil_append]
  have hP0 : PRel w R [] ((((((((w.alloc (.cells #[.slice none 0 0] 23)).alloc (.cells #[.int .i64 0] 3)).alloc (.cells #[.int .i64 0] 24)).alloc (.cells #[.string t, .int .i64 0, .bool false, .int .i64 0] 86)).alloc (.cells #[.pointer (some ⟨w.heap.size + 1 + 1 + 1, 0, none⟩)] 65)).alloc (.deferred (some []))).alloc (.loop R))) := by
    obtain ⟨e0, e1, e2, e3, e4, e5, e6, e7, e8⟩ := heap7 w _ _ _ _ _ _ _ _ rfl
    exact ⟨⟨.slice none 0 0, cell_at e0, World.ownsRow_nil _ _ _ _⟩, cell_at e1, cell_at e2, frozen_at e0, frozen_at e1, frozen_at e2, e6, e5, e8, by omega⟩
  have hWR : IterRel (w.heap.size + 3) (w.heap.size + 4) t (PRel w R) 0 false 0 (t.size + 1) [] ((((((((w.alloc (.cells #[.slice none 0 0] 23)).alloc (.cells #[.int .i64 0] 3)).alloc (.cells #[.int .i64 0] 24)).alloc (.cells #[.string t, .int .i64 0, .bool false, .int .i64 0] 86)).alloc (.cells #[.pointer (some ⟨w.heap.size + 1 + 1 + 1, 0, none⟩)] 65)).alloc (.deferred (some []))).alloc (.loop R))) :=
    by
    obtain ⟨e0, e1, e2, e3, e4, e5, e6, e7, e8⟩ := heap7 w _ _ _ _ _ _ _ _ rfl
    exact ⟨⟨cell_at e3, cell_at e3, cell_at e3, cell_at e3⟩, fun o => frozen_at e3, cell_at e4, by omega, by omega, by omega, by omega, by omega, hP0, rfl, rfl⟩
  have HWR := Lib.hid hWR
  clear hP0 hWR
  simp only [World.size_alloc]
  refine (iter_any 2 _ (w.heap.size + 3) (w.heap.size + 4) t (by omega) (by omega) (PRel w R) (fun _ _ _ h hk => h.kept hk) (fun _ _ h => E.below E.size h.below) ?hy _ ?hw).mono ?_
  case hw => exact HWR.out
  case hy =>
    intro pre x W1 h hlt
    have hlen2 := cutAll_len t
    obtain ⟨v, hv, hrow⟩ := h.row
    have H := Lib.hid h
    have HROW := Lib.hid hrow
    have hloop := h.loop
    obtain ⟨Rb, hRb⟩ : ∃ Rb : Loop, Rb = { R with state := .busy } := ⟨_, rfl⟩
    refine yield_own (R := R) hRb trivial hloop rs rp (by rw [rq]; rfl) ?_
    clear hRb
    rw [ra, rt, rq]
    clear ra rt rq HWR h hrow E hmf
    have RB := Lib.hid rb
    clear rb rs rp
    simp only [encP, List.zip_toArray, List.zip_cons_cons, List.zip_nil_right, List.foldl_toArray, List.foldl_cons, List.foldl_nil, List.setIfInBounds_toArray, List.set_cons_zero, List.set_cons_succ]
    gi_wp2_with fail
    have hsz := H.out.size
    refine ⟨(Below.heap_alloc W1 _ _ (by omega)).trans hloop, ?_⟩
    rw [RB.out]
    clear RB
    obtain ⟨W5, hW5⟩ : ∃ W5, ((W1.alloc (.cells #[.int .i64 (x.1 : Int), .int .i64 (x.2.1 : Int), .int .i64 (x.2.2 : Int)] 59)).putObj (w.heap.size + 1 + 1 + 1 + 1 + 1 + 1) (.loop Rb)) = W5 := ⟨_, rfl⟩
    rw [hW5]
    have s5 : W5.heap.size = W1.heap.size + 1 := by rw [← hW5]; simp
    have p5 : W5.heap[W1.heap.size]? = some (.cells #[.int .i64 (x.1 : Int), .int .i64 (x.2.1 : Int), .int .i64 (x.2.2 : Int)] 59) := by
      rw [← hW5, World.putObj_heap_other (by omega)]; exact World.alloc_heap_new W1 _
    have l5 : W5.heap[w.heap.size + 6]? = some (.loop Rb) := by rw [← hW5]; exact World.putObj_heap_same (by simp; omega)
    have o5 : ∀ k, k < W1.heap.size → k ≠ w.heap.size + 6 → W5.heap[k]? = W1.heap[k]? := fun k h1 h2 => by
      rw [← hW5, World.putObj_heap_other (by omega)]; exact Below.heap_alloc W1 _ k h1
    have t5 : W5.os = W1.os ∧ W5.tape = W1.tape ∧ W5.output = W1.output := by rw [← hW5]; exact ⟨rfl, rfl, rfl⟩
    clear hW5
    have c5 : W5.cell? ⟨w.heap.size, 0, none⟩ = some v := (World.cell?_of_block (w := W1) (a := ⟨w.heap.size, 0, none⟩) (o5 _ (by simp; omega) (by simp))).trans hv
    have f5 : W5.frozen? ⟨w.heap.size, 0, none⟩ = false := (World.frozen?_of_block (w := W1) (a := ⟨w.heap.size, 0, none⟩) (o5 _ (by simp; omega) (by simp))).trans H.out.f0
    have d0 : W5.cell? ⟨W1.heap.size, 0, none⟩ = some (.int .i64 (x.1 : Int)) := cell_at p5
    have d1 : W5.cell? ⟨W1.heap.size, 1, none⟩ = some (.int .i64 (x.2.1 : Int)) := cell_at p5
    have d2 : W5.cell? ⟨W1.heap.size, 2, none⟩ = some (.int .i64 (x.2.2 : Int)) := cell_at p5
    have r5 : W5.ownsRow (w.heap.size + 7) 59 3 v pre.length (flatP pre) := row_same HROW.out fun k h1 h2 => o5 k h2 (by omega)
    have R5 := Lib.hid r5; have O5 := Lib.hid o5; have L5 := Lib.hid l5; have T5 := Lib.hid t5; have S5 := Lib.hid s5
    obtain ⟨i0, hi, hz0, hz1, hz2⟩ := info_parts infoP
    clear r5 o5 l5 t5 p5 hloop s5
    have hlt5 := R5.out.lt
    have HLT := Lib.hid hlt5
    clear hlt5
    have hnew : ∀ j u, (cellsP x)[j]? = some u → (W5.alloc (.cells #[.int .i64 (x.1 : Int), .int .i64 (x.2.1 : Int), .int .i64 (x.2.2 : Int)] 59)).cell? ((⟨W5.heap.size, 0, none⟩ : Addr).add j) = some u := by
      intro j u hj
      match j, hj with
      | 0, hj => simp [cellsP] at hj; subst hj; simp [Addr.add]
      | 1, hj => simp [cellsP] at hj; subst hj; simp [Addr.add]
      | 2, hj => simp [cellsP] at hj; subst hj; simp [Addr.add]
      | j + 3, hj => simp [cellsP] at hj
    have HNEW := Lib.hid hnew
    have hkk : ∀ o w7, (W5.alloc o).grownBy w7 v.ownBlock → w7.heap[w.heap.size]? = W5.heap[w.heap.size]? := fun o w7 hg =>
      (hg.block _ (by have := S5.out; simp; omega) (fun e => by have := (HLT.out _ e.symm).1; omega)).trans (Below.heap_alloc W5 o _ (by have := S5.out; omega))
    have KK := Lib.hid hkk
    clear hkk
    clear hnew
    gi_wp2_with (first
      | (gi_at_builtin; go_loud (refine wpListIn_append_own _ rfl _ _ 23 rfl (w.heap.size + 7) 59 i0 (.agg #[.int .i64 0, .int .i64 0, .int .i64 0]) 3 24 Tryz.underlying23 hi hz0 hz1 hz2 rfl (by decide) _ _ _ rfl (R5.out.alloc _) ⟨W5.heap.size, 0, none⟩ 1 1 (cellsP x) rfl rfl HNEW.out (by simp [cellsP, Value.oneCell']) (by unfold maxLen; omega) (by omega) (by have := S5.out; simp; omega) ?_); intro v' w7 hown' hgrow _;
           obtain ⟨g', cap', rfl⟩ := ownsRow_succ hown';
           have c7 : w7.cell? ⟨w.heap.size, 0, none⟩ = some v := (World.cell?_of_block (w := W5) (a := ⟨w.heap.size, 0, none⟩) (KK.out _ _ hgrow)).trans c5;
           have f7 : w7.frozen? ⟨w.heap.size, 0, none⟩ = false := (World.frozen?_of_block (w := W5) (a := ⟨w.heap.size, 0, none⟩) (KK.out _ _ hgrow)).trans f5;
           have HOWN := Lib.hid hown'; have HG := Lib.hid hgrow; clear hown' hgrow))
    have hHG := HG.out; have hO5 := O5.out; have hS5 := S5.out; have hT5 := T5.out; have hLT := HLT.out
    have hs7 := hHG.size
    simp only [World.size_alloc] at hs7
    obtain ⟨W8, hW8⟩ : ∃ W8, w7.setCell ⟨w.heap.size, 0, none⟩ (.slice (some ⟨g', 0, none⟩) (pre.length + 1) cap') = W8 := ⟨_, rfl⟩
    have s8 : W8.heap.size = w7.heap.size := by rw [← hW8]; simp
    have b8 : Below 0 w7 W8 := by rw [← hW8]; exact (Below.refl 0 w7).setCell (p := ⟨w.heap.size, 0, none⟩) (Nat.zero_le _) _
    have k8 : ∀ k, k ≠ w.heap.size → W8.heap[k]? = w7.heap[k]? := fun k hk => by rw [← hW8]; exact Below.heap_setCell w7 _ _ k hk
    have c8 : W8.cell? ⟨w.heap.size, 0, none⟩ = some (.slice (some ⟨g', 0, none⟩) (pre.length + 1) cap') := by rw [← hW8]; exact World.cell?_setCell_same' _ _ _ (by rw [c7]; rfl)
    have f8 : W8.frozen? ⟨w.heap.size, 0, none⟩ = false := by rw [← hW8, World.frozen?_setCell]; exact f7
    rw [hW8]
    clear hW8
    have same : ∀ k, k < W1.heap.size → k ≠ w.heap.size → v.ownBlock ≠ some k → k ≠ w.heap.size + 6 → W8.heap[k]? = W1.heap[k]? := fun k h1 h2 h3 h4 =>
      (k8 k h2).trans ((hHG.block k (by simp; omega) (fun e => h3 e.symm)).trans ((Below.heap_alloc W5 _ k (by omega)).trans (hO5 k h1 h4)))
    have loop8 : W8.heap[w.heap.size + 6]? = some (.loop Rb) := (k8 _ (by omega)).trans ((hHG.block _ (by simp; omega) (fun e => by have := (hLT _ e.symm).1; omega)).trans ((Below.heap_alloc W5 _ _ (by omega)).trans L5.out))
    have samef : ∀ k, k < W1.heap.size → k ≠ w.heap.size → v.ownBlock ≠ some k → (W8.putObj (w.heap.size + 6) (.loop R)).heap[k]? = W1.heap[k]? := fun k h1 h2 h3 => by
      by_cases h4 : k = w.heap.size + 6
      · subst h4
        rw [World.putObj_heap_same (by omega)]; exact H.out.loop.symm
      · rw [World.putObj_heap_other h4]; exact same k h1 h2 h3 h4
    have nb : ∀ k, k < w.heap.size + 7 → v.ownBlock ≠ some k := fun k hk e => by have := (hLT k e).1; omega
    refine ⟨loop8, ?_, ⟨samef _ (by omega) (by omega) (nb _ (by omega)), samef _ (by omega) (by omega) (nb _ (by omega))⟩, by omega⟩
    refine H.out.snoc (v := v) (v' := .slice (some ⟨g', 0, none⟩) (pre.length + 1) cap') ?_ ?_ ?_ samef (by show W1.heap.size ≤ (W8.putObj _ _).heap.size; simp; omega) (fun k e => (hLT k e).1) ?_ ?_ ?_
    · exact (World.cell?_of_block (w := W8) (a := ⟨w.heap.size, 0, none⟩) (World.putObj_heap_other (show w.heap.size ≠ w.heap.size + 6 by omega))).trans c8
    · exact row_same HOWN.out fun k h1 h2 => (World.putObj_heap_other (by omega)).trans (k8 k (by omega))
    · exact (World.frozen?_of_block (w := W8) (a := ⟨w.heap.size, 0, none⟩) (World.putObj_heap_other (show w.heap.size ≠ w.heap.size + 6 by omega))).trans f8
    · exact b8.os.trans (hHG.os.trans hT5.1)
    · exact b8.tape.trans (hHG.tape.trans hT5.2.1)
    · exact b8.output.trans (hHG.output.trans hT5.2.2)
  rintro e w2 ⟨rfl, hp⟩
  have hsz := hp.size
  have hloop := hp.loop
  cases hend : (cutAll t).2 with
  | none =>
    have hr : piecesR t = ((cutAll t).1, 0, 0) := by simp [piecesR, hend, show ¬ 20000 < t.size by omega]
    refine ⟨R.pending, w2.putObj (w.heap.size + 6) (.loop { R with state := .exhausted }), run_endLoop (P := Tryz.prog) hloop (by rw [rs]; simp), ?_⟩
    obtain ⟨w3, hw3⟩ : ∃ w3, w2.putObj (w.heap.size + 6) (.loop { R with state := .exhausted }) = w3 := ⟨_, rfl⟩
    have s3 : w3.heap.size = w2.heap.size := by rw [← hw3]; simp
    have k3 : ∀ k, k ≠ w.heap.size + 6 → w3.heap[k]? = w2.heap[k]? := fun k hk => by rw [← hw3]; exact World.putObj_heap_other hk
    have b3 : w3.os = w2.os ∧ w3.tape = w2.tape ∧ w3.output = w2.output := by rw [← hw3]; exact ⟨rfl, rfl, rfl⟩
    rw [hw3, rp]
    clear hw3 ra rb rt rq
    obtain ⟨v, hv, hrow⟩ := hp.row
    obtain ⟨b0, n0, c0, rfl⟩ : ∃ a n c, v = .slice a n c := by
      rcases hrow.2 with ⟨rfl, _⟩ | ⟨g, cap, cur, rfl, _⟩
      · exact ⟨_, _, _, rfl⟩
      · exact ⟨_, _, _, rfl⟩
    have q0 : w3.cell? ⟨w.heap.size, 0, none⟩ = some (.slice b0 n0 c0) := (World.cell?_of_block (w := w2) (a := ⟨w.heap.size, 0, none⟩) (k3 _ (show w.heap.size ≠ w.heap.size + 6 by omega))).trans hv
    have q1 : w3.cell? ⟨w.heap.size + 1, 0, none⟩ = some (.int .i64 0) := (World.cell?_of_block (w := w2) (a := ⟨w.heap.size + 1, 0, none⟩) (k3 _ (show w.heap.size + 1 ≠ w.heap.size + 6 by omega))).trans hp.c1
    have q2 : w3.cell? ⟨w.heap.size + 2, 0, none⟩ = some (.int .i64 0) := (World.cell?_of_block (w := w2) (a := ⟨w.heap.size + 2, 0, none⟩) (k3 _ (show w.heap.size + 2 ≠ w.heap.size + 6 by omega))).trans hp.c2
    have g0 : w3.frozen? ⟨w.heap.size, 0, none⟩ = false := (World.frozen?_of_block (w := w2) (a := ⟨w.heap.size, 0, none⟩) (k3 _ (show w.heap.size ≠ w.heap.size + 6 by omega))).trans hp.f0
    have g1 : w3.frozen? ⟨w.heap.size + 1, 0, none⟩ = false := (World.frozen?_of_block (w := w2) (a := ⟨w.heap.size + 1, 0, none⟩) (k3 _ (show w.heap.size + 1 ≠ w.heap.size + 6 by omega))).trans hp.f1
    have g2 : w3.frozen? ⟨w.heap.size + 2, 0, none⟩ = false := (World.frozen?_of_block (w := w2) (a := ⟨w.heap.size + 2, 0, none⟩) (k3 _ (show w.heap.size + 2 ≠ w.heap.size + 6 by omega))).trans hp.f2
    have row3 : w3.ownsRow (w.heap.size + 7) 59 3 (.slice b0 n0 c0) (cutAll t).1.length (flatP (cutAll t).1) := row_same hrow fun k h1 h2 => k3 k (by omega)
    have def3 : w3.heap[w.heap.size + 5]? = some (.deferred (some [])) := (k3 _ (by omega)).trans hp.defd
    have low3 : Below w.heap.size w w3 := ⟨b3.1.trans hp.below.os, b3.2.1.trans hp.below.tape, b3.2.2.trans hp.below.output, by have := hp.below.size; omega, fun k hk => (k3 k (by omega)).trans (hp.below.block k hk)⟩
    have HR := Lib.hid hr
    have ROW := Lib.hid row3; have DEF := Lib.hid def3; have LOW := Lib.hid low3; have S3 := Lib.hid s3
    clear hr row3 def3 low3 s3 k3 b3 hv hrow hp hloop HWR hlen E rs rp hend
    dsimp only
    gi_wp2_with fail
    refine leave_ok t w _ _ ?hres b0 n0 c0 ?h0 ?h1 ?h2 ?hd ?hrow ?hB ?hs
    case hres =>
      intro W a n c x y h0 h1 h2
      have h2' : W.cell? ⟨w.heap.size + 1 + 1, 0, none⟩ = some (.int .i64 y) := h2
      simp [results, Tryz.results8, go_sem, h0, h1, h2']
    case h0 =>
      rw [World.cell?_setCell_other _ _ _ _ (by simp), World.cell?_setCell_other _ _ _ _ (by simp)]; exact World.cell?_setCell_same' _ _ _ (by rw [q0]; rfl)
    case h1 =>
      rw [HR.out, World.cell?_setCell_other _ _ _ _ (by simp)]; exact World.cell?_setCell_same' _ _ _ (by rw [World.cell?_setCell_other _ _ _ _ (by simp), q1]; rfl)
    case h2 =>
      rw [HR.out]; exact World.cell?_setCell_same' _ _ _ (by rw [World.cell?_setCell_other _ _ _ _ (by simp), World.cell?_setCell_other _ _ _ _ (by simp)]; exact Option.isSome_of_eq_some q2)
    case hd =>
      rw [Below.heap_setCell _ _ _ _ (by simp), Below.heap_setCell _ _ _ _ (by simp), Below.heap_setCell _ _ _ _ (by simp)]; exact DEF.out
    case hrow =>
      rw [HR.out]
      exact row_same ROW.out fun k h1 h2 => by
        rw [Below.heap_setCell _ _ _ _ (show k ≠ w.heap.size + 1 + 1 by omega), Below.heap_setCell _ _ _ _ (show k ≠ w.heap.size + 1 by omega), Below.heap_setCell _ _ _ _ (show k ≠ w.heap.size by omega)]
    case hB =>
      exact ((LOW.out.setCell (p := ⟨w.heap.size, 0, none⟩) (Nat.le_refl _) _).setCell (p := ⟨w.heap.size + 1, 0, none⟩) (by simp) _).setCell (p := ⟨w.heap.size + 1 + 1, 0, none⟩) (by simp; omega) _
    case hs => have := S3.out; simp; omega
  | some p =>
    have hr : piecesR t = ([], p.1, p.2) := by simp [piecesR, hend, show ¬ 20000 < t.size by omega]
    obtain ⟨v, hv, hrow⟩ := hp.row
    simp only [iterEnd, refusedEnd, rangePost, Exit.inBlock, Exit.then]
    refine leave_bad t w _ _ ?hres p hr v hv hp.c1 hp.c2 hp.f0 hp.f1 hp.f2 hp.defd hp.below hp.size
    intro W a n c x y h0 h1 h2
    have h2' : W.cell? ⟨w.heap.size + 1 + 1, 0, none⟩ = some (.int .i64 y) := h2
    simp [results, Tryz.results8, go_sem, h0, h1, h2']
end

end Go.Proofs.YtlkanfnhemjdcaaGreatDoor
