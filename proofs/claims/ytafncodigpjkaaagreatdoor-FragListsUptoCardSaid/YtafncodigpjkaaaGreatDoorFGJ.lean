/-
  A list of fragments that came in, opened to its cells.
  Tokens compared: identical, alike.
  Equality of fragments, by the program.
  The tokens of fragments, as a list.
  Are fragments readable?
-/
import Derived.Test.YtafncodigpjkaaaGreatDoorFGD
import Derived.Test.YtafncodigpjkaaaGreatDoorFGA
import Derived.Test.YtafncodigpjkaaaGreatDoorFGI
import Derived.Test.YtafncodigpjkaaaGreatDoorXY
import Derived.Laws.StructEq
import Derived.Test.YtafncodigpjkaaaGreatDoorFGB
import Derived.Test.YtafncodigpjkaaaGreatDoorFGC
import Derived.OwnWalkIn
import Derived.Deep.AppendLies
import Derived.RangeFuncBox
namespace Go.Proofs.YtafncodigpjkaaaGreatDoor
section
open Go.ChangeShapes Go.WideShapes Go.ChangeAt Go.RowKit Go.WideMaps Go.ChangeMaps Go.Deep

mutual
/-- No text of fragments is too long. -/
def FgSz (B : Nat) : Fg → Prop
  | .mk t o ks => t.2.2.1.size ≤ B ∧ o.size ≤ B ∧ FgsSz B ks
def FgsSz (B : Nat) : List Fg → Prop
  | [] => True
  | x :: r => FgSz B x ∧ FgsSz B r
end
theorem FgsLe.of {B : Nat} : ∀ {l : List Fg}, (∀ x ∈ l, x.kids.length ≤ B ∧ FgsLe B x.kids) → FgsLe B l
  | [], _ => by unfold FgsLe; trivial
  | .mk t o ks :: r, h => by
    unfold FgsLe FgLe
    exact ⟨h (.mk t o ks) (by simp), FgsLe.of fun x hx => h x (by simp [hx])⟩
theorem FgsSz.of {B : Nat} : ∀ {l : List Fg}, (∀ x ∈ l, (x.tok.2.2.1 : ByteArray).size ≤ B ∧ x.opn.size ≤ B ∧ FgsSz B x.kids) → FgsSz B l
  | [], _ => by unfold FgsSz; trivial
  | .mk t o ks :: r, h => by
    unfold FgsSz FgSz
    exact ⟨h (.mk t o ks) (by simp), FgsSz.of fun x hx => h x (by simp [hx])⟩
theorem FgsSz.get {B : Nat} : ∀ {l : List Fg}, FgsSz B l → ∀ {k : Nat} {x : Fg}, l[k]? = some x → (x.tok.2.2.1 : ByteArray).size ≤ B ∧ x.opn.size ≤ B ∧ FgsSz B x.kids
  | [], _, _, _, hx => by cases hx
  | .mk t o ks :: r, h, 0, x, hx => by
    unfold FgsSz FgSz at h
    simp only [List.getElem?_cons_zero, Option.some.injEq] at hx
    subst hx
    exact h.1
  | y :: r, h, k + 1, x, hx => by
    unfold FgsSz at h
    exact h.2.get (k := k) (by simpa using hx)
theorem cellsFrag : Tryz.prog.cellsOf 52 = 7 := by kernel_rfl
theorem fieldsFrag : (Tryz.prog.fieldsOf 52).toList.map (fun f => (f.type, f.offset)) = [(50, 0), (9, 5), (25, 6)] := by kernel_rfl
theorem cellsFrags : Tryz.prog.cellsOf 25 = 1 := by kernel_rfl
section
variable {H : Type} {enc : TypeId × Value → H} {W : World}
theorem three {α : Type} {l : List α} (h : l.length = 3) : ∃ a b c, l = [a, b, c] := by
  rcases l with _ | ⟨a, _ | ⟨b, _ | ⟨c, _ | ⟨d, l⟩⟩⟩⟩ <;> simp at h
  exact ⟨a, b, c, rfl⟩
theorem seven {α : Type} {l : List α} (h : l.length = 7) : ∃ a b c d e f g, l = [a, b, c, d, e, f, g] := by
  rcases l with _ | ⟨a, _ | ⟨b, _ | ⟨c, _ | ⟨d, _ | ⟨e, _ | ⟨f, _ | ⟨g, _ | ⟨i, l⟩⟩⟩⟩⟩⟩⟩⟩ <;> simp at h
  exact ⟨a, b, c, d, e, f, g, rfl⟩
theorem choose_fg {n : Nat} {p : Nat → Fg → Prop} (h : ∀ i, i < n → ∃ y, p i y) : ∃ f : Nat → Fg, ∀ i, i < n → p i (f i) := by
  refine ⟨fun i => if hi : i < n then Classical.choose (h i hi) else .mk (0, 0, ⟨#[]⟩, 0, 0) ⟨#[]⟩ [], fun i hi => ?_⟩
  simp only [hi, dif_pos]
  exact Classical.choose_spec (h i hi)
end
end

section
open Go.RowKit

def tkSame (lo : Bool) (x y : Tkn) : Bool := decide (x.1 = y.1) && (decide (x.2.1 = y.2.1) && (decide (x.2.2.1 = y.2.2.1) && (lo || (decide (x.2.2.2.1 = y.2.2.2.1) && decide (x.2.2.2.2 = y.2.2.2.2)))))
theorem eq_tokB (k n : Int) (s : ByteArray) (a m k' n' : Int) (s' : ByteArray) (a' m' : Int) (w : World) : (Op.equalIn 10000 50 (.agg #[.int .i64 k, .int .i64 n, .string s, .int .i64 a, .int .i64 m]) (.agg #[.int .i64 k', .int .i64 n', .string s', .int .i64 a', .int .i64 m'])).run Tryz.prog w = .ok (tkSame false (k, n, s, a, m) (k', n', s', a', m')) w := by
  have u3 := Tryz.underlying3
  have a3 := Tryz.isAgg3
  have z3 := Tryz.sizeOf3
  have u9 := Tryz.underlying9
  have a9 := Tryz.isAgg9
  have z9 := Tryz.sizeOf9
  have hS : Tryz.prog.underlying 50 = some (.struct (Tryz.prog.fieldsOf 50)) := by kernel_rfl
  rw [show (10000 : Nat) = 9999 + 1 from rfl, run_equalIn_agg w 9999 50 _ _ hS (by kernel_rfl)]
  simp only [Program.fieldsOf, Tryz.underlying50]
  go_simp
  unfold tkSame
  simp only [Bool.false_or]
  by_cases h1 : k = k' <;> by_cases h2 : n = n' <;> by_cases h3 : s = s' <;> by_cases h4 : a = a' <;> by_cases h5 : m = m' <;> simp [h1, h2, h3, h4, h5] <;> exact fun e => h3 (toList_inj e)
theorem guard_tokB : Tryz.prog.eqGuardType Tryz.prog.depth 50 = false := by kernel_rfl
theorem run_eql_tok (k n : Int) (s : ByteArray) (a m k' n' : Int) (s' : ByteArray) (a' m' : Int) (w : World) : (binOp .eql 50 (.agg #[.int .i64 k, .int .i64 n, .string s, .int .i64 a, .int .i64 m]) (.agg #[.int .i64 k', .int .i64 n', .string s', .int .i64 a', .int .i64 m'])).run Tryz.prog w = .ok (.bool (tkSame false (k, n, s, a, m) (k', n', s', a', m'))) w := by
  rw [run_eql_struct, eq_tokB]
  rfl
theorem run_guard_tok (op : BinOp) (x y : Operand) (xs ys : Array Value) (w : World) : (eqGuard op 50 x y (.agg xs) (.agg ys)).run Tryz.prog w = .ok () w := run_eqGuard_agg w op _ x y xs ys guard_tokB
def TkPost (r : Bool) (W : World) (e : Ending) (w' : World) : Prop := e = .returned (.bool r) ∧ Below W.heap.size W w'
section
attribute [local go_sem 5000] run_eql_tok run_guard_tok
end
end

section
open Go.RowKit

def EqLoop (lo : Bool) (a b : List Fg) (W : World) (k : Nat) (wr : World) : Prop := k ≤ a.length ∧ sameL lo (a.drop k) (b.drop k) = sameL lo a b ∧ Below W.heap.size W wr
end

section
open Go.RowKit Go.Shelf
attribute [local go_sem] Oper.semAt_some

structure FlJ (w : World) (R : Loop) (Q : Nat → Prop) (pre : List Tkn) (W : World) : Prop where
  row : ∃ v, W.cell? ⟨w.heap.size, 0, none⟩ = some v ∧ W.ownsRow (w.heap.size + 4) 50 5 v pre.length (pre.flatMap tkL) ∧ ∀ b, Q b ↔ (b = w.heap.size ∨ v.ownBlock = some b)
  fz : W.frozen? ⟨w.heap.size, 0, none⟩ = false
  defd : W.heap[w.heap.size + 2]? = some (.deferred (some []))
  loop : W.heap[w.heap.size + 3]? = some (.loop R)
  below : Below w.heap.size w W
  size : w.heap.size + 4 ≤ W.heap.size
/-- What a round leaves. -/
theorem FlJ.go {w W1 W5 Wa W7 W8 : World} {R : Loop} {Q : Nat → Prop} {pre : List Tkn} {v : Value} {g cap : Nat} (h : FlJ w R Q pre W1) (t : Tkn) (Rb : Loop) (O O2 : Obj) (h5 : W5 = (W1.alloc O).putObj (w.heap.size + 3) (.loop Rb)) (ha : Wa = W5.alloc O2)
    (hv : W1.cell? ⟨w.heap.size, 0, none⟩ = some v) (hgrow : Wa.grownBy W7 v.ownBlock) (hown : W7.ownsRow (w.heap.size + 4) 50 5 (.slice (some ⟨g, 0, none⟩) (pre.length + 1) cap) (pre.length + 1) (pre.flatMap tkL ++ tkL t)) (hat : v.ownBlock = some g ∨ g = W1.heap.size + 2)
    (h8 : W8 = W7.setCell ⟨w.heap.size, 0, none⟩ (.slice (some ⟨g, 0, none⟩) (pre.length + 1) cap)) :
    W8.heap[w.heap.size + 3]? = some (.loop Rb) ∧ WalkPost (FlJ w R) (fun _ _ => False) Q (pre ++ [t]) W1 (.returned (.bool true)) (W8.putObj (w.heap.size + 3) (.loop R)) := by
  have hz := h.size
  obtain ⟨v', hv', hrow, hq⟩ := h.row
  rw [hv] at hv'
  cases hv'
  have hlow : ∀ b, v.ownBlock = some b → w.heap.size + 4 ≤ b ∧ b < W1.heap.size := fun b hb => hrow.lt b hb
  have s5 : W5.heap.size = W1.heap.size + 1 := by rw [h5]; simp
  have sa : Wa.heap.size = W1.heap.size + 2 := by rw [ha]; simp [s5]
  have s7 : W1.heap.size + 2 ≤ W7.heap.size := by have := hgrow.size; omega
  have s8 : W8.heap.size = W7.heap.size := by rw [h8]; simp
  have k7 : ∀ b, b < W1.heap.size → b ≠ w.heap.size + 3 → v.ownBlock ≠ some b → W7.heap[b]? = W1.heap[b]? := fun b h1 h2 h3 =>
    (hgrow.block b (by omega) (fun e => h3 e.symm)).trans (by rw [ha, Below.heap_alloc W5 O2 b (by omega), h5, World.putObj_heap_other h2]; exact Below.heap_alloc W1 O b h1)
  have k8 : ∀ b, b < W1.heap.size → b ≠ w.heap.size + 3 → b ≠ w.heap.size → v.ownBlock ≠ some b → W8.heap[b]? = W1.heap[b]? := fun b h1 h2 h3 h4 => by
    rw [h8, Below.heap_setCell _ _ _ _ (by simpa using h3)]; exact k7 b h1 h2 h4
  have l7 : W7.heap[w.heap.size + 3]? = some (.loop Rb) := by
    rw [hgrow.block _ (by omega) (fun e => by have := hlow _ e.symm; omega), ha, Below.heap_alloc W5 O2 _ (by omega), h5]
    exact World.putObj_heap_same (by simp; omega)
  have l8 : W8.heap[w.heap.size + 3]? = some (.loop Rb) := by rw [h8, Below.heap_setCell _ _ _ _ (by simp)]; exact l7
  have c7 : W7.heap[w.heap.size]? = W1.heap[w.heap.size]? := k7 _ (by omega) (by omega) (fun e => by have := hlow _ e; omega)
  have hgne : g ≠ w.heap.size ∧ g ≠ w.heap.size + 3 := by
    rcases hat with e | e
    · have := hlow _ e; omega
    · omega
  refine ⟨l8, .inl ⟨rfl, fun b => b = w.heap.size ∨ b = g, ⟨⟨.slice (some ⟨g, 0, none⟩) (pre.length + 1) cap, ?_, ?_, ?_⟩, ?_, ?_, ?_, ?_, ?_⟩, ?_, ?_, ?_⟩⟩
  · rw [World.cell?_of_block (w := W8) (a := ⟨w.heap.size, 0, none⟩) (World.putObj_heap_other (by simp)), h8]
    exact World.cell?_setCell_same' _ _ _ (by rw [World.cell?_of_block (w := W1) (a := ⟨w.heap.size, 0, none⟩) c7, hv]; rfl)
  · have e1 : (pre ++ [t]).length = pre.length + 1 := by simp
    have e2 : (pre ++ [t]).flatMap tkL = pre.flatMap tkL ++ tkL t := by simp
    rw [e1, e2]
    have hw8 : W8.ownsRow (w.heap.size + 4) 50 5 (.slice (some ⟨g, 0, none⟩) (pre.length + 1) cap) (pre.length + 1) (pre.flatMap tkL ++ tkL t) := by
      rw [h8]
      exact ownsRow_setCell_other hown (a := ⟨w.heap.size, 0, none⟩) (by simp only [Value.ownBlock, ne_eq, Option.some.injEq]; exact hgne.1) _
    exact ownsRow_putObj hw8 _ l8 (by rfl)
  · intro b
    simp only [Value.ownBlock, Option.some.injEq]
    constructor
    · rintro (e | e)
      · exact .inl e
      · exact .inr e.symm
    · rintro (e | e)
      · exact .inl e
      · exact .inr e.symm
  · rw [World.frozen?_of_block (w := W8) (a := ⟨w.heap.size, 0, none⟩) (World.putObj_heap_other (by simp)), h8, World.frozen?_setCell, World.frozen?_of_block (w := W1) (a := ⟨w.heap.size, 0, none⟩) c7]
    exact h.fz
  · rw [World.putObj_heap_other (by omega)]
    exact (k8 _ (by omega) (by omega) (by omega) (fun e => by have := hlow _ e; omega)).trans h.defd
  · exact World.putObj_heap_same (by omega)
  · refine ⟨?_, ?_, ?_, by have := h.below.size; simp; omega, fun b hb => ?_⟩
    · show W8.os = w.os
      rw [h8]; show W7.os = w.os; rw [hgrow.os, ha]; show W5.os = w.os; rw [h5]; exact h.below.os
    · show W8.tape = w.tape
      rw [h8]; show W7.tape = w.tape; rw [hgrow.tape, ha]; show W5.tape = w.tape; rw [h5]; exact h.below.tape
    · show W8.output = w.output
      rw [h8]; show W7.output = w.output; rw [hgrow.output, ha]; show W5.output = w.output; rw [h5]; exact h.below.output
    · rw [World.putObj_heap_other (by omega)]
      exact (k8 _ (by omega) (by omega) (by omega) (fun e => by have := hlow _ e; omega)).trans (h.below.block b hb)
  · simp; omega
  · simp; omega
  · intro b hb hnq
    by_cases he : b = w.heap.size + 3
    · subst he
      rw [World.putObj_heap_same (by omega)]
      exact h.loop.symm
    · rw [World.putObj_heap_other he]
      exact k8 b hb he (fun e => hnq ((hq b).2 (.inl e))) (fun e => hnq ((hq b).2 (.inr e)))
  · rintro b (e | e)
    · exact .inl ((hq b).2 (.inl e))
    · subst e
      rcases hat with e | e
      · exact .inl ((hq _).2 (.inr e))
      · right; omega
end

section
open Go.RowKit
end

end Go.Proofs.YtafncodigpjkaaaGreatDoor
