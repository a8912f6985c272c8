/-
  A list of tokens that came in, opened to its cells.
-/
import Derived.Test.YtafncodigpjkaaaGreatDoorFG2
import Derived.Test.YtafncodigpjkaaaGreatDoorXU
import Derived.Deep.Slices
import Derived.Carry
import Derived.SevenTiedAt
namespace Go.Proofs.YtafncodigpjkaaaGreatDoor
section
open Go.ChangeShapes Go.WideShapes Go.ChangeAt Go.RowKit Go.WideMaps Go.ChangeMaps Go.Deep

theorem cellsTok : Tryz.prog.cellsOf 50 = 5 := by kernel_rfl
theorem laidOut : laidOutB Tryz.prog = true := by kernel_rfl
theorem fieldsTok : (Tryz.prog.fieldsOf 50).toList.map (fun f => (f.type, f.offset)) = [(3, 0), (3, 1), (9, 2), (3, 3), (3, 4)] := by kernel_rfl
theorem cellsI : Tryz.prog.cellsOf 3 = 1 := by kernel_rfl
theorem cellsStr : Tryz.prog.cellsOf 9 = 1 := by kernel_rfl

section
variable {H : Type} {enc : TypeId × Value → H} {W : World}

theorem five {α : Type} {l : List α} (h : l.length = 5) : ∃ a b c d e, l = [a, b, c, d, e] := by
  rcases l with _ | ⟨a, _ | ⟨b, _ | ⟨c, _ | ⟨d, _ | ⟨e, _ | ⟨f, l⟩⟩⟩⟩⟩⟩ <;> simp at h
  exact ⟨a, b, c, d, e, rfl⟩
set_option maxRecDepth 100000 in
/-- Five cells that read as a token are a token's. -/
theorem tok_open {n : Nat} {cs : List Value} {x : DataW H × List MemPlace} (h : DataW.trod enc Tryz.prog W 0 (fun _ => true) true n 50 cs = some x) :
    ∃ y : Tkn, cs = [.int .i64 y.1, .int .i64 y.2.1, .string y.2.2.1, .int .i64 y.2.2.2.1, .int .i64 y.2.2.2.2] ∧
      x.1 = .agg [.lit (.int .i64 y.1), .lit (.int .i64 y.2.1), .lit (.string y.2.2.1.data.toList), .lit (.int .i64 y.2.2.2.1), .lit (.int .i64 y.2.2.2.2)] := by
  have hS : Tryz.prog.underlying 50 = some (.struct (Tryz.prog.fieldsOf 50)) := by kernel_rfl
  obtain ⟨xs, m, _, hx, hl, hxl, hf⟩ := DataW.trod_struct hS h
  have hF := fieldsTok
  generalize Tryz.prog.fieldsOf 50 = fs at hF hxl hf
  rw [cellsTok] at hl
  obtain ⟨l⟩ := fs
  obtain ⟨f0, f1, f2, f3, f4, rfl⟩ := five (l := l) (by have := congrArg List.length hF; simpa using this)
  simp only [List.map_cons, List.map_nil, List.cons.injEq, Prod.mk.injEq, and_true] at hF
  obtain ⟨⟨a0, b0⟩, ⟨a1, b1⟩, ⟨a2, b2⟩, ⟨a3, b3⟩, a4, b4⟩ := hF
  obtain ⟨c0, c1, c2, c3, c4, rfl⟩ := five hl
  obtain ⟨x0, x1, x2, x3, x4, rfl⟩ := five (l := xs) (by rw [hxl]; rfl)
  have g0 := hf 0 f0 rfl
  have g1 := hf 1 f1 rfl
  have g2 := hf 2 f2 rfl
  have g3 := hf 3 f3 rfl
  have g4 := hf 4 f4 rfl
  rw [a0, b0, cellsI] at g0
  rw [a1, b1, cellsI] at g1
  rw [a2, b2, cellsStr] at g2
  rw [a3, b3, cellsI] at g3
  rw [a4, b4, cellsI] at g4
  simp only [List.drop_zero, List.take_succ_cons, List.take_zero, List.drop_succ_cons, List.getElem?_cons_zero, List.getElem?_cons_succ] at g0 g1 g2 g3 g4
  obtain ⟨k, e0, rfl, _⟩ := DataW.trod_int Tryz.underlying3 g0
  obtain ⟨q, e1, rfl, _⟩ := DataW.trod_int Tryz.underlying3 g1
  obtain ⟨s, e2, rfl, _⟩ := DataW.trod_string Tryz.underlying9 g2
  obtain ⟨a, e3, rfl, _⟩ := DataW.trod_int Tryz.underlying3 g3
  obtain ⟨b, e4, rfl, _⟩ := DataW.trod_int Tryz.underlying3 g4
  simp only [List.cons.injEq, and_true] at e0 e1 e2 e3 e4
  subst e0 e1 e2 e3 e4
  exact ⟨(k, q, s, a, b), rfl, by rw [hx]; rfl⟩

theorem add_off (g o n : Nat) : (⟨g, o, none⟩ : Addr).add n = ⟨g, o + n, none⟩ := by unfold Addr.add; split <;> simp_all
end
end

end Go.Proofs.YtafncodigpjkaaaGreatDoor
