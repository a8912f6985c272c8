/-
  A list of tokens that came in, opened to its cells.
-/
import Derived.Test.YtcokdapnafgnpaaGreatDoorFG2
import Derived.Test.YtcokdapnafgnpaaGreatDoorXU
import Derived.Deep.Slices
import Derived.Carry
import Derived.SevenTiedAt
namespace Go.Proofs.YtcokdapnafgnpaaGreatDoor
section
open Go.ChangeShapes Go.WideShapes Go.ChangeAt Go.RowKit Go.WideMaps Go.ChangeMaps Go.Deep

theorem cellsTok : Tryz.prog.cellsOf 50 = 5 := by kernel_rfl
theorem laidOut : laidOutB Tryz.prog = true := by kernel_rfl
theorem fieldsTok : (Tryz.prog.fieldsOf 50).toList.map (fun f => (f.type, f.offset)) = [(3, 0), (3, 1), (9, 2), (3, 3), (3, 4)] := by kernel_rfl
theorem cellsI : Tryz.prog.cellsOf 3 = 1 := by kernel_rfl
theorem cellsStr : Tryz.prog.cellsOf 9 = 1 := by kernel_rfl

section
variable {H : Type} {enc : TypeId × Value → H} {W : World}

theorem five {α : Type} {l : List α} (h : l.length = 5) : ∃ a b c d e, l = [a, b, c, d, e] := by
  rcases l with _ | ⟨a, _ | ⟨b, _ | ⟨c, _ | ⟨d, _ | ⟨e, _ | ⟨f, l⟩⟩⟩⟩⟩⟩ <;> simp at h
  exact ⟨a, b, c, d, e, rfl⟩
set_option maxRecDepth 100000 in
/-- Five cells that read as a token are a token's. -/
theorem tok_open {n : Nat} {cs : List Value} {x : DataW H × List MemPlace} (h : DataW.trod enc Tryz.prog W 0 (fun _ => true) true n 50 cs = some x) :
    ∃ y : Tkn, cs = [.int .i64 y.1, .int .i64 y.2.1, .string y.2.2.1, .int .i64 y.2.2.2.1, .int .i64 y.2.2.2.2] ∧
      x.1 = .agg [.lit (.int .i64 y.1), .lit (.int .i64 y.2.1), .lit (.string y.2.2.1.data.toList), .lit (.int .i64 y.2.2.2.1), .lit (.int .i64 y.2.2.2.2)] := by
  have hS : Tryz.prog.underlying 50 = some (.struct (Tryz.prog.fieldsOf 50)) := by kernel_rfl
  obtain ⟨xs, m, _, hx, hl, hxl, hf⟩ := DataW.trod_struct hS h
  have hF := fieldsTok
  generalize Tryz.prog.fieldsOf 50 = fs at hF hxl hf
  rw [cellsTok] at hl
  obtain ⟨l⟩ := fs
  obtain ⟨f0, f1, f2, f3, f4, rfl⟩ := five (l := l) (by have := congrArg List.length hF; simpa using this)
  simp only [List.map_cons, List.map_nil, List.cons.injEq, Prod.mk.injEq, and_true] at hF
  obtain ⟨⟨a0, b0⟩, ⟨a1, b1⟩, ⟨a2, b2⟩, ⟨a3, b3⟩, a4, b4⟩ := hF
  obtain ⟨c0, c1, c2, c3, c4, rfl⟩ := five hl
  obtain ⟨x0, x1, x2, x3, x4, rfl⟩ := five (l := xs) (by rw [hxl]; rfl)
  have g0 := hf 0 f0 rfl
  have g1 := hf 1 f1 rfl
  have g2 := hf 2 f2 rfl
  have g3 := hf 3 f3 rfl
  have g4 := hf 4 f4 rfl
  rw [a0, b0, cellsI] at g0
  rw [a1, b1, cellsI] at g1
  rw [a2, b2, cellsStr] at g2
  rw [a3, b3, cellsI] at g3
  rw [a4, b4, cellsI] at g4
  simp only [List.drop_zero, List.take_succ_cons, List.take_zero, List.drop_succ_cons, List.getElem?_cons_zero, List.getElem?_cons_succ] at g0 g1 g2 g3 g4
  obtain ⟨k, e0, rfl, _⟩ := DataW.trod_int Tryz.underlying3 g0
  obtain ⟨q, e1, rfl, _⟩ := DataW.trod_int Tryz.underlying3 g1
  obtain ⟨s, e2, rfl, _⟩ := DataW.trod_string Tryz.underlying9 g2
  obtain ⟨a, e3, rfl, _⟩ := DataW.trod_int Tryz.underlying3 g3
  obtain ⟨b, e4, rfl, _⟩ := DataW.trod_int Tryz.underlying3 g4
  simp only [List.cons.injEq, and_true] at e0 e1 e2 e3 e4
  subst e0 e1 e2 e3 e4
  exact ⟨(k, q, s, a, b), rfl, by rw [hx]; rfl⟩

theorem add_off (g o n : Nat) : (⟨g, o, none⟩ : Addr).add n = ⟨g, o + n, none⟩ := by unfold Addr.add; split <;> simp_all
theorem weights_mem {e : TypeId} {q : Nat → Bool} : ∀ {l : List (DataW H)} {x : DataW H}, (DataW.weightsAll Tryz.prog e l).all q = true → x ∈ l → (x.weights Tryz.prog e).all q = true
  | [], _, _, h => by cases h
  | y :: r, x, hw, h => by
    rw [DataW.weightsAll, List.all_append, Bool.and_eq_true] at hw
    rcases List.mem_cons.1 h with rfl | h
    · exact hw.1
    · exact weights_mem hw.2 h
theorem typesTok : (Tryz.prog.fieldsOf 50).toList.map (·.type) = [3, 3, 9, 3, 3] := by kernel_rfl
set_option maxRecDepth 100000 in
theorem weight_tok {y : Tkn} (h : ((DataW.agg [.lit (.int .i64 y.1), .lit (.int .i64 y.2.1), .lit (.string y.2.2.1.data.toList), .lit (.int .i64 y.2.2.2.1), .lit (.int .i64 y.2.2.2.2)] : DataW H).weights Tryz.prog 50).all (· ≤ reachBytes) = true) : y.2.2.1.size ≤ reachBytes := by
  have hS : Tryz.prog.underlying 50 = some (.struct (Tryz.prog.fieldsOf 50)) := by kernel_rfl
  unfold DataW.weights at h
  rw [hS] at h
  simp only [typesTok] at h
  show y.2.2.1.size ≤ reachBytes
  simpa [DataW.weightsEach, DataW.weights] using h

theorem choose_str {n : Nat} {p : Nat → ByteArray → Prop} (h : ∀ i, i < n → ∃ y, p i y) : ∃ f : Nat → ByteArray, ∀ i, i < n → p i (f i) := by
  refine ⟨fun i => if hi : i < n then Classical.choose (h i hi) else ⟨#[]⟩, fun i hi => ?_⟩
  simp only [hi, dif_pos]
  exact Classical.choose_spec (h i hi)
theorem bytesStr : Tryz.prog.bytesOf 9 = 16 := by kernel_rfl
set_option maxRecDepth 100000 in
/-- A list of strings that came in. -/
theorem strs_open {base : Nat} {v : Value} {d : DataW H} {p : List MemPlace} (hv : Value.okWide Tryz.prog W .any base 23 v) (h : DataW.Trod enc Tryz.prog W 0 (fun _ => true) true 23 v d p)
    (hw : (d.weights Tryz.prog 23).all (· ≤ reachBytes) = true) :
    ∃ l : List ByteArray, SRow W v l ∧ ∀ x ∈ l, x.size ≤ reachBytes := by
  obtain ⟨b, len, cap, rfl⟩ := okWide_slice Tryz.underlying23 hv
  obtain ⟨fuel, h⟩ := h
  rcases open_slice Tryz.underlying23 h with ⟨hc, hx⟩ | ⟨a, len', cap', m, n, D, Pl, hc, _, hl, hm, hmm, hx, hel⟩
  · simp [Value.cells] at hc
    obtain ⟨rfl, rfl, rfl⟩ := hc
    exact ⟨[], ⟨none, 0, rfl, fun h => absurd rfl h⟩, fun x hx => by cases hx⟩
  · simp [Value.cells] at hc
    obtain ⟨rfl, rfl, rfl⟩ := hc
    simp only [if_true] at hmm
    subst hmm
    rw [cellsStr] at hel
    obtain ⟨f, hf⟩ := choose_str (n := m) (p := fun i y => W.cell? (a.add (i * 1)) = some (.string y) ∧ D i = .lit (.string y.data.toList)) (fun i hi => by
      obtain ⟨cs', h1, h2⟩ := hel i hi
      obtain ⟨s, e2, e3, _⟩ := DataW.trod_string Tryz.underlying9 h2
      obtain ⟨_, _, h3⟩ := World.cells?_some h1
      refine ⟨s, ?_, by have e3' := congrArg Prod.fst e3; simpa using e3'⟩
      have := h3 0 (by omega)
      rw [e2] at this
      have e0 : ∀ x : Addr, x.add 0 = x := fun ⟨b, o, sp⟩ => by unfold Addr.add; split <;> simp_all
      rw [e0] at this
      simpa using this)
    have hd : d = .slice ((List.range len).map D) ((List.range (m - len)).map fun j => D (len + j)) := congrArg Prod.fst hx
    rw [hd] at hw
    unfold DataW.weights at hw
    rw [Tryz.underlying23] at hw
    simp only [List.all_cons, List.all_append, Bool.and_eq_true, decide_eq_true_eq, List.length_map, List.length_range, bytesStr] at hw
    obtain ⟨h48, hall, _⟩ := hw
    refine ⟨(List.range len).map f, ⟨some a, m, by rw [List.length_map, List.length_range], fun hne => ?_⟩, fun x hx => ?_⟩
    · have h0 : 0 < len := by
        apply Nat.pos_of_ne_zero; rintro rfl; exact hne rfl
      have c0 := (hf 0 (by omega)).1
      obtain ⟨g, o, spot⟩ := a
      have hspot : spot = none := by simpa [Addr.add] using World.cell?_spot c0
      subst hspot
      refine ⟨g, o, rfl, by have := World.block_lt_of_cell? W _ c0; rw [add_off] at this; exact this, fun i x hi => ?_⟩
      have hil : i < len := by have := (List.getElem?_eq_some_iff.1 hi).1; simpa using this
      rw [List.getElem?_map, List.getElem?_range hil] at hi
      simp only [Option.map_some, Option.some.injEq] at hi
      subst hi
      have hc := (hf i (by omega)).1
      rw [add_off, Nat.mul_one] at hc
      exact hc
    · obtain ⟨i, hi, rfl⟩ := List.mem_map.1 hx
      have hil : i < len := by simpa using hi
      have hq := weights_mem hall (List.mem_map.2 ⟨i, hi, rfl⟩)
      rw [(hf i (by omega)).2] at hq
      unfold DataW.weights at hq
      have hq2 : (f i).data.size ≤ reachBytes := by simpa only [List.all_cons, List.all_nil, Bool.and_true, decide_eq_true_eq, Array.length_toList] using hq
      exact hq2
end
end

end Go.Proofs.YtcokdapnafgnpaaGreatDoor
