/-
  What came in: lists of strings, lists of those, lists of heirs.
-/
import Derived.Test.YtolopideimnbgaaHH
import Derived.Test.YtolopideimnbgaaHD
import Derived.ProofKit
import Derived.Deep.Slices
import Derived.Carry
import Derived.Test.YtolopideimnbgaaRows
namespace Go.Proofs.Ytolopideimnbgaa
open Go.ChangeShapes Go.WideShapes Go.ChangeAt Go.RowKit Go.WideMaps Go.ChangeMaps Go.Deep

theorem cellsStr : Try.prog.cellsOf 9 = 1 := by kernel_rfl
theorem bytesStr : Try.prog.bytesOf 9 = 16 := by kernel_rfl
theorem cellsStrs : Try.prog.cellsOf 24 = 1 := by kernel_rfl
theorem bytesStrs : Try.prog.bytesOf 24 = 24 := by kernel_rfl
theorem cellsHeir : Try.prog.cellsOf 57 = 2 := by kernel_rfl
theorem bytesHeir : Try.prog.bytesOf 57 = 40 := by kernel_rfl
theorem fieldsHeir : (Try.prog.fieldsOf 57).toList.map (fun f => (f.type, f.offset)) = [(9, 0), (24, 1)] := by kernel_rfl
theorem typesHeir : (Try.prog.fieldsOf 57).toList.map (·.type) = [9, 24] := by kernel_rfl
theorem add_off (g o n : Nat) : (⟨g, o, none⟩ : Addr).add n = ⟨g, o + n, none⟩ := by unfold Addr.add; split <;> simp_all
section
variable {H : Type} {enc : TypeId × Value → H} {W : World}
theorem weights_mem {e : TypeId} {q : Nat → Bool} : ∀ {l : List (DataW H)} {x : DataW H}, (DataW.weightsAll Try.prog e l).all q = true → x ∈ l → (x.weights Try.prog e).all q = true
  | [], _, _, h => by cases h
  | y :: r, x, hw, h => by
    rw [DataW.weightsAll, List.all_append, Bool.and_eq_true] at hw
    rcases List.mem_cons.1 h with rfl | h
    · exact hw.1
    · exact weights_mem hw.2 h
theorem choose_any {α : Type} (dflt : α) {n : Nat} {p : Nat → α → Prop} (h : ∀ i, i < n → ∃ y, p i y) : ∃ f : Nat → α, ∀ i, i < n → p i (f i) := by
  refine ⟨fun i => if hi : i < n then Classical.choose (h i hi) else dflt, fun i hi => ?_⟩
  simp only [hi, dif_pos]
  exact Classical.choose_spec (h i hi)
theorem bulk_one (d : DataW H) : 1 ≤ Rows.uptoBulk d := by
  cases d with
  | lit l => cases l <;> simp [Rows.uptoBulk]
  | nil => simp [Rows.uptoBulk]
  | ptr d => simp [Rows.uptoBulk]
  | slice elems spare => simp [Rows.uptoBulk]
  | agg parts => simp [Rows.uptoBulk]
  | iface t d => simp [Rows.uptoBulk]
  | map entries => simp [Rows.uptoBulk]
  | held h => simp [Rows.uptoBulk]
theorem bulk_part {d : DataW H} {l : List (DataW H)} (h : d ∈ l) : Rows.uptoBulk d ≤ Rows.uptoBulkAll l := by
  induction l with
  | nil => cases h
  | cons x r ih =>
    simp only [Rows.uptoBulkAll]
    cases List.mem_cons.1 h with
    | inl e => subst e; omega
    | inr e => have := ih e; omega
theorem bulk_len (l : List (DataW H)) : l.length ≤ Rows.uptoBulkAll l := by
  induction l with
  | nil => simp [Rows.uptoBulkAll]
  | cons x r ih => have := bulk_one x; simp only [Rows.uptoBulkAll, List.length_cons]; omega
theorem bulk_slice (elems spare : List (DataW H)) : Rows.uptoBulkAll elems + 1 ≤ Rows.uptoBulk (.slice elems spare) := by
  simp only [Rows.uptoBulk]
  omega
theorem wString {s : ByteArray} (h : ((DataW.lit (.string s.data.toList) : DataW H).weights Try.prog 9).all (· ≤ reachBytes) = true) : s.size ≤ reachBytes := by
  unfold DataW.weights at h
  have h2 : s.data.size ≤ reachBytes := by simpa only [List.all_cons, List.all_nil, Bool.and_true, decide_eq_true_eq, Array.length_toList] using h
  exact h2
/-- A list of strings that came in. -/
def SIn (W : World) (v : Value) (l : Nms) : Prop := SRow W (fun b => b < W.heap.size) v l ∧ l.length * 16 ≤ reachBytes ∧ ∀ s ∈ l, s.size ≤ reachBytes
set_option maxRecDepth 100000 in
theorem strs_at {n : Nat} {v : Value} {x : DataW H × List MemPlace} (h : DataW.trod enc Try.prog W 0 (fun _ => true) true n 24 [v] = some x) (hw : (x.1.weights Try.prog 24).all (· ≤ reachBytes) = true) : ∃ l, SIn W v l := by
  rcases DataW.trod_slice Try.underlying24 h with ⟨hc, hx⟩ | ⟨a, len, cap, elems, rest, m, hm, hc, hx, _, hl, _, hlen, hel, _, _⟩
  · simp only [List.cons.injEq, and_true] at hc
    subst hc
    exact ⟨[], SRow.nil _ _ _ _, by simp, fun s hs => by cases hs⟩
  · simp only [List.cons.injEq, and_true] at hc
    subst hc
    rw [hx] at hw
    unfold DataW.weights at hw
    rw [Try.underlying24] at hw
    simp only [List.all_cons, List.all_append, Bool.and_eq_true, decide_eq_true_eq, List.length_map, bytesStr] at hw
    obtain ⟨h88, hall, _⟩ := hw
    rw [cellsStr] at hel
    obtain ⟨f, hf⟩ := choose_any (⟨#[]⟩ : ByteArray) (n := len) (p := fun i y => W.cell? ((a.add (i * 1)).add 0) = some (.string y) ∧ y.size ≤ reachBytes) (fun i hi => by
      have he := hel i hi
      have hie : i < elems.length := by omega
      rw [List.getElem?_eq_getElem hie] at he
      obtain ⟨cs, h1, h2⟩ := Option.bind_eq_some_iff.1 he
      obtain ⟨s, e2, e3, _⟩ := DataW.trod_string Try.underlying9 h2
      obtain ⟨_, _, h3⟩ := World.cells?_some h1
      have c0 := h3 0 (by omega)
      rw [e2] at c0
      have hq := weights_mem hall (List.mem_map.2 ⟨_, List.getElem_mem hie, rfl⟩)
      rw [e3] at hq
      exact ⟨s, c0, wString hq⟩)
    refine ⟨(List.range len).map f, ⟨some a, cap, by rw [List.length_map, List.length_range], fun hne => ?_⟩, by rw [List.length_map, List.length_range]; have := hlen; omega, fun s hs => ?_⟩
    · have h0 : 0 < len := by
        apply Nat.pos_of_ne_zero; rintro rfl; exact hne rfl
      have c0 := (hf 0 h0).1
      obtain ⟨g, o, spot⟩ := a
      have hspot : spot = none := by simpa [Addr.add] using World.cell?_spot c0
      subst hspot
      have hg : g < W.heap.size := by have := World.block_lt_of_cell? W _ c0; rw [add_off, add_off] at this; exact this
      refine ⟨g, o, rfl, hg, hg, fun i x hi => ?_, by rw [List.length_map, List.length_range]; exact hl⟩
      have hil : i < len := by have := (List.getElem?_eq_some_iff.1 hi).1; simpa using this
      rw [List.getElem?_map, List.getElem?_range hil] at hi
      simp only [Option.map_some, Option.some.injEq] at hi
      subst hi
      have := (hf i hil).1
      rw [add_off, add_off, Nat.mul_one, Nat.add_zero] at this
      exact this
    · obtain ⟨i, hi, rfl⟩ := List.mem_map.1 hs
      exact (hf i (by simpa using hi)).2
/-- A list of lists that came in. -/
def LIn (W : World) (v : Value) (ls : List Nms) : Prop := LRow W (fun b => b < W.heap.size) v ls ∧ ls.length * 24 ≤ reachBytes ∧ ∀ l ∈ ls, l.length * 16 ≤ reachBytes ∧ ∀ s ∈ l, s.size ≤ reachBytes
set_option maxRecDepth 100000 in
theorem lists_at {n : Nat} {v : Value} {x : DataW H × List MemPlace} (h : DataW.trod enc Try.prog W 0 (fun _ => true) true n 31 [v] = some x) (hw : (x.1.weights Try.prog 31).all (· ≤ reachBytes) = true) : ∃ l, LIn W v l := by
  rcases DataW.trod_slice Try.underlying31 h with ⟨hc, hx⟩ | ⟨a, len, cap, elems, rest, m, hm, hc, hx, _, hl, _, hlen, hel, _, _⟩
  · simp only [List.cons.injEq, and_true] at hc
    subst hc
    exact ⟨[], ⟨none, 0, rfl, fun h => absurd rfl h⟩, by simp, fun s hs => by cases hs⟩
  · simp only [List.cons.injEq, and_true] at hc
    subst hc
    rw [hx] at hw
    unfold DataW.weights at hw
    rw [Try.underlying31] at hw
    simp only [List.all_cons, List.all_append, Bool.and_eq_true, decide_eq_true_eq, List.length_map, bytesStrs] at hw
    obtain ⟨h88, hall, _⟩ := hw
    rw [cellsStrs] at hel
    obtain ⟨f, hf⟩ := choose_any ([] : Nms) (n := len) (p := fun i y => ∃ u, W.cell? ((a.add (i * 1)).add 0) = some u ∧ SIn W u y) (fun i hi => by
      have he := hel i hi
      have hie : i < elems.length := by omega
      rw [List.getElem?_eq_getElem hie] at he
      obtain ⟨cs, h1, h2⟩ := Option.bind_eq_some_iff.1 he
      obtain ⟨_, hlc, h3⟩ := World.cells?_some h1
      obtain ⟨u, rfl⟩ : ∃ u, cs = [u] := by
        match cs, hlc with
        | [u], _ => exact ⟨u, rfl⟩
      have c0 := h3 0 (by omega)
      obtain ⟨l, hl⟩ := strs_at h2 (weights_mem hall (List.mem_map.2 ⟨_, List.getElem_mem hie, rfl⟩))
      exact ⟨l, u, c0, hl⟩)
    refine ⟨(List.range len).map f, ⟨some a, cap, by rw [List.length_map, List.length_range], fun hne => ?_⟩, by rw [List.length_map, List.length_range]; have := hlen; omega, fun s hs => ?_⟩
    · have h0 : 0 < len := by
        apply Nat.pos_of_ne_zero; rintro rfl; exact hne rfl
      obtain ⟨u, c0, _⟩ := hf 0 h0
      obtain ⟨g, o, spot⟩ := a
      have hspot : spot = none := by simpa [Addr.add] using World.cell?_spot c0
      subst hspot
      have hg : g < W.heap.size := by have := World.block_lt_of_cell? W _ c0; rw [add_off, add_off] at this; exact this
      refine ⟨g, o, rfl, hg, hg, fun i x hi => ?_, by rw [List.length_map, List.length_range]; exact hl⟩
      have hil : i < len := by have := (List.getElem?_eq_some_iff.1 hi).1; simpa using this
      rw [List.getElem?_map, List.getElem?_range hil] at hi
      simp only [Option.map_some, Option.some.injEq] at hi
      subst hi
      obtain ⟨u, c, hs⟩ := hf i hil
      rw [add_off, add_off, Nat.mul_one, Nat.add_zero] at c
      exact ⟨u, c, hs.1⟩
    · obtain ⟨i, hi, rfl⟩ := List.mem_map.1 hs
      obtain ⟨u, _, h⟩ := hf i (by simpa using hi)
      exact h.2
/-- A list of heirs that came in. -/
def HIn (W : World) (v : Value) (g : List Hr) : Prop := HRow W (fun b => b < W.heap.size) v g ∧ g.length * 40 ≤ reachBytes ∧ ∀ x ∈ g, x.1.size ≤ reachBytes ∧ x.2.length * 16 ≤ reachBytes ∧ ∀ s ∈ x.2, s.size ≤ reachBytes
def HOne (W : World) (cs : List Value) (y : Hr) : Prop := ∃ u, cs = [.string y.1, u] ∧ y.1.size ≤ reachBytes ∧ SIn W u y.2
theorem two {α : Type} {l : List α} (h : l.length = 2) : ∃ a b, l = [a, b] := by
  match l, h with
  | [a, b], _ => exact ⟨a, b, rfl⟩
set_option maxRecDepth 100000 in
theorem heir_at {n : Nat} {cs : List Value} {x : DataW H × List MemPlace} (h : DataW.trod enc Try.prog W 0 (fun _ => true) true n 57 cs = some x) (hw : (x.1.weights Try.prog 57).all (· ≤ reachBytes) = true) : ∃ y, HOne W cs y := by
  have hS : Try.prog.underlying 57 = some (.struct (Try.prog.fieldsOf 57)) := by kernel_rfl
  obtain ⟨xs, m, _, hx, hl, hxl, hf⟩ := DataW.trod_struct hS h
  have hF := fieldsHeir
  have hT := typesHeir
  rw [hx] at hw
  unfold DataW.weights at hw
  rw [hS] at hw
  simp only [hT] at hw
  generalize Try.prog.fieldsOf 57 = fs at hF hxl hf
  rw [cellsHeir] at hl
  obtain ⟨l⟩ := fs
  obtain ⟨f0, f1, rfl⟩ := two (l := l) (by have := congrArg List.length hF; simpa using this)
  simp only [List.map_cons, List.map_nil, List.cons.injEq, Prod.mk.injEq, and_true] at hF
  obtain ⟨⟨a0, b0⟩, a1, b1⟩ := hF
  obtain ⟨c0, c1, rfl⟩ := two hl
  obtain ⟨x0, x1, rfl⟩ := two (l := xs) (by rw [hxl]; rfl)
  have g0 := hf 0 f0 rfl
  have g1 := hf 1 f1 rfl
  rw [a0, b0, cellsStr] at g0
  rw [a1, b1, cellsStrs] at g1
  simp only [List.drop_zero, List.take_succ_cons, List.take_zero, List.drop_succ_cons, List.getElem?_cons_zero, List.getElem?_cons_succ] at g0 g1
  obtain ⟨s, e0, rfl, _⟩ := DataW.trod_string Try.underlying9 g0
  simp only [DataW.weightsEach, List.map_cons, List.map_nil, List.all_append, List.all_nil, Bool.and_true, Bool.and_eq_true] at hw
  obtain ⟨w0, w1⟩ := hw
  obtain ⟨l, hl2⟩ := strs_at g1 w1
  simp only [List.cons.injEq, and_true] at e0
  subst e0
  exact ⟨(s, l), c1, rfl, wString w0, hl2⟩
set_option maxRecDepth 100000 in
theorem heirs_at {n : Nat} {v : Value} {x : DataW H × List MemPlace} (h : DataW.trod enc Try.prog W 0 (fun _ => true) true n 22 [v] = some x) (hw : (x.1.weights Try.prog 22).all (· ≤ reachBytes) = true) : ∃ l, HIn W v l ∧ l.length ≤ Rows.uptoBulk x.1 := by
  rcases DataW.trod_slice Try.underlying22 h with ⟨hc, hx⟩ | ⟨a, len, cap, elems, rest, m, hm, hc, hx, _, hl, _, hlen, hel, _, _⟩
  · simp only [List.cons.injEq, and_true] at hc
    subst hc
    exact ⟨[], ⟨⟨none, 0, rfl, fun h => absurd rfl h⟩, by simp, fun s hs => by cases hs⟩, by simp⟩
  · simp only [List.cons.injEq, and_true] at hc
    subst hc
    rw [hx] at hw
    unfold DataW.weights at hw
    rw [Try.underlying22] at hw
    simp only [List.all_cons, List.all_append, Bool.and_eq_true, decide_eq_true_eq, List.length_map, bytesHeir] at hw
    obtain ⟨h88, hall, _⟩ := hw
    rw [cellsHeir] at hel
    obtain ⟨f, hf⟩ := choose_any ((⟨#[]⟩, []) : Hr) (n := len) (p := fun i y => ∃ cs, W.cells? 0 (a.add (i * 2)) 2 = some cs ∧ HOne W cs y) (fun i hi => by
      have he := hel i hi
      have hie : i < elems.length := by omega
      rw [List.getElem?_eq_getElem hie] at he
      obtain ⟨cs, h1, h2⟩ := Option.bind_eq_some_iff.1 he
      obtain ⟨y, hy⟩ := heir_at h2 (weights_mem hall (List.mem_map.2 ⟨_, List.getElem_mem hie, rfl⟩))
      exact ⟨y, cs, h1, hy⟩)
    refine ⟨(List.range len).map f, ⟨⟨some a, cap, by rw [List.length_map, List.length_range], fun hne => ?_⟩, by rw [List.length_map, List.length_range]; have := hlen; omega, fun s hs => ?_⟩, ?_⟩
    · have h0 : 0 < len := by
        apply Nat.pos_of_ne_zero; rintro rfl; exact hne rfl
      obtain ⟨cs, h1, u, e1, _⟩ := hf 0 h0
      obtain ⟨_, _, h3⟩ := World.cells?_some h1
      have c0 := h3 0 (by omega)
      rw [e1] at c0
      have c0' : W.cell? ((a.add (0 * 2)).add 0) = some (.string (f 0).1) := c0
      obtain ⟨g, o, spot⟩ := a
      have hspot : spot = none := by simpa [Addr.add] using World.cell?_spot c0'
      subst hspot
      have hg : g < W.heap.size := by have := World.block_lt_of_cell? W _ c0'; rw [add_off, add_off] at this; exact this
      refine ⟨g, o, rfl, hg, hg, fun i x hi => ?_, by rw [List.length_map, List.length_range]; exact hl⟩
      have hil : i < len := by have := (List.getElem?_eq_some_iff.1 hi).1; simpa using this
      rw [List.getElem?_map, List.getElem?_range hil] at hi
      simp only [Option.map_some, Option.some.injEq] at hi
      subst hi
      obtain ⟨cs, h1, u, e1, _, hs⟩ := hf i hil
      obtain ⟨_, _, h3⟩ := World.cells?_some h1
      have d0 := h3 0 (by omega)
      have d1 := h3 1 (by omega)
      rw [e1, add_off, add_off] at d0 d1
      exact ⟨d0, u, d1, hs.1⟩
    · obtain ⟨i, hi, rfl⟩ := List.mem_map.1 hs
      obtain ⟨_, _, u, _, h1, h2⟩ := hf i (by simpa using hi)
      exact ⟨h1, h2.2⟩
    · rw [List.length_map, List.length_range, hx]
      have h1 := bulk_len (elems.map (·.1))
      have h2 := bulk_slice (elems.map (·.1)) (rest.map (·.1))
      rw [List.length_map] at h1
      show len ≤ Rows.uptoBulk (.slice (elems.map (·.1)) (rest.map (·.1)))
      omega
end
end Go.Proofs.Ytolopideimnbgaa
