/-
  Fragments and integers that came in, of a bulk that is not too great.
-/
import Derived.Test.YtafncodigpjkaaaGreatDoorFGJ
import Derived.Test.YtafncodigpjkaaaGreatDoorFJ1
import Derived.Test.YtafncodigpjkaaaGreatDoorFJ3
import Derived.Test.YtafncodigpjkaaaGreatDoorRows
namespace Go.Proofs.YtafncodigpjkaaaGreatDoor
section
open Go.ChangeShapes Go.WideShapes Go.ChangeAt Go.RowKit Go.WideMaps Go.ChangeMaps Go.Deep

section
variable {H : Type} {enc : TypeId × Value → H} {W : World}
theorem bulk_one (d : DataW H) : 1 ≤ Rows.uptoBulk d := by
  cases d with
  | lit l => cases l <;> simp [Rows.uptoBulk]
  | nil => simp [Rows.uptoBulk]
  | ptr d => simp [Rows.uptoBulk]
  | slice elems spare => simp [Rows.uptoBulk]
  | agg parts => simp [Rows.uptoBulk]
  | iface t d => simp [Rows.uptoBulk]
  | map entries => simp [Rows.uptoBulk]
  | held h => simp [Rows.uptoBulk]
theorem bulk_part {d : DataW H} {l : List (DataW H)} (h : d ∈ l) : Rows.uptoBulk d ≤ Rows.uptoBulkAll l := by
  induction l with
  | nil => cases h
  | cons x r ih =>
    simp only [Rows.uptoBulkAll]
    cases List.mem_cons.1 h with
    | inl e => subst e; omega
    | inr e => have := ih e; omega
theorem bulk_len (l : List (DataW H)) : l.length ≤ Rows.uptoBulkAll l := by
  induction l with
  | nil => simp [Rows.uptoBulkAll]
  | cons x r ih => have := bulk_one x; simp only [Rows.uptoBulkAll, List.length_cons]; omega
theorem bulk_slice (elems spare : List (DataW H)) : Rows.uptoBulkAll elems + 1 ≤ Rows.uptoBulk (.slice elems spare) := by
  simp only [Rows.uptoBulk]
  omega
theorem bulk_agg (parts : List (DataW H)) : Rows.uptoBulkAll parts ≤ Rows.uptoBulk (.agg parts) := by
  simp only [Rows.uptoBulk]
  omega
/-- What a list of fragments of a bounded bulk is. -/
def FgUp (B : Nat) (W : World) (v : Value) (l : List Fg) : Prop := FVal W (fun b => b < W.heap.size) v l ∧ ValC W v l ∧ l.length ≤ B ∧ FgsLe B l
def FgOneU (B : Nat) (W : World) (cs : List Value) (x : Fg) : Prop := ∃ kv, cs = fgV x kv ∧ FgUp B W kv x.kids
set_option maxRecDepth 100000 in
theorem frag_openU {B n : Nat} (ih : ∀ m, m < n → ∀ (v : Value) (x : DataW H × List MemPlace), DataW.trod enc Tryz.prog W 0 (fun _ => true) true m 25 [v] = some x → Rows.uptoBulk x.1 ≤ B → ∃ l, FgUp B W v l)
    {cs : List Value} {x : DataW H × List MemPlace} (h : DataW.trod enc Tryz.prog W 0 (fun _ => true) true n 52 cs = some x) (hw : Rows.uptoBulk x.1 ≤ B) : ∃ y : Fg, FgOneU B W cs y := by
  have hS : Tryz.prog.underlying 52 = some (.struct (Tryz.prog.fieldsOf 52)) := by kernel_rfl
  obtain ⟨xs, m, hm, hx, hl, hxl, hf⟩ := DataW.trod_struct hS h
  have hF := fieldsFrag
  rw [hx] at hw
  generalize Tryz.prog.fieldsOf 52 = fs at hF hxl hf
  rw [cellsFrag] at hl
  obtain ⟨l⟩ := fs
  obtain ⟨f0, f1, f2, rfl⟩ := three (l := l) (by have := congrArg List.length hF; simpa using this)
  simp only [List.map_cons, List.map_nil, List.cons.injEq, Prod.mk.injEq, and_true] at hF
  obtain ⟨⟨a0, b0⟩, ⟨a1, b1⟩, a2, b2⟩ := hF
  obtain ⟨c0, c1, c2, c3, c4, c5, c6, rfl⟩ := seven hl
  obtain ⟨x0, x1, x2, rfl⟩ := three (l := xs) (by rw [hxl]; rfl)
  have g0 := hf 0 f0 rfl
  have g1 := hf 1 f1 rfl
  have g2 := hf 2 f2 rfl
  rw [a0, b0, cellsTok] at g0
  rw [a1, b1, cellsStr] at g1
  rw [a2, b2, cellsFrags] at g2
  simp only [List.drop_zero, List.take_succ_cons, List.take_zero, List.drop_succ_cons, List.getElem?_cons_zero, List.getElem?_cons_succ] at g0 g1 g2
  obtain ⟨t, e0, _⟩ := tok_open g0
  obtain ⟨s, e1, rfl, _⟩ := DataW.trod_string Tryz.underlying9 g1
  have w2 : Rows.uptoBulk x2.1 ≤ B := Nat.le_trans (bulk_part (by simp)) (Nat.le_trans (bulk_agg _) hw)
  obtain ⟨ks, hk⟩ := ih m (by omega) c6 x2 g2 w2
  simp only [List.cons.injEq, and_true] at e0 e1
  obtain ⟨rfl, rfl, rfl, rfl, rfl⟩ := e0
  subst e1
  exact ⟨.mk t s ks, c6, rfl, hk⟩
set_option maxRecDepth 100000 in
theorem fgs_openU {B : Nat} : ∀ (n : Nat) (v : Value) (x : DataW H × List MemPlace), DataW.trod enc Tryz.prog W 0 (fun _ => true) true n 25 [v] = some x → Rows.uptoBulk x.1 ≤ B → ∃ l, FgUp B W v l
  | n, v, x, h, hw => by
    rcases DataW.trod_slice Tryz.underlying25 h with ⟨hc, hx⟩ | ⟨a, len, cap, elems, rest, m, hm, hc, hx, _, hl, _, hlen, hel, _, _⟩
    · simp only [List.cons.injEq, and_true] at hc
      subst hc
      exact ⟨[], FVal.nil _ _ _ _, ValC.nil _, by simp, by unfold FgsLe; trivial⟩
    · simp only [List.cons.injEq, and_true] at hc
      subst hc
      rw [hx] at hw
      have hbe := bulk_slice (H := H) (elems.map (·.1)) (rest.map (·.1))
      have hbl := bulk_len (H := H) (elems.map (·.1))
      rw [List.length_map] at hbl
      have hw' : Rows.uptoBulk (.slice (elems.map (·.1)) (rest.map (·.1)) : DataW H) ≤ B := hw
      rw [cellsFrag] at hel
      obtain ⟨f, hf⟩ := choose_fg (n := len) (p := fun i y => ∃ cs, W.cells? 0 (a.add (i * 7)) 7 = some cs ∧ FgOneU B W cs y) (fun i hi => by
        have he := hel i hi
        have hie : i < elems.length := by omega
        rw [List.getElem?_eq_getElem hie] at he
        obtain ⟨cs, h1, h2⟩ := Option.bind_eq_some_iff.1 he
        have hp := bulk_part (H := H) (List.mem_map.2 ⟨_, List.getElem_mem hie, rfl⟩ : (elems[i]).1 ∈ elems.map (·.1))
        obtain ⟨y, hy⟩ := frag_openU (B := B) (n := m) (fun k hk v x => fgs_openU k v x) h2 (by omega)
        exact ⟨y, cs, h1, hy⟩)
      have hmem : ∀ x ∈ (List.range len).map f, ∃ i, i < len ∧ x = f i := fun x hx => by
        obtain ⟨i, hi, rfl⟩ := List.mem_map.1 hx
        exact ⟨i, by simpa using hi, rfl⟩
      have hadr : 0 < len → ∃ g o, a = ⟨g, o, none⟩ ∧ g < W.heap.size := fun h0 => by
        obtain ⟨cs, h1, kv, e1, _⟩ := hf 0 h0
        obtain ⟨_, _, h3⟩ := World.cells?_some h1
        have c0 := h3 0 (by omega)
        rw [e1] at c0
        have c0' : W.cell? ((a.add (0 * 7)).add 0) = some (.int .i64 (f 0).tok.1) := c0
        obtain ⟨g, o, spot⟩ := a
        have hspot : spot = none := by simpa [Addr.add] using World.cell?_spot c0'
        subst hspot
        exact ⟨g, o, rfl, by have := World.block_lt_of_cell? W _ c0'; rw [add_off, add_off] at this; exact this⟩
      have hrow : ∀ g o, a = ⟨g, o, none⟩ → ∀ i x, ((List.range len).map f)[i]? = some x → ∃ kv, (∀ j u, (fgV x kv)[j]? = some u → W.cell? ⟨g, o + i * 7 + j, none⟩ = some u) ∧ FgUp B W kv x.kids := fun g o ha i x hi => by
        subst ha
        have hil : i < len := by have := (List.getElem?_eq_some_iff.1 hi).1; simpa using this
        rw [List.getElem?_map, List.getElem?_range hil] at hi
        simp only [Option.map_some, Option.some.injEq] at hi
        subst hi
        obtain ⟨cs, h1, kv, e1, hk⟩ := hf i hil
        obtain ⟨_, _, h3⟩ := World.cells?_some h1
        refine ⟨kv, fun j u hu => ?_, hk⟩
        have hj : j < 7 := by have := (List.getElem?_eq_some_iff.1 hu).1; simpa [fgV] using this
        have := h3 j hj
        rw [e1, add_off, add_off] at this
        rw [this]
        exact hu
      refine ⟨(List.range len).map f, ⟨some a, cap, by rw [List.length_map, List.length_range], fun hne => ?_⟩, ⟨some a, cap, by rw [List.length_map, List.length_range], by rw [List.length_map, List.length_range]; exact hl, fun hne => ?_⟩, by rw [List.length_map, List.length_range]; omega, FgsLe.of fun x hx => ?_⟩
      · obtain ⟨g, o, rfl, hg⟩ := hadr (by apply Nat.pos_of_ne_zero; rintro rfl; exact hne rfl)
        refine ⟨g, o, rfl, hg, hg, FRow.of fun i x hi => ?_⟩
        obtain ⟨kv, h1, h2⟩ := hrow g o rfl i x hi
        exact FElt.of (kv := kv) h1 h2.1
      · obtain ⟨g, o, rfl, hg⟩ := hadr (by apply Nat.pos_of_ne_zero; rintro rfl; exact hne rfl)
        refine ⟨g, o, rfl, RowC.of fun i x hi => ?_⟩
        obtain ⟨kv, h1, h2⟩ := hrow g o rfl i x hi
        exact EltC.of (h1 6 kv rfl) h2.2.1
      · obtain ⟨i, hi, rfl⟩ := hmem x hx
        obtain ⟨_, _, kv, _, hk⟩ := hf i hi
        exact ⟨hk.2.2.1, hk.2.2.2⟩
termination_by n => n
decreasing_by omega
set_option maxRecDepth 100000 in
theorem frags_openU {B base : Nat} {v : Value} {d : DataW H} {p : List MemPlace} (hv : Value.okWide Tryz.prog W .any base 25 v) (h : DataW.Trod enc Tryz.prog W 0 (fun _ => true) true 25 v d p) (hw : Rows.uptoBulk d ≤ B) : ∃ l, FgUp B W v l := by
  obtain ⟨b, len, cap, rfl⟩ := okWide_slice Tryz.underlying25 hv
  obtain ⟨fuel, h⟩ := h
  exact fgs_openU fuel (.slice b len cap) (d, p) (by simpa [Value.cells] using h) hw
end
end

end Go.Proofs.YtafncodigpjkaaaGreatDoor
