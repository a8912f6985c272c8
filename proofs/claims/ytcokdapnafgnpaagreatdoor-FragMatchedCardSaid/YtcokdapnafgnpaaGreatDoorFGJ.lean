/-
  A list of fragments that came in, opened to its cells.
  Tokens compared: identical, alike.
  Equality of fragments, by the program.
  The tokens of fragments, as a list.
  Are fragments readable?
-/
import Derived.Test.YtcokdapnafgnpaaGreatDoorFGD
import Derived.Test.YtcokdapnafgnpaaGreatDoorFGA
import Derived.Test.YtcokdapnafgnpaaGreatDoorFGI
import Derived.Test.YtcokdapnafgnpaaGreatDoorXY
import Derived.Laws.StructEq
import Derived.Test.YtcokdapnafgnpaaGreatDoorFGB
import Derived.Test.YtcokdapnafgnpaaGreatDoorFGC
import Derived.OwnWalkIn
import Derived.Deep.AppendLies
import Derived.RangeFuncBox
namespace Go.Proofs.YtcokdapnafgnpaaGreatDoor
section
open Go.ChangeShapes Go.WideShapes Go.ChangeAt Go.RowKit Go.WideMaps Go.ChangeMaps Go.Deep

mutual
/-- No text of fragments is too long. -/
def FgSz (B : Nat) : Fg → Prop
  | .mk t o ks => t.2.2.1.size ≤ B ∧ o.size ≤ B ∧ FgsSz B ks
def FgsSz (B : Nat) : List Fg → Prop
  | [] => True
  | x :: r => FgSz B x ∧ FgsSz B r
end
theorem FgsLe.of {B : Nat} : ∀ {l : List Fg}, (∀ x ∈ l, x.kids.length ≤ B ∧ FgsLe B x.kids) → FgsLe B l
  | [], _ => by unfold FgsLe; trivial
  | .mk t o ks :: r, h => by
    unfold FgsLe FgLe
    exact ⟨h (.mk t o ks) (by simp), FgsLe.of fun x hx => h x (by simp [hx])⟩
theorem FgsSz.of {B : Nat} : ∀ {l : List Fg}, (∀ x ∈ l, (x.tok.2.2.1 : ByteArray).size ≤ B ∧ x.opn.size ≤ B ∧ FgsSz B x.kids) → FgsSz B l
  | [], _ => by unfold FgsSz; trivial
  | .mk t o ks :: r, h => by
    unfold FgsSz FgSz
    exact ⟨h (.mk t o ks) (by simp), FgsSz.of fun x hx => h x (by simp [hx])⟩
theorem FgsSz.get {B : Nat} : ∀ {l : List Fg}, FgsSz B l → ∀ {k : Nat} {x : Fg}, l[k]? = some x → (x.tok.2.2.1 : ByteArray).size ≤ B ∧ x.opn.size ≤ B ∧ FgsSz B x.kids
  | [], _, _, _, hx => by cases hx
  | .mk t o ks :: r, h, 0, x, hx => by
    unfold FgsSz FgSz at h
    simp only [List.getElem?_cons_zero, Option.some.injEq] at hx
    subst hx
    exact h.1
  | y :: r, h, k + 1, x, hx => by
    unfold FgsSz at h
    exact h.2.get (k := k) (by simpa using hx)
theorem cellsFrag : Tryz.prog.cellsOf 52 = 7 := by kernel_rfl
theorem bytesFrag : Tryz.prog.bytesOf 52 = 88 := by kernel_rfl
theorem fieldsFrag : (Tryz.prog.fieldsOf 52).toList.map (fun f => (f.type, f.offset)) = [(50, 0), (9, 5), (25, 6)] := by kernel_rfl
theorem typesFrag : (Tryz.prog.fieldsOf 52).toList.map (·.type) = [50, 9, 25] := by kernel_rfl
theorem cellsFrags : Tryz.prog.cellsOf 25 = 1 := by kernel_rfl
section
variable {H : Type} {enc : TypeId × Value → H} {W : World}
theorem three {α : Type} {l : List α} (h : l.length = 3) : ∃ a b c, l = [a, b, c] := by
  rcases l with _ | ⟨a, _ | ⟨b, _ | ⟨c, _ | ⟨d, l⟩⟩⟩⟩ <;> simp at h
  exact ⟨a, b, c, rfl⟩
theorem seven {α : Type} {l : List α} (h : l.length = 7) : ∃ a b c d e f g, l = [a, b, c, d, e, f, g] := by
  rcases l with _ | ⟨a, _ | ⟨b, _ | ⟨c, _ | ⟨d, _ | ⟨e, _ | ⟨f, _ | ⟨g, _ | ⟨i, l⟩⟩⟩⟩⟩⟩⟩⟩ <;> simp at h
  exact ⟨a, b, c, d, e, f, g, rfl⟩
/-- What a list of fragments that came in is. -/
def FgIn (W : World) (v : Value) (l : List Fg) : Prop := FVal W (fun b => b < W.heap.size) v l ∧ (∀ b n c, v = .slice b n c → n ≤ c) ∧ l.length ≤ reachBytes ∧ FgsLe reachBytes l ∧ FgsSz reachBytes l
def FgOne (W : World) (cs : List Value) (x : Fg) : Prop := ∃ kv, cs = fgV x kv ∧ (x.tok.2.2.1 : ByteArray).size ≤ reachBytes ∧ x.opn.size ≤ reachBytes ∧ FgIn W kv x.kids
theorem wString {s : ByteArray} (h : ((DataW.lit (.string s.data.toList) : DataW H).weights Tryz.prog 9).all (· ≤ reachBytes) = true) : s.size ≤ reachBytes := by
  unfold DataW.weights at h
  have h2 : s.data.size ≤ reachBytes := by simpa only [List.all_cons, List.all_nil, Bool.and_true, decide_eq_true_eq, Array.length_toList] using h
  exact h2
set_option maxRecDepth 100000 in
theorem frag_open {n : Nat} (ih : ∀ m, m < n → ∀ (v : Value) (x : DataW H × List MemPlace), DataW.trod enc Tryz.prog W 0 (fun _ => true) true m 25 [v] = some x → (x.1.weights Tryz.prog 25).all (· ≤ reachBytes) = true → ∃ l, FgIn W v l)
    {cs : List Value} {x : DataW H × List MemPlace} (h : DataW.trod enc Tryz.prog W 0 (fun _ => true) true n 52 cs = some x) (hw : (x.1.weights Tryz.prog 52).all (· ≤ reachBytes) = true) :
    ∃ y : Fg, FgOne W cs y := by
  have hS : Tryz.prog.underlying 52 = some (.struct (Tryz.prog.fieldsOf 52)) := by kernel_rfl
  obtain ⟨xs, m, hm, hx, hl, hxl, hf⟩ := DataW.trod_struct hS h
  have hF := fieldsFrag
  have hT := typesFrag
  rw [hx] at hw
  unfold DataW.weights at hw
  rw [hS] at hw
  simp only [hT] at hw
  generalize Tryz.prog.fieldsOf 52 = fs at hF hxl hf
  rw [cellsFrag] at hl
  obtain ⟨l⟩ := fs
  obtain ⟨f0, f1, f2, rfl⟩ := three (l := l) (by have := congrArg List.length hF; simpa using this)
  simp only [List.map_cons, List.map_nil, List.cons.injEq, Prod.mk.injEq, and_true] at hF
  obtain ⟨⟨a0, b0⟩, ⟨a1, b1⟩, a2, b2⟩ := hF
  obtain ⟨c0, c1, c2, c3, c4, c5, c6, rfl⟩ := seven hl
  obtain ⟨x0, x1, x2, rfl⟩ := three (l := xs) (by rw [hxl]; rfl)
  have g0 := hf 0 f0 rfl
  have g1 := hf 1 f1 rfl
  have g2 := hf 2 f2 rfl
  rw [a0, b0, cellsTok] at g0
  rw [a1, b1, cellsStr] at g1
  rw [a2, b2, cellsFrags] at g2
  simp only [List.drop_zero, List.take_succ_cons, List.take_zero, List.drop_succ_cons, List.getElem?_cons_zero, List.getElem?_cons_succ] at g0 g1 g2
  obtain ⟨t, e0, d0⟩ := tok_open g0
  obtain ⟨s, e1, rfl, _⟩ := DataW.trod_string Tryz.underlying9 g1
  simp only [DataW.weightsEach, List.map_cons, List.map_nil, List.all_append, List.all_nil, Bool.and_true, Bool.and_eq_true] at hw
  obtain ⟨w0, w1, w2⟩ := hw
  rw [d0] at w0
  obtain ⟨ks, hk⟩ := ih m (by omega) c6 x2 g2 w2
  simp only [List.cons.injEq, and_true] at e0 e1
  obtain ⟨rfl, rfl, rfl, rfl, rfl⟩ := e0
  subst e1
  exact ⟨.mk t s ks, c6, rfl, weight_tok w0, wString w1, hk⟩
theorem choose_fg {n : Nat} {p : Nat → Fg → Prop} (h : ∀ i, i < n → ∃ y, p i y) : ∃ f : Nat → Fg, ∀ i, i < n → p i (f i) := by
  refine ⟨fun i => if hi : i < n then Classical.choose (h i hi) else .mk (0, 0, ⟨#[]⟩, 0, 0) ⟨#[]⟩ [], fun i hi => ?_⟩
  simp only [hi, dif_pos]
  exact Classical.choose_spec (h i hi)
set_option maxRecDepth 100000 in
theorem fgs_open : ∀ (n : Nat) (v : Value) (x : DataW H × List MemPlace), DataW.trod enc Tryz.prog W 0 (fun _ => true) true n 25 [v] = some x → (x.1.weights Tryz.prog 25).all (· ≤ reachBytes) = true → ∃ l, FgIn W v l
  | n, v, x, h, hw => by
    rcases DataW.trod_slice Tryz.underlying25 h with ⟨hc, hx⟩ | ⟨a, len, cap, elems, rest, m, hm, hc, hx, _, hl, _, hlen, hel, _, _⟩
    · simp only [List.cons.injEq, and_true] at hc
      subst hc
      exact ⟨[], FVal.nil _ _ _ _, (fun b n c e => by cases e; exact Nat.le_refl _), by simp, by unfold FgsLe; trivial, by unfold FgsSz; trivial⟩
    · simp only [List.cons.injEq, and_true] at hc
      subst hc
      rw [hx] at hw
      unfold DataW.weights at hw
      rw [Tryz.underlying25] at hw
      simp only [List.all_cons, List.all_append, Bool.and_eq_true, decide_eq_true_eq, List.length_map, bytesFrag] at hw
      obtain ⟨h88, hall, _⟩ := hw
      rw [cellsFrag] at hel
      obtain ⟨f, hf⟩ := choose_fg (n := len) (p := fun i y => ∃ cs, W.cells? 0 (a.add (i * 7)) 7 = some cs ∧ FgOne W cs y) (fun i hi => by
        have he := hel i hi
        have hie : i < elems.length := by omega
        rw [List.getElem?_eq_getElem hie] at he
        obtain ⟨cs, h1, h2⟩ := Option.bind_eq_some_iff.1 he
        obtain ⟨y, hy⟩ := frag_open (n := m) (fun k hk v x => fgs_open k v x) h2 (weights_mem hall (List.mem_map.2 ⟨_, List.getElem_mem hie, rfl⟩))
        exact ⟨y, cs, h1, hy⟩)
      have hmem : ∀ x ∈ (List.range len).map f, ∃ i, i < len ∧ x = f i := fun x hx => by
        obtain ⟨i, hi, rfl⟩ := List.mem_map.1 hx
        exact ⟨i, by simpa using hi, rfl⟩
      refine ⟨(List.range len).map f, ⟨some a, cap, by rw [List.length_map, List.length_range], fun hne => ?_⟩, (fun b n c e => by cases e; exact hl), by rw [List.length_map, List.length_range]; have := hlen; omega, FgsLe.of fun x hx => ?_, FgsSz.of fun x hx => ?_⟩
      · have h0 : 0 < len := by
          apply Nat.pos_of_ne_zero; rintro rfl; exact hne rfl
        obtain ⟨cs, h1, kv, e1, _⟩ := hf 0 h0
        obtain ⟨_, _, h3⟩ := World.cells?_some h1
        have c0 := h3 0 (by omega)
        rw [e1] at c0
        have c0' : W.cell? ((a.add (0 * 7)).add 0) = some (.int .i64 (f 0).tok.1) := c0
        obtain ⟨g, o, spot⟩ := a
        have hspot : spot = none := by simpa [Addr.add] using World.cell?_spot c0'
        subst hspot
        have hg : g < W.heap.size := by have := World.block_lt_of_cell? W _ c0'; rw [add_off, add_off] at this; exact this
        refine ⟨g, o, rfl, hg, hg, FRow.of fun i x hi => ?_⟩
        have hil : i < len := by have := (List.getElem?_eq_some_iff.1 hi).1; simpa using this
        rw [List.getElem?_map, List.getElem?_range hil] at hi
        simp only [Option.map_some, Option.some.injEq] at hi
        subst hi
        obtain ⟨cs, h1, kv, e1, _, _, hk⟩ := hf i hil
        obtain ⟨_, _, h3⟩ := World.cells?_some h1
        refine FElt.of (kv := kv) (fun j u hu => ?_) hk.1
        have hj : j < 7 := by have := (List.getElem?_eq_some_iff.1 hu).1; simpa [fgV] using this
        have := h3 j hj
        rw [e1, add_off, add_off] at this
        rw [this]
        exact hu
      · obtain ⟨i, hi, rfl⟩ := hmem x hx
        obtain ⟨_, _, kv, _, _, _, hk⟩ := hf i hi
        exact ⟨hk.2.2.1, hk.2.2.2.1⟩
      · obtain ⟨i, hi, rfl⟩ := hmem x hx
        obtain ⟨_, _, kv, _, h1, h2, hk⟩ := hf i hi
        exact ⟨h1, h2, hk.2.2.2.2⟩
termination_by n => n
decreasing_by omega
set_option maxRecDepth 100000 in
/-- A list of fragments that came in. -/
theorem frags_open {base : Nat} {v : Value} {d : DataW H} {p : List MemPlace} (hv : Value.okWide Tryz.prog W .any base 25 v) (h : DataW.Trod enc Tryz.prog W 0 (fun _ => true) true 25 v d p)
    (hw : (d.weights Tryz.prog 25).all (· ≤ reachBytes) = true) : ∃ l, FgIn W v l := by
  obtain ⟨b, len, cap, rfl⟩ := okWide_slice Tryz.underlying25 hv
  obtain ⟨fuel, h⟩ := h
  exact fgs_open fuel (.slice b len cap) (d, p) (by simpa [Value.cells] using h) hw
end
end

section
open Go.RowKit

def tkSame (lo : Bool) (x y : Tkn) : Bool := decide (x.1 = y.1) && (decide (x.2.1 = y.2.1) && (decide (x.2.2.1 = y.2.2.1) && (lo || (decide (x.2.2.2.1 = y.2.2.2.1) && decide (x.2.2.2.2 = y.2.2.2.2)))))
theorem eq_tokB (k n : Int) (s : ByteArray) (a m k' n' : Int) (s' : ByteArray) (a' m' : Int) (w : World) : (Op.equalIn 10000 50 (.agg #[.int .i64 k, .int .i64 n, .string s, .int .i64 a, .int .i64 m]) (.agg #[.int .i64 k', .int .i64 n', .string s', .int .i64 a', .int .i64 m'])).run Tryz.prog w = .ok (tkSame false (k, n, s, a, m) (k', n', s', a', m')) w := by
  have u3 := Tryz.underlying3
  have a3 := Tryz.isAgg3
  have z3 := Tryz.sizeOf3
  have u9 := Tryz.underlying9
  have a9 := Tryz.isAgg9
  have z9 := Tryz.sizeOf9
  have hS : Tryz.prog.underlying 50 = some (.struct (Tryz.prog.fieldsOf 50)) := by kernel_rfl
  rw [show (10000 : Nat) = 9999 + 1 from rfl, run_equalIn_agg w 9999 50 _ _ hS (by kernel_rfl)]
  simp only [Program.fieldsOf, Tryz.underlying50]
  go_simp
  unfold tkSame
  simp only [Bool.false_or]
  by_cases h1 : k = k' <;> by_cases h2 : n = n' <;> by_cases h3 : s = s' <;> by_cases h4 : a = a' <;> by_cases h5 : m = m' <;> simp [h1, h2, h3, h4, h5] <;> exact fun e => h3 (toList_inj e)
theorem guard_tokB : Tryz.prog.eqGuardType Tryz.prog.depth 50 = false := by kernel_rfl
theorem run_eql_tok (k n : Int) (s : ByteArray) (a m k' n' : Int) (s' : ByteArray) (a' m' : Int) (w : World) : (binOp .eql 50 (.agg #[.int .i64 k, .int .i64 n, .string s, .int .i64 a, .int .i64 m]) (.agg #[.int .i64 k', .int .i64 n', .string s', .int .i64 a', .int .i64 m'])).run Tryz.prog w = .ok (.bool (tkSame false (k, n, s, a, m) (k', n', s', a', m'))) w := by
  rw [run_eql_struct, eq_tokB]
  rfl
theorem run_guard_tok (op : BinOp) (x y : Operand) (xs ys : Array Value) (w : World) : (eqGuard op 50 x y (.agg xs) (.agg ys)).run Tryz.prog w = .ok () w := run_eqGuard_agg w op _ x y xs ys guard_tokB
def TkPost (r : Bool) (W : World) (e : Ending) (w' : World) : Prop := e = .returned (.bool r) ∧ Below W.heap.size W w'
section
attribute [local go_sem 5000] run_eql_tok run_guard_tok
set_option maxRecDepth 100000 in
theorem identical_any (x y : Tkn) (W : World) : Calls Tryz.prog 61 #[.agg (tkL x).toArray, .agg (tkL y).toArray] W (TkPost (tkSame false x y) W) := by
  obtain ⟨k, n, s, a, m⟩ := x
  obtain ⟨k', n', s', a', m'⟩ := y
  simp only [tkL]
  generalize hr : tkSame false (k, n, s, a, m) (k', n', s', a', m') = r
  have HR := Lib.hid hr
  clear hr
  go_enter Tryz.func61, Tryz.ntmps61
  go_wp2_with fail
  rw [HR.out]
  exact bodyPost_ret (v := .bool r) (by simp [results, Tryz.results61, go_sem]) rfl ⟨rfl, ((Below.refl _ W).alloc (Nat.le_refl _) _).alloc (by simp) _⟩
end
end

section
open Go.RowKit

def EqLoop (lo : Bool) (a b : List Fg) (W : World) (k : Nat) (wr : World) : Prop := k ≤ a.length ∧ sameL lo (a.drop k) (b.drop k) = sameL lo a b ∧ Below W.heap.size W wr
set_option maxRecDepth 100000 in
set_option maxHeartbeats 16000000 in
theorem equalI_run (P P' : Nat → Prop) (a b : List Fg) (va vb : Value) (W : World) (hva : FVal W P va a) (hvb : FVal W P' vb b) (hl : a.length ≤ 140737488351232)
    (HC : ∀ (x : Fg), x ∈ a → ∀ (ks' : List Fg) (kv kv' : Value) (w : World), FVal w P kv x.kids → FVal w P' kv' ks' → Calls Tryz.prog 60 #[kv, kv', .func (.func 61) #[] #[]] w (TkPost (sameL false x.kids ks') w)) :
    Calls Tryz.prog 60 #[va, vb, .func (.func 61) #[] #[]] W (TkPost (sameL false a b) W) := by
  obtain ⟨ba, ca, rfl, ha⟩ := hva
  obtain ⟨bb, cb, rfl, hb⟩ := hvb
  have HCC := Lib.hid HC
  have HA := Lib.hid ha
  have HB := Lib.hid hb
  clear HC ha hb
  by_cases hlen : a.length = b.length
  rotate_left
  · have hs : sameL false a b = false := by
      cases h : sameL false a b with
      | false => rfl
      | true => exact absurd (sameL_len h) hlen
    rw [hs]
    obtain ⟨q1, q2⟩ := ne_int (show ¬ (a.length : Int) = (b.length : Int) by omega)
    clear hs hlen
    go_enter Tryz.func60, Tryz.ntmps60
    go_wp2_with fail
    exact bodyPost_ret (v := .bool false) (by simp [results, Tryz.results60, go_sem]) rfl ⟨rfl, Below.refl _ _⟩
  · obtain ⟨q1, q2⟩ := eq_int (show (a.length : Int) = (b.length : Int) by omega)
    have HLEN := Lib.hid hlen
    clear hlen
    go_enter Tryz.func60, Tryz.ntmps60
    go_wp2_with fail
    clear q1 q2
    go_loopw [17] (fun iv wr => ∃ k : Nat, iv = .int .i64 (k : Int) ∧ Hid (EqLoop false a b W k wr)) (fun iv _ => a.length - (intOf iv).toNat)
    case atStart => exact ⟨0, rfl, Lib.hid ⟨by omega, by rw [List.drop_zero, List.drop_zero], Below.refl _ _⟩⟩
    case round =>
      obtain ⟨k, rfl, hr⟩ := hrel
      obtain ⟨hk, hres, hbe⟩ := hr.out
      have w3' : IntKind.i64.wrap ((k : Int) + 1) = (k : Int) + 1 := IntWalk.i64_in _ (by omega)
      by_cases hlt : k < a.length
      · obtain ⟨x, hx⟩ : ∃ x, a[k]? = some x := ⟨_, List.getElem?_eq_getElem hlt⟩
        obtain ⟨y, hy⟩ : ∃ y, b[k]? = some y := ⟨_, List.getElem?_eq_getElem (by have := HLEN.out; omega)⟩
        obtain ⟨g, o, rfl, hp, hg, hrw⟩ := HA.out (by rintro rfl; simp at hlt)
        obtain ⟨g', o', rfl, hp', hg', hrw'⟩ := HB.out (by rintro rfl; simp at hy)
        obtain ⟨kv, hcell, ka, kc, rfl, hkr⟩ := (hrw.get hx).parts
        obtain ⟨kv', hcell', ka', kc', rfl, hkr'⟩ := (hrw'.get hy).parts
        rw [sameL_at hx hy] at hres
        have hc : ∀ w', Below W.heap.size W w' → ∀ j u, (fgV x (.slice ka x.kids.length kc))[j]? = some u → w'.cell? ⟨g, o + k * 7 + j, none⟩ = some u := fun w' hb j u hu => (hb.cell (p := ⟨g, o + k * 7 + j, none⟩) hg).trans (hcell j u hu)
        have hc' : ∀ w', Below W.heap.size W w' → ∀ j u, (fgV y (.slice ka' y.kids.length kc'))[j]? = some u → w'.cell? ⟨g', o' + k * 7 + j, none⟩ = some u := fun w' hb j u hu => (hb.cell (p := ⟨g', o' + k * 7 + j, none⟩) hg').trans (hcell' j u hu)
        have hlt' : (k : Int) < (a.length : Int) := by omega
        have hlt2 : (k : Int) < (b.length : Int) := by have := HLEN.out; omega
        have HKV : Hid (FVal W P (.slice ka x.kids.length kc) x.kids) := Lib.hid ⟨_, _, rfl, hkr⟩
        have HKV' : Hid (FVal W P' (.slice ka' y.kids.length kc') y.kids) := Lib.hid ⟨_, _, rfl, hkr'⟩
        have HCK := Lib.hid (HCC.out x (List.mem_of_getElem? hx) y.kids (.slice ka x.kids.length kc) (.slice ka' y.kids.length kc'))
        clear hr hcell hcell' hrw hrw' hx hy hkr hkr'
        obtain ⟨⟨k0, n0, s0, a0, m0⟩, op, ks⟩ := x
        obtain ⟨⟨k1, n1, s1, a1, m1⟩, oq, kt⟩ := y
        have hsf : sameF false (Fg.mk (k0, n0, s0, a0, m0) op ks) (Fg.mk (k1, n1, s1, a1, m1) oq kt) = (tkSame false (k0, n0, s0, a0, m0) (k1, n1, s1, a1, m1) && (decide (op = oq) && sameL false ks kt)) := by
          unfold sameF; rfl
        rw [hsf] at hres
        simp only [Fg.kids] at HKV HKV' HCK
        have HID := Lib.hid (fun w => identical_any (k0, n0, s0, a0, m0) (k1, n1, s1, a1, m1) w)
        simp only [tkL] at HID
        generalize tkSame false (k0, n0, s0, a0, m0) (k1, n1, s1, a1, m1) = tt at hres HID
        have HBE := Lib.hid hbe
        have hcl := hc _ hbe
        have e0 : wr.cell? ⟨g, o + k * 7, none⟩ = some (.int .i64 k0) := hcl 0 _ rfl
        have e1 : wr.cell? ⟨g, o + k * 7 + 1, none⟩ = some (.int .i64 n0) := hcl 1 _ rfl
        have e2 : wr.cell? ⟨g, o + k * 7 + 2, none⟩ = some (.string s0) := hcl 2 _ rfl
        have e3 : wr.cell? ⟨g, o + k * 7 + 3, none⟩ = some (.int .i64 a0) := hcl 3 _ rfl
        have e4 : wr.cell? ⟨g, o + k * 7 + 4, none⟩ = some (.int .i64 m0) := hcl 4 _ rfl
        have e5 : wr.cell? ⟨g, o + k * 7 + 5, none⟩ = some (.string op) := hcl 5 _ rfl
        have e6 : wr.cell? ⟨g, o + k * 7 + 6, none⟩ = some (.slice ka ks.length kc) := hcl 6 _ rfl
        obtain ⟨WA, hWA⟩ : ∃ WA, WA = wr.alloc (.cells #[.int .i64 k0, .int .i64 n0, .string s0, .int .i64 a0, .int .i64 m0, .string op, .slice ka ks.length kc] 52) := ⟨_, rfl⟩
        have hbA : Below W.heap.size W WA := by rw [hWA]; exact hbe.alloc hbe.size _
        have hcm := hc' _ hbA
        have f0 : WA.cell? ⟨g', o' + k * 7, none⟩ = some (.int .i64 k1) := hcm 0 _ rfl
        have f1 : WA.cell? ⟨g', o' + k * 7 + 1, none⟩ = some (.int .i64 n1) := hcm 1 _ rfl
        have f2 : WA.cell? ⟨g', o' + k * 7 + 2, none⟩ = some (.string s1) := hcm 2 _ rfl
        have f3 : WA.cell? ⟨g', o' + k * 7 + 3, none⟩ = some (.int .i64 a1) := hcm 3 _ rfl
        have f4 : WA.cell? ⟨g', o' + k * 7 + 4, none⟩ = some (.int .i64 m1) := hcm 4 _ rfl
        have f5 : WA.cell? ⟨g', o' + k * 7 + 5, none⟩ = some (.string oq) := hcm 5 _ rfl
        have f6 : WA.cell? ⟨g', o' + k * 7 + 6, none⟩ = some (.slice ka' kt.length kc') := hcm 6 _ rfl
        rw [hWA] at f0 f1 f2 f3 f4 f5 f6
        have HB2 : Hid (Below W.heap.size W ((wr.alloc (.cells #[.int .i64 k0, .int .i64 n0, .string s0, .int .i64 a0, .int .i64 m0, .string op, .slice ka ks.length kc] 52)).alloc (.cells #[.int .i64 k1, .int .i64 n1, .string s1, .int .i64 a1, .int .i64 m1, .string oq, .slice ka' kt.length kc'] 52))) := Lib.hid (by rw [← hWA]; exact hbA.alloc hbA.size _)
        clear hcl hcm hWA hbA hc hc' hbe WA
        by_cases h5 : op = oq
        rotate_left
        · obtain ⟨r1, r2⟩ := str_ne h5
          have HRES : Hid (sameL false a b = false) := Lib.hid (by rw [← hres]; simp [h5])
          clear hres hsf h5
          go_wp2_with fail
          exact bodyPost_ret (v := .bool false) (by simp [results, Tryz.results60, go_sem]) rfl ⟨by rw [HRES.out], HB2.out⟩
        obtain ⟨r1, r2⟩ := str_eq h5
        cases tt with
        | false =>
          have HRES : Hid (sameL false a b = false) := Lib.hid (by rw [← hres]; simp)
          clear hres hsf h5
          go_wp2_with fail
          refine (HID.out _).mono ?_
          rintro e w3 ⟨rfl, b3⟩
          have B3 := Lib.hid (HB2.out.trans (b3.mono HB2.out.size))
          clear b3
          go_wp2_with fail
          exact bodyPost_ret (v := .bool false) (by simp [results, Tryz.results60, go_sem]) rfl ⟨by rw [HRES.out], B3.out⟩
        | true =>
          have hre2 : (sameL false ks kt && sameL false (a.drop (k + 1)) (b.drop (k + 1))) = sameL false a b := by rw [← hres]; simp [h5]
          clear hres hsf h5
          generalize sameL false ks kt = rr at hre2 HCK
          have HRE := Lib.hid hre2
          clear hre2
          go_wp2_with fail
          refine (HID.out _).mono ?_
          rintro e w3 ⟨rfl, b3⟩
          have B3 := Lib.hid (HB2.out.trans (b3.mono HB2.out.size))
          have c0 : w3.cell? ⟨wr.heap.size, 6, none⟩ = some (.slice ka ks.length kc) := (b3.cell (p := ⟨wr.heap.size, 6, none⟩) (by simp <;> omega)).trans ((World.cell?_alloc_lt _ _ _ (by simp)).trans (by rw [fcell_at (heap_alloc_new wr _)]; rfl))
          have c1 : w3.cell? ⟨wr.heap.size + 1, 6, none⟩ = some (.slice ka' kt.length kc') := (b3.cell (p := ⟨wr.heap.size + 1, 6, none⟩) (by simp)).trans (by
            have hh := heap_alloc_new (wr.alloc (.cells #[.int .i64 k0, .int .i64 n0, .string s0, .int .i64 a0, .int .i64 m0, .string op, .slice ka ks.length kc] 52)) (.cells #[.int .i64 k1, .int .i64 n1, .string s1, .int .i64 a1, .int .i64 m1, .string oq, .slice ka' kt.length kc'] 52)
            rw [World.size_alloc] at hh
            rw [fcell_at hh]; rfl)
          have HCX := Lib.hid (HCK.out w3 (HKV.out.below B3.out) (HKV'.out.below B3.out))
          clear b3
          go_wp2_with fail
          refine HCX.out.mono ?_
          rintro e w4 ⟨rfl, b4⟩
          have B4 := Lib.hid (B3.out.trans (b4.mono B3.out.size))
          clear b4
          cases rr with
          | false =>
            have HRES : Hid (sameL false a b = false) := Lib.hid (by rw [← HRE.out]; rfl)
            go_wp2_with fail
            exact bodyPost_ret (v := .bool false) (by simp [results, Tryz.results60, go_sem]) rfl ⟨by rw [HRES.out], B4.out⟩
          | true =>
            go_wp2_with fail
            exact ⟨⟨k + 1, by simp, Lib.hid ⟨by omega, by rw [← HRE.out]; rfl, B4.out⟩⟩, by simp only [intOf]; omega⟩
      · have hlt' : ((k : Int) < (a.length : Int)) = False := by simp; omega
        have HRES : Hid (sameL false a b = true) := Lib.hid (by rw [← hres, List.drop_eq_nil_of_le (by omega), List.drop_eq_nil_of_le (by have := HLEN.out; omega)]; unfold sameL; rfl)
        have HBE := Lib.hid hbe
        clear hr hres hbe
        go_wp2_with fail
        exact bodyPost_ret (v := .bool true) (by simp [results, Tryz.results60, go_sem]) rfl ⟨by rw [HRES.out], HBE.out⟩
theorem equalI_any (P P' : Nat → Prop) : ∀ (a b : List Fg) (va vb : Value) (W : World), FVal W P va a → FVal W P' vb b → a.length ≤ 140737488351232 → FgsLe 140737488351232 a → Calls Tryz.prog 60 #[va, vb, .func (.func 61) #[] #[]] W (TkPost (sameL false a b) W)
  | a, b, va, vb, W, h1, h2, h3, h4 => equalI_run P P' a b va vb W h1 h2 h3 fun x hx ks' kv kv' w k1 k2 =>
    have := kids_lt hx
    equalI_any P P' x.kids ks' kv kv' w k1 k2 (h4.mem hx).1 (h4.mem hx).2
termination_by a => SizeOf.sizeOf a
end

section
open Go.RowKit Go.Shelf
attribute [local go_sem] Oper.semAt_some

/-- An append in a round, of which the new row's place is known. -/
theorem wpListIn_append_lies {F : Fence} {n : Nat} {P : Program} (w : World) {ops : Array Oper} {rest : List Oper} {o : Oper} {a : Act} {Q : Exit → Act → World → Prop}
    (hg : o.guard = none) (s x : Operand) (t : TypeId) (hop : o.op = Op.call { callee := Callee.builtin Builtin.append, args := #[s, x], argTypes := #[t, t] })
    (base : Nat) (e : TypeId) (i : TypeInfo) (z : Value) (size bytes : Nat) (h1 : P.underlying t = some (.slice e)) (h2 : P.info? e = some i) (h3 : i.zero = some z) (h4 : i.size = size) (h5 : i.bytes = bytes) (h6 : z.cells.size = size) (h7 : 0 < size)
    (v : Value) (k : Nat) (xs : List Value) (hs : a.eval s = v) (hown : w.ownsRow base e size v k xs) (ad : Addr) (m c : Nat) (news : List Value) (hx : a.eval x = .slice (some ad) m c) (hn : news.length = m * size)
    (hc : ∀ j u, news[j]? = some u → w.cell? (ad.add j) = some u) (h1c : ∀ u ∈ news, u.oneCell' = true) (hm : 0 < m) (b1 : k + m ≤ maxLen) (b2 : (k + m) * bytes ≤ 140737488355328) (b3 : base ≤ w.heap.size) (H : Nat) (hH : w.heap.size = H)
    (hK : ∀ g cap w', w'.ownsRow base e size (.slice (some ⟨g, 0, none⟩) (k + m) cap) (k + m) (xs ++ news) → w.grownBy w' v.ownBlock → (v.ownBlock = some g ∨ g = H) → g < w'.heap.size → wpListIn F n P ops Q rest (a.put o.dst (.slice (some ⟨g, 0, none⟩) (k + m) cap)) w') :
    wpListIn F n P ops Q (o :: rest) a w := by
  refine wpListIn_plain hg fun K hK' => ?_
  obtain ⟨g, cap, w', hrun, r1, r2, r3, r4⟩ := run_append_lies (P := P) w t o.type base e i z size bytes h1 h2 h3 h4 h5 h6 h7 v k xs hown ad m c news hn hc h1c hm b1 b2 b3 H hH
  unfold Oper.wpIn
  refine ⟨?_, ?_⟩
  · simp [Oper.about, hop, resolve, Target.leads, Sem.run_pure]
  · rw [Oper.semAt_plain F _ _ (by rw [hop]; intro c hc'; cases hc')]
    simp [execOp, hop, resolve, invoke, builtin, hs, hx, hrun, Result.andThen]
    exact hK' _ _ (hK g cap w' r1 r2 r3 r4)

structure FlJ (w : World) (R : Loop) (Q : Nat → Prop) (pre : List Tkn) (W : World) : Prop where
  row : ∃ v, W.cell? ⟨w.heap.size, 0, none⟩ = some v ∧ W.ownsRow (w.heap.size + 4) 50 5 v pre.length (pre.flatMap tkL) ∧ ∀ b, Q b ↔ (b = w.heap.size ∨ v.ownBlock = some b)
  fz : W.frozen? ⟨w.heap.size, 0, none⟩ = false
  defd : W.heap[w.heap.size + 2]? = some (.deferred (some []))
  loop : W.heap[w.heap.size + 3]? = some (.loop R)
  below : Below w.heap.size w W
  size : w.heap.size + 4 ≤ W.heap.size
theorem flJ_ok (w : World) (R : Loop) : BodyOk (FlJ w R) :=
  ⟨fun Q pre a b h hb => by
    have hz := h.size
    obtain ⟨v, h1, h2, h3⟩ := h.row
    exact ⟨⟨v, (hb.cell (p := ⟨w.heap.size, 0, none⟩) (show w.heap.size < a.heap.size by omega)).trans h1, row_same h2 fun k _ hk => hb.block k hk, h3⟩,
      (World.frozen?_of_block (w := a) (a := ⟨w.heap.size, 0, none⟩) (hb.block _ (show w.heap.size < a.heap.size by omega))).trans h.fz,
      (hb.block _ (by omega)).trans h.defd, (hb.block _ (by omega)).trans h.loop, h.below.trans (hb.mono (by omega)), by have := hb.size; omega⟩,
   fun Q pre a h b hq => by
    have hz := h.size
    obtain ⟨v, h1, h2, h3⟩ := h.row
    rcases (h3 b).1 hq with e | e
    · omega
    · exact (h2.lt b e).2⟩
/-- What a round leaves. -/
theorem FlJ.go {w W1 W5 Wa W7 W8 : World} {R : Loop} {Q : Nat → Prop} {pre : List Tkn} {v : Value} {g cap : Nat} (h : FlJ w R Q pre W1) (t : Tkn) (Rb : Loop) (O O2 : Obj) (h5 : W5 = (W1.alloc O).putObj (w.heap.size + 3) (.loop Rb)) (ha : Wa = W5.alloc O2)
    (hv : W1.cell? ⟨w.heap.size, 0, none⟩ = some v) (hgrow : Wa.grownBy W7 v.ownBlock) (hown : W7.ownsRow (w.heap.size + 4) 50 5 (.slice (some ⟨g, 0, none⟩) (pre.length + 1) cap) (pre.length + 1) (pre.flatMap tkL ++ tkL t)) (hat : v.ownBlock = some g ∨ g = W1.heap.size + 2)
    (h8 : W8 = W7.setCell ⟨w.heap.size, 0, none⟩ (.slice (some ⟨g, 0, none⟩) (pre.length + 1) cap)) :
    W8.heap[w.heap.size + 3]? = some (.loop Rb) ∧ WalkPost (FlJ w R) (fun _ _ => False) Q (pre ++ [t]) W1 (.returned (.bool true)) (W8.putObj (w.heap.size + 3) (.loop R)) := by
  have hz := h.size
  obtain ⟨v', hv', hrow, hq⟩ := h.row
  rw [hv] at hv'
  cases hv'
  have hlow : ∀ b, v.ownBlock = some b → w.heap.size + 4 ≤ b ∧ b < W1.heap.size := fun b hb => hrow.lt b hb
  have s5 : W5.heap.size = W1.heap.size + 1 := by rw [h5]; simp
  have sa : Wa.heap.size = W1.heap.size + 2 := by rw [ha]; simp [s5]
  have s7 : W1.heap.size + 2 ≤ W7.heap.size := by have := hgrow.size; omega
  have s8 : W8.heap.size = W7.heap.size := by rw [h8]; simp
  have k7 : ∀ b, b < W1.heap.size → b ≠ w.heap.size + 3 → v.ownBlock ≠ some b → W7.heap[b]? = W1.heap[b]? := fun b h1 h2 h3 =>
    (hgrow.block b (by omega) (fun e => h3 e.symm)).trans (by rw [ha, Below.heap_alloc W5 O2 b (by omega), h5, World.putObj_heap_other h2]; exact Below.heap_alloc W1 O b h1)
  have k8 : ∀ b, b < W1.heap.size → b ≠ w.heap.size + 3 → b ≠ w.heap.size → v.ownBlock ≠ some b → W8.heap[b]? = W1.heap[b]? := fun b h1 h2 h3 h4 => by
    rw [h8, Below.heap_setCell _ _ _ _ (by simpa using h3)]; exact k7 b h1 h2 h4
  have l7 : W7.heap[w.heap.size + 3]? = some (.loop Rb) := by
    rw [hgrow.block _ (by omega) (fun e => by have := hlow _ e.symm; omega), ha, Below.heap_alloc W5 O2 _ (by omega), h5]
    exact World.putObj_heap_same (by simp; omega)
  have l8 : W8.heap[w.heap.size + 3]? = some (.loop Rb) := by rw [h8, Below.heap_setCell _ _ _ _ (by simp)]; exact l7
  have c7 : W7.heap[w.heap.size]? = W1.heap[w.heap.size]? := k7 _ (by omega) (by omega) (fun e => by have := hlow _ e; omega)
  have hgne : g ≠ w.heap.size ∧ g ≠ w.heap.size + 3 := by
    rcases hat with e | e
    · have := hlow _ e; omega
    · omega
  refine ⟨l8, .inl ⟨rfl, fun b => b = w.heap.size ∨ b = g, ⟨⟨.slice (some ⟨g, 0, none⟩) (pre.length + 1) cap, ?_, ?_, ?_⟩, ?_, ?_, ?_, ?_, ?_⟩, ?_, ?_, ?_⟩⟩
  · rw [World.cell?_of_block (w := W8) (a := ⟨w.heap.size, 0, none⟩) (World.putObj_heap_other (by simp)), h8]
    exact World.cell?_setCell_same' _ _ _ (by rw [World.cell?_of_block (w := W1) (a := ⟨w.heap.size, 0, none⟩) c7, hv]; rfl)
  · have e1 : (pre ++ [t]).length = pre.length + 1 := by simp
    have e2 : (pre ++ [t]).flatMap tkL = pre.flatMap tkL ++ tkL t := by simp
    rw [e1, e2]
    have hw8 : W8.ownsRow (w.heap.size + 4) 50 5 (.slice (some ⟨g, 0, none⟩) (pre.length + 1) cap) (pre.length + 1) (pre.flatMap tkL ++ tkL t) := by
      rw [h8]
      exact ownsRow_setCell_other hown (a := ⟨w.heap.size, 0, none⟩) (by simp only [Value.ownBlock, ne_eq, Option.some.injEq]; exact hgne.1) _
    exact ownsRow_putObj hw8 _ l8 (by rfl)
  · intro b
    simp only [Value.ownBlock, Option.some.injEq]
    constructor
    · rintro (e | e)
      · exact .inl e
      · exact .inr e.symm
    · rintro (e | e)
      · exact .inl e
      · exact .inr e.symm
  · rw [World.frozen?_of_block (w := W8) (a := ⟨w.heap.size, 0, none⟩) (World.putObj_heap_other (by simp)), h8, World.frozen?_setCell, World.frozen?_of_block (w := W1) (a := ⟨w.heap.size, 0, none⟩) c7]
    exact h.fz
  · rw [World.putObj_heap_other (by omega)]
    exact (k8 _ (by omega) (by omega) (by omega) (fun e => by have := hlow _ e; omega)).trans h.defd
  · exact World.putObj_heap_same (by omega)
  · refine ⟨?_, ?_, ?_, by have := h.below.size; simp; omega, fun b hb => ?_⟩
    · show W8.os = w.os
      rw [h8]; show W7.os = w.os; rw [hgrow.os, ha]; show W5.os = w.os; rw [h5]; exact h.below.os
    · show W8.tape = w.tape
      rw [h8]; show W7.tape = w.tape; rw [hgrow.tape, ha]; show W5.tape = w.tape; rw [h5]; exact h.below.tape
    · show W8.output = w.output
      rw [h8]; show W7.output = w.output; rw [hgrow.output, ha]; show W5.output = w.output; rw [h5]; exact h.below.output
    · rw [World.putObj_heap_other (by omega)]
      exact (k8 _ (by omega) (by omega) (by omega) (fun e => by have := hlow _ e; omega)).trans (h.below.block b hb)
  · simp; omega
  · simp; omega
  · intro b hb hnq
    by_cases he : b = w.heap.size + 3
    · subst he
      rw [World.putObj_heap_same (by omega)]
      exact h.loop.symm
    · rw [World.putObj_heap_other he]
      exact k8 b hb he (fun e => hnq ((hq b).2 (.inl e))) (fun e => hnq ((hq b).2 (.inr e)))
  · rintro b (e | e)
    · exact .inl ((hq b).2 (.inl e))
    · subst e
      rcases hat with e | e
      · exact .inl ((hq _).2 (.inr e))
      · right; omega
theorem own_slc {W : World} {base e size n : Nat} {v : Value} {xs : List Value} (h : W.ownsRow base e size v n xs) : ∃ a c, v = .slice a n c := by
  rcases h.2 with ⟨rfl, hn⟩ | ⟨g, cap, cur, rfl, _⟩
  · rw [hn]; exact ⟨none, 0, rfl⟩
  · exact ⟨_, _, rfl⟩
def flatM (l : List Fg) : List Tkn := if 100 < depM 101 l ∨ 6000 < sizeM l then [] else tokM 100 l
def FlatPost (m : List Tkn) (W : World) (e : Ending) (w' : World) : Prop := ∃ v, e = .returned v ∧ w'.ownsRow W.heap.size 50 5 v m.length (m.flatMap tkL) ∧ Below W.heap.size W w'
theorem flat_leave (m : List Tkn) (w W : World) (tm : Array Value) (v : Value) (hres : ∀ W, (results Tryz.f28 tm).run Tryz.prog W = .ok v W) (hd : W.heap[w.heap.size + 2]? = some (.deferred (some []))) (hB : Below w.heap.size w W) (W0 : World) (h0 : Below W0.heap.size W0 w)
    (hrow : W.ownsRow (w.heap.size + 4) 50 5 v m.length (m.flatMap tkL)) :
    LeavesInM Fence.wide 3 Tryz.prog Tryz.f28 tm (FlatPost m W0) [{ target := .collected (w.heap.size + 2), args := #[] }] .returning W := by
  refine ⟨by simp, .inl ⟨_, _, rfl, run_takeDeferred hd, ?_⟩⟩
  have low : Below w.heap.size w (W.putObj (w.heap.size + 2) (.deferred none)) := ⟨hB.os, hB.tape, hB.output, by have := hB.size; simp; omega, fun k hk => (World.putObj_heap_other (by omega)).trans (hB.block k hk)⟩
  simp [LeavesInM, LeavesIn, hres]
  exact ⟨v, rfl, row_base (row_same hrow fun k h1 _ => World.putObj_heap_other (by omega)) (by have := h0.size; omega), h0.trans (low.mono h0.size)⟩
theorem flat_early (w W : World) (tm : Array Value) (hres : ∀ W, (results Tryz.f28 tm).run Tryz.prog W = .ok (.slice none 0 0) W) (hB : Below w.heap.size w W) : LeavesInM Fence.wide 3 Tryz.prog Tryz.f28 tm (FlatPost [] w) [] .returning W := by
  simp [LeavesInM, LeavesIn, hres]
  exact ⟨_, rfl, World.ownsRow_nil _ _ _ _, hB⟩
set_option maxHeartbeats 4000000 in
set_option maxRecDepth 100000 in
theorem Flat_run (P : Nat → Prop) (l : List Fg) (v : Value) (W : World) (hv : FVal W P v l) (h1 : l.length ≤ 140737488351232) (h2 : FgsLe 140737488351232 l) :
    CallsIn Fence.wide 3 Tryz.prog 28 #[v] W (FlatPost (flatM l) W) := by
  have hmf : ∀ (fn : Fn) (first cap : Array Value) (w : World), (Instr.makeFunc fn first cap).run Tryz.prog w = .ok (.func fn first cap) w := fun _ _ _ _ => rfl
  refine callsIn_of_wp_marks Tryz.func28 rfl trivial ?_ rfl
  simp only [Tryz.ntmps28, List.size_toArray, List.length_cons, List.length_nil, Nat.reduceAdd, Nat.reduceSub, Array.replicate_succ,
     Array.replicate_zero, List.push_toArray, List.append_toArray, List.nil_append, List.cons_append]
  have HDD := Lib.hid (fun (w' : World) (hb : Below W.heap.size W w') => Depth_any P l v w' (hv.below hb) h1 h2)
  have HSS := Lib.hid (fun (w' : World) (hb : Below W.heap.size W w') => Size_any P l v w' (hv.below hb) h1 h2)
  obtain ⟨va, vc, rfl, hrow⟩ := hv
  have HV : Hid (FVal W P (.slice va l.length vc) l) := Lib.hid ⟨va, vc, rfl, hrow⟩
  have HLE := Lib.hid h2
  have HFM : Hid (flatM l = if 100 < depM 101 l ∨ 6000 < sizeM l then [] else tokM 100 l) := Lib.hid rfl
  generalize flatM l = fm at HFM
  clear hrow h2
  gi_wp2_with fail
  refine ⟨trivial, ?_⟩
  refine (callsIn_wide.2 (HDD.out W (Below.refl _ _))).mono ?_
  rintro e w1 ⟨rfl, hb1⟩
  have HB1 := Lib.hid hb1
  clear hb1
  by_cases hd : 100 < depM 101 l
  · have hd' : (100 : Int) < (depM 101 l : Int) := by omega
    have HF : Hid (fm = []) := Lib.hid (by rw [HFM.out, if_pos (.inl hd)])
    clear HFM hd
    gi_wp2_with fail
    refine ⟨trivial, ?_⟩
    gi_wp2_with fail
    rw [HF.out]
    exact flat_early W _ _ (fun W => by simp [results, Tryz.results28, go_sem]) HB1.out
  · by_cases hs : 6000 < sizeM l
    · have hd' : ((100 : Int) < (depM 101 l : Int)) = False := by simp; omega
      have hs' : (6000 : Int) < (sizeM l : Int) := by omega
      have HF : Hid (fm = []) := Lib.hid (by rw [HFM.out, if_pos (.inr hs)])
      clear HFM hd hs
      gi_wp2_with fail
      refine ⟨trivial, ?_⟩
      refine (callsIn_wide.2 (HSS.out w1 HB1.out)).mono ?_
      rintro e w2 ⟨rfl, hb2⟩
      have HB2 := Lib.hid (HB1.out.trans (hb2.mono HB1.out.size))
      clear hb2
      gi_wp2_with fail
      rw [HF.out]
      exact flat_early W _ _ (fun W => by simp [results, Tryz.results28, go_sem]) HB2.out
    · have hd' : ((100 : Int) < (depM 101 l : Int)) = False := by simp; omega
      have hs' : ((6000 : Int) < (sizeM l : Int)) = False := by simp; omega
      have HF : Hid (fm = tokM 100 l) := Lib.hid (by rw [HFM.out, if_neg (by omega)])
      have HSZ : Hid ((tokM 100 l).length ≤ 6000) := Lib.hid (by unfold sizeM at hs; omega)
      clear HFM hd hs
      gi_wp2_with fail
      refine ⟨trivial, ?_⟩
      refine (callsIn_wide.2 (HSS.out w1 HB1.out)).mono ?_
      rintro e w2 ⟨rfl, hb2⟩
      have HB2 := Lib.hid (HB1.out.trans (hb2.mono HB1.out.size))
      clear hb2
      gi_wp2_with fail
      refine ⟨trivial, ?_⟩
      refine (callsIn_wide.2 (tokens_any va l.length vc _)).mono ?_
      rintro e w3 ⟨rfl, rfl⟩
      gi_wp2_with fail
      refine range_own rfl (by omega) (gf := 89) (lb := #[.pointer (some ⟨w2.heap.size + 1, 0, none⟩)]) rfl trivial (enters_of Tryz.func89 (by kernel_rfl) rfl) ?_
      intro fn R _ hR
      have rs : R.state = .ready := by rw [hR]
      have rp : R.pending = none := by rw [hR]
      have rq : R.params = #[15] := by rw [hR]
      have rt := congrArg Loop.tmps hR
      have ra := congrArg Loop.assign hR
      have rb := congrArg Loop.body hR
      simp only at rt ra rb
      clear hR
      simp only [List.append_toArray, List.cons_append, List.nil_append]
      obtain ⟨W0, hW0⟩ : ∃ W0, W0 = ((((w2.alloc (.cells #[.slice none 0 0] 22)).alloc (.cells #[.slice va l.length vc] 25)).alloc (.deferred (some []))).alloc (.loop R)) := ⟨_, rfl⟩
      have hB0 : Below w2.heap.size w2 W0 := by
        rw [hW0]
        exact (((((Below.refl _ w2).alloc (Nat.le_refl _) _).alloc (by simp) _).alloc (by simp; omega) _).alloc (by simp; omega) _)
      obtain ⟨f0, f1, f2, f3, f4⟩ := heap4 w2 (.cells #[.slice none 0 0] 22) (.cells #[.slice va l.length vc] 25) (.deferred (some [])) (.loop R)
      simp only [World.size_alloc, Nat.add_assoc, Nat.reduceAdd]
      rw [← hW0] at f0 f1 f2 f3 f4 ⊢
      have hJ0 : FlJ w2 R (fun b => b = w2.heap.size) [] W0 := ⟨⟨.slice none 0 0, cell_at f0, World.ownsRow_nil _ _ _ _, fun b => by simp [Value.ownBlock]⟩, frozen_at f0, f2, f3, hB0, by omega⟩
      refine (tokens1_any 2 (w2.heap.size + 3) (w2.heap.size + 1) (FlJ w2 R) (fun _ _ => False) (flJ_ok w2 R) (fun b => P b ∧ b < W.heap.size) l ?hy (.slice va l.length vc) (fun b => b = w2.heap.size) W0 (cell_at f1)
        (((HV.out.keep (P' := fun b => P b ∧ b < W.heap.size) (fun b p z => ⟨⟨p, z⟩, rfl⟩) (Nat.le_refl _)).below HB2.out).below hB0) (fun b p => ⟨by have := p.2; have := HB2.out.size; omega, fun e => by have := p.2; have := HB2.out.size; omega⟩) hJ0 h1 HLE.out).mono ?_
      case hy =>
        clear hJ0 f0 f1 f2 f3 f4 hB0 hW0
        intro m Q pre t W1 hpre hj
        obtain ⟨Rb, hRb⟩ : ∃ Rb : Loop, Rb = { R with state := .busy } := ⟨_, rfl⟩
        refine yield_own2 (R := R) hRb trivial hj.loop rs rp (by rw [rq]; rfl) ?_
        have HJ := Lib.hid hj
        have HLN : Hid (pre.length + 1 ≤ 6000) := Lib.hid (by have h1 := hpre.length_le; have h2 := HSZ.out; rw [List.length_append] at h1; simp only [List.length_cons, List.length_nil] at h1; omega)
        obtain ⟨v, hv, hrow, _⟩ := hj.row
        obtain ⟨ba, bc, rfl⟩ := own_slc hrow
        obtain ⟨k0, n0, s0, a0, m0⟩ := t
        rw [ra, rt, rq]
        have RB := Lib.hid rb
        clear ra rt rq rb rs rp hRb hj hmf hpre
        simp only [tkL, List.zip_toArray, List.zip_cons_cons, List.zip_nil_right, List.foldl_toArray, List.foldl_cons, List.foldl_nil, List.setIfInBounds_toArray, List.set_cons_zero, List.set_cons_succ]
        gi_wp2_with fail
        refine ⟨(Below.heap_alloc W1 _ _ (by have := HJ.out.size; omega)).trans HJ.out.loop, ?_⟩
        rw [RB.out]
        clear RB
        obtain ⟨W5, hW5⟩ : ∃ W5, W5 = (W1.alloc (.cells #[.int .i64 k0, .int .i64 n0, .string s0, .int .i64 a0, .int .i64 m0] 50)).putObj (w2.heap.size + 3) (.loop Rb) := ⟨_, rfl⟩
        rw [← hW5]
        have hz := HJ.out.size
        have s5 : W5.heap.size = W1.heap.size + 1 := by rw [hW5]; simp
        have k5 : ∀ b, b < W1.heap.size → b ≠ w2.heap.size + 3 → W5.heap[b]? = W1.heap[b]? := fun b h1 h2 => by rw [hW5, World.putObj_heap_other h2]; exact Below.heap_alloc W1 _ b h1
        have hbx : W5.heap[W1.heap.size]? = some (.cells #[.int .i64 k0, .int .i64 n0, .string s0, .int .i64 a0, .int .i64 m0] 50) := by
          rw [hW5, World.putObj_heap_other (by omega)]; exact heap_alloc_new W1 _
        have d0 : W5.cell? ⟨W1.heap.size, 0, none⟩ = some (.int .i64 k0) := by rw [fcell_at hbx]; rfl
        have d1 : W5.cell? ⟨W1.heap.size, 1, none⟩ = some (.int .i64 n0) := by rw [fcell_at hbx]; rfl
        have d2 : W5.cell? ⟨W1.heap.size, 2, none⟩ = some (.string s0) := by rw [fcell_at hbx]; rfl
        have d3 : W5.cell? ⟨W1.heap.size, 3, none⟩ = some (.int .i64 a0) := by rw [fcell_at hbx]; rfl
        have d4 : W5.cell? ⟨W1.heap.size, 4, none⟩ = some (.int .i64 m0) := by rw [fcell_at hbx]; rfl
        have c5 : W5.cell? ⟨w2.heap.size, 0, none⟩ = some (.slice ba pre.length bc) := (World.cell?_of_block (w := W1) (a := ⟨w2.heap.size, 0, none⟩) (k5 _ (show w2.heap.size < W1.heap.size by omega) (show w2.heap.size ≠ w2.heap.size + 3 by omega))).trans hv
        have g5 : W5.frozen? ⟨w2.heap.size, 0, none⟩ = false := (World.frozen?_of_block (w := W1) (a := ⟨w2.heap.size, 0, none⟩) (k5 _ (show w2.heap.size < W1.heap.size by omega) (show w2.heap.size ≠ w2.heap.size + 3 by omega))).trans HJ.out.fz
        have HR5 : Hid (W5.ownsRow (w2.heap.size + 4) 50 5 (.slice ba pre.length bc) pre.length (pre.flatMap tkL)) := Lib.hid (by
          rw [hW5]; exact ownsRow_putObj (hrow.alloc _) _ ((Below.heap_alloc W1 _ _ (by omega)).trans HJ.out.loop) rfl)
        have HLT := Lib.hid HR5.out.lt
        have HNEW := Lib.hid (World.news_of_block (cs := #[.int .i64 k0, .int .i64 n0, .string s0, .int .i64 a0, .int .i64 m0]) (t := 50) (fr := (0, 0)) (heap_alloc_new W5 (.cells #[.int .i64 k0, .int .i64 n0, .string s0, .int .i64 a0, .int .i64 m0] 50)))
        have HMX : Hid (pre.length + 1 ≤ maxLen) := Lib.hid (by have := HLN.out; unfold maxLen; omega)
        have HMY : Hid ((pre.length + 1) * 48 ≤ 140737488355328) := Lib.hid (by have := HLN.out; omega)
        have HBS : Hid (w2.heap.size + 4 ≤ (W5.alloc (.cells #[.int .i64 k0, .int .i64 n0, .string s0, .int .i64 a0, .int .i64 m0] 50)).heap.size) := Lib.hid (by simp; omega)
        have hkk : ∀ o w7, (W5.alloc o).grownBy w7 (Value.slice ba pre.length bc).ownBlock → w7.heap[w2.heap.size]? = W5.heap[w2.heap.size]? := fun o w7 hg =>
          (hg.block _ (by simp; omega) (fun e => by have := (HLT.out _ e.symm).1; omega)).trans (Below.heap_alloc W5 o _ (by omega))
        have KK := Lib.hid hkk
        have HV1 := Lib.hid hv
        have HW5 := Lib.hid hW5
        have HS5 := Lib.hid s5
        obtain ⟨i0, hi, hz0, hz1, hz2⟩ := info_parts infoTok
        clear hW5 s5 k5 hbx hkk hv hrow hz
        gi_wp2_with (first
          | (gi_at_builtin; go_loud (refine wpListIn_append_lies _ rfl _ _ 22 rfl (w2.heap.size + 4) 50 i0 _ 5 48 Tryz.underlying22 hi hz0 hz1 hz2 rfl (by omega) _ pre.length _ rfl (HR5.out.alloc _) ⟨W5.heap.size, 0, none⟩ 1 1 [.int .i64 k0, .int .i64 n0, .string s0, .int .i64 a0, .int .i64 m0] (by simp [go_sem]; done) rfl HNEW.out (by simp [Value.oneCell']) (by omega) HMX.out HMY.out HBS.out (W5.heap.size + 1) (by simp) ?_); intro g7 cap7 w7 hown7 hgrow7 hat7 hlt7;
               have c7 : w7.cell? ⟨w2.heap.size, 0, none⟩ = some (.slice ba pre.length bc) := (World.cell?_of_block (w := W5) (a := ⟨w2.heap.size, 0, none⟩) (KK.out _ _ hgrow7)).trans c5;
               have f7 : w7.frozen? ⟨w2.heap.size, 0, none⟩ = false := (World.frozen?_of_block (w := W5) (a := ⟨w2.heap.size, 0, none⟩) (KK.out _ _ hgrow7)).trans g5;
               have HOWN := Lib.hid hown7; have HG := Lib.hid hgrow7; have HAT := Lib.hid hat7; clear hown7 hgrow7 hat7 hlt7))
        have hh := HJ.out.go (k0, n0, s0, a0, m0) Rb _ _ HW5.out rfl HV1.out HG.out HOWN.out (HAT.out.imp id fun e => by have := HS5.out; omega) rfl
        obtain ⟨hh1, ⟨_, hh2⟩ | ⟨hh2, _⟩⟩ := hh
        · exact ⟨hh1, .inl ⟨rfl, hh2⟩⟩
        · cases hh2
      rintro e w3 ⟨rfl, hend⟩
      have hend2 : ∃ Q', FlJ w2 R Q' (tokM 100 l) w3 := by
        rcases hend with ⟨Q', h, _⟩ | ⟨p, hp, h⟩
        · exact ⟨Q', h⟩
        · exact h.elim
      clear hend hJ0 f0 f1 f2 f3 f4 hB0 hW0 ra rb rt rq hmf
      obtain ⟨Q', hj⟩ := hend2
      obtain ⟨v, hv, hrow, _⟩ := hj.row
      obtain ⟨ba, bc, rfl⟩ := own_slc hrow
      refine ⟨R.pending, w3.putObj (w2.heap.size + 3) (.loop { R with state := .exhausted }), run_endLoop (P := Tryz.prog) hj.loop (by rw [rs]; simp), ?_⟩
      obtain ⟨w4, hw4⟩ : ∃ w4, w4 = w3.putObj (w2.heap.size + 3) (.loop { R with state := .exhausted }) := ⟨_, rfl⟩
      rw [← hw4]
      have hz := hj.size
      have k4 : ∀ k, k ≠ w2.heap.size + 3 → w4.heap[k]? = w3.heap[k]? := fun k hk => by rw [hw4]; exact World.putObj_heap_other hk
      have c4 : w4.cell? ⟨w2.heap.size, 0, none⟩ = some (.slice ba (tokM 100 l).length bc) := (World.cell?_of_block (w := w3) (a := ⟨w2.heap.size, 0, none⟩) (k4 _ (by simp))).trans hv
      have D4 : Hid (w4.heap[w2.heap.size + 2]? = some (.deferred (some []))) := Lib.hid ((k4 _ (by omega)).trans hj.defd)
      have R4 : Hid (w4.ownsRow (w2.heap.size + 4) 50 5 (.slice ba (tokM 100 l).length bc) (tokM 100 l).length ((tokM 100 l).flatMap tkL)) := Lib.hid (row_same hrow fun k h1 _ => k4 k (by omega))
      have L4 : Hid (Below w2.heap.size w2 w4) := Lib.hid (by
        rw [hw4]
        have hbel := hj.below
        exact ⟨hbel.os, hbel.tape, hbel.output, by have := hbel.size; simp; omega, fun k hk => (World.putObj_heap_other (by omega)).trans (hbel.block k hk)⟩)
      clear hw4 k4 hv hrow hj hz
      rw [rp]
      gi_wp2_with fail
      rw [HF.out]
      exact flat_leave (tokM 100 l) w2 w4 _ _ (fun W => by simp [results, Tryz.results28, go_sem]) D4.out L4.out W HB2.out R4.out
theorem Flat_any (P : Nat → Prop) (l : List Fg) (v : Value) (w : World) (hv : FVal w P v l) (h1 : l.length ≤ 140737488351232) (h2 : FgsLe 140737488351232 l) : Calls Tryz.prog 28 #[v] w (FlatPost (flatM l) w) :=
  callsIn_wide.1 (Flat_run P l v w hv h1 h2)
end

section
open Go.RowKit

def checkM (l : List Fg) (ws : List ByteArray) : Nat :=
  if rightM isPlainB ws then if 100 < depM 101 l then 6 else if 6000 < sizeM l then 2 else match readM tokOk isPlainB (tokM 100 l) ws with
    | .ok L => if sameL false L l then 0 else 22
    | .error _ => 22
  else 1
theorem readM_code {ok : Tkn → Bool} {plain : ByteArray → Bool} {l : List Tkn} {ws : List ByteArray} {a c : Nat} (h : readM ok plain l ws = .error (a, c)) : c = 1 ∨ c = 2 ∨ c = 6 ∨ c = 20 ∨ c = 14 ∨ c = 21 := by
  unfold readM at h
  split at h
  · split at h
    · cases h; omega
    · by_cases h21 : c = 21
      · omega
      · have := (runM_err _ _ _ _ h h21).2; simp only at this; omega
  · cases h; omega
theorem checkM_ok {l : List Fg} {ws : List ByteArray} (h : checkM l ws = 0) : rightM isPlainB ws = true ∧ depM 101 l ≤ 100 ∧ sizeM l ≤ 6000 ∧ readM tokOk isPlainB (tokM 100 l) ws = .ok l := by
  unfold checkM at h
  split at h
  · rename_i h1
    split at h
    · cases h
    · split at h
      · cases h
      · refine ⟨h1, by omega, by omega, ?_⟩
        split at h
        · rename_i L hL
          split at h
          · rename_i hs
            rw [hL, (sameL_eq _ _).1 hs]
          · cases h
        · cases h
  · cases h
theorem tokL_sz {B : Nat} (hB : 3 ≤ B) {F : List Fg → List Tkn} {z : Bool} (hF : ∀ ks, FgsSz B ks → ∀ t ∈ F ks, (t.2.2.1 : ByteArray).size ≤ B) : ∀ (l : List Fg), FgsSz B l → ∀ t ∈ tokL F z l, (t.2.2.1 : ByteArray).size ≤ B
  | [], _, t, ht => by unfold tokL at ht; cases ht
  | x :: r, h, t, ht => by
    have h0 := h.get (k := 0) (x := x) rfl
    unfold FgsSz at h
    unfold tokL at ht
    rcases List.mem_append.1 ht with ht | ht
    · split at ht
      · rw [List.mem_singleton.1 ht]; exact h0.1
      · split at ht
        · cases ht
        · rcases List.mem_cons.1 ht with rfl | ht
          · exact h0.1
          · rcases List.mem_append.1 ht with ht | ht
            · exact hF _ h0.2.2 t ht
            · rw [List.mem_singleton.1 ht]
              show (closingM x.opn).size ≤ B
              unfold closingM
              have e1 : sRap.size = 1 := rfl
              have e2 : sKet.size = 1 := rfl
              have e3 : sRuc.size = 1 := rfl
              have e4 : sEnd.size = 3 := rfl
              repeat' split
              all_goals omega
    · exact tokL_sz hB hF r h.2 t ht
theorem tokM_sz {B : Nat} (hB : 3 ≤ B) : ∀ (m : Nat) (l : List Fg), FgsSz B l → ∀ t ∈ tokM m l, (t.2.2.1 : ByteArray).size ≤ B
  | 0, l, h => tokL_sz hB (fun ks _ t ht => by cases ht) l h
  | m + 1, l, h => tokL_sz hB (fun ks hk => tokM_sz hB m ks hk) l h
def ErPost (c : Nat) (W : World) (e : Ending) (w' : World) : Prop := e = .returned (.int .i64 (c : Int)) ∧ Below W.heap.size W w'
set_option maxRecDepth 100000 in
set_option maxHeartbeats 8000000 in
theorem Check_any (P : Nat → Prop) (l : List Fg) (v : Value) (ws : List ByteArray) (wv : Value) (W : World) (E : Env W) (hv : FVal W P v l) (h1 : l.length ≤ 140737488351232) (h2 : FgsLe 140737488351232 l) (h3 : FgsSz 140737488351232 l)
    (hw : SRow W wv ws) (hwz : ∀ x ∈ ws, x.size ≤ 140737488351232) : Calls Tryz.prog 30 #[v, wv] W (ErPost (checkM l ws) W) := by
  have HRT := Lib.hid (right_any wv ws W E hw hwz)
  have HDD := Lib.hid (fun (w' : World) (hb : Below W.heap.size W w') => Depth_any P l v w' (hv.below hb) h1 h2)
  have HSS := Lib.hid (fun (w' : World) (hb : Below W.heap.size W w') => Size_any P l v w' (hv.below hb) h1 h2)
  have HFF := Lib.hid (fun (w' : World) (hb : Below W.heap.size W w') => Flat_any P l v w' (hv.below hb) h1 h2)
  have HRD : Hid (∀ m mv w', Below W.heap.size W w' → TRow w' (fun _ => True) mv m → (∀ x ∈ m, (x.2.2.1 : ByteArray).size ≤ 140737488351232) → Calls Tryz.prog 15 #[mv, wv] w' (ReadPost m ws w')) := Lib.hid fun m mv w' hb ht hz => readF_any m mv ws wv w' (E.below E.size hb) ht (srow_below hw hb) hz hwz
  have HVV := Lib.hid (fun (w' : World) (hb : Below W.heap.size W w') => hv.below hb)
  have HSZ := Lib.hid (tokM_sz (by omega) 100 l h3)
  have HFM : Hid (depM 101 l ≤ 100 → sizeM l ≤ 6000 → flatM l = tokM 100 l) := Lib.hid fun a b => by unfold flatM; rw [if_neg (by omega)]
  have HCM : Hid (checkM l ws = if rightM isPlainB ws then if 100 < depM 101 l then 6 else if 6000 < sizeM l then 2 else match readM tokOk isPlainB (tokM 100 l) ws with
    | .ok L => if sameL false L l then 0 else 22
    | .error _ => 22
  else 1) := Lib.hid rfl
  generalize checkM l ws = cm at HCM
  obtain ⟨va, vc, rfl, _⟩ := hv
  obtain ⟨wa, wc, rfl, _⟩ := hw
  clear E h2 h3 hwz
  go_enter Tryz.func30, Tryz.ntmps30
  go_wp2_with fail
  refine HRT.out.mono ?_
  rintro e w1 ⟨rfl, hb1⟩
  have HB1 := Lib.hid hb1
  clear hb1 HRT
  cases hr : rightM isPlainB ws with
  | false =>
    have HC : Hid (cm = 1) := Lib.hid (by rw [HCM.out, hr]; rfl)
    clear HCM hr
    go_wp2_with fail
    rw [HC.out]
    exact bodyPost_ret (v := .int .i64 1) (by simp [results, Tryz.results30, go_sem]) rfl ⟨rfl, HB1.out⟩
  | true =>
    rw [hr, if_pos rfl] at HCM
    clear hr
    go_wp2_with fail
    refine (HDD.out w1 HB1.out).mono ?_
    rintro e w2 ⟨rfl, hb2⟩
    have HB2 := Lib.hid (HB1.out.trans (hb2.mono HB1.out.size))
    clear hb2
    by_cases hd : 100 < depM 101 l
    · have hd' : (100 : Int) < (depM 101 l : Int) := by omega
      have HC : Hid (cm = 6) := Lib.hid (by rw [HCM.out, if_pos hd])
      clear HCM hd
      go_wp2_with fail
      rw [HC.out]
      exact bodyPost_ret (v := .int .i64 6) (by simp [results, Tryz.results30, go_sem]) rfl ⟨rfl, HB2.out⟩
    · have hd' : ((100 : Int) < (depM 101 l : Int)) = False := by simp; omega
      rw [if_neg hd] at HCM
      have HD := Lib.hid hd
      clear hd
      go_wp2_with fail
      refine (HSS.out w2 HB2.out).mono ?_
      rintro e w3 ⟨rfl, hb3⟩
      have HB3 := Lib.hid (HB2.out.trans (hb3.mono HB2.out.size))
      clear hb3
      by_cases hs : 6000 < sizeM l
      · have hs' : (6000 : Int) < (sizeM l : Int) := by omega
        have HC : Hid (cm = 2) := Lib.hid (by rw [HCM.out, if_pos hs])
        clear HCM hs
        go_wp2_with fail
        rw [HC.out]
        exact bodyPost_ret (v := .int .i64 2) (by simp [results, Tryz.results30, go_sem]) rfl ⟨rfl, HB3.out⟩
      · have hs' : ((6000 : Int) < (sizeM l : Int)) = False := by simp; omega
        rw [if_neg hs] at HCM
        have hfm := HFM.out (by have := HD.out; omega) (by omega)
        have hff := HFF.out w3 HB3.out
        rw [hfm] at hff
        have HF3 := Lib.hid hff
        clear hs hfm hff HDD HSS HFF HFM
        go_wp2_with fail
        refine HF3.out.mono ?_
        rintro e w4 ⟨fv, rfl, hown, hb4⟩
        have HB4 := Lib.hid (HB3.out.trans (hb4.mono HB3.out.size))
        have HRR := Lib.hid (HRD.out (tokM 100 l) fv w4 HB4.out (trow_owned rfl hown) HSZ.out)
        obtain ⟨fa, fc, rfl⟩ := own_slc hown
        clear hown hb4 HF3 HRD HSZ
        go_wp2_with fail
        refine HRR.out.mono ?_
        rintro e w5 ⟨hb5, ⟨a, c, hM, rfl⟩ | ⟨L, b, cap, hM, rfl, hL⟩⟩
        · have HB5 := Lib.hid (HB4.out.trans (hb5.mono HB4.out.size))
          have hne := readM_code hM
          have HC : Hid (cm = 22) := Lib.hid (by rw [HCM.out, hM])
          have hc0 : ((c : Int) == 0) = false ∧ ((c : Int) != 0) = true := ne_int (by omega)
          obtain ⟨q1, q2⟩ := hc0
          clear hb5 hM HCM HRR hne
          go_wp2_with fail
          rw [HC.out]
          exact bodyPost_ret (v := .int .i64 22) (by simp [results, Tryz.results30, go_sem]) rfl ⟨rfl, HB5.out⟩
        · have HB5 := Lib.hid (HB4.out.trans (hb5.mono HB4.out.size))
          have hle := read_le hM
          have heq := equalI_any _ P L l (.slice b L.length cap) (.slice va l.length vc) w5 hL (HVV.out w5 HB5.out) hle.1 hle.2
          rw [hM] at HCM
          have HC : Hid (cm = if sameL false L l then 0 else 22) := Lib.hid HCM.out
          generalize sameL false L l = ss at HC heq
          have HEQ := Lib.hid heq
          clear hb5 hM HCM HRR hle heq hL
          go_wp2_with fail
          refine HEQ.out.mono ?_
          rintro e w6 ⟨rfl, hb6⟩
          have HB6 := Lib.hid (HB5.out.trans (hb6.mono HB5.out.size))
          clear hb6 HEQ
          cases ss with
          | false =>
            go_wp2_with fail
            rw [HC.out]
            exact bodyPost_ret (v := .int .i64 22) (by simp [results, Tryz.results30, go_sem]) rfl ⟨rfl, HB6.out⟩
          | true =>
            go_wp2_with fail
            rw [HC.out]
            exact bodyPost_ret (v := .int .i64 0) (by simp [results, Tryz.results30, go_sem]) rfl ⟨rfl, HB6.out⟩
end

end Go.Proofs.YtcokdapnafgnpaaGreatDoor
