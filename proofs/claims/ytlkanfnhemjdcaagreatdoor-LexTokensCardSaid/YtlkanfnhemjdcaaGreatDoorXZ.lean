/-
  The law: Check, Join, Same and Pattern are as specified.
  A list of tokens that came in, opened to its cells.
-/
import Derived.Test.YtlkanfnhemjdcaaGreatDoorXY
import Derived.Test.YtlkanfnhemjdcaaGreatDoorXI
import Derived.LoopTactic
import Derived.Test.YtlkanfnhemjdcaaGreatDoorXU
import Derived.Deep.Slices
import Derived.Carry
import Derived.SevenTiedAt
namespace Go.Proofs.YtlkanfnhemjdcaaGreatDoor
section
open Go.RowKit

set_option maxHeartbeats 8000000 in
set_option maxRecDepth 100000 in
theorem tokens_any (v1 v2 : Value) (l m : List Tk) (hl : l.length ≤ 2932031007402) (hml : m.length ≤ 140737488351232) (hs : ∀ x ∈ l, (txt x).size ≤ 140737488351232) (w : World) (E : Env w) (h1 : KRow w v1 l) (h2 : KRow w v2 m) :
    Calls Tryz.prog 6 #[v1, v2] w fun e w' => e = .returned (.bool true) ∧ Below w.heap.size w w' := by
  have HS := Lib.hid (sane_any w E)
  have HE := Lib.hid (fun (W : World) (h : Below w.heap.size w W) => E.below E.size h)
  have HJ1 := Lib.hid (fun W E h => lexJoin_any v1 l hl hs W E h)
  have HJ2 := Lib.hid (fun W h => rJoin_any v1 l hl W h)
  have HM1 := Lib.hid (fun W h1 h2 => lexSame_any v1 v2 l m hml W h1 h2)
  have HM2 := Lib.hid (fun W h1 h2 => rSameT_any v1 v2 l m hml W h1 h2)
  have HR1 := Lib.hid (fun W (hB : Below w.heap.size w W) => h1.below hB)
  have HR2 := Lib.hid (fun W (hB : Below w.heap.size w W) => h2.below hB)
  obtain ⟨b1, c1, rfl, hk1⟩ := h1
  have HK : Hid (l ≠ [] → ∃ g o, b1 = some ⟨g, o, none⟩ ∧ ∀ W, Below w.heap.size w W → g < W.heap.size ∧ KAt W g o l) := Lib.hid (fun hne => by
    obtain ⟨g, o, hb, hg, hk⟩ := hk1 hne
    exact ⟨g, o, hb, fun W hB => ⟨Nat.lt_of_lt_of_le hg hB.size, hk.below hg hB⟩⟩)
  have HSZ := Lib.hid hs
  clear hk1 h2 E hs
  go_enter Tryz.func6, Tryz.ntmps6
  go_wp2_with fail
  refine HS.out.mono ?_
  rintro e w1 ⟨rfl, hb1⟩
  have B1 := Lib.hid hb1
  clear hb1 HS
  go_wp2_with fail
  go_loopw [6] (fun iv wr => ∃ k : Nat, k ≤ l.length ∧ iv = .int .i64 (k : Int) ∧ Hid (Below w.heap.size w wr)) (fun iv _ => l.length - (intOf iv).toNat)
  case atStart => exact ⟨0, by omega, rfl, B1⟩
  case round =>
    obtain ⟨k, hk, rfl, hbe⟩ := hrel
    have hw : IntKind.i64.wrap ((k : Int) + 1) = (k : Int) + 1 := IntWalk.i64_in _ (by omega)
    by_cases hlt : k < l.length
    · obtain ⟨⟨x1, x2, x3, x4, x5⟩, hx⟩ : ∃ x, l[k]? = some x := ⟨_, List.getElem?_eq_getElem (by omega)⟩
      obtain ⟨g, o, rfl, hat⟩ := HK.out (by rintro rfl; simp at hlt)
      have h1 : (k : Int) < (l.length : Int) := by omega
      have hxs := HSZ.out _ (List.mem_iff_getElem?.2 ⟨k, hx⟩)
      have HP1 := Lib.hid (fun W E => lexPattern_any x1 x2 x3 x4 x5 hxs W E)
      have HP2 := Lib.hid (fun W => rPattern_any x1 x2 x3 x4 x5 W)
      have HC1 := Lib.hid (fun W E => check_any x1 x2 x3 x4 x5 hxs W E)
      have HC2 := Lib.hid (fun W => rCheck_any x1 x2 x3 x4 x5 W)
      have HCE : Hid (∀ W, Below w.heap.size w W → g < W.heap.size ∧ W.cell? ⟨g, o + k * 5, none⟩ = some (.int .i64 x1) ∧ W.cell? ⟨g, o + k * 5 + 1, none⟩ = some (.int .i64 x2) ∧ W.cell? ⟨g, o + k * 5 + 2, none⟩ = some (.string x3) ∧ W.cell? ⟨g, o + k * 5 + 3, none⟩ = some (.int .i64 x4) ∧ W.cell? ⟨g, o + k * 5 + 4, none⟩ = some (.int .i64 x5)) := Lib.hid (fun W hB => ⟨(hat W hB).1, (hat W hB).2 k _ hx⟩)
      generalize patV (x1, x2, x3, x4, x5) = pv at HP1 HP2
      generalize chkN (x1, x2, x3, x4, x5) = cn at HC1 HC2
      clear hxs hat hx
      obtain ⟨q1, q2⟩ := pv
      obtain ⟨_, l0, l1, l2, l3, l4⟩ := HCE.out _ hbe.out
      go_wp2_with fail
      refine (HP1.out _ (HE.out _ hbe.out)).mono ?_
      rintro e w2 ⟨rfl, b2⟩
      have B2 := Lib.hid (hbe.out.trans (b2.mono hbe.out.size))
      clear b2 HP1 l0 l1 l2 l3 l4
      obtain ⟨_, l0, l1, l2, l3, l4⟩ := HCE.out _ B2.out
      go_wp2_with fail
      refine (HP2.out _).mono ?_
      rintro e w3 ⟨rfl, b3⟩
      have B3 := Lib.hid (B2.out.trans (b3.mono B2.out.size))
      clear b3 HP2 l0 l1 l2 l3 l4 B2
      obtain ⟨hg3, l0, l1, l2, l3, l4⟩ := HCE.out _ B3.out
      have c0 := fun x : BW w3 => x.cell l0 hg3
      have c1 := fun x : BW w3 => x.cell l1 hg3
      have c2 := fun x : BW w3 => x.cell l2 hg3
      have c3 := fun x : BW w3 => x.cell l3 hg3
      have c4 := fun x : BW w3 => x.cell l4 hg3
      have HEX : Hid (∀ x : BW w3, Env x.val) := Lib.hid (fun x => HE.out _ (B3.out.trans (x.prop.mono B3.out.size)))
      go_wp2_with fail
      refine region_below (by kernel_rfl) (by kernel_rfl) ?_
      repeat (go_big_quiet_step ((first | (go_at_call 29; exact calls_bw (HC1.out _ (HEX.out _))) | (go_at_call 30; exact calls_bw (HC2.out _)))))
      refine wpQuiet_nil ?_
      rintro _ ⟨⟨w4, b4⟩, rfl⟩
      have B4 := Lib.hid (B3.out.trans (b4.mono B3.out.size))
      clear c0 c1 c2 c3 c4 b4 l0 l1 l2 l3 l4
      go_wp2_with fail
      exact ⟨⟨k + 1, hlt, by simp, B4⟩, by simp only [intOf]; omega⟩
    · have hkl : k = l.length := by omega
      subst hkl
      go_wp2_with (first
        | (go_at_call 31; refine (HJ1.out _ (HE.out _ hbe.out) (HR1.out _ hbe.out)).mono ?_; rintro e w2 ⟨rfl, b2⟩; have B2 := Lib.hid (hbe.out.trans (b2.mono hbe.out.size)); clear b2)
        | (go_at_call 32; refine (HJ2.out _ (HR1.out _ B2.out)).mono ?_; rintro e w3 ⟨rfl, b3⟩; have B3 := Lib.hid (B2.out.trans (b3.mono B2.out.size)); clear b3)
        | (go_at_call 33; refine (HM1.out _ (HR1.out _ B3.out) (HR2.out _ B3.out)).mono ?_; rintro e w4 ⟨rfl, b4⟩; have B4 := Lib.hid (B3.out.trans (b4.mono B3.out.size)); clear b4)
        | (go_at_call 34; refine (HM2.out _ (HR1.out _ B4.out) (HR2.out _ B4.out)).mono ?_; rintro e w5 ⟨rfl, b5⟩; have B5 := Lib.hid (B4.out.trans (b5.mono B4.out.size)); clear b5))
      exact bodyPost_ret (v := .bool true) (by simp [results, Tryz.results6, go_sem]) rfl ⟨rfl, B5.out⟩
end

section
open Go.ChangeShapes Go.WideShapes Go.ChangeAt Go.RowKit Go.WideMaps Go.ChangeMaps Go.Deep

theorem cellsTok : Tryz.prog.cellsOf 51 = 5 := by kernel_rfl
theorem bytesTok : Tryz.prog.bytesOf 51 = 48 := by kernel_rfl
theorem laidOut : laidOutB Tryz.prog = true := by kernel_rfl
theorem fieldsTok : (Tryz.prog.fieldsOf 51).toList.map (fun f => (f.type, f.offset)) = [(3, 0), (3, 1), (9, 2), (3, 3), (3, 4)] := by kernel_rfl
theorem cellsI : Tryz.prog.cellsOf 3 = 1 := by kernel_rfl
theorem cellsStr : Tryz.prog.cellsOf 9 = 1 := by kernel_rfl

section
variable {H : Type} {enc : TypeId × Value → H} {W : World}

theorem five {α : Type} {l : List α} (h : l.length = 5) : ∃ a b c d e, l = [a, b, c, d, e] := by
  rcases l with _ | ⟨a, _ | ⟨b, _ | ⟨c, _ | ⟨d, _ | ⟨e, _ | ⟨f, l⟩⟩⟩⟩⟩⟩ <;> simp at h
  exact ⟨a, b, c, d, e, rfl⟩
set_option maxRecDepth 100000 in
/-- Five cells that read as a token are a token's. -/
theorem tok_open {n : Nat} {cs : List Value} {x : DataW H × List MemPlace} (h : DataW.trod enc Tryz.prog W 0 (fun _ => true) true n 51 cs = some x) :
    ∃ y : Tk, cs = [.int .i64 y.1, .int .i64 y.2.1, .string y.2.2.1, .int .i64 y.2.2.2.1, .int .i64 y.2.2.2.2] ∧
      x.1 = .agg [.lit (.int .i64 y.1), .lit (.int .i64 y.2.1), .lit (.string y.2.2.1.data.toList), .lit (.int .i64 y.2.2.2.1), .lit (.int .i64 y.2.2.2.2)] := by
  have hS : Tryz.prog.underlying 51 = some (.struct (Tryz.prog.fieldsOf 51)) := by kernel_rfl
  obtain ⟨xs, m, _, hx, hl, hxl, hf⟩ := DataW.trod_struct hS h
  have hF := fieldsTok
  generalize Tryz.prog.fieldsOf 51 = fs at hF hxl hf
  rw [cellsTok] at hl
  obtain ⟨l⟩ := fs
  obtain ⟨f0, f1, f2, f3, f4, rfl⟩ := five (l := l) (by have := congrArg List.length hF; simpa using this)
  simp only [List.map_cons, List.map_nil, List.cons.injEq, Prod.mk.injEq, and_true] at hF
  obtain ⟨⟨a0, b0⟩, ⟨a1, b1⟩, ⟨a2, b2⟩, ⟨a3, b3⟩, a4, b4⟩ := hF
  obtain ⟨c0, c1, c2, c3, c4, rfl⟩ := five hl
  obtain ⟨x0, x1, x2, x3, x4, rfl⟩ := five (l := xs) (by rw [hxl]; rfl)
  have g0 := hf 0 f0 rfl
  have g1 := hf 1 f1 rfl
  have g2 := hf 2 f2 rfl
  have g3 := hf 3 f3 rfl
  have g4 := hf 4 f4 rfl
  rw [a0, b0, cellsI] at g0
  rw [a1, b1, cellsI] at g1
  rw [a2, b2, cellsStr] at g2
  rw [a3, b3, cellsI] at g3
  rw [a4, b4, cellsI] at g4
  simp only [List.drop_zero, List.take_succ_cons, List.take_zero, List.drop_succ_cons, List.getElem?_cons_zero, List.getElem?_cons_succ] at g0 g1 g2 g3 g4
  obtain ⟨k, e0, rfl, _⟩ := DataW.trod_int Tryz.underlying3 g0
  obtain ⟨q, e1, rfl, _⟩ := DataW.trod_int Tryz.underlying3 g1
  obtain ⟨s, e2, rfl, _⟩ := DataW.trod_string Tryz.underlying9 g2
  obtain ⟨a, e3, rfl, _⟩ := DataW.trod_int Tryz.underlying3 g3
  obtain ⟨b, e4, rfl, _⟩ := DataW.trod_int Tryz.underlying3 g4
  simp only [List.cons.injEq, and_true] at e0 e1 e2 e3 e4
  subst e0 e1 e2 e3 e4
  exact ⟨(k, q, s, a, b), rfl, by rw [hx]; rfl⟩

theorem add_off (g o n : Nat) : (⟨g, o, none⟩ : Addr).add n = ⟨g, o + n, none⟩ := by unfold Addr.add; split <;> simp_all
theorem weights_mem {e : TypeId} {q : Nat → Bool} : ∀ {l : List (DataW H)} {x : DataW H}, (DataW.weightsAll Tryz.prog e l).all q = true → x ∈ l → (x.weights Tryz.prog e).all q = true
  | [], _, _, h => by cases h
  | y :: r, x, hw, h => by
    rw [DataW.weightsAll, List.all_append, Bool.and_eq_true] at hw
    rcases List.mem_cons.1 h with rfl | h
    · exact hw.1
    · exact weights_mem hw.2 h
theorem typesTok : (Tryz.prog.fieldsOf 51).toList.map (·.type) = [3, 3, 9, 3, 3] := by kernel_rfl
set_option maxRecDepth 100000 in
theorem weight_tok {y : Tk} (h : ((DataW.agg [.lit (.int .i64 y.1), .lit (.int .i64 y.2.1), .lit (.string y.2.2.1.data.toList), .lit (.int .i64 y.2.2.2.1), .lit (.int .i64 y.2.2.2.2)] : DataW H).weights Tryz.prog 51).all (· ≤ reachBytes) = true) : (txt y).size ≤ reachBytes := by
  have hS : Tryz.prog.underlying 51 = some (.struct (Tryz.prog.fieldsOf 51)) := by kernel_rfl
  unfold DataW.weights at h
  rw [hS] at h
  simp only [typesTok] at h
  show y.2.2.1.size ≤ reachBytes
  simpa [DataW.weightsEach, DataW.weights] using h

theorem choose_tok {n : Nat} {p : Nat → Tk → Prop} (h : ∀ i, i < n → ∃ y, p i y) : ∃ f : Nat → Tk, ∀ i, i < n → p i (f i) := by
  refine ⟨fun i => if hi : i < n then Classical.choose (h i hi) else (0, 0, ⟨#[]⟩, 0, 0), fun i hi => ?_⟩
  simp only [hi, dif_pos]
  exact Classical.choose_spec (h i hi)

set_option maxRecDepth 100000 in
/-- A list of tokens that came in. -/
theorem toks_open {base : Nat} {v : Value} {d : DataW H} {p : List MemPlace} (hv : Value.okWide Tryz.prog W .any base 30 v) (h : DataW.Trod enc Tryz.prog W 0 (fun _ => true) true 30 v d p)
    (hw : (d.weights Tryz.prog 30).all (· ≤ reachBytes) = true) :
    ∃ l : List Tk, KRow W v l ∧ l.length * 48 ≤ reachBytes ∧ ∀ x ∈ l, (txt x).size ≤ reachBytes := by
  obtain ⟨b, len, cap, rfl⟩ := okWide_slice Tryz.underlying30 hv
  obtain ⟨fuel, h⟩ := h
  rcases open_slice Tryz.underlying30 h with ⟨hc, hx⟩ | ⟨a, len', cap', m, n, D, Pl, hc, _, hl, hm, hmm, hx, hel⟩
  · simp [Value.cells] at hc
    obtain ⟨rfl, rfl, rfl⟩ := hc
    exact ⟨[], ⟨none, 0, rfl, fun h => absurd rfl h⟩, by simp, fun x hx => by cases hx⟩
  · simp [Value.cells] at hc
    obtain ⟨rfl, rfl, rfl⟩ := hc
    simp only [if_true] at hmm
    subst hmm
    rw [cellsTok] at hel
    obtain ⟨f, hf⟩ := choose_tok (n := m) (p := fun i y => (∀ j u, j < 5 → [Value.int .i64 y.1, .int .i64 y.2.1, .string y.2.2.1, .int .i64 y.2.2.2.1, .int .i64 y.2.2.2.2][j]? = some u → W.cell? ((a.add (i * 5)).add j) = some u) ∧
        D i = .agg [.lit (.int .i64 y.1), .lit (.int .i64 y.2.1), .lit (.string y.2.2.1.data.toList), .lit (.int .i64 y.2.2.2.1), .lit (.int .i64 y.2.2.2.2)]) (fun i hi => by
      obtain ⟨cs', h1, h2⟩ := hel i hi
      obtain ⟨y, e1, e2⟩ := tok_open h2
      obtain ⟨_, _, h3⟩ := World.cells?_some h1
      refine ⟨y, fun j u hj hu => ?_, e2⟩
      rw [h3 j hj, e1]
      exact hu)
    have hd : d = .slice ((List.range len).map D) ((List.range (m - len)).map fun j => D (len + j)) := congrArg Prod.fst hx
    rw [hd] at hw
    unfold DataW.weights at hw
    rw [Tryz.underlying30] at hw
    simp only [List.all_cons, List.all_append, Bool.and_eq_true, decide_eq_true_eq, List.length_map, List.length_range, bytesTok] at hw
    obtain ⟨h48, hall, _⟩ := hw
    refine ⟨(List.range len).map f, ⟨some a, m, by rw [List.length_map, List.length_range], fun hne => ?_⟩, by rw [List.length_map, List.length_range]; exact Nat.le_trans (Nat.mul_le_mul_right _ (by omega)) h48, fun x hx => ?_⟩
    · have h0 : 0 < len := by
        apply Nat.pos_of_ne_zero; rintro rfl; exact hne rfl
      have c0 := (hf 0 (by omega)).1 0 _ (by omega) rfl
      obtain ⟨g, o, spot⟩ := a
      have hspot : spot = none := by simpa [Addr.add] using World.cell?_spot c0
      subst hspot
      refine ⟨g, o, rfl, by have := World.block_lt_of_cell? W _ c0; rw [add_off, add_off] at this; exact this, fun i x hi => ?_⟩
      have hil : i < len := by have := (List.getElem?_eq_some_iff.1 hi).1; simpa using this
      rw [List.getElem?_map, List.getElem?_range hil] at hi
      simp only [Option.map_some, Option.some.injEq] at hi
      subst hi
      have hc := (hf i (by omega)).1
      rw [add_off] at hc
      exact ⟨by simpa [add_off] using hc 0 _ (by omega) rfl, by simpa [add_off] using hc 1 _ (by omega) rfl, by simpa [add_off] using hc 2 _ (by omega) rfl, by simpa [add_off] using hc 3 _ (by omega) rfl, by simpa [add_off] using hc 4 _ (by omega) rfl⟩
    · obtain ⟨i, hi, rfl⟩ := List.mem_map.1 hx
      have hil : i < len := by simpa using hi
      have hq := weights_mem hall (List.mem_map.2 ⟨i, hi, rfl⟩)
      rw [(hf i (by omega)).2] at hq
      exact weight_tok hq
end
end

end Go.Proofs.YtlkanfnhemjdcaaGreatDoor
