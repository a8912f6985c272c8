/-
  The laws' scanner, and the constants of their first look.
  The laws' first look.
  The law: a list that is refused is refused at the same place, whatever stands behind.
-/
import Derived.Test.YtafncodigpjkaaaGreatDoorFGB
import Derived.Test.YtafncodigpjkaaaGreatDoorXN
import Derived.Deep.Upon
import Derived.Deep.AppendLies
namespace Go.Proofs.YtafncodigpjkaaaGreatDoor
section
open Go.RowKit

/-- A token of the lexer's. -/
def tkT (t : ByteArray) (x : Nat × Nat × Nat) : Tkn := ((x.1 : Int), numT t x, cutB t x.2.1 x.2.2, (x.2.1 : Int), 0)
def toksT (t : ByteArray) : List Tkn := (toksR t).map (tkT t)
theorem cellsT_tk (t : ByteArray) (x : Nat × Nat × Nat) : cellsT t x = tkL (tkT t x) := rfl
theorem trow_of_owns {W : World} {base : Nat} {v : Value} {t : ByteArray} {l : List (Nat × Nat × Nat)} (h : W.ownsRow base 50 5 v l.length (flatT t l)) : TRow W (fun g => base ≤ g) v (l.map (tkT t)) := by
  have hc := fun g => h.cells (g := g)
  rcases h.2 with ⟨rfl, hn⟩ | ⟨g, cap, cur, rfl, hb, hg, _⟩
  · have : l = [] := List.length_eq_zero_iff.1 hn
    subst this
    exact ⟨_, _, rfl, fun h => absurd rfl h⟩
  · refine ⟨some ⟨g, 0, none⟩, cap, by rw [List.length_map], fun _ => ⟨g, 0, rfl, hb, (Array.getElem?_eq_some_iff.1 hg).1, fun i x hx => ?_⟩⟩
    rw [List.getElem?_map] at hx
    obtain ⟨y, hy, rfl⟩ := Option.map_eq_some_iff.1 hx
    have hk : ∀ j u, j < 5 → (tkL (tkT t y))[j]? = some u → W.cell? ⟨g, 0 + i * 5 + j, none⟩ = some u := fun j u hj hu => by
      have := hc g rfl (i * 5 + j) u (by unfold flatT; rw [flatMap_get (cellsT t) 5 l i j y (fun _ _ => rfl) hy hj, cellsT_tk]; exact hu)
      rw [addr_zero] at this
      rw [Nat.zero_add]
      exact this
    exact ⟨hk 0 _ (by omega) rfl, hk 1 _ (by omega) rfl, hk 2 _ (by omega) rfl, hk 3 _ (by omega) rfl, hk 4 _ (by omega) rfl⟩
theorem field_scan (b : Option Addr) (n c : Nat) (x y : Int) (w : World) : (Instr.field 88 (.agg #[.slice b n c, .int .i64 x, .int .i64 y]) 0).run Tryz.prog w = .ok (.slice b n c) w := by kernel_rfl
set_option maxRecDepth 100000 in
set_option maxHeartbeats 2000000 in
theorem scan_any (t : ByteArray) (W : World) : Calls Tryz.prog 38 #[.string t] W fun e w' => (∃ b c, e = .returned (.slice b (toksT t).length c) ∧ TRow w' (fun g => W.heap.size ≤ g) (.slice b (toksT t).length c) (toksT t)) ∧ Below W.heap.size W w' := by
  have H := Lib.hid (rScan_any t W)
  have hfd := field_scan
  go_enter Tryz.func38, Tryz.ntmps38
  go_wp2_with fail
  refine H.out.mono ?_
  rintro e w1 ⟨v, rfl, hrow, hb⟩
  obtain ⟨b, c, rfl, hr⟩ := trow_of_owns hrow
  have HT : Hid (TRow w1 (fun g => W.heap.size ≤ g) (.slice b (toksT t).length c) (toksT t)) := Lib.hid ⟨b, c, rfl, hr⟩
  have HB := Lib.hid hb
  clear hrow hb hr H
  go_wp2_with fail
  exact bodyPost_ret (v := .slice b (toksT t).length c) (by simp [results, Tryz.results38, go_sem, toksT]) rfl ⟨⟨b, c, rfl, HT.out⟩, HB.out⟩

def tx1 : ByteArray := ⟨#[102, 40, 120, 44, 32, 91, 49, 93, 41]⟩
def tx2 : ByteArray := ⟨#[100, 101, 102, 105, 110, 101, 32, 109, 101, 116, 104, 111, 100, 32, 97, 114, 101, 97, 32, 40, 115, 41, 32, 115, 32, 101, 110, 100, 32, 109, 101, 116, 104, 111, 100, 32, 97, 114, 101, 97, 59]⟩
def tx3 : ByteArray := ⟨#[98, 101, 103, 105, 110, 32, 40, 101, 110, 100, 41]⟩
def tx4 : ByteArray := ⟨#[105, 102, 32, 40, 97, 41, 32, 98]⟩
def tx5 : ByteArray := ⟨#[119, 104, 105, 108, 101, 32, 40, 97, 41, 32, 98, 32, 101, 110, 100]⟩
def tx6 : ByteArray := ⟨#[99, 108, 97, 115, 115, 32, 115, 108, 111, 116, 32, 120]⟩
def sWhile : ByteArray := ⟨#[119, 104, 105, 108, 101]⟩
theorem tx_small : ∀ t ∈ [tx1, tx2, tx3, tx4, tx5, tx6], ∀ x ∈ toksT t, (x.2.2.1 : ByteArray).size ≤ 140737488351232 := by
  intro t ht x hx
  obtain ⟨y, _, rfl⟩ := List.mem_map.1 hx
  show (cutB t y.2.1 y.2.2).size ≤ 140737488351232
  have h1 : t.size ≤ 100 := by
    simp only [List.mem_cons, List.not_mem_nil, or_false] at ht
    rcases ht with rfl | rfl | rfl | rfl | rfl | rfl <;> decide
  unfold cutB
  rw [ByteArray.size_extract]
  omega
def errIs (r : Except (Nat × Nat) (List Fg)) (p : Nat × Nat) : Bool := match r with
  | .error q => decide (q = p)
  | .ok _ => false
def okIs (r : Except (Nat × Nat) (List Fg)) (f : List Fg → Bool) : Bool := match r with
  | .error _ => false
  | .ok l => f l
theorem errIs_eq {r : Except (Nat × Nat) (List Fg)} {p : Nat × Nat} (h : errIs r p = true) : r = .error p := by
  cases r with
  | error q => simp only [errIs, decide_eq_true_eq] at h; rw [h]
  | ok l => simp [errIs] at h
theorem okIs_eq {r : Except (Nat × Nat) (List Fg)} {f : List Fg → Bool} (h : okIs r f = true) : ∃ l, r = .ok l ∧ f l = true := by
  cases r with
  | error q => simp [okIs] at h
  | ok l => exact ⟨l, rfl, h⟩
mutual
def fgLeB (B : Nat) : Fg → Bool
  | .mk _ _ ks => decide (ks.length ≤ B) && fgsLeB B ks
def fgsLeB (B : Nat) : List Fg → Bool
  | [] => true
  | x :: r => fgLeB B x && fgsLeB B r
end
mutual
theorem fgLeB_le {B : Nat} : ∀ {x : Fg}, fgLeB B x = true → FgLe B x
  | .mk t o ks, h => by
    unfold fgLeB at h
    rw [Bool.and_eq_true, decide_eq_true_eq] at h
    unfold FgLe
    exact ⟨h.1, fgsLeB_le h.2⟩
theorem fgsLeB_le {B : Nat} : ∀ {l : List Fg}, fgsLeB B l = true → FgsLe B l
  | [], _ => by unfold FgsLe; trivial
  | x :: r, h => by
    unfold fgsLeB at h
    rw [Bool.and_eq_true] at h
    unfold FgsLe
    exact ⟨fgLeB_le h.1, fgsLeB_le h.2⟩
end
/-- What the first text reads as. -/
def good1 (l : List Fg) : Bool := decide (l.length = 2) && (match l[1]? with
  | some x => decide (x.opn = sPar) && decide (x.kids.length = 3) && (match x.kids[2]? with
    | some y => decide (y.opn = sBra)
    | none => false)
  | none => false) && fgsLeB 100 l && decide (sizeM l = 8) && decide (depM 101 l = 2)
def good2 (l : List Fg) : Bool := decide (l.length = 3) && (match l[1]? with
  | some x => decide (x.opn = sMethod) && decide (x.kids.length = 3)
  | none => false)
def goodN (n : Nat) (l : List Fg) : Bool := decide (l.length = n)
theorem rd1 : okIs (readM tokOk isPlainB (toksT tx1) []) good1 = true := by decide +kernel
theorem rd2 : okIs (readM tokOk isPlainB (toksT tx2) []) good2 = true := by decide +kernel
theorem rd3 : errIs (readM tokOk isPlainB (toksT tx3) []) (2, 20) = true := by decide +kernel
theorem rd4 : errIs (readM tokOk isPlainB (toksT tx4) []) (0, 21) = true := by decide +kernel
theorem rd5 : okIs (readM tokOk isPlainB (toksT tx5) [sWhile]) (goodN 1) = true := by decide +kernel
theorem rd6 : errIs (readM tokOk isPlainB (toksT tx5) []) (5, 20) = true := by decide +kernel
theorem rd7 : okIs (readM tokOk isPlainB (toksT tx6) []) (goodN 3) = true := by decide +kernel
end

section
open Go.RowKit

theorem trow_below {w w' : World} {Q : Nat → Prop} {v : Value} {l : List Tkn} (h : TRow w Q v l) (hb : Below w.heap.size w w') : TRow w' (fun _ => True) v l := by
  obtain ⟨b, c, rfl, hr⟩ := h
  refine ⟨b, c, rfl, fun hn => ?_⟩
  obtain ⟨g, o, e, _, hg, hat⟩ := hr hn
  refine ⟨g, o, e, trivial, by have := hb.size; omega, fun i x hx => ?_⟩
  obtain ⟨e0, e1, e2, e3, e4⟩ := hat i x hx
  exact ⟨(hb.cell (p := ⟨g, _, none⟩) hg).trans e0, (hb.cell (p := ⟨g, _, none⟩) hg).trans e1, (hb.cell (p := ⟨g, _, none⟩) hg).trans e2, (hb.cell (p := ⟨g, _, none⟩) hg).trans e3, (hb.cell (p := ⟨g, _, none⟩) hg).trans e4⟩
theorem ReadPost.ok {l : List Tkn} {ws : List ByteArray} {W w' : World} {e : Ending} {f : List Fg → Bool} (h : ReadPost l ws W e w') (hr : okIs (readM tokOk isPlainB l ws) f = true) :
    Below W.heap.size W w' ∧ ∃ L b cap, f L = true ∧ e = .returned (.tuple #[.slice b L.length cap, .int .i64 0, .int .i64 0]) ∧ FVal w' (fun g => W.heap.size ≤ g) (.slice b L.length cap) L := by
  obtain ⟨L, hL, hf⟩ := okIs_eq hr
  obtain ⟨hb, ⟨a, c, h1, _⟩ | ⟨L', b, cap, h1, h2, h3⟩⟩ := h
  · rw [hL] at h1; cases h1
  · rw [hL] at h1
    cases h1
    exact ⟨hb, _, b, cap, hf, h2, h3⟩
theorem ReadPost.err {l : List Tkn} {ws : List ByteArray} {W w' : World} {e : Ending} {a c : Nat} (h : ReadPost l ws W e w') (hr : errIs (readM tokOk isPlainB l ws) (a, c) = true) :
    Below W.heap.size W w' ∧ e = .returned (.tuple #[.slice none 0 0, .int .i64 (a : Int), .int .i64 (c : Int)]) := by
  have hL := errIs_eq hr
  obtain ⟨hb, ⟨a', c', h1, h2⟩ | ⟨L', b, cap, h1, h2, h3⟩⟩ := h
  · rw [hL] at h1
    cases h1
    exact ⟨hb, h2⟩
  · rw [hL] at h1; cases h1
theorem read_nil {t : ByteArray} (ht : t ∈ [tx1, tx2, tx3, tx4, tx5, tx6]) {Q : Nat → Prop} {W : World} (E : Env W) {v : Value} (hv : TRow W Q v (toksT t)) : Calls Tryz.prog 9 #[v, .slice none 0 0] W (ReadPost (toksT t) [] W) := by
  obtain ⟨b, c, rfl, hr⟩ := hv
  refine readF_any (toksT t) _ [] (.slice none 0 0) W E ⟨b, c, rfl, fun h => ?_⟩ ⟨none, 0, rfl, fun h => absurd rfl h⟩ (tx_small t ht) (by simp)
  obtain ⟨g, o, h1, _, h3, h4⟩ := hr h
  exact ⟨g, o, h1, trivial, h3, h4⟩
mutual
theorem fgLe_mono {B B' : Nat} (hb : B ≤ B') : ∀ {x : Fg}, FgLe B x → FgLe B' x
  | .mk t o ks, h => by
    unfold FgLe at h ⊢
    exact ⟨by omega, fgsLe_up hb h.2⟩
theorem fgsLe_up {B B' : Nat} (hb : B ≤ B') : ∀ {l : List Fg}, FgsLe B l → FgsLe B' l
  | [], _ => by unfold FgsLe; trivial
  | x :: r, h => by
    unfold FgsLe at h ⊢
    exact ⟨fgLe_mono hb h.1, fgsLe_up hb h.2⟩
end
theorem good1_look {L : List Fg} {w : World} {P : Nat → Prop} {b : Option Addr} {cap : Nat} (hg : good1 L = true) (hv : FVal w P (.slice b L.length cap) L) :
    L.length = 2 ∧ FgsLe 140737488351232 L ∧ sizeM L = 8 ∧ depM 101 L = 2 ∧ ∃ g o g' o' kc, b = some ⟨g, o, none⟩ ∧ ∀ w', Below w.heap.size w w' → w'.cell? ⟨g, o + 7 + 5, none⟩ = some (.string ⟨#[40]⟩) ∧ w'.cell? ⟨g, o + 7 + 6, none⟩ = some (.slice (some ⟨g', o', none⟩) 3 kc) ∧ w'.cell? ⟨g', o' + 14 + 5, none⟩ = some (.string ⟨#[91]⟩) := by
  unfold good1 at hg
  rw [Bool.and_eq_true, Bool.and_eq_true, Bool.and_eq_true, Bool.and_eq_true, decide_eq_true_eq, decide_eq_true_eq, decide_eq_true_eq] at hg
  obtain ⟨⟨⟨⟨h1, h2⟩, h3⟩, h4⟩, h5⟩ := hg
  refine ⟨h1, fgsLe_up (B := 100) (by omega) (fgsLeB_le h3), h4, h5, ?_⟩
  cases hx : L[1]? with
  | none => rw [hx] at h2; cases h2
  | some x =>
    rw [hx] at h2
    simp only [Bool.and_eq_true, decide_eq_true_eq] at h2
    obtain ⟨⟨ho, hk⟩, hy⟩ := h2
    cases hyy : x.kids[2]? with
    | none => rw [hyy] at hy; cases hy
    | some y =>
      rw [hyy] at hy
      simp only [decide_eq_true_eq] at hy
      refine ?_
      obtain ⟨a, c, e, hr⟩ := id hv
      obtain ⟨g, o, rfl, hp, hgz, hrow⟩ := hr (by rintro rfl; cases hx)
      cases e
      obtain ⟨kv, hcell, ka, kc, rfl, hkr⟩ := (hrow.get hx).parts
      obtain ⟨g', o', rfl, hp', hgz', hrow'⟩ := hkr (by intro hn; rw [hn] at hyy; cases hyy)
      obtain ⟨kv2, hcell2, _⟩ := (hrow'.get hyy).parts
      refine ⟨g, o, g', o', kc, rfl, fun w' hb => ⟨?_, ?_, ?_⟩⟩
      · exact (hb.cell (p := ⟨g, o + 7 + 5, none⟩) hgz).trans ((hcell 5 (.string x.opn) rfl).trans (by rw [ho]; rfl))
      · exact (hb.cell (p := ⟨g, o + 7 + 6, none⟩) hgz).trans ((hcell 6 _ rfl).trans (by rw [hk]))
      · exact (hb.cell (p := ⟨g', o' + 14 + 5, none⟩) hgz').trans ((hcell2 5 (.string y.opn) rfl).trans (by rw [hy]; rfl))
theorem good2_look {L : List Fg} {w : World} {P : Nat → Prop} {b : Option Addr} {cap : Nat} (hg : good2 L = true) (hv : FVal w P (.slice b L.length cap) L) :
    L.length = 3 ∧ ∃ g o ka kc, b = some ⟨g, o, none⟩ ∧ ∀ w', Below w.heap.size w w' → w'.cell? ⟨g, o + 7 + 5, none⟩ = some (.string ⟨#[109, 101, 116, 104, 111, 100]⟩) ∧ w'.cell? ⟨g, o + 7 + 6, none⟩ = some (.slice ka 3 kc) := by
  unfold good2 at hg
  rw [Bool.and_eq_true, decide_eq_true_eq] at hg
  obtain ⟨h1, h2⟩ := hg
  refine ⟨h1, ?_⟩
  cases hx : L[1]? with
  | none => rw [hx] at h2; cases h2
  | some x =>
    rw [hx] at h2
    simp only [Bool.and_eq_true, decide_eq_true_eq] at h2
    obtain ⟨a, c, e, hr⟩ := id hv
    obtain ⟨g, o, rfl, hp, hgz, hrow⟩ := hr (by rintro rfl; cases hx)
    cases e
    obtain ⟨kv, hcell, ka, kc, rfl, hkr⟩ := (hrow.get hx).parts
    refine ⟨g, o, ka, kc, rfl, fun w' hb => ⟨?_, ?_⟩⟩
    · exact (hb.cell (p := ⟨g, o + 7 + 5, none⟩) hgz).trans ((hcell 5 (.string x.opn) rfl).trans (by rw [h2.1]; rfl))
    · exact (hb.cell (p := ⟨g, o + 7 + 6, none⟩) hgz).trans ((hcell 6 _ rfl).trans (by rw [h2.2]))
set_option maxRecDepth 100000 in
set_option maxHeartbeats 16000000 in
theorem sane_any (W : World) (E : Env W) : Calls Tryz.prog 8 #[] W fun e w' => e = .returned (.bool true) ∧ Below W.heap.size W w' := by
  have HE := Lib.hid (fun (w' : World) (h : Below W.heap.size W w') => E.below E.size h)
  clear E
  have HSC := Lib.hid (fun (t : ByteArray) (W : World) => scan_any t W)
  go_enter Tryz.func8, Tryz.ntmps8
  go_wp2_with fail
  refine (HSC.out tx1 _).mono ?_
  rintro e w1 ⟨⟨b1, c1, rfl, ht1⟩, hb1⟩
  have HR1 := Lib.hid (read_nil (t := tx1) (by simp) (HE.out _ hb1) ht1)
  have HB1 := Lib.hid hb1
  clear hb1 ht1
  go_wp2_with fail
  refine HR1.out.mono ?_
  intro e w2 hpost
  obtain ⟨hb2, L1, a1, k1, hg1, rfl, hv1⟩ := hpost.ok rd1
  obtain ⟨n1, l1, z1, p1, g1, o1, g1', o1', kc1, rfl, hc1⟩ := good1_look hg1 hv1
  have HC1 := Lib.hid hc1
  have HV1 := Lib.hid hv1
  have HB2 := Lib.hid (HB1.out.trans (hb2.mono HB1.out.size))
  have HL1 := Lib.hid l1; have HZ1 := Lib.hid z1; have HP1 := Lib.hid p1
  rw [n1]
  clear hpost hb2 hg1 hv1 hc1 HR1 HB1 l1 z1 p1
  go_wp2_with fail
  refine (HSC.out tx2 _).mono ?_
  rintro e w3 ⟨⟨b2, c2, rfl, ht2⟩, hb3⟩
  have HB3 := Lib.hid (HB2.out.trans (hb3.mono HB2.out.size))
  have HD3 := Lib.hid hb3
  have HR2 := Lib.hid (read_nil (t := tx2) (by simp) (HE.out _ HB3.out) ht2)
  clear hb3 ht2 HB2
  go_wp2_with fail
  refine HR2.out.mono ?_
  intro e w4 hpost
  obtain ⟨hb4, L2, a2, k2, hg2, rfl, hv2⟩ := hpost.ok rd2
  obtain ⟨n2, g2, o2, ka2, kc2, rfl, hc2⟩ := good2_look hg2 hv2
  have HC2 := Lib.hid hc2
  have HB4 := Lib.hid (HB3.out.trans (hb4.mono HB3.out.size))
  have HD4 := Lib.hid (HD3.out.trans (hb4.mono HD3.out.size))
  rw [n2]
  obtain ⟨q1, q2⟩ := hc2 w4 (Below.refl _ _)
  clear hpost hb4 hg2 hv2 hc2 HR2 HB3 HD3
  have HG4 := Lib.hid (Below.refl w4.heap.size w4)
  go_wp2_with fail
  refine (HSC.out tx3 _).mono ?_
  rintro e w5 ⟨⟨b3, c3, rfl, ht⟩, hb⟩
  have HB5 := Lib.hid (HB4.out.trans (hb.mono HB4.out.size))
  have HD5 := Lib.hid (HD4.out.trans (hb.mono HD4.out.size))
  have HG5 := Lib.hid (HG4.out.trans (hb.mono HG4.out.size))
  have HRD := Lib.hid (read_nil (t := tx3) (by simp) (HE.out _ HB5.out) ht)
  clear hb ht HB4 HD4 HG4
  go_wp2_with fail
  refine HRD.out.mono ?_
  intro e w6 hpost
  obtain ⟨hb, rfl⟩ := hpost.err rd3
  have HB6 := Lib.hid (HB5.out.trans (hb.mono HB5.out.size))
  have HD6 := Lib.hid (HD5.out.trans (hb.mono HD5.out.size))
  have HG6 := Lib.hid (HG5.out.trans (hb.mono HG5.out.size))
  clear hpost hb HRD HB5 HD5 HG5
  go_wp2_with fail
  refine (HSC.out tx4 _).mono ?_
  rintro e w7 ⟨⟨b4, c4, rfl, ht⟩, hb⟩
  have HB7 := Lib.hid (HB6.out.trans (hb.mono HB6.out.size))
  have HD7 := Lib.hid (HD6.out.trans (hb.mono HD6.out.size))
  have HG7 := Lib.hid (HG6.out.trans (hb.mono HG6.out.size))
  have HRD := Lib.hid (read_nil (t := tx4) (by simp) (HE.out _ HB7.out) ht)
  clear hb ht HB6 HD6 HG6
  go_wp2_with fail
  refine HRD.out.mono ?_
  intro e w8 hpost
  obtain ⟨hb, rfl⟩ := hpost.err rd4
  have HB8 := Lib.hid (HB7.out.trans (hb.mono HB7.out.size))
  have HD8 := Lib.hid (HD7.out.trans (hb.mono HD7.out.size))
  have HG8 := Lib.hid (HG7.out.trans (hb.mono HG7.out.size))
  clear hpost hb HRD HB7 HD7 HG7
  go_wp2_with fail
  refine (HSC.out tx5 _).mono ?_
  rintro e w9 ⟨⟨b5, c5, rfl, ht⟩, hb⟩
  have HB9 := Lib.hid (HB8.out.trans ((hb.mono HB8.out.size).alloc (by have := HB8.out.size; have := hb.size; omega) (.cells #[.string ⟨#[119, 104, 105, 108, 101]⟩] 9)))
  have HD9 := Lib.hid (HD8.out.trans ((hb.mono HD8.out.size).alloc (by have := HD8.out.size; have := hb.size; omega) (.cells #[.string ⟨#[119, 104, 105, 108, 101]⟩] 9)))
  have HG9 := Lib.hid (HG8.out.trans ((hb.mono HG8.out.size).alloc (by have := HG8.out.size; have := hb.size; omega) (.cells #[.string ⟨#[119, 104, 105, 108, 101]⟩] 9)))
  have HRD := Lib.hid (readF_any (toksT tx5) _ [sWhile] (.slice (some ⟨w9.heap.size, 0, none⟩) 1 1) _ (HE.out _ HB9.out) (trow_below ht ((Below.refl _ w9).alloc (Nat.le_refl _) _)) (srow_new w9 _ [sWhile] 9 rfl) (tx_small tx5 (by simp)) (by intro x hx; rw [List.mem_singleton.1 hx]; decide))
  clear hb ht HB8 HD8 HG8
  go_wp2_with fail
  refine HRD.out.mono ?_
  intro e w10 hpost
  obtain ⟨hb, L5, a5, k5, hg5, rfl, _⟩ := hpost.ok rd5
  have n5 : L5.length = 1 := by simpa [goodN] using hg5
  have HB10 := Lib.hid (HB9.out.trans (hb.mono HB9.out.size))
  have HD10 := Lib.hid (HD9.out.trans (hb.mono HD9.out.size))
  have HG10 := Lib.hid (HG9.out.trans (hb.mono HG9.out.size))
  rw [n5]
  clear hpost hb HRD hg5 HB9 HD9 HG9
  go_wp2_with fail
  refine (HSC.out tx5 _).mono ?_
  rintro e w11 ⟨⟨b6, c6, rfl, ht⟩, hb⟩
  have HB11 := Lib.hid (HB10.out.trans (hb.mono HB10.out.size))
  have HD11 := Lib.hid (HD10.out.trans (hb.mono HD10.out.size))
  have HG11 := Lib.hid (HG10.out.trans (hb.mono HG10.out.size))
  have HRD := Lib.hid (read_nil (t := tx5) (by simp) (HE.out _ HB11.out) ht)
  clear hb ht HB10 HD10 HG10
  go_wp2_with fail
  refine HRD.out.mono ?_
  intro e w12 hpost
  obtain ⟨hb, rfl⟩ := hpost.err rd6
  have HB12 := Lib.hid (HB11.out.trans (hb.mono HB11.out.size))
  have HD12 := Lib.hid (HD11.out.trans (hb.mono HD11.out.size))
  have HG12 := Lib.hid (HG11.out.trans (hb.mono HG11.out.size))
  clear hpost hb HRD HB11 HD11 HG11
  obtain ⟨e1, e2, e3⟩ := HC1.out w12 HD12.out
  obtain ⟨e4, e5⟩ := HC2.out w12 HG12.out
  clear q1 q2
  go_wp2_with fail
  refine (HSC.out tx6 _).mono ?_
  rintro e w13 ⟨⟨b7, c7, rfl, ht⟩, hb⟩
  have HB13 := Lib.hid (HB12.out.trans (hb.mono HB12.out.size))
  have HD13 := Lib.hid (HD12.out.trans (hb.mono HD12.out.size))
  have HG13 := Lib.hid (HG12.out.trans (hb.mono HG12.out.size))
  have HRD := Lib.hid (read_nil (t := tx6) (by simp) (HE.out _ HB13.out) ht)
  clear hb ht HB12 HD12 HG12
  go_wp2_with fail
  refine HRD.out.mono ?_
  intro e w14 hpost
  obtain ⟨hb, L7, a7, k7, hg7, rfl, _⟩ := hpost.ok rd7
  have n7 : L7.length = 3 := by simpa [goodN] using hg7
  have HB14 := Lib.hid (HB13.out.trans (hb.mono HB13.out.size))
  have HD14 := Lib.hid (HD13.out.trans (hb.mono HD13.out.size))
  have HG14 := Lib.hid (HG13.out.trans (hb.mono HG13.out.size))
  rw [n7]
  clear hpost hb HRD hg7 HB13 HD13 HG13
  go_wp2_with fail
  have hv14 := HV1.out.below HD14.out
  rw [n1] at hv14
  have hs14 := Size_any _ L1 _ w14 hv14 (by omega) HL1.out
  rw [HZ1.out] at hs14
  have HV14 := Lib.hid hv14
  clear hv14 e1 e2 e3 e4 e5
  refine hs14.mono ?_
  rintro e w15 ⟨rfl, hb⟩
  have HB15 := Lib.hid (HB14.out.trans (hb.mono HB14.out.size))
  have hd15 := Depth_any _ L1 _ w15 (HV14.out.below hb) (by omega) HL1.out
  rw [HP1.out] at hd15
  have HD15 := Lib.hid hd15
  clear hb hd15 hs14 HV14
  go_wp2_with fail
  refine HD15.out.mono ?_
  rintro e w16 ⟨rfl, hb⟩
  have HB16 := Lib.hid (HB15.out.trans (hb.mono HB15.out.size))
  clear hb HD15
  go_wp2_with fail
  exact bodyPost_ret (v := .bool true) (by simp [results, Tryz.results8, go_sem]) rfl ⟨rfl, HB16.out⟩
end

section
open Go.RowKit

theorem add_offs (g o n : Nat) : (⟨g, o, none⟩ : Addr).add n = ⟨g, o + n, none⟩ := by unfold Addr.add; split <;> simp_all
theorem TAt.take {w : World} {g o n : Nat} {l : List Tkn} (h : TAt w g o l) : TAt w g o (l.take n) := fun i x hx => h i x (by
  rw [List.getElem?_take] at hx
  split at hx
  · exact hx
  · cases hx)
theorem TAt.below {w w' : World} {g o : Nat} {l : List Tkn} (h : TAt w g o l) (hb : Below w.heap.size w w') (hg : g < w.heap.size) : TAt w' g o l := fun i x hx => by
  obtain ⟨e0, e1, e2, e3, e4⟩ := h i x hx
  exact ⟨(hb.cell (p := ⟨g, _, none⟩) hg).trans e0, (hb.cell (p := ⟨g, _, none⟩) hg).trans e1, (hb.cell (p := ⟨g, _, none⟩) hg).trans e2, (hb.cell (p := ⟨g, _, none⟩) hg).trans e3, (hb.cell (p := ⟨g, _, none⟩) hg).trans e4⟩
theorem wpList_append_zero {P : Program} {w : World} {ops : Array Oper} {rest : List Oper} {o : Oper} {a : Act} {Q : Exit → Act → World → Prop} (hgd : o.guard = none) (s x : Operand) (t : TypeId)
    (ho : o.op = .call { callee := .builtin .append, args := #[s, x], argTypes := #[t, t] }) (e : TypeId) (i : TypeInfo) (ht : P.underlying t = some (.slice e)) (hi : P.info? e = some i)
    (base : Option Addr) (n c : Nat) (hs : a.eval s = .slice base n c) (hle : n ≤ c) (b2 : Option Addr) (c2 : Nat) (hx : a.eval x = .slice b2 0 c2)
    (h : wpList P ops Q rest (a.put o.dst (.slice base n c)) w) : wpList P ops Q (o :: rest) a w :=
  wpList_plain hgd fun _ hK => by
    have hr : (Builtin.append_ #[t, t] o.type #[.slice base n c, .slice b2 0 c2]).run P w = .ok (.slice base n c) w := by
      cases b2 with
      | none => exact Go.run_append_nothing w t t o.type e i ht hi base n c hle _ (Go.Src.ofNil w ht c2)
      | some ad => exact Go.run_append_nothing w t t o.type e i ht hi base n c hle _ (Go.Src.ofSlice w ht ad 0 c2 [] (by simp) (fun j u hu => by simp at hu) (fun u hu => by cases hu))
    unfold Oper.wp execOp
    simp only [ho, resolve, invoke, builtin, Sem.run_bind, Sem.run_pure, Result.andThen_ok, List.map_toArray, List.map_cons, List.map_nil, hs, hx, hr]
    exact hK _ _ h
theorem own_cap {w : World} {base e size n g cap : Nat} {xs : List Value} (h : w.ownsRow base e size (.slice (some ⟨g, 0, none⟩) n cap) n xs) : n ≤ cap := by
  rcases h.2 with ⟨hv, _⟩ | ⟨g', cap', cur, hv, _, _, hc, _⟩
  · cases hv
  · cases hv; exact hc
end

end Go.Proofs.YtafncodigpjkaaaGreatDoor
