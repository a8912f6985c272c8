/-
  The reference's Put; what At and Put answer, as functions.
  The law: At and Put are the reference's: the walk.
-/
import Derived.Test.YtafncodigpjkaaaGreatDoorFJ9
import Derived.Test.YtafncodigpjkaaaGreatDoorFJ8
import Derived.Test.YtafncodigpjkaaaGreatDoorFJ4
import Derived.Test.YtafncodigpjkaaaGreatDoorFGC
namespace Go.Proofs.YtafncodigpjkaaaGreatDoor
section
open Go.RowKit

def zeroF : Fg := .mk (0, 0, ⟨#[]⟩, 0, 0) sNo []
/-- The fragment to which a way leads, and the number of the error. -/
def atM (l : List Fg) (p : List Int) : Fg × Nat := match alongM l p with
  | none => (zeroF, 3)
  | some _ => ((endP l p).getD zeroF, 0)
def AtIs (r : Fg × Nat) (W : World) (e : Ending) (w' : World) : Prop :=
  ∃ kb kc, e = .returned (.tuple #[.agg (fgV r.1 (.slice kb r.1.kids.length kc)).toArray, .int .i64 (r.2 : Int)]) ∧ FVal w' (fun _ => True) (.slice kb r.1.kids.length kc) r.1.kids ∧ Below W.heap.size W w'
theorem AtPost.is {l : List Fg} {p : List Int} {W w' : World} {e : Ending} (h : AtPost l p W e w') : AtIs (atM l p) W e w' := by
  rcases h with ⟨hb, ⟨hn, rfl⟩ | ⟨⟨ls, hs⟩, x, kv, hx, rfl, hk⟩⟩
  · have e1 : atM l p = (zeroF, 3) := by unfold atM; rw [hn]
    rw [e1]
    exact ⟨none, 0, rfl, FVal.nil _ _ _ _, hb⟩
  · have e1 : atM l p = (x, 0) := by unfold atM; rw [hs, hx]; rfl
    rw [e1]
    obtain ⟨a, c, rfl, hr⟩ := hk
    exact ⟨a, c, rfl, ⟨a, c, rfl, hr⟩, hb⟩
open Classical in
/-- What Put answers. -/
noncomputable def putR (by' l : List Fg) (p : List Int) : List Fg × Nat := match alongM l p with
  | none => ([], 3)
  | some _ => if 100 < depM 101 (putM by' l p) ∨ 6000 < sizeM (putM by' l p) then ([], 7) else (putM by' l p, 0)
def PutIs (r : List Fg × Nat) (W : World) (e : Ending) (w' : World) : Prop :=
  ∃ b c, e = .returned (.tuple #[.slice b r.1.length c, .int .i64 (r.2 : Int)]) ∧ FVal w' (fun _ => True) (.slice b r.1.length c) r.1 ∧ Below W.heap.size W w'
theorem PutPost.is {by' l : List Fg} {p : List Int} {W w' : World} {e : Ending} (h : PutPost by' l p W e w') : PutIs (putR by' l p) W e w' := by
  rcases h with ⟨hb, ⟨hn, rfl⟩ | ⟨⟨ls, hs⟩, ⟨hlg, rfl⟩ | ⟨hsm, v, rfl, hv, _⟩⟩⟩
  · have e1 : putR by' l p = ([], 3) := by unfold putR; rw [hn]
    rw [e1]
    exact ⟨none, 0, rfl, FVal.nil _ _ _ _, hb⟩
  · have e1 : putR by' l p = ([], 7) := by unfold putR; rw [hs]; simp only; rw [if_pos hlg]
    rw [e1]
    exact ⟨none, 0, rfl, FVal.nil _ _ _ _, hb⟩
  · have e1 : putR by' l p = (putM by' l p, 0) := by unfold putR; rw [hs]; simp only; rw [if_neg hsm]
    rw [e1]
    obtain ⟨a, c, rfl, hr⟩ := hv
    exact ⟨a, c, rfl, FVal.keep (w := w') (P := fun b => W.heap.size ≤ b) ⟨a, c, rfl, hr⟩ (fun _ _ _ => ⟨trivial, rfl⟩) (Nat.le_refl _), hb⟩
set_option maxRecDepth 100000 in
set_option maxHeartbeats 8000000 in
theorem RPut_any (by' l : List Fg) (a : Option Addr) (n c : Nat) (pb : Option Addr) (pc : Nat) (bv : Value) (p : List Int) (S : Nat) (W : World) (hS : S ≤ W.heap.size) (hv : FVal W (fun b => b < S) (.slice a n c) l) (hc : ValC W (.slice a n c) l) (hp : IntRow W (.slice pb p.length pc) p) (hpc : p.length ≤ pc) (hpl : p.length ≤ 1048576)
    (hb : FVal W (fun b => b < S) bv by') (h1 : l.length ≤ 1048576) (h2 : FgsLe 1048576 l) (b1 : by'.length ≤ 1048576) (b2 : FgsLe 1048576 by') : Calls Tryz.prog 36 #[.slice a n c, .slice pb p.length pc, bv] W (PutIs (putR by' l p) W) := by
  have HAT := Lib.hid (RAt_any (fun b => b < S) l (.slice a n c) (.slice pb p.length pc) p W hv hp (by omega))
  have HPUT : Hid (∀ ls, alongM l p = some ls → ∀ w, Below W.heap.size W w → Calls Tryz.prog 59 #[.slice a n c, .slice pb p.length pc, bv] w (RputPost S (putM by' l p) w)) := Lib.hid (fun ls hls w hbw => by
    have hne : p ≠ [] := by rintro rfl; unfold alongM at hls; rw [if_pos rfl] at hls; cases hls
    have hwk : walkP l p = some ls := by unfold alongM at hls; rwa [if_neg hne] at hls
    exact rput_any S by' bv b1 p l a n c pb pc w (Nat.le_trans hS hbw.size) (hv.below hbw) (hc.keep hv (fun b _ z => hbw.block b z)) (hp.below hbw) hpc hpl (hb.below hbw) h1 h2 hne (by rw [hwk]; rfl))
  have HLE := Lib.hid (put_le b1 b2 (p := p) h1 h2)
  obtain ⟨ba, bc, rfl, _⟩ := hb
  clear hv hc hp hpc hpl h1 h2 b1 b2 hS
  go_enter Tryz.func36, Tryz.ntmps36
  go_wp2_with fail
  refine HAT.out.mono ?_
  rintro e w1 ⟨hb1, ⟨hno, rfl⟩ | ⟨⟨ls, hs⟩, x, kv, _, rfl, hk⟩⟩
  · have e1 : putR by' l p = ([], 3) := by unfold putR; rw [hno]
    have HR : Hid (∀ w', Below W.heap.size W w' → PutIs (putR by' l p) W (.returned (.tuple #[.slice none 0 0, .int .i64 3])) w') := Lib.hid (fun w' hb => by rw [e1]; exact ⟨none, 0, rfl, FVal.nil _ _ _ _, hb⟩)
    have HB := Lib.hid (hb1.alloc hb1.size (.cells #[.int .i64 0, .int .i64 0, .string ⟨#[]⟩, .int .i64 0, .int .i64 0, .string ⟨#[]⟩, .slice none 0 0] 52))
    clear hb1 hno HAT e1
    go_wp2_with fail
    exact bodyPost_ret (v := .tuple #[.slice none 0 0, .int .i64 3]) (by simp [results, Tryz.results36, go_sem]) rfl (HR.out _ HB.out)
  obtain ⟨ka, kc, rfl, _⟩ := hk
  have HX : Hid ((fgV x (.slice ka x.kids.length kc)).toArray = #[.int .i64 x.tok.1, .int .i64 x.tok.2.1, .string x.tok.2.2.1, .int .i64 x.tok.2.2.2.1, .int .i64 x.tok.2.2.2.2, .string x.opn, .slice ka x.kids.length kc]) := Lib.hid rfl
  rw [HX.out]
  have HB := Lib.hid (hb1.alloc hb1.size (.cells #[.int .i64 x.tok.1, .int .i64 x.tok.2.1, .string x.tok.2.2.1, .int .i64 x.tok.2.2.2.1, .int .i64 x.tok.2.2.2.2, .string x.opn, .slice ka x.kids.length kc] 52))
  have HPP := Lib.hid (HPUT.out ls hs)
  obtain ⟨Y, hY⟩ : ∃ Y, Y = putM by' l p := ⟨_, rfl⟩
  have HR7 : Hid (100 < depM 101 Y ∨ 6000 < sizeM Y → putR by' l p = ([], 7)) := Lib.hid (fun h => by unfold putR; rw [hs]; simp only; rw [← hY, if_pos h])
  have HR0 : Hid (¬ (100 < depM 101 Y ∨ 6000 < sizeM Y) → putR by' l p = (Y, 0)) := Lib.hid (fun h => by unfold putR; rw [hs]; simp only; rw [← hY, if_neg h])
  rw [← hY] at HPP HLE
  clear hb1 HPUT HAT hs hY HX
  generalize putR by' l p = R at *
  go_wp2_with fail
  refine (HPP.out _ HB.out).mono ?_
  rintro e w3 ⟨v3, rfl, hv3, hb3⟩
  have HB3 := Lib.hid (HB.out.trans (hb3.mono HB.out.size))
  obtain ⟨a3, c3, rfl, hr3⟩ := hv3
  have hv3 : FVal w3 (fun _ => True) (.slice a3 Y.length c3) Y := FVal.keep (w := w3) (P := fun b => b < S ∨ _ ≤ b) ⟨a3, c3, rfl, hr3⟩ (fun _ _ _ => ⟨trivial, rfl⟩) (Nat.le_refl _)
  have HV3 := Lib.hid hv3
  obtain ⟨ny, hny⟩ : ∃ ny, ny = Y.length := ⟨_, rfl⟩
  have hl1 : Y.length ≤ 140737488351232 := by have := HLE.out.1; omega
  have hl2 : FgsLe 140737488351232 Y := HLE.out.2.mono (by omega)
  have HDP := Lib.hid (fun w (hb : Below w3.heap.size w3 w) => RDepth_any (fun _ => True) Y (.slice a3 Y.length c3) w (hv3.below hb) hl1 hl2)
  have HSZ := Lib.hid (fun w (hb : Below w3.heap.size w3 w) => RSize_any (fun _ => True) Y (.slice a3 Y.length c3) w (hv3.below hb) hl1 hl2)
  rw [← hny] at HDP HSZ HV3 ⊢
  have HNY := Lib.hid hny
  clear hb3 hr3 hv3 hl1 hl2 HPP HLE hny
  go_wp2_with fail
  refine (HDP.out w3 (Below.refl _ _)).mono ?_
  rintro e w4 ⟨rfl, hb4⟩
  have HB4 := Lib.hid hb4
  clear hb4
  by_cases hd : 100 < depM 101 Y
  · have hd' : (100 : Int) < ((depM 101 Y : Nat) : Int) := by omega
    have HPO : Hid (PutIs R W (.returned (.tuple #[.slice none 0 0, .int .i64 7])) w4) := Lib.hid (by rw [HR7.out (.inl hd)]; exact ⟨none, 0, rfl, FVal.nil _ _ _ _, HB3.out.trans (HB4.out.mono HB3.out.size)⟩)
    clear hd
    go_wp2_with fail
    exact bodyPost_ret (v := .tuple #[.slice none 0 0, .int .i64 7]) (by simp [results, Tryz.results36, go_sem]) rfl HPO.out
  have hd' : ((100 : Int) < ((depM 101 Y : Nat) : Int)) = False := by simp; omega
  have HD := Lib.hid hd
  clear hd
  go_wp2_with fail
  refine (HSZ.out w4 HB4.out).mono ?_
  rintro e w5 ⟨rfl, hb5⟩
  have HB5 := Lib.hid (HB4.out.trans (hb5.mono HB4.out.size))
  clear hb5
  by_cases hs : 6000 < sizeM Y
  · have hs' : (6000 : Int) < ((sizeM Y : Nat) : Int) := by omega
    have HPO : Hid (PutIs R W (.returned (.tuple #[.slice none 0 0, .int .i64 7])) w5) := Lib.hid (by rw [HR7.out (.inr hs)]; exact ⟨none, 0, rfl, FVal.nil _ _ _ _, HB3.out.trans (HB5.out.mono HB3.out.size)⟩)
    clear hs
    go_wp2_with fail
    exact bodyPost_ret (v := .tuple #[.slice none 0 0, .int .i64 7]) (by simp [results, Tryz.results36, go_sem]) rfl HPO.out
  have hs' : ((6000 : Int) < ((sizeM Y : Nat) : Int)) = False := by simp; omega
  have HPO : Hid (PutIs R W (.returned (.tuple #[.slice a3 ny c3, .int .i64 0])) w5) := Lib.hid (by rw [HR0.out (fun h => h.elim HD.out hs)]; exact ⟨a3, c3, by rw [HNY.out]; rfl, by have := HV3.out.below HB5.out; rwa [HNY.out] at this, HB3.out.trans (HB5.out.mono HB3.out.size)⟩)
  clear hs
  go_wp2_with fail
  exact bodyPost_ret (v := .tuple #[.slice a3 ny c3, .int .i64 0]) (by simp [results, Tryz.results36, go_sem]) rfl HPO.out
end

section
open Go.RowKit

theorem one_full {w : World} {B : Nat} {y : Fg} {kv : Value} {t : TypeId} (hb : w.heap[B]? = some (.cells (fgV y kv).toArray t)) (hk : FVal w (fun _ => True) kv y.kids) : FVal w (fun _ => True) (.slice (some ⟨B, 0, none⟩) 1 1) [y] := by
  obtain ⟨tk, op, ks⟩ := y
  exact one_val (x := .mk tk op ks) (ks := ks) (kv := kv) (t := t) hb hk
theorem two_one (w : World) (O1 O2 : Obj) : ((w.alloc O1).alloc O2).heap[w.heap.size]? = some O1 := (Below.heap_alloc _ _ _ (by simp)).trans (heap_alloc_new w O1)
theorem two_two (w : World) (O1 O2 : Obj) : ((w.alloc O1).alloc O2).heap[w.heap.size + 1]? = some O2 := by
  have h := heap_alloc_new (w.alloc O1) O2
  rwa [show (w.alloc O1).heap.size = w.heap.size + 1 by simp] at h
theorem end_le {B : Nat} : ∀ {p : List Int} {l : List Fg} {x : Fg}, FgsLe B l → endP l p = some x → x.kids.length ≤ B ∧ FgsLe B x.kids
  | [], l, x, _, h => by simp [endP] at h
  | j :: p, l, x, hle, h => by
    unfold endP at h
    cases hg : getI l j with
    | none => rw [hg] at h; cases h
    | some y =>
      rw [hg] at h
      simp only at h
      obtain ⟨_, _, _, hy⟩ := getI_some hg
      split at h
      · cases h; exact hle.get hy
      · exact end_le (hle.get hy).2 h
theorem atM_le {B : Nat} {l : List Fg} {p : List Int} (h : FgsLe B l) : (atM l p).1.kids.length ≤ B ∧ FgsLe B (atM l p).1.kids := by
  have hz : zeroF.kids.length ≤ B ∧ FgsLe B zeroF.kids := ⟨Nat.zero_le _, by unfold zeroF Fg.kids FgsLe; trivial⟩
  unfold atM
  cases alongM l p with
  | none => exact hz
  | some ls =>
    simp only
    cases he : endP l p with
    | none => exact hz
    | some x => exact end_le h he
theorem putR_le {B : Nat} {by' l : List Fg} {p : List Int} (h : (putM by' l p).length ≤ B ∧ FgsLe B (putM by' l p)) : (putR by' l p).1.length ≤ B ∧ FgsLe B (putR by' l p).1 := by
  have hz : ([] : List Fg).length ≤ B ∧ FgsLe B [] := ⟨Nat.zero_le _, by unfold FgsLe; trivial⟩
  unfold putR
  cases alongM l p with
  | none => exact hz
  | some ls =>
    simp only
    split
    · exact hz
    · exact h
set_option maxRecDepth 100000 in
set_option maxHeartbeats 32000000 in
theorem pathsLaw (l by' : List Fg) (a : Option Addr) (n c : Nat) (ba : Option Addr) (bn bc : Nat) (pb : Option Addr) (pc : Nat) (p : List Int) (W : World) (E : Env W) (hv : FVal W (fun b => b < W.heap.size) (.slice a n c) l) (hc : ValC W (.slice a n c) l) (hp : IntRow W (.slice pb p.length pc) p) (hpc : p.length ≤ pc) (hpl : p.length ≤ 1048576)
    (hb : FVal W (fun b => b < W.heap.size) (.slice ba bn bc) by') (h1 : l.length ≤ 1048576) (h2 : FgsLe 1048576 l) (b1 : by'.length ≤ 1048576) (b2 : FgsLe 1048576 by') :
    Calls Tryz.prog 6 #[.slice a n c, .slice pb p.length pc, .slice ba bn bc] W fun e w' => e = .returned (.bool true) ∧ Below W.heap.size W w' := by
  have HSN := Lib.hid (sane_any W E)
  have HA1 : Hid (∀ w, Below W.heap.size W w → Calls Tryz.prog 33 #[.slice a n c, .slice pb p.length pc] w (AtIs (atM l p) w)) := Lib.hid (fun w hw => (At_any _ l a n c (.slice pb p.length pc) p w (hv.below hw) (hc.keep hv (fun b _ z => hw.block b z)) (hp.below hw) hpl (by omega) (h2.mono (by omega))).mono fun e w' h => h.is)
  have HA2 : Hid (∀ w, Below W.heap.size W w → Calls Tryz.prog 34 #[.slice a n c, .slice pb p.length pc] w (AtIs (atM l p) w)) := Lib.hid (fun w hw => (RAt_any _ l (.slice a n c) (.slice pb p.length pc) p w (hv.below hw) (hp.below hw) (by omega)).mono fun e w' h => h.is)
  have HP1 : Hid (∀ w, Below W.heap.size W w → Calls Tryz.prog 35 #[.slice a n c, .slice pb p.length pc, .slice ba bn bc] w (PutIs (putR by' l p) w)) := Lib.hid (fun w hw => (Put_any _ _ l by' a n c (.slice pb p.length pc) (.slice ba bn bc) p w (hv.below hw) (hc.keep hv (fun b _ z => hw.block b z)) (hp.below hw) hpl (hb.below hw) h1 h2 b1 b2).mono fun e w' h => h.is)
  have HP2 : Hid (∀ w, Below W.heap.size W w → Calls Tryz.prog 36 #[.slice a n c, .slice pb p.length pc, .slice ba bn bc] w (PutIs (putR by' l p) w)) := Lib.hid (fun w hw => RPut_any by' l a n c pb pc (.slice ba bn bc) p W.heap.size w hw.size (hv.below hw) (hc.keep hv (fun b _ z => hw.block b z)) (hp.below hw) hpc hpl (hb.below hw) h1 h2 b1 b2)
  have hal := atM_le (B := 1048576) (l := l) (p := p) h2
  have hpl2 := putR_le (put_le b1 b2 (p := p) h1 h2)
  obtain ⟨y, hy⟩ : ∃ y, y = (atM l p).1 := ⟨_, rfl⟩
  obtain ⟨er, her⟩ : ∃ er, er = (atM l p).2 := ⟨_, rfl⟩
  obtain ⟨Y, hY⟩ : ∃ Y, Y = (putR by' l p).1 := ⟨_, rfl⟩
  obtain ⟨eq, heq⟩ : ∃ eq, eq = (putR by' l p).2 := ⟨_, rfl⟩
  rw [show atM l p = (y, er) by rw [hy, her]] at HA1 HA2
  rw [show putR by' l p = (Y, eq) by rw [hY, heq]] at HP1 HP2
  rw [← hy] at hal
  rw [← hY] at hpl2
  have HAY := Lib.hid (fun (w : World) (v1 v2 : Value) (g1 : FVal w (fun _ => True) v1 [y]) (g2 : FVal w (fun _ => True) v2 [y]) => alike_any false (fun _ => True) (fun _ => True) [y] [y] v1 v2 w g1 g2 (by simp) (FgsLe.of fun x hx => by rw [List.mem_singleton] at hx; subst hx; exact ⟨by omega, hal.2.mono (by omega)⟩))
  have HAP := Lib.hid (fun (w : World) (v1 v2 : Value) (g1 : FVal w (fun _ => True) v1 Y) (g2 : FVal w (fun _ => True) v2 Y) => alike_any false (fun _ => True) (fun _ => True) Y Y v1 v2 w g1 g2 (by omega) (hpl2.2.mono (by omega)))
  have HS1 : Hid (sameL false [y] [y] = true) := Lib.hid ((sameL_eq _ _).2 rfl)
  have HS2 : Hid (sameL false Y Y = true) := Lib.hid ((sameL_eq _ _).2 rfl)
  have HXX : Hid (∀ kb kc, (fgV y (.slice kb y.kids.length kc)).toArray = #[.int .i64 y.tok.1, .int .i64 y.tok.2.1, .string y.tok.2.2.1, .int .i64 y.tok.2.2.2.1, .int .i64 y.tok.2.2.2.2, .string y.opn, .slice kb y.kids.length kc]) := Lib.hid (fun _ _ => rfl)
  clear E hv hc hp hpc hpl hb h1 h2 b1 b2 hal hpl2 hy her hY heq
  go_enter Tryz.func6, Tryz.ntmps6
  go_wp2_with fail
  refine HSN.out.mono ?_
  rintro e w1 ⟨rfl, hb1⟩
  have HB1 := Lib.hid hb1
  clear hb1 HSN
  go_wp2_with fail
  refine (HA1.out w1 HB1.out).mono ?_
  rintro e w2 ⟨k1, c1, rfl, hk1, hb2⟩
  simp only at hk1 ⊢
  rw [HXX.out]
  have HB2 := Lib.hid (HB1.out.trans (hb2.mono HB1.out.size))
  have HK1 := Lib.hid hk1
  have HBA := Lib.hid (HB2.out.alloc HB2.out.size (.cells #[.int .i64 y.tok.1, .int .i64 y.tok.2.1, .string y.tok.2.2.1, .int .i64 y.tok.2.2.2.1, .int .i64 y.tok.2.2.2.2, .string y.opn, .slice k1 y.kids.length c1] 52))
  have HX1 := Lib.hid (heap_alloc_new w2 (.cells #[.int .i64 y.tok.1, .int .i64 y.tok.2.1, .string y.tok.2.2.1, .int .i64 y.tok.2.2.2.1, .int .i64 y.tok.2.2.2.2, .string y.opn, .slice k1 y.kids.length c1] 52))
  have HZ1 : Hid ((w2.alloc (.cells #[.int .i64 y.tok.1, .int .i64 y.tok.2.1, .string y.tok.2.2.1, .int .i64 y.tok.2.2.2.1, .int .i64 y.tok.2.2.2.2, .string y.opn, .slice k1 y.kids.length c1] 52)).heap.size = w2.heap.size + 1) := Lib.hid (by simp)
  clear hb2 hk1 HA1
  go_wp2_with fail
  refine (HA2.out _ HBA.out).mono ?_
  rintro e w3 ⟨k2, c2, rfl, hk2, hb3⟩
  simp only at hk2 ⊢
  rw [HXX.out]
  have HB3 := Lib.hid (HBA.out.trans (hb3.mono HBA.out.size))
  have HK2 := Lib.hid hk2
  have HX13 : Hid (w3.heap[w2.heap.size]? = some (.cells #[.int .i64 y.tok.1, .int .i64 y.tok.2.1, .string y.tok.2.2.1, .int .i64 y.tok.2.2.2.1, .int .i64 y.tok.2.2.2.2, .string y.opn, .slice k1 y.kids.length c1] 52)) := Lib.hid ((hb3.block _ (by have := HZ1.out; omega)).trans HX1.out)
  have HK13 : Hid (FVal w3 (fun _ => True) (.slice k1 y.kids.length c1) y.kids) := Lib.hid (HK1.out.keep (fun b _ z => ⟨trivial, (hb3.block b (by have := HZ1.out; omega)).trans (Below.heap_alloc _ _ _ z)⟩) (by have := hb3.size; have := HZ1.out; omega))
  have HBC := Lib.hid (HB3.out.alloc HB3.out.size (.cells #[.int .i64 y.tok.1, .int .i64 y.tok.2.1, .string y.tok.2.2.1, .int .i64 y.tok.2.2.2.1, .int .i64 y.tok.2.2.2.2, .string y.opn, .slice k2 y.kids.length c2] 52))
  have HX2 := Lib.hid (heap_alloc_new w3 (.cells #[.int .i64 y.tok.1, .int .i64 y.tok.2.1, .string y.tok.2.2.1, .int .i64 y.tok.2.2.2.1, .int .i64 y.tok.2.2.2.2, .string y.opn, .slice k2 y.kids.length c2] 52))
  have HZ2 : Hid ((w3.alloc (.cells #[.int .i64 y.tok.1, .int .i64 y.tok.2.1, .string y.tok.2.2.1, .int .i64 y.tok.2.2.2.1, .int .i64 y.tok.2.2.2.2, .string y.opn, .slice k2 y.kids.length c2] 52)).heap.size = w3.heap.size + 1) := Lib.hid (by simp)
  have HX14 : Hid ((w3.alloc (.cells #[.int .i64 y.tok.1, .int .i64 y.tok.2.1, .string y.tok.2.2.1, .int .i64 y.tok.2.2.2.1, .int .i64 y.tok.2.2.2.2, .string y.opn, .slice k2 y.kids.length c2] 52)).heap[w2.heap.size]? = some (.cells #[.int .i64 y.tok.1, .int .i64 y.tok.2.1, .string y.tok.2.2.1, .int .i64 y.tok.2.2.2.1, .int .i64 y.tok.2.2.2.2, .string y.opn, .slice k1 y.kids.length c1] 52)) := Lib.hid ((Below.heap_alloc _ _ _ (Array.getElem?_eq_some_iff.1 HX13.out).1).trans HX13.out)
  have HK14 : Hid (FVal (w3.alloc (.cells #[.int .i64 y.tok.1, .int .i64 y.tok.2.1, .string y.tok.2.2.1, .int .i64 y.tok.2.2.2.1, .int .i64 y.tok.2.2.2.2, .string y.opn, .slice k2 y.kids.length c2] 52)) (fun _ => True) (.slice k1 y.kids.length c1) y.kids) := Lib.hid (HK13.out.below ((Below.refl _ _).alloc (Nat.le_refl _) _))
  have HK24 : Hid (FVal (w3.alloc (.cells #[.int .i64 y.tok.1, .int .i64 y.tok.2.1, .string y.tok.2.2.1, .int .i64 y.tok.2.2.2.1, .int .i64 y.tok.2.2.2.2, .string y.opn, .slice k2 y.kids.length c2] 52)) (fun _ => True) (.slice k2 y.kids.length c2) y.kids) := Lib.hid (HK2.out.below ((Below.refl _ _).alloc (Nat.le_refl _) _))
  clear hb3 hk2 HA2 HK1 HX1 HZ1 HBA HK13 HX13 HK2
  go_wp2_with fail
  generalize w3.alloc (.cells #[.int .i64 y.tok.1, .int .i64 y.tok.2.1, .string y.tok.2.2.1, .int .i64 y.tok.2.2.2.1, .int .i64 y.tok.2.2.2.2, .string y.opn, .slice k2 y.kids.length c2] 52) = w4 at *
  refine (HP1.out w4 HBC.out).mono ?_
  rintro e w5 ⟨p1, q1, rfl, hp1, hb5⟩
  simp only at hp1 ⊢
  have HB5 := Lib.hid (HBC.out.trans (hb5.mono HBC.out.size))
  have HB45 := Lib.hid hb5
  have HV5 := Lib.hid hp1
  clear hb5 hp1 HP1
  go_wp2_with fail
  refine (HP2.out w5 HB5.out).mono ?_
  rintro e w6 ⟨p2, q2, rfl, hp2, hb6⟩
  simp only at hp2 ⊢
  have HB6 := Lib.hid (HB5.out.trans (hb6.mono HB5.out.size))
  have HB46 := Lib.hid (HB45.out.trans (hb6.mono HB45.out.size))
  have HV6 := Lib.hid hp2
  have HV56 := Lib.hid (HV5.out.below hb6)
  clear hb6 hp2 HP2 HV5
  have HX16 : Hid (w6.heap[w2.heap.size]? = some (.cells #[.int .i64 y.tok.1, .int .i64 y.tok.2.1, .string y.tok.2.2.1, .int .i64 y.tok.2.2.2.1, .int .i64 y.tok.2.2.2.2, .string y.opn, .slice k1 y.kids.length c1] 52)) := Lib.hid ((HB46.out.block _ (Array.getElem?_eq_some_iff.1 HX14.out).1).trans HX14.out)
  have HX26 : Hid (w6.heap[w3.heap.size]? = some (.cells #[.int .i64 y.tok.1, .int .i64 y.tok.2.1, .string y.tok.2.2.1, .int .i64 y.tok.2.2.2.1, .int .i64 y.tok.2.2.2.2, .string y.opn, .slice k2 y.kids.length c2] 52)) := Lib.hid ((HB46.out.block _ (Array.getElem?_eq_some_iff.1 HX2.out).1).trans HX2.out)
  have HK16 := Lib.hid (HK14.out.below HB46.out)
  have HK26 := Lib.hid (HK24.out.below HB46.out)
  obtain ⟨d0, d1, d2, d3, d4, d5, d6, _⟩ := seven_cells HX16.out
  obtain ⟨f0, f1, f2, f3, f4, f5, f6, _⟩ := seven_cells HX26.out
  obtain ⟨o1, ho1⟩ : ∃ o1, o1 = w2.heap.size := ⟨_, rfl⟩
  obtain ⟨o2, ho2⟩ : ∃ o2, o2 = w3.heap.size := ⟨_, rfl⟩
  have hz1 : o1 < w6.heap.size := by rw [ho1]; exact (Array.getElem?_eq_some_iff.1 HX16.out).1
  have hz2 : o2 < w6.heap.size := by rw [ho2]; exact (Array.getElem?_eq_some_iff.1 HX26.out).1
  rw [← ho1] at d0 d1 d2 d3 d4 d5 d6 ⊢
  rw [← ho2] at f0 f1 f2 f3 f4 f5 f6 ⊢
  obtain ⟨ny, hny⟩ : ∃ ny, ny = Y.length := ⟨_, rfl⟩
  rw [← hny] at HV6 HV56 ⊢
  obtain ⟨yk, hyk⟩ : ∃ yk, yk = y.kids.length := ⟨_, rfl⟩
  rw [← hyk] at d6 f6 HK16 HK26 ⊢
  have HXY : Hid (∀ kb kc, (fgV y (.slice kb yk kc)).toArray = #[.int .i64 y.tok.1, .int .i64 y.tok.2.1, .string y.tok.2.2.1, .int .i64 y.tok.2.2.2.1, .int .i64 y.tok.2.2.2.2, .string y.opn, .slice kb yk kc]) := Lib.hid (fun _ _ => rfl)
  clear HX16 HX26 HX14 HX2 HK14 HK24 HZ2 HB45 HB46 HB5 HBC HB3 HB2 HB1 ho1 ho2 hny HXX hyk
  go_wp2_with fail
  refine (HAY.out _ _ _ (one_full (y := y) (kv := .slice k1 yk c1) (t := 52) (by rw [HXY.out]; exact two_one w6 _ _) (HK16.out.below (((Below.refl _ _).alloc (Nat.le_refl _) _).alloc (by simp) _))) (one_full (y := y) (kv := .slice k2 yk c2) (t := 52) (by rw [HXY.out]; exact two_two w6 _ _) (HK26.out.below (((Below.refl _ _).alloc (Nat.le_refl _) _).alloc (by simp) _)))).mono ?_
  rintro e w7 ⟨rfl, hb7⟩
  have HB7 := Lib.hid ((((Below.refl w6.heap.size w6).alloc (Nat.le_refl _) _).alloc (by simp) _).trans (hb7.mono (by simp; omega)))
  rw [HS1.out]
  clear hb7 d0 d1 d2 d3 d4 d5 d6 f0 f1 f2 f3 f4 f5 f6 HAY HK16 HK26
  go_wp2_with fail
  refine (HAP.out w7 _ _ (HV56.out.below HB7.out) (HV6.out.below HB7.out)).mono ?_
  rintro e w8 ⟨rfl, hb8⟩
  have HB8 := Lib.hid (HB6.out.trans ((HB7.out.trans (hb8.mono HB7.out.size)).mono HB6.out.size))
  rw [HS2.out]
  clear hb8
  go_wp2_with fail
  exact bodyPost_ret (v := .bool true) (by simp [results, Tryz.results6, go_sem]) rfl ⟨rfl, HB8.out⟩
end

end Go.Proofs.YtafncodigpjkaaaGreatDoor
