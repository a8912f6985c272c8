/-
  Distinct, areSupers, Check.
-/
import Derived.Test.YtolopideimnbgaaHC
namespace Go.Proofs.Ytolopideimnbgaa
open Go.RowKit

theorem distinct_any (l : List ByteArray) (Q : Nat → Prop) (v : Value) (W : World) (hr : SRow W Q v l) (hn : l.length ≤ 8796093022207) :
    Calls Try.prog 73 #[v, .func (.func 74) #[] #[]] W fun e w' => e = .returned (.bool (decide l.Nodup)) ∧ Below W.heap.size W w' := by
  have hf := firsts_any l Q v W hr hn
  obtain ⟨b, c, rfl, hrow⟩ := hr
  have hd : decide (((fstG [] l).length : Int) = (l.length : Int)) = decide l.Nodup := by
    by_cases h : l.Nodup
    · rw [decide_eq_true h, decide_eq_true (by have := (fst_len l).2 h; omega)]
    · rw [decide_eq_false h, decide_eq_false (fun e => h ((fst_len l).1 (by omega)))]
  have HD := Lib.hid hd
  clear hrow hd
  generalize (fstG [] l).length = n at *
  go_enter Try.func73, Try.ntmps73
  go_wp2_with fail
  refine hf.mono ?_
  rintro e w' ⟨b', c', rfl, hb⟩
  have HB := Lib.hid hb
  clear hb
  go_wp2_with fail
  refine bodyPost_ret (v := .bool ((n : Int) == (l.length : Int))) (by simp [results, Try.results73, go_sem]) rfl ⟨?_, HB.out⟩
  rw [← HD.out]
  by_cases h : (n : Int) = (l.length : Int) <;> simp [h]

def supM (pre l : List ByteArray) : Bool := decide (l.length ≤ 8) && (decide (∀ s ∈ l, s ∈ pre) && decide l.Nodup)
theorem areSupers_any (mb : Nat) (pre l : List ByteArray) (Q : Nat → Prop) (v : Value) (W : World) (hr : SRow W Q v l) (hn : l.length ≤ 8796093022207) (hm : MapF W mb (setF pre)) :
    Calls Try.prog 49 #[v, .map (some mb)] W fun e w' => e = .returned (.bool (supM pre l)) ∧ Below W.heap.size W w' := by
  have HW : Hid (Below W.heap.size W (W.alloc (.cells #[.map (some mb)] 67))) := Lib.hid ((Below.refl _ W).alloc (Nat.le_refl _) _)
  have HA := Lib.hid (allKnown_any W.heap.size mb pre l Q v (W.alloc (.cells #[.map (some mb)] 67)) (hr.below HW.out) (by omega) (by simp) (by rw [cellOf (heap_alloc_new W _)]; rfl) (hm.keep (HW.out.block _ hm.lt)))
  have HD := Lib.hid fun W' (hb : Below W.heap.size W W') => distinct_any l Q v W' (hr.below hb) hn
  obtain ⟨b, c, rfl, hrow⟩ := hr
  clear hrow hm
  by_cases h8 : l.length ≤ 8
  · have h8' : (l.length : Int) ≤ 8 := by omega
    have hs : supM pre l = (decide (∀ s ∈ l, s ∈ pre) && decide l.Nodup) := by unfold supM; rw [decide_eq_true h8]; rfl
    rw [hs]
    have ha := HA.out
    by_cases hk : ∀ s ∈ l, s ∈ pre
    · rw [decide_eq_true hk] at ha ⊢
      clear hs hk h8 HA
      generalize decide l.Nodup = D at *
      go_enter Try.func49, Try.ntmps49
      go_wp2_with fail
      refine ha.mono ?_
      rintro e w2 ⟨rfl, hb2⟩
      have HB2 := Lib.hid (HW.out.trans (hb2.mono (by simp)))
      have hd := HD.out w2 HB2.out
      clear hb2
      go_wp2_with fail
      refine hd.mono ?_
      rintro e w3 ⟨rfl, hb3⟩
      have HB3 := Lib.hid (HB2.out.trans (hb3.mono HB2.out.size))
      clear hb3
      go_wp2_with fail
      exact bodyPost_ret (v := .bool D) (by simp [results, Try.results49, go_sem]) rfl ⟨by simp, HB3.out⟩
    · rw [decide_eq_false hk] at ha ⊢
      clear hs hk h8 HA
      go_enter Try.func49, Try.ntmps49
      go_wp2_with fail
      refine ha.mono ?_
      rintro e w2 ⟨rfl, hb2⟩
      have HB2 := Lib.hid (HW.out.trans (hb2.mono (by simp)))
      clear hb2
      go_wp2_with fail
      exact bodyPost_ret (v := .bool false) (by simp [results, Try.results49, go_sem]) rfl ⟨by simp, HB2.out⟩
  · have h8' : ((l.length : Int) ≤ 8) = False := by simp; omega
    have hs : supM pre l = false := by unfold supM; rw [decide_eq_false h8]; rfl
    rw [hs]
    clear hs h8 HA HD
    go_enter Try.func49, Try.ntmps49
    go_wp2_with fail
    exact bodyPost_ret (v := .bool false) (by simp [results, Try.results49, go_sem]) rfl ⟨rfl, HW.out⟩

/-- An heir: its name, its superclasses. -/
abbrev Hr := ByteArray × List ByteArray
def HAt (w : World) (Q : Nat → Prop) (g o : Nat) (l : List Hr) : Prop := ∀ i (x : Hr), l[i]? = some x → w.cell? ⟨g, o + i * 2, none⟩ = some (.string x.1) ∧ ∃ sv, w.cell? ⟨g, o + i * 2 + 1, none⟩ = some sv ∧ SRow w Q sv x.2
def HRow (w : World) (Q : Nat → Prop) (v : Value) (l : List Hr) : Prop := ∃ b c, v = .slice b l.length c ∧ (l ≠ [] → ∃ g o, b = some ⟨g, o, none⟩ ∧ Q g ∧ g < w.heap.size ∧ HAt w Q g o l ∧ l.length ≤ c)
theorem HRow.keep {w w' : World} {Q : Nat → Prop} {v : Value} {l : List Hr} (h : HRow w Q v l) (hk : ∀ b, Q b → b < w.heap.size → w'.heap[b]? = w.heap[b]?) (hs : w.heap.size ≤ w'.heap.size) : HRow w' Q v l := by
  obtain ⟨b, c, e, hr⟩ := h
  refine ⟨b, c, e, fun hne => ?_⟩
  obtain ⟨g, o, hb, hq, hg, ha, hc⟩ := hr hne
  refine ⟨g, o, hb, hq, by omega, fun i x hi => ?_, hc⟩
  obtain ⟨h1, sv, h2, h3⟩ := ha i x hi
  exact ⟨(World.cell?_of_block (w := w) (hk g hq hg)).trans h1, sv, (World.cell?_of_block (w := w) (hk g hq hg)).trans h2, h3.keep hk hs⟩
theorem HRow.below {w w' : World} {Q : Nat → Prop} {v : Value} {l : List Hr} (h : HRow w Q v l) (hk : Below w.heap.size w w') : HRow w' Q v l := h.keep (fun b _ z => hk.block b z) hk.size
theorem HRow.keepS {w w' : World} {Q S : Nat → Prop} {v : Value} {l : List Hr} (h : HRow w Q v l) (hk : Keep S w w') (hd : ∀ b, Q b → b < w.heap.size → ¬ S b) : HRow w' Q v l := h.keep (fun b q z => hk.block b z (hd b q z)) hk.size
theorem HRow.mono {w : World} {Q Q' : Nat → Prop} {v : Value} {l : List Hr} (h : HRow w Q v l) (hq : ∀ b, b < w.heap.size → Q b → Q' b) : HRow w Q' v l := by
  obtain ⟨b, c, e, hr⟩ := h
  refine ⟨b, c, e, fun hne => ?_⟩
  obtain ⟨g, o, hb, q, hg, ha, hc⟩ := hr hne
  refine ⟨g, o, hb, hq g hg q, hg, fun i x hi => ?_, hc⟩
  obtain ⟨h1, sv, h2, h3⟩ := ha i x hi
  exact ⟨h1, sv, h2, h3.mono hq⟩
/-- Is a hierarchy right? -/
def okAt (pre : List ByteArray) (h : Hr) : Bool := (!decide (h.1 = ⟨#[]⟩)) && ((!decide (h.1 ∈ pre)) && supM pre h.2)
def hierB (pre : List ByteArray) : List Hr → Bool
  | [] => true
  | h :: r => okAt pre h && hierB (pre ++ [h.1]) r
def checkM (g : List Hr) : Int := if 120 < g.length then 2 else if hierB [] g then 0 else 70
theorem hierB_at {g : List Hr} {k : Nat} {x : Hr} (h : g[k]? = some x) : hierB ((g.take k).map (·.1)) (g.drop k) = (okAt ((g.take k).map (·.1)) x && hierB ((g.take (k + 1)).map (·.1)) (g.drop (k + 1))) := by
  have hk := List.getElem?_eq_some_iff.1 h
  rw [List.drop_eq_getElem_cons hk.1, hk.2, List.take_add_one, h, Option.toList_some, List.map_append]
  rfl
/-- The loop of Check. -/
def KLoop (g : List Hr) (W : World) (k : Nat) (wr : World) : Prop :=
  k ≤ g.length ∧ Below W.heap.size W wr ∧ W.heap.size < wr.heap.size ∧ hierB [] g = hierB ((g.take k).map (·.1)) (g.drop k) ∧ MapF wr W.heap.size (setF ((g.take k).map (·.1)))
set_option maxRecDepth 100000 in
set_option maxHeartbeats 2000000 in
theorem Check_any (g : List Hr) (Q : Nat → Prop) (v : Value) (W : World) (hr : HRow W Q v g) (hz : ∀ x ∈ g, x.2.length ≤ 8796093022207) :
    Calls Try.prog 16 #[v] W fun e w' => e = .returned (.int .i64 (checkM g)) ∧ Below W.heap.size W w' := by
  obtain ⟨b, c, rfl, hrow⟩ := hr
  by_cases h120 : 120 < g.length
  · have hl : (120 : Int) < (g.length : Int) := by omega
    have hc : checkM g = 2 := by unfold checkM; rw [if_pos h120]
    rw [hc]
    clear hrow hz h120
    go_enter Try.func16, Try.ntmps16
    go_wp2_with fail
    exact bodyPost_ret (v := .int .i64 2) (by simp [results, Try.results16, go_sem]) rfl ⟨rfl, Below.refl _ _⟩
  have hl : ((120 : Int) < (g.length : Int)) = False := by simp; omega
  have hc : checkM g = if hierB [] g then 0 else 70 := by unfold checkM; rw [if_neg h120]
  rw [hc]
  obtain ⟨R, hR⟩ : ∃ R : Int, R = if hierB [] g then 0 else 70 := ⟨_, rfl⟩
  rw [← hR]
  have HR0 : Hid (hierB [] g = false → R = 70) := Lib.hid fun h => by rw [hR, h]; rfl
  have HR1 : Hid (hierB [] g = true → R = 0) := Lib.hid fun h => by rw [hR, h]; rfl
  have hmk := run_makeMap (P := Try.prog) 67 W
  have HNEW := Lib.hid (set_new W W.heap.size rfl)
  have HB0 : Hid (Below W.heap.size W (W.alloc (.map #[] 0))) := Lib.hid ((Below.refl _ W).alloc (Nat.le_refl _) _)
  have HROW := Lib.hid hrow
  have HZ := Lib.hid hz
  have HL : Hid (g.length ≤ 120) := Lib.hid (by omega)
  clear hrow hz h120 hc hR
  go_enter Try.func16, Try.ntmps16
  go_wp2_with fail
  go_loopw [12] (fun i wr => ∃ k : Nat, i = .int .i64 (k : Int) ∧ Hid (KLoop g W k wr)) (fun i _ => g.length - (intOf i).toNat)
  case atStart => exact ⟨0, rfl, Lib.hid ⟨by omega, HB0.out, by simp, by simp, HNEW.out⟩⟩
  case round =>
    obtain ⟨k, rfl, hst⟩ := hrel
    have hk := hst.out.1
    by_cases hlt : k < g.length
    · obtain ⟨⟨nm, su⟩, hx⟩ : ∃ x, g[k]? = some x := ⟨_, List.getElem?_eq_getElem hlt⟩
      obtain ⟨gb, o, rfl, _, hg, hat, _⟩ := HROW.out (by rintro rfl; simp at hlt)
      obtain ⟨_, hbe, hsz, hhi, hmap⟩ := hst.out
      obtain ⟨e0, sv, e1, hsv⟩ := hat k _ hx
      have e0' := (hbe.cell (p := ⟨gb, o + k * 2, none⟩) hg).trans e0
      have e1' := (hbe.cell (p := ⟨gb, o + k * 2 + 1, none⟩) hg).trans e1
      obtain ⟨sb, sc, rfl, hsr⟩ := id hsv
      simp only at e0' e1' hsv
      have hl2 : (k : Int) < (g.length : Int) := by omega
      have w3 : IntKind.i64.wrap ((k : Int) + 1) = (k : Int) + 1 := IntWalk.i64_in _ (by have := HL.out; omega)
      have HSU : Hid (su.length ≤ 8796093022207) := Lib.hid (HZ.out (nm, su) (List.mem_iff_getElem?.2 ⟨k, hx⟩))
      have HN := Lib.hid (hierB_at hx)
      have HT : Hid ((g.take (k + 1)).map (·.1) = (g.take k).map (·.1) ++ [nm]) := Lib.hid (by rw [List.take_add_one, hx]; simp)
      have HHI := Lib.hid hhi
      obtain ⟨pre, hpre⟩ : ∃ pre, pre = (g.take k).map (·.1) := ⟨_, rfl⟩
      rw [← hpre] at hmap HN HT HHI
      have hbx := (Below.refl wr.heap.size wr).alloc (Nat.le_refl _) (.cells #[.string nm, .slice sb su.length sc] 57)
      have HBX := Lib.hid hbx
      have HBE := Lib.hid (hbe.trans (hbx.mono hbe.size))
      have HSZ := Lib.hid hsz
      have HM := Lib.hid (hmap.keep (hbx.block _ hsz))
      have HSR := Lib.hid ((hsv.below hbe).below hbx)
      clear hst hat hx hbe hsz hhi hmap hsv e0 e1 hsr hbx hpre
      by_cases q1 : nm = ⟨#[]⟩
      · have z1 := (lit_eq [] q1).1
        have HE : Hid (hierB [] g = false) := Lib.hid (by rw [HHI.out, HN.out]; unfold okAt; rw [decide_eq_true q1]; rfl)
        clear q1
        go_wp2_with fail
        exact bodyPost_ret (v := .int .i64 70) (by simp [results, Try.results16, go_sem]) rfl ⟨by rw [HR0.out HE.out], HBE.out⟩
      have z1 := (lit_ne [] q1).1
      have hlook := set_look HM.out nm
      by_cases q2 : nm ∈ pre
      · rw [decide_eq_true q2] at hlook
        have HE : Hid (hierB [] g = false) := Lib.hid (by rw [HHI.out, HN.out]; unfold okAt; rw [decide_eq_true q2]; simp)
        clear q1 q2
        go_wp2_with fail
        exact bodyPost_ret (v := .int .i64 70) (by simp [results, Try.results16, go_sem]) rfl ⟨by rw [HR0.out HE.out], HBE.out⟩
      rw [decide_eq_false q2] at hlook
      have has := areSupers_any W.heap.size pre su Q (.slice sb su.length sc) _ HSR.out HSU.out HM.out
      have hbn : (wr.alloc (.cells #[.string nm, .slice sb su.length sc] 57)).heap[wr.heap.size]? = some (.cells #[.string nm, .slice sb su.length sc] 57) := heap_alloc_new wr _
      have HOK : Hid (okAt pre (nm, su) = supM pre su) := Lib.hid (by unfold okAt; rw [decide_eq_false q1, decide_eq_false q2]; rfl)
      cases hS : supM pre su with
      | false =>
        have HE : Hid (hierB [] g = false) := Lib.hid (by rw [HHI.out, HN.out, HOK.out, hS]; rfl)
        rw [hS] at has
        clear q1 q2 hS hbn
        go_wp2_with fail
        refine has.mono ?_
        rintro e w2 ⟨rfl, hb2⟩
        have HB2 := Lib.hid (HBE.out.trans (hb2.mono HBE.out.size))
        clear hb2
        go_wp2_with fail
        exact bodyPost_ret (v := .int .i64 70) (by simp [results, Try.results16, go_sem]) rfl ⟨by rw [HR0.out HE.out], HB2.out⟩
      | true =>
        have HE : Hid (hierB [] g = hierB (pre ++ [nm]) (g.drop (k + 1))) := Lib.hid (by rw [HHI.out, HN.out, HOK.out, hS, HT.out]; rfl)
        rw [hS] at has
        have HBN := Lib.hid hbn
        clear q1 q2 hS hbn
        go_wp2_with fail
        refine has.mono ?_
        rintro e w2 ⟨rfl, hb2⟩
        have HB2 := Lib.hid (HBE.out.trans (hb2.mono HBE.out.size))
        have hb3 : w2.heap[wr.heap.size]? = some (.cells #[.string nm, .slice sb su.length sc] 57) := (hb2.block _ (by simp)).trans HBN.out
        have hM2 := HM.out.keep (hb2.block _ HM.out.lt)
        have e2 : w2.cell? ⟨wr.heap.size, 0, none⟩ = some (.string nm) := by rw [cellOf hb3]; rfl
        obtain ⟨ob, hob⟩ := set_upd hM2 nm
        have hup := (hob w2 rfl).1
        have HM3 := Lib.hid (hob w2 rfl).2
        have HSZ2 : Hid (W.heap.size < w2.heap.size) := Lib.hid (by have := hb2.size; have := HSZ.out; simp at *; omega)
        clear hb2 hb3 hM2 hob
        go_wp2_with fail
        refine ⟨⟨k + 1, by simp, Lib.hid ⟨by omega, ?_, by simpa using HSZ2.out, by rw [HT.out]; exact HE.out, by rw [HT.out]; exact HM3.out⟩⟩, by simp only [intOf]; omega⟩
        exact ((Keep.of_below (S := fun _ => False) HB2.out).putObj (.inr (Nat.le_refl _)) ob).below0
    · have hl2 : ((k : Int) < (g.length : Int)) = False := by simp; omega
      obtain ⟨_, hbe, _, hhi, _⟩ := hst.out
      have HE : Hid (hierB [] g = true) := Lib.hid (by rw [hhi, List.drop_eq_nil_of_le (by omega)]; rfl)
      have HB := Lib.hid hbe
      clear hst hbe hhi
      go_wp2_with fail
      exact bodyPost_ret (v := .int .i64 0) (by simp [results, Try.results16, go_sem]) rfl ⟨by rw [HR1.out HE.out], HB.out⟩
end Go.Proofs.Ytolopideimnbgaa
