/-
  A merger in memory; a candidate is taken.
-/
import Derived.Test.YtolopideimnbgaaHH
import Derived.StillTailTactics
namespace Go.Proofs.Ytolopideimnbgaa
open Go.RowKit

structure MgAt (W : World) (mb bm : Nat) (Q : Nat → Prop) (ls : List Nms) : Prop where
  ne : mb ≠ bm
  nq : ¬ Q mb ∧ ¬ Q bm
  st : ∃ v, W.heap[mb]? = some (.cells #[v, .map (some bm)] 105) ∧ LRow W Q v ls
  cnt : CntF W bm (behM ls)
  full : ∀ l ∈ ls, l ≠ []
theorem MgAt.below {W W' : World} {mb bm : Nat} {Q : Nat → Prop} {ls : List Nms} (h : MgAt W mb bm Q ls) (hb : Below W.heap.size W W') : MgAt W' mb bm Q ls := by
  obtain ⟨v, h1, h2⟩ := h.st
  exact ⟨h.ne, h.nq, ⟨v, (hb.block _ (Array.getElem?_eq_some_iff.1 h1).1).trans h1, h2.below hb⟩, h.cnt.keep (hb.block _ h.cnt.lt), h.full⟩
theorem MgAt.lt {W : World} {mb bm : Nat} {Q : Nat → Prop} {ls : List Nms} (h : MgAt W mb bm Q ls) : mb < W.heap.size := by
  obtain ⟨v, h1, _⟩ := h.st
  exact (Array.getElem?_eq_some_iff.1 h1).1
/-- A part of a slice from a place on. -/
def subS (a : Option Addr) (n c b : Nat) : Value := .slice (if c = b then a else a.map (·.add b)) (n - b) (c - b)
theorem sub_run (a : Option Addr) (n c b : Nat) (h1 : b ≤ n) (w : World) : (Instr.sliceAt 24 (.slice a n c) (some (.int .i64 (b : Int))) none none).run Try.prog w = .ok (subS a n c b) w := by
  rw [run_sliceAt_slice w 24 _ _ _ _ (by kernel_rfl), run_slice_l w 24 a n c (by kernel_rfl) .i64 (b : Int) (by omega) (by omega)]
  have e : (sizeOf (Try.prog.elem 24)).run Try.prog w = .ok 1 w := by kernel_rfl
  rw [e]
  simp [subS, go_sem]
theorem sub_run1 (a : Option Addr) (n c : Nat) (h1 : 1 ≤ n) (w : World) : (Instr.sliceAt 24 (.slice a n c) (some (.int .i64 1)) none none).run Try.prog w = .ok (subS a n c 1) w := sub_run a n c 1 h1 w
theorem SRow.sub {w : World} {Q : Nat → Prop} {a : Option Addr} {c : Nat} {l : Nms} (h : SRow w Q (.slice a l.length c) l) {b : Nat} (hb : b ≤ l.length) : SRow w Q (subS a l.length c b) (l.drop b) := by
  obtain ⟨a', c', e, hr⟩ := h
  cases e
  refine ⟨_, c - b, by unfold subS; rw [List.length_drop], fun hne => ?_⟩
  have hlt : b < l.length := by
    rcases Nat.lt_or_ge b l.length with h | h
    · exact h
    · exact absurd (List.drop_eq_nil_of_le h) hne
  obtain ⟨g, o, rfl, hq, hg, hat, hc⟩ := hr (by rintro rfl; simp at hlt)
  rw [if_neg (by omega)]
  refine ⟨g, o + b, ?_, hq, hg, fun i x hi => ?_, by rw [List.length_drop]; omega⟩
  · by_cases hz : b = 0
    · subst hz; simp [Addr.add]
    · simp [Addr.add, hz]
  · rw [List.getElem?_drop] at hi
    have := hat _ x hi
    rwa [← Nat.add_assoc] at this
theorem subS_parts (a : Option Addr) (n c b : Nat) : ∃ a', subS a n c b = .slice a' (n - b) (c - b) := ⟨_, rfl⟩
/-- The loop of take. -/
def TLoop (x : ByteArray) (ls : List Nms) (Q : Nat → Prop) (bm : Nat) (W : World) (k : Nat) (v : Value) (wr : World) : Prop :=
  k ≤ ls.length ∧ Keep (fun b => b = bm) W wr ∧ CntF wr bm (behM ((ls.take k).map (takeL x) ++ ls.drop k)) ∧ LOwn wr W.heap.size (fun b => Q b ∧ b < W.heap.size) v (nonE ((ls.take k).map (takeL x)))
theorem take_snoc {ls : List Nms} {k : Nat} {l : Nms} (h : ls[k]? = some l) (x : ByteArray) : (ls.take (k + 1)).map (takeL x) = (ls.take k).map (takeL x) ++ [takeL x l] := by
  rw [List.take_add_one, h]; simp
theorem beh_step {ls : List Nms} {k : Nat} {l : Nms} (h : ls[k]? = some l) (x s : ByteArray) :
    behM ((ls.take k).map (takeL x) ++ ls.drop k) s = behM ((ls.take k).map (takeL x)) s + (cntL s l.tail + behM (ls.drop (k + 1)) s) ∧
    behM ((ls.take (k + 1)).map (takeL x) ++ ls.drop (k + 1)) s = behM ((ls.take k).map (takeL x)) s + (cntL s (takeL x l).tail + behM (ls.drop (k + 1)) s) := by
  have hk := List.getElem?_eq_some_iff.1 h
  constructor
  · rw [behM_app, List.drop_eq_getElem_cons hk.1, hk.2]; rfl
  · rw [behM_app, take_snoc h, behM_app]
    show behM _ s + (cntL s (takeL x l).tail + behM [] s) + _ = _
    show behM _ s + (cntL s (takeL x l).tail + 0) + _ = _
    omega
theorem totM_mid {ls : List Nms} {k : Nat} (x : ByteArray) : totM ((ls.take k).map (takeL x) ++ ls.drop k) ≤ totM ls := by
  rw [totM_app]
  have h1 := totM_take x (ls.take k)
  have h2 := totM_app (ls.take k) (ls.drop k)
  rw [List.take_append_drop] at h2
  omega
theorem totM_len {ls : List Nms} (h : ∀ l ∈ ls, l ≠ []) : ls.length ≤ totM ls := by
  induction ls with
  | nil => exact Nat.le_refl _
  | cons l r ih =>
    have h1 := ih fun l' hl => h l' (.tail _ hl)
    have h2 : 0 < l.length := List.length_pos_iff.2 (h l (.head _))
    simp only [List.length_cons, totM]; omega
theorem totM_mem {ls : List Nms} {l : Nms} (h : l ∈ ls) : l.length ≤ totM ls := by
  induction ls with
  | nil => cases h
  | cons a r ih =>
    cases h with
    | head => simp only [totM]; omega
    | tail _ h => have := ih h; simp only [totM]; omega
theorem TLoop.push {x : ByteArray} {ls : List Nms} {Q : Nat → Prop} {bm k : Nat} {W Wq w6 : World} {v : Value} {l : Nms} {fl : List Nms} {O : Obj} {g6 cap6 : Nat} (hk : k < ls.length) (hbm : bm < W.heap.size) (hke : Keep (fun b => b = bm) W Wq) (hcn : CntF Wq bm (behM ((ls.take (k + 1)).map (takeL x) ++ ls.drop (k + 1))))
    (hlo : LOwn Wq W.heap.size (fun b => Q b ∧ b < W.heap.size) v fl) (hf : nonE ((ls.take (k + 1)).map (takeL x)) = fl ++ [l]) (hown : LOwn w6 W.heap.size (fun b => Q b ∧ b < W.heap.size) (.slice (some ⟨g6, 0, none⟩) (fl.length + 1) cap6) (fl ++ [l])) (hgr : (Wq.alloc O).grownBy w6 v.ownBlock) :
    TLoop x ls Q bm W (k + 1) (.slice (some ⟨g6, 0, none⟩) (fl.length + 1) cap6) w6 := by
  have ho : ∀ b, v.ownBlock = some b → W.heap.size ≤ b := fun b hb => (hlo.lt b hb).1
  refine ⟨hk, (hke.alloc O).trans' (T := fun b => v.ownBlock = some b) (Keep.of_grown hgr fun k e => e) (fun b hb => .inr (ho b hb)), ?_, by rw [hf]; exact hown⟩
  have hz := hke.size
  refine (hcn.keep (W' := Wq.alloc O) (Below.heap_alloc _ _ _ (by omega))).keep (hgr.block _ (by simp; omega) fun e => ?_)
  have := ho _ e.symm
  omega
set_option maxRecDepth 100000 in
set_option maxHeartbeats 4000000 in
theorem take_any (mb bm : Nat) (Q : Nat → Prop) (x : ByteArray) (ls : List Nms) (W : World) (hm : MgAt W mb bm Q ls) (hz : totM ls ≤ 1073741824) :
    Calls Try.prog 79 #[.pointer (some ⟨mb, 0, none⟩), .string x] W fun e w' => e = .returned (.tuple #[]) ∧ Keep (fun b => b = mb ∨ b = bm) W w' ∧ MgAt w' mb bm (fun b => Q b ∨ W.heap.size ≤ b) (nonE (ls.map (takeL x))) := by
  obtain ⟨v, hblk, hrow⟩ := hm.st
  obtain ⟨vb, vc, rfl, hrw⟩ := hrow
  have HM := Lib.hid hm
  have hmlt := hm.lt
  have c0 : W.cell? ⟨mb, 0, none⟩ = some (.slice vb ls.length vc) := by rw [cellOf hblk]; rfl
  have HBLK := Lib.hid hblk
  have HT0 : Hid (TLoop x ls Q bm W 0 (.slice none 0 0) W) := Lib.hid ⟨by omega, Keep.refl _ _, by simpa using hm.cnt, LOwn.nil _ _ _⟩
  have HLEN : Hid (ls.length ≤ 1073741824) := Lib.hid (by have := totM_len hm.full; omega)
  clear hm hblk
  go_enter Try.func79, Try.ntmps79
  go_wp2_with fail
  go_loopw [4, 12] (fun v4 i wr => ∃ k : Nat, i = .int .i64 (k : Int) ∧ Hid (TLoop x ls Q bm W k v4 wr)) (fun _ i _ => ls.length - (intOf i).toNat)
  case atStart => exact ⟨0, rfl, HT0⟩
  case round =>
    obtain ⟨k, rfl, hst⟩ := hrel
    obtain ⟨hk, hke, hcn, hlo⟩ := hst.out
    by_cases hlt : k < ls.length
    · obtain ⟨l, hl⟩ : ∃ l, ls[k]? = some l := ⟨_, List.getElem?_eq_getElem hlt⟩
      obtain ⟨g, o, rfl, hqg, hg, hat, _⟩ := hrw (by rintro rfl; simp at hlt)
      obtain ⟨u, hu, hsr⟩ := hat k l hl
      have hgn : ¬ (g = bm) := fun e => HM.out.nq.2 (e ▸ hqg)
      have e0 := (hke.cell (o := o + k) hg hgn).trans hu
      have hsr2 : SRow wr (fun b => Q b ∧ b < W.heap.size) u l := (hsr.mono (Q' := fun b => Q b ∧ b < W.heap.size) fun b hb hq => ⟨hq, hb⟩).keepS hke fun b hq _ e => HM.out.nq.2 (e ▸ hq.1)
      have hne := HM.out.full l (List.mem_iff_getElem?.2 ⟨k, hl⟩)
      obtain ⟨y, t, rfl⟩ : ∃ y t, l = y :: t := by
        cases l with
        | nil => exact absurd rfl hne
        | cons y t => exact ⟨y, t, rfl⟩
      obtain ⟨ub, uc, rfl, hur⟩ := id hsr2
      obtain ⟨ug, uo, rfl, hq3, hg3, hat3, hcc⟩ := hur (by simp)
      have e1 : wr.cell? ⟨ug, uo, none⟩ = some (.string y) := hat3 0 y rfl
      have hlen : (y :: t).length = t.length + 1 := rfl
      rw [hlen] at e0 hsr2 hcc
      have hk2 : (k : Int) < (ls.length : Int) := by omega
      have w3 : IntKind.i64.wrap ((k : Int) + 1) = (k : Int) + 1 := IntWalk.i64_in _ (by have := HLEN.out; omega)
      have HBS := Lib.hid fun s => beh_step hl x s
      have HTS := Lib.hid (take_snoc hl x)
      have HTM : Hid (totM ((ls.take k).map (takeL x) ++ ls.drop k) ≤ 1073741824) := Lib.hid (Nat.le_trans (totM_mid x) hz)
      have HKE := Lib.hid hke
      have HCN := Lib.hid hcn
      have HLO := Lib.hid hlo
      have HSR := Lib.hid hsr2
      have HNL : Hid ((nonE ((ls.take k).map (takeL x))).length ≤ k) := Lib.hid (by
        refine Nat.le_trans (List.length_filter_le _ _) ?_
        rw [List.length_map, List.length_take]; omega)
      have HOQ : Hid (∀ b, Q b ∧ b < W.heap.size → u4.ownBlock ≠ some b) := Lib.hid fun b hb e => by have := (hlo.lt b e).1; omega
      have HWS : Hid (W.heap.size ≤ wr.heap.size) := Lib.hid hke.size
      have hsub := sub_run1 (some ⟨ug, uo, none⟩) (t.length + 1) uc (by omega)
      have HSUB := Lib.hid (SRow.sub (l := y :: t) hsr2 (b := 1) (by simp))
      clear hst hke hcn hlo hat hu hsr hne hur hat3 hl hsr2
      by_cases hyx : y = x
      · have z1 := (str_eq hyx).1
        have HTL : Hid (takeL x (y :: t) = t) := Lib.hid (by show (if y = x then t else y :: t) = t; rw [if_pos hyx])
        clear hyx
        cases t with
        | nil =>
          obtain ⟨a', ha'⟩ := subS_parts (some ⟨ug, uo, none⟩) 1 uc 1
          rw [show ([] : Nms).length + 1 = 1 from rfl] at hsub
          rw [ha'] at hsub
          have HNX : Hid (TLoop x ls Q bm W (k + 1) u4 wr) := Lib.hid ⟨by omega, HKE.out, HCN.out.ext fun s => by rw [(HBS.out s).1, (HBS.out s).2, HTL.out]; rfl, by rw [HTS.out, nonE_snoc, HTL.out, if_pos rfl, List.append_nil]; exact HLO.out⟩
          clear ha'
          go_wp2_with fail
          exact ⟨⟨k + 1, by simp, HNX⟩, by simp only [intOf]; omega⟩
        | cons z r =>
          have hsv : subS (some ⟨ug, uo, none⟩) ((z :: r).length + 1) uc 1 = .slice (some ⟨ug, uo + 1, none⟩) (r.length + 1) (uc - 1) := by
            unfold subS
            rw [if_neg (by simp at hcc; omega)]
            simp [Addr.add]
          rw [hsv] at hsub
          have HS2 : Hid (SRow wr (fun b => Q b ∧ b < W.heap.size) (.slice (some ⟨ug, uo + 1, none⟩) (z :: r).length (uc - 1)) (z :: r)) := Lib.hid (by
            have := HSUB.out
            rw [show (y :: z :: r).length = (z :: r).length + 1 from rfl, hsv] at this
            exact this)
          have e5 : wr.cell? ⟨ug, uo + 1, none⟩ = some (.string z) := by
            obtain ⟨_, _, e, hh⟩ := HS2.out
            cases e
            obtain ⟨g', o', e', _, _, hat', _⟩ := hh (by simp)
            cases e'
            exact hat' 0 z rfl
          have c1 : wr.cell? ⟨mb, 1, none⟩ = some (.map (some bm)) := (HKE.out.cell (o := 1) hmlt (by have := HM.out.ne; omega)).trans (by rw [cellOf HBLK.out]; rfl)
          have hb1 := HBS.out z
          rw [HTL.out] at hb1
          have hold : behM ((ls.take k).map (takeL x) ++ ls.drop k) z = behM ((ls.take (k + 1)).map (takeL x) ++ ls.drop (k + 1)) z + 1 := by
            have e6 : cntL z (y :: z :: r).tail = 1 + cntL z r := by show (if z = z then 1 else 0) + cntL z r = _; rw [if_pos rfl]
            have e7 : (z :: r).tail = r := rfl
            rw [e6] at hb1; rw [e7] at hb1; omega
          have hbd := behM_le z ((ls.take k).map (takeL x) ++ ls.drop k)
          have hlk := (HCN.out.keep (W' := wr.drew) rfl).look z
          obtain ⟨ob, hob⟩ := HCN.out.upd z (behM ((ls.take (k + 1)).map (takeL x) ++ ls.drop (k + 1)) z)
          have hup := (hob wr.drew rfl).1
          have HCX : Hid (CntF (wr.drew.putObj bm ob) bm (behM ((ls.take (k + 1)).map (takeL x) ++ ls.drop (k + 1)))) := Lib.hid ((hob wr.drew rfl).2.ext fun s => by
            by_cases e : z = s
            · subst e; simp
            · simp only [if_neg e]
              rw [(HBS.out s).1, (HBS.out s).2, HTL.out]
              show _ + ((if z = s then 1 else 0) + cntL s r + _) = _ + (cntL s r + _)
              rw [if_neg e]; omega)
          obtain ⟨ci, hci⟩ : ∃ ci : Int, ci = (behM ((ls.take k).map (takeL x) ++ ls.drop k) z : Int) := ⟨_, rfl⟩
          obtain ⟨di, hdi⟩ : ∃ di : Int, di = (behM ((ls.take (k + 1)).map (takeL x) ++ ls.drop (k + 1)) z : Int) := ⟨_, rfl⟩
          have wc : IntKind.i64.wrap (ci - 1) = di := by
            rw [IntWalk.i64_in _ (by have := HTM.out; omega)]; omega
          rw [← hci] at hlk
          rw [← hdi] at hup
          have HLO2 : Hid (LOwn (wr.drew.putObj bm ob) W.heap.size (fun b => Q b ∧ b < W.heap.size) u4 (nonE ((ls.take k).map (takeL x)))) := Lib.hid
            (HLO.out.keep (fun q hq => World.putObj_heap_other (fun e => by have h1 := (HLO.out.lt q hq).1; have h2 := HM.out.cnt.lt; omega)) (fun b hb _ => World.putObj_heap_other (fun e => HM.out.nq.2 (e ▸ hb.1))) (by simp))
          have HS3 : Hid (SRow (wr.drew.putObj bm ob) (fun b => Q b ∧ b < W.heap.size) (.slice (some ⟨ug, uo + 1, none⟩) (z :: r).length (uc - 1)) (z :: r)) := Lib.hid
            (HS2.out.keep (fun b hb _ => World.putObj_heap_other (fun e => HM.out.nq.2 (e ▸ hb.1))) (by simp))
          have HKE2 : Hid (Keep (fun b => b = bm) W (wr.drew.putObj bm ob)) := Lib.hid ((HKE.out.drew 1).putObj (.inl rfl) ob)
          have HNX : Hid (nonE ((ls.take (k + 1)).map (takeL x)) = nonE ((ls.take k).map (takeL x)) ++ [z :: r]) := Lib.hid (by rw [HTS.out, nonE_snoc, HTL.out, if_neg (by simp)])
          have HSZ2 : Hid ((wr.drew.putObj bm ob).heap.size = wr.heap.size) := Lib.hid (by simp)
          clear hb1 hold hbd hob hci hdi hsv HS2 HSUB HBS HTS
          simp only [List.length_cons] at *
          go_wp2_with fail
          go_still_tail 9, (by kernel_rfl)
          change wpList _ _ _ _ _ wr.drew
          have HBX : Hid (((wr.drew.putObj bm ob).alloc (.cells #[.slice (some ⟨ug, uo + 1, none⟩) (r.length + 1) (uc - 1)] 24)).heap[wr.heap.size]? = some (.cells #[.slice (some ⟨ug, uo + 1, none⟩) (r.length + 1) (uc - 1)] 24)) := Lib.hid (by
            have := heap_alloc_new (wr.drew.putObj bm ob) (.cells #[.slice (some ⟨ug, uo + 1, none⟩) (r.length + 1) (uc - 1)] 24); rwa [HSZ2.out] at this)
          have hbp := (Below.refl _ (wr.drew.putObj bm ob)).alloc (Nat.le_refl _) (.cells #[.slice (some ⟨ug, uo + 1, none⟩) (r.length + 1) (uc - 1)] 24)
          have HLO3 := Lib.hid (HLO2.out.below hbp)
          have HS4 := Lib.hid (HS3.out.below hbp)
          clear hbp HLO HCN
          generalize nonE ((ls.take k).map (takeL x)) = fl at HLO2 HLO3 HNL HNX
          go_wp2_with (at_builtin; go_loud (refine wpList_append_lst rfl _ _ rfl W.heap.size (fun b => Q b ∧ b < W.heap.size) _ _ rfl HLO3.out _ _ (some ⟨ug, uo + 1, none⟩) (uc - 1) (z :: r) rfl HBX.out HS4.out HOQ.out (by have := HNL.out; have := HLEN.out; omega) (by have := HWS.out; have := HSZ2.out; simp; omega) _ rfl ?_); intro g6 cap6 w6 hown6 hgrow6 hat6; have HNT : Hid (TLoop x ls Q bm W (k + 1) (.slice (some ⟨g6, 0, none⟩) (fl.length + 1) cap6) w6) := Lib.hid (TLoop.push hlt HM.out.cnt.lt HKE2.out HCX.out HLO2.out HNX.out hown6 hgrow6); clear hown6 hgrow6 hat6)
          exact ⟨⟨k + 1, by simp, HNT⟩, by simp only [intOf]; omega⟩
      · have z1 := (str_ne hyx).1
        have HTL : Hid (takeL x (y :: t) = y :: t) := Lib.hid (by show (if y = x then t else y :: t) = y :: t; rw [if_neg hyx])
        have HNX : Hid (nonE ((ls.take (k + 1)).map (takeL x)) = nonE ((ls.take k).map (takeL x)) ++ [y :: t]) := Lib.hid (by rw [HTS.out, nonE_snoc, HTL.out, if_neg (by simp)])
        have HCX := Lib.hid (HCN.out.ext fun s => show _ = behM ((ls.take (k + 1)).map (takeL x) ++ ls.drop (k + 1)) s by rw [(HBS.out s).1, (HBS.out s).2, HTL.out])
        have HBX : Hid ((wr.alloc (.cells #[.slice (some ⟨ug, uo, none⟩) (t.length + 1) uc] 24)).heap[wr.heap.size]? = some (.cells #[.slice (some ⟨ug, uo, none⟩) (t.length + 1) uc] 24)) := Lib.hid (heap_alloc_new wr _)
        have hbp := (Below.refl _ wr).alloc (Nat.le_refl _) (.cells #[.slice (some ⟨ug, uo, none⟩) (t.length + 1) uc] 24)
        have HLO3 := Lib.hid (HLO.out.below hbp)
        have HS4 := Lib.hid (HSR.out.below hbp)
        clear hbp hyx hsub HSUB HBS HTS
        generalize nonE ((ls.take k).map (takeL x)) = fl at HLO HLO3 HNL HNX
        go_wp2_with (at_builtin; go_loud (refine wpList_append_lst rfl _ _ rfl W.heap.size (fun b => Q b ∧ b < W.heap.size) _ _ rfl HLO3.out _ _ (some ⟨ug, uo, none⟩) uc (y :: t) rfl HBX.out HS4.out HOQ.out (by have := HNL.out; have := HLEN.out; omega) (by have := HWS.out; simp; omega) _ rfl ?_); intro g6 cap6 w6 hown6 hgrow6 hat6; have HNT : Hid (TLoop x ls Q bm W (k + 1) (.slice (some ⟨g6, 0, none⟩) (fl.length + 1) cap6) w6) := Lib.hid (TLoop.push hlt HM.out.cnt.lt HKE.out HCX.out HLO.out HNX.out hown6 hgrow6); clear hown6 hgrow6 hat6)
        exact ⟨⟨k + 1, by simp, HNT⟩, by simp only [intOf]; omega⟩
    · have hk2 : ((k : Int) < (ls.length : Int)) = False := by simp; omega
      have hkl : k = ls.length := by omega
      subst hkl
      rw [List.take_length, List.drop_length, List.append_nil] at hcn
      rw [List.take_length] at hlo
      obtain ⟨b4, c4, rfl⟩ := hlo.len
      have c3 : wr.cell? ⟨mb, 0, none⟩ = some (.slice vb ls.length vc) := (hke.cell (o := 0) hmlt (by have := HM.out.ne; omega)).trans c0
      have hblk2 : wr.heap[mb]? = some (.cells #[.slice vb ls.length vc, .map (some bm)] 105) := (hke.block _ hmlt (by have := HM.out.ne; omega)).trans HBLK.out
      have f3 := frozenOf (j := 0) hblk2
      have HFIN : Hid (Keep (fun b => b = mb ∨ b = bm) W (wr.setCell ⟨mb, 0, none⟩ (.slice b4 (nonE (ls.map (takeL x))).length c4)) ∧ MgAt (wr.setCell ⟨mb, 0, none⟩ (.slice b4 (nonE (ls.map (takeL x))).length c4)) mb bm (fun b => Q b ∨ W.heap.size ≤ b) (nonE (ls.map (takeL x)))) := Lib.hid (by
        refine ⟨(hke.mono fun b _ e => .inr e).setCell (.inl (.inl rfl)) _ _, HM.out.ne, ⟨fun e => e.elim HM.out.nq.1 (by omega), fun e => e.elim HM.out.nq.2 (by have := HM.out.cnt.lt; omega)⟩, ⟨_, heap_setCell_same _ mb 0 _ _ _ hblk2, ?_⟩, (hcn.ext fun s => (behM_nonE s _).symm).keep (Below.heap_setCell _ _ _ _ (by have := HM.out.ne; simp; omega)), nonE_ne⟩
        refine (hlo.lrow (Q' := fun b => (Q b ∨ W.heap.size ≤ b) ∧ b ≠ mb) (fun b _ hq => ⟨.inl hq.1, fun e => HM.out.nq.1 (e ▸ hq.1)⟩) (fun b hb _ => ⟨.inr hb, by omega⟩)).keep (fun b hq _ => Below.heap_setCell _ _ _ _ (by simpa using hq.2)) (by simp) |>.mono fun b _ h => h.1)
      clear hst hke hcn hlo hblk2
      go_wp2_with fail
      exact bodyPost_end (results_none rfl _ _ _) rfl ⟨rfl, HFIN.out⟩
end Go.Proofs.Ytolopideimnbgaa
