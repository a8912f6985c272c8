/-
  merge.
-/
import Derived.Test.YtolopideimnbgaaHI
import Derived.WalkMore
namespace Go.Proofs.Ytolopideimnbgaa
open Go.RowKit

def lenOf : Value → Nat
  | .slice _ n _ => n
  | _ => 0
/-- How merging ends. -/
def MergePost (mb bm : Nat) (Q : Nat → Prop) (r : Except (List Nms) Nms) (W : World) (e : Ending) (w' : World) : Prop :=
  Keep (fun b => b = mb ∨ b = bm) W w' ∧ match r with
  | .ok m => ∃ v, e = .returned (.tuple #[v, .bool true]) ∧ SOwn w' W.heap.size v m
  | .error ls' => e = .returned (.tuple #[.slice none 0 0, .bool false]) ∧ MgAt w' mb bm (fun b => Q b ∨ W.heap.size ≤ b) ls'
/-- The loop of merge. -/
def GLoop (mb bm : Nat) (Q : Nat → Prop) (ls : List Nms) (W : World) (v : Value) (wr : World) : Prop :=
  ∃ out cur, SOwn wr W.heap.size v out ∧ Keep (fun b => b = mb ∨ b = bm) W wr ∧ MgAt wr mb bm (fun b => (Q b ∨ W.heap.size ≤ b) ∧ v.ownBlock ≠ some b) cur ∧ mergeM (totM ls) ls = (mergeM (totM cur) cur).map (out ++ ·) ∧ out.length + totM cur ≤ totM ls
theorem merge_step {cur : List Nms} {x : ByteArray} (h0 : cur ≠ []) (hc : candM cur cur = some x) : mergeM (totM cur) cur = (mergeM (totM (nonE (cur.map (takeL x)))) (nonE (cur.map (takeL x)))).map (x :: ·) := by
  have hlt := totM_lt cur hc
  obtain ⟨n, hn⟩ : ∃ n, totM cur = n + 1 := ⟨totM cur - 1, by omega⟩
  rw [hn]
  show (if cur = [] then _ else match candM cur cur with | none => _ | some x => (mergeM n (nonE (cur.map (takeL x)))).map (x :: ·)) = _
  rw [if_neg h0, hc]
  simp only
  rw [mergeM_fuel n _ _ nonE_ne (by rw [totM_nonE]; omega) (Nat.le_refl _)]
theorem merge_stuck {cur : List Nms} (h0 : cur ≠ []) (hc : candM cur cur = none) (hne : ∀ l ∈ cur, l ≠ []) : mergeM (totM cur) cur = .error cur := by
  have h1 := totM_len hne
  have h2 : 0 < cur.length := List.length_pos_iff.2 h0
  obtain ⟨n, hn⟩ : ∃ n, totM cur = n + 1 := ⟨totM cur - 1, by omega⟩
  rw [hn]
  show (if cur = [] then _ else match candM cur cur with | none => _ | some x => (mergeM n (nonE (cur.map (takeL x)))).map (x :: ·)) = _
  rw [if_neg h0, hc]
theorem cand_at {cur : List Nms} {j : Nat} {x : ByteArray} {t : Nms} (h : cur[j]? = some (x :: t)) : candM cur (cur.drop j) = if behM cur x = 0 then some x else candM cur (cur.drop (j + 1)) := by
  have hk := List.getElem?_eq_some_iff.1 h
  rw [List.drop_eq_getElem_cons hk.1, hk.2]
  rfl
theorem ex_map_map {ε α β γ : Type} (r : Except ε α) (f : α → β) (g : β → γ) : (r.map f).map g = r.map (g ∘ f) := by cases r <;> rfl
set_option maxRecDepth 100000 in
set_option maxHeartbeats 4000000 in
theorem merge_any (mb bm : Nat) (Q : Nat → Prop) (ls : List Nms) (W : World) (hm : MgAt W mb bm Q ls) (hz : totM ls ≤ 1073741824) :
    Calls Try.prog 55 #[.pointer (some ⟨mb, 0, none⟩)] W (MergePost mb bm Q (mergeM (totM ls) ls) W) := by
  have hmlt := hm.lt
  have hclt := hm.cnt.lt
  have HQ := Lib.hid hm.nq
  have HG0 : Hid (GLoop mb bm Q ls W (.slice none 0 0) W) := Lib.hid ⟨[], ls, SOwn.nil _ _, Keep.refl _ _, by
    obtain ⟨v, h1, h2⟩ := hm.st
    exact ⟨hm.ne, ⟨fun h => h.1.elim hm.nq.1 (by omega), fun h => h.1.elim hm.nq.2 (by omega)⟩, ⟨v, h1, h2.mono fun b _ h => ⟨.inl h, by simp [Value.ownBlock]⟩⟩, hm.cnt, hm.full⟩, by cases mergeM (totM ls) ls <;> rfl, by simp⟩
  obtain ⟨R, hR⟩ : ∃ R, R = mergeM (totM ls) ls := ⟨_, rfl⟩
  rw [← hR]
  have HR := Lib.hid hR
  clear hm hR
  go_enter Try.func55, Try.ntmps55
  go_wp2_with fail
  go_step3
  go_wp2_with fail
  go_step3
  go_wp2_with fail
  go_loopw [4] (fun v4 wr => ∃ a n c, v4 = .slice a n c ∧ Hid (GLoop mb bm Q ls W v4 wr)) (fun v4 _ => totM ls - lenOf v4)
  case atStart => exact ⟨_, _, _, rfl, HG0⟩
  case round =>
    obtain ⟨oa, on, oc, rfl, hst⟩ := hrel
    obtain ⟨out, cur, hown, hke, hmg, hmr, hto⟩ := hst.out
    have hon : on = out.length := by obtain ⟨_, _, e⟩ := hown.len; cases e; rfl
    subst hon
    obtain ⟨v, hblk, hrow⟩ := hmg.st
    obtain ⟨vb, vc, rfl, hrw⟩ := hrow
    have c0 : wr.cell? ⟨mb, 0, none⟩ = some (.slice vb cur.length vc) := by rw [cellOf hblk]; rfl
    have c1 : wr.cell? ⟨mb, 1, none⟩ = some (.map (some bm)) := by rw [cellOf hblk]; rfl
    have HMG := Lib.hid hmg
    have HOWN := Lib.hid hown
    have HKE := Lib.hid hke
    have HMR := Lib.hid hmr
    have HTO := Lib.hid hto
    have HLEN : Hid (cur.length ≤ 1073741824) := Lib.hid (by have := totM_len hmg.full; omega)
    clear hst hown hke hmg hmr hblk
    by_cases h0 : cur = []
    · have hl : ((0 : Int) < (cur.length : Int)) = False := by rw [h0]; simp
      have hl' : (0 < cur.length) = False := by rw [h0]; simp
      have HF : Hid (R = .ok out) := Lib.hid (by rw [HR.out, HMR.out, h0]; show Except.ok (out ++ []) = _; rw [List.append_nil])
      clear h0
      go_wp2_with fail
      refine bodyPost_ret (v := .tuple #[.slice oa out.length oc, .bool true]) (by simp [results, Try.results55, go_sem]) rfl ⟨HKE.out, ?_⟩
      rw [HF.out]
      exact ⟨_, rfl, HOWN.out⟩
    · have hlp := List.length_pos_iff.2 h0
      have hl : (0 : Int) < (cur.length : Int) := by omega
      have H0 := Lib.hid h0
      clear h0
      go_wp2_with fail
      go_loop [4, 19] (fun v4 i => ∃ j : Nat, j ≤ cur.length ∧ v4 = .slice oa out.length oc ∧ i = .int .i64 (j : Int) ∧ Hid (candM cur cur = candM cur (cur.drop j))) (fun _ i => cur.length - (intOf i).toNat)
      case atStart => exact ⟨0, by omega, rfl, rfl, Lib.hid (by simp)⟩
      case round =>
        obtain ⟨j, hj, rfl, rfl, hcd⟩ := hrel
        by_cases hlt : j < cur.length
        · obtain ⟨l, hl2⟩ : ∃ l, cur[j]? = some l := ⟨_, List.getElem?_eq_getElem hlt⟩
          obtain ⟨g, o, rfl, hqg, hg, hat, _⟩ := hrw (by rintro rfl; simp at hlt)
          obtain ⟨u, hu, hsr⟩ := hat j l hl2
          have hne := HMG.out.full l (List.mem_iff_getElem?.2 ⟨j, hl2⟩)
          obtain ⟨y, t, rfl⟩ : ∃ y t, l = y :: t := by
            cases l with
            | nil => exact absurd rfl hne
            | cons y t => exact ⟨y, t, rfl⟩
          obtain ⟨ub, uc, rfl, hur⟩ := hsr
          obtain ⟨ug, uo, rfl, _, _, hat3, _⟩ := hur (by simp)
          have e1 : wr.cell? ⟨ug, uo, none⟩ = some (.string y) := hat3 0 y rfl
          have hlen : (y :: t).length = t.length + 1 := rfl
          rw [hlen] at hu
          have hk2 : (j : Int) < (cur.length : Int) := by omega
          have w3 : IntKind.i64.wrap ((j : Int) + 1) = (j : Int) + 1 := IntWalk.i64_in _ (by have := HLEN.out; omega)
          have HCA := Lib.hid (cand_at hl2)
          have hlk := HMG.out.cnt.look y
          by_cases hb0 : behM cur y = 0
          · rw [hb0] at hlk
            have hcs : candM cur cur = some y := by rw [hcd.out, HCA.out, if_pos hb0]
            have HST := Lib.hid (merge_step H0.out hcs)
            have HLT : Hid (totM (nonE (cur.map (takeL y))) < totM cur) := Lib.hid (by rw [totM_nonE]; exact totM_lt cur hcs)
            have HBX : Hid ((wr.alloc (.cells #[.string y] 9)).heap[wr.heap.size]? = some (.cells #[.string y] 9)) := Lib.hid (heap_alloc_new wr _)
            have hbp := (Below.refl _ wr).alloc (Nat.le_refl _) (.cells #[.string y] 9)
            have HO2 := Lib.hid (HOWN.out.below hbp)
            have HM2 := Lib.hid (HMG.out.below hbp)
            have HK2 := Lib.hid (HKE.out.alloc (.cells #[.string y] 9))
            have HWS : Hid (W.heap.size ≤ wr.heap.size) := Lib.hid HKE.out.size
            have HOL : Hid (out.length < totM ls) := Lib.hid (by have := HTO.out; have := HLT.out; omega)
            clear hcs hb0 hbp hat hat3 hur hne hcd HCA
            go_wp2_with (at_builtin; go_loud (refine wpList_append_str rfl _ _ rfl W.heap.size (.slice oa out.length oc) out (by rfl) HO2.out _ _ y rfl HBX.out (by have := HOL.out; omega) (by have := HWS.out; simp; omega) _ rfl ?_); intro g6 cap6 w6 hown6 hgrow6 hat6; have HP6 := Lib.hid hown6; have HG6 := Lib.hid hgrow6; have HA6 := Lib.hid hat6; clear hown6 hgrow6 hat6)
            have hmg6 : MgAt w6 mb bm (fun b => (Q b ∨ W.heap.size ≤ b) ∧ (Value.slice (some ⟨g6, 0, none⟩) (out.length + 1) cap6).ownBlock ≠ some b) cur := by
              have hm2 := HM2.out
              have hno : ∀ b, (Q b ∨ W.heap.size ≤ b) ∧ (Value.slice oa out.length oc).ownBlock ≠ some b → (Value.slice oa out.length oc).ownBlock ≠ some b := fun b h => h.2
              have hown2 := HO2.out.lt
              obtain ⟨v, h1, h2⟩ := hm2.st
              have hmz := HK2.out.size
              refine ⟨hm2.ne, ⟨fun h => h.1.elim HQ.out.1 (by omega), fun h => h.1.elim HQ.out.2 (by omega)⟩, ⟨v, (HG6.out.block _ (by omega) fun e => by have := (hown2 _ e.symm).1; omega).trans h1, ?_⟩, hm2.cnt.keep (HG6.out.block _ (by omega) fun e => by have := (hown2 _ e.symm).1; omega), hm2.full⟩
              refine ((h2.mono (Q' := fun b => ((Q b ∨ W.heap.size ≤ b) ∧ (Value.slice oa out.length oc).ownBlock ≠ some b) ∧ b ≠ wr.heap.size + 1) fun b hb hq => ⟨hq, by simp at hb; omega⟩).keep (fun b hq z => HG6.out.block b z fun e => hq.1.2 e.symm) HG6.out.size).mono fun b hb hq => ⟨hq.1.1, ?_⟩
              show (some g6 : Option Nat) ≠ some b
              intro e
              cases e
              rcases HA6.out with h | h
              · exact hq.1.2 h
              · simp at h; exact hq.2 h
            have HMG6 := Lib.hid hmg6
            have ht := take_any mb bm _ y cur w6 hmg6 (by have := HTO.out; omega)
            have HK6 : Hid (Keep (fun b => b = mb ∨ b = bm) W w6) := Lib.hid (HK2.out.trans' (T := fun b => (Value.slice oa out.length oc).ownBlock = some b) (Keep.of_grown HG6.out fun k e => e) (fun b hb => .inr (HO2.out.lt b hb).1))
            clear hmg6
            go_wp2_with fail
            refine ht.mono ?_
            rintro e w7 ⟨rfl, hk7, hm7⟩
            have HNX : Hid (GLoop mb bm Q ls W (.slice (some ⟨g6, 0, none⟩) (out.length + 1) cap6) w7) := Lib.hid (by
              have h6 := HP6.out
              have hg6lt := (SOwn.lt h6 g6 rfl)
              refine ⟨out ++ [y], nonE (cur.map (takeL y)), ?_, HK6.out.trans hk7, ?_, ?_, ?_⟩
              · refine SOwn.keep (l := out ++ [y]) (by have := h6; exact this) fun b hb => hk7.block b (SOwn.lt h6 b hb).2 fun e => ?_
                have := (SOwn.lt h6 b hb).1
                omega
              · obtain ⟨v, h1, h2⟩ := hm7.st
                refine ⟨hm7.ne, ⟨fun h => h.1.elim HQ.out.1 (by omega), fun h => h.1.elim HQ.out.2 (by omega)⟩, ⟨v, h1, h2.mono fun b hb hq => ?_⟩, hm7.cnt, hm7.full⟩
                rcases hq with ⟨hq, hn⟩ | hq
                · exact ⟨hq, hn⟩
                · refine ⟨.inr (by have := HK6.out.size; omega), ?_⟩
                  show (some g6 : Option Nat) ≠ some b
                  intro e
                  cases e
                  omega
              · rw [HMR.out, HST.out, ex_map_map]
                congr 1
                funext m
                simp
              · have := HTO.out; have := HLT.out; simp; omega)
            clear hk7 hm7 ht
            go_wp2_with fail
            exact ⟨⟨_, _, _, rfl, HNX⟩, by simp only [lenOf]; have := HOL.out; omega⟩
          · have hlk0 : (((behM cur y : Nat) : Int) == 0) = false := by simp; omega
            have HNC : Hid (candM cur cur = candM cur (cur.drop (j + 1))) := Lib.hid (by rw [hcd.out, HCA.out, if_neg hb0])
            clear hb0 hcd HCA hat hat3 hur hne
            generalize ((behM cur y : Nat) : Int) = ci at *
            go_wp2_with fail
            go_round
            case rel => exact ⟨j + 1, by omega, rfl, by go_num, HNC⟩
            case measure => simp [intOf]; omega
        · have hk2 : ((j : Int) < (cur.length : Int)) = False := by simp; omega
          have HF : Hid (R = .error cur) := Lib.hid (by
            rw [HR.out, HMR.out, merge_stuck H0.out (by rw [hcd.out, List.drop_eq_nil_of_le (by omega)]; rfl) HMG.out.full]; rfl)
          clear hcd
          go_wp2_with fail
          refine bodyPost_ret (v := .tuple #[.slice none 0 0, .bool false]) (by simp [results, Try.results55, go_sem]) rfl ⟨HKE.out, ?_⟩
          rw [HF.out]
          refine ⟨rfl, ?_⟩
          have hm := HMG.out
          obtain ⟨v, h1, h2⟩ := hm.st
          exact ⟨hm.ne, ⟨fun h => h.elim HQ.out.1 (by omega), fun h => h.elim HQ.out.2 (by omega)⟩, ⟨v, h1, h2.mono fun b _ h => h.1⟩, hm.cnt, hm.full⟩
end Go.Proofs.Ytolopideimnbgaa
