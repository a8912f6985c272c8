/-
  VerifyCycle; the walk of C3Impossible.
-/
import Derived.Test.YtolopideimnbgaaJC
import Derived.Test.YtolopideimnbgaaJD
import Derived.Test.YtolopideimnbgaaJI
namespace Go.Proofs.Ytolopideimnbgaa
open Go.RowKit

theorem HIn.small {W : World} {v : Value} {g : List Hr} (h : HIn W v g) : ∀ x ∈ g, x.2.length ≤ 8796093022207 := fun x hx => by
  have := (h.2.2 x hx).2.1
  unfold reachBytes at this
  omega
set_option maxRecDepth 100000 in
theorem VerifyCycle_any (g : List Hr) (nm : ByteArray) (l : Nms) (v u : Value) (W : World) (hr : HRow W (fun b => b < W.heap.size) v g) (hz : ∀ x ∈ g, x.2.length ≤ 8796093022207) {Q : Nat → Prop} (hl : SRow W Q u l) (hn : l.length ≤ 8796093022207) :
    Calls Try.prog 36 #[v, .string nm, u] W fun e w' => e = .returned (.int .i64 (verifyCycleM g nm l)) ∧ Below W.heap.size W w' := by
  have hL := Lists_any g nm v W hr hz
  obtain ⟨vb, vc, rfl, _⟩ := id hr
  obtain ⟨R, hR⟩ : ∃ R, R = verifyCycleM g nm l := ⟨_, rfl⟩
  rw [← hR]
  unfold verifyCycleM at hR
  have HLR := Lib.hid hl
  obtain ⟨ub, uc, rfl, _⟩ := hl
  cases hM : listsM g nm with
  | error c =>
    have hc := lists_err hM
    have hn' : (c != 0) = true := by simp [hc]
    rw [hM] at hL hR
    simp only at hR
    subst hR
    clear hr hz
    go_enter Try.func36, Try.ntmps36
    go_wp2_with fail
    refine hL.mono ?_
    rintro e w1 ⟨hb1, rfl⟩
    have HB1 := Lib.hid hb1
    clear hb1 hL
    go_wp2_with fail
    exact bodyPost_ret (v := .int .i64 R) (by simp [results, Try.results36, go_sem]) rfl ⟨rfl, HB1.out⟩
  | ok LL =>
    obtain ⟨ht, hln⟩ := lists_size hM
    have HLS : Hid (∀ L ∈ LL, L.length ≤ 140737488351232) := Lib.hid fun L hL => by have := totM_mem hL; omega
    rw [hM] at hL hR
    simp only at hR
    have HR := Lib.hid hR
    clear hr hz hM hR
    go_enter Try.func36, Try.ntmps36
    go_wp2_with fail
    refine hL.mono ?_
    rintro e w1 ⟨hb1, v1, rfl, hs1⟩
    have HB1 := Lib.hid hb1
    have ce := isCycle_any LL l _ v1 _ w1 hs1 (by omega) HLS.out (HLR.out.below hb1) hn
    obtain ⟨a1, c1, rfl, _⟩ := id hs1
    clear hb1 hL hs1
    by_cases he : isCyc LL l = true
    · rw [he] at ce
      have HE : Hid (R = 0) := Lib.hid (by rw [HR.out, if_pos he])
      clear he HR
      go_wp2_with fail
      refine ce.mono ?_
      rintro e w2 ⟨rfl, hb2⟩
      have HB2 := Lib.hid (HB1.out.trans (hb2.mono HB1.out.size))
      clear hb2
      go_wp2_with fail
      exact bodyPost_ret (v := .int .i64 0) (by simp [results, Try.results36, go_sem]) rfl ⟨by rw [HE.out], HB2.out⟩
    · have HE : Hid (R = 73) := Lib.hid (by rw [HR.out, if_neg he])
      rw [Bool.eq_false_iff.2 he] at ce
      clear he HR
      go_wp2_with fail
      refine ce.mono ?_
      rintro e w2 ⟨rfl, hb2⟩
      have HB2 := Lib.hid (HB1.out.trans (hb2.mono HB1.out.size))
      clear hb2
      go_wp2_with fail
      exact bodyPost_ret (v := .int .i64 73) (by simp [results, Try.results36, go_sem]) rfl ⟨by rw [HE.out], HB2.out⟩
theorem cyc_len {ls : List Nms} (hs : Stuck ls) : (cycM ls).length ≤ ls.length := by
  obtain ⟨l0, r0, rfl⟩ : ∃ l r, ls = l :: r := by
    cases ls with
    | nil => exact absurd rfl hs.ne
    | cons l r => exact ⟨l, r, rfl⟩
  obtain ⟨x0, t0, rfl⟩ : ∃ y t, l0 = y :: t := by
    cases l0 with
    | nil => exact absurd rfl (hs.full _ (.head _))
    | cons y t => exact ⟨y, t, rfl⟩
  have hcy : cycM ((x0 :: t0) :: r0) = cutM (trM ((x0 :: t0) :: r0) (((x0 :: t0) :: r0).length + 1) [] x0).1 (trM ((x0 :: t0) :: r0) (((x0 :: t0) :: r0).length + 1) [] x0).2 := rfl
  rw [hcy]
  obtain ⟨_, q2, _, q4⟩ := tr_ok hs (((x0 :: t0) :: r0).length + 1) [] x0 List.nodup_nil (fun y hy => by cases hy) (head_mem (.head _)) (fun i a h => by simp at h) rfl
  have h1 := length_sub _ _ q2 q4
  unfold heads at h1
  rw [List.length_map] at h1
  refine Nat.le_trans ?_ h1
  unfold cutM
  have := List.length_drop (i := (ixM (trM ((x0 :: t0) :: r0) (((x0 :: t0) :: r0).length + 1) [] x0).1 (trM ((x0 :: t0) :: r0) (((x0 :: t0) :: r0).length + 1) [] x0).2).toNat) (l := (trM ((x0 :: t0) :: r0) (((x0 :: t0) :: r0).length + 1) [] x0).1)
  split
  · simp
  · rename_i y r e
    rw [e] at this
    simp at this ⊢
    omega
theorem imp_case {g : List Hr} {nm : ByteArray} {LL : List Nms} (h : listsM g nm = .ok LL) :
    (∃ L, linearizeM g nm = .ok L ∧ cycleM g nm = .error 3 ∧ ∀ l, verifyCycleM g nm l = 73) ∨ (linearizeM g nm = .error 71 ∧ ∃ w, cycleM g nm = .ok w ∧ verifyCycleM g nm w = 0 ∧ w.length ≤ 9) := by
  have hh := h
  unfold listsM at h
  by_cases h0 : checkM g = 0
  · rw [if_pos h0] at h
    cases hp : posM g nm with
    | none => rw [hp] at h; cases h
    | some n =>
      rw [hp] at h
      simp only at h
      cases hx : g[n]? with
      | none => rw [hx] at h; cases h
      | some x =>
        rw [hx] at h
        simp only at h
        cases hs : seqM (supsM g x) with
        | error e => rw [hs] at h; cases h
        | ok ls =>
          rw [hs] at h
          have h : Except.ok (ls ++ [x.2]) = (Except.ok LL : Except Int (List Nms)) := h
          cases h
          have hlin : linearizeM g nm = linRes (linEnd n x (.ok ls)) := by
            unfold linearizeM
            rw [if_pos h0, hp]
            show linRes (linM g n) = _
            rw [lin_eq h0 hx, hs]
          have hnd : ∀ L ∈ ls ++ [x.2], L.Nodup := fun L hL => by
            rcases List.mem_append.1 hL with h1 | h1
            · have := (seq_mem _ _ hs).2
              have hm : Except.ok L ∈ supsM g x := by rw [this]; exact List.mem_map.2 ⟨L, h1, rfl⟩
              obtain ⟨s, _, e⟩ := List.mem_map.1 hm
              exact (lin_sub h0 _ L e).1
            · simp at h1
              rw [h1]
              exact (okAt_parts (check_at h0 hx)).2.2.2.2
          have hsz := lists_size hh
          cases hm : mergeM (totM (nonE (ls ++ [x.2]))) (nonE (ls ++ [x.2])) with
          | ok m =>
            left
            refine ⟨x.1 :: m, ?_, ?_, fun l => ?_⟩
            · rw [hlin]; unfold linEnd; simp only [hm]; rfl
            · unfold cycleM; rw [hh]; simp only [hm]
            · unfold verifyCycleM; rw [hh]; simp only; rw [no_cycle hm]; rfl
          | error ls' =>
            right
            obtain ⟨h1, h2, _, h4⟩ := mergeM_stuck _ _ _ (Nat.le_refl _) nonE_ne hm
            have hl : Left ls' (ls ++ [x.2]) := fun l' hl' => by
              obtain ⟨l, q1, q2⟩ := h2 l' hl'
              exact ⟨l, (List.mem_filter.1 q1).1, q2⟩
            refine ⟨?_, cycM ls', ?_, ?_, ?_⟩
            · rw [hlin]; unfold linEnd; simp only [hm]; rfl
            · unfold cycleM; rw [hh]; simp only [hm]
            · unfold verifyCycleM; rw [hh]; simp only; rw [has_cycle h1 hl hnd]; rfl
            · have h5 := cyc_len h1
              have h6 : (nonE (ls ++ [x.2])).length ≤ (ls ++ [x.2]).length := List.length_filter_le _ _
              omega
  · rw [if_neg h0] at h; cases h
set_option maxRecDepth 100000 in
set_option maxHeartbeats 1600000 in
theorem impossibleLaw (g : List Hr) (nm : ByteArray) (l : Nms) (v0 v2 : Value) (W : World) (h0 : HIn W v0 g) (h2 : SIn W v2 l) :
    Calls Try.prog 8 #[v0, .string nm, v2] W fun e w' => e = .returned (.bool true) ∧ Below W.heap.size W w' := by
  have hs := sane_any W
  have H0 := Lib.hid h0
  have H2 := Lib.hid h2
  have hln : Hid (l.length ≤ 8796093022207) := Lib.hid (by have := h2.2.1; unfold reachBytes at this; omega)
  obtain ⟨a0, c0, rfl, _⟩ := id h0.1
  obtain ⟨a2, c2, rfl, _⟩ := id h2.1
  clear h0 h2
  go_enter Try.func8, Try.ntmps8
  go_wp2_with fail
  refine hs.mono ?_
  rintro e w1 ⟨rfl, hb1⟩
  have HB1 := Lib.hid hb1
  have hli := Lists_any g nm _ w1 ((H0.out.1.below hb1).mono fun b hb _ => hb) H0.out.small
  clear hs hb1
  cases hM : listsM g nm with
  | error c =>
    rw [hM] at hli
    have hc := lists_err hM
    have hn' : (c != 0) = true := by simp [hc]
    clear hM hc
    go_wp2_with fail
    refine hli.mono ?_
    rintro e w2 ⟨hb2, rfl⟩
    have HB2 : Hid (Below W.heap.size W w2) := Lib.hid (HB1.out.trans (hb2.mono HB1.out.size))
    clear hb2 hli
    go_wp2_with fail
    exact bodyPost_ret (v := .bool true) (by simp [results, Try.results8, go_sem]) rfl ⟨rfl, HB2.out⟩
  | ok LL =>
    rw [hM] at hli
    have HC := Lib.hid (imp_case hM)
    clear hM
    go_wp2_with fail
    refine hli.mono ?_
    rintro e w2 ⟨hb2, u2, rfl, hs2⟩
    obtain ⟨la, lc, rfl, _⟩ := hs2
    have HB2 : Hid (Below W.heap.size W w2) := Lib.hid (HB1.out.trans (hb2.mono HB1.out.size))
    have h3 := Linearize_any g nm _ w2 ((H0.out.1.below HB2.out).mono fun b hb _ => hb) H0.out.small
    clear hb2 hli
    rcases HC.out with ⟨L, hL, hC, hV⟩ | ⟨hL, w, hC, hV, hwl⟩
    · rw [hL] at h3
      have HV := Lib.hid hV
      have HCC := Lib.hid hC
      clear hL hV hC
      go_wp2_with fail
      refine h3.mono ?_
      rintro e w3 ⟨hb3, u3, rfl, hs3⟩
      obtain ⟨a3, c3, rfl, _⟩ := hs3
      have HB3 : Hid (Below W.heap.size W w3) := Lib.hid (HB2.out.trans (hb3.mono HB2.out.size))
      have h4 := Cycle_any g nm _ w3 ((H0.out.1.below HB3.out).mono fun b hb _ => hb) H0.out.small
      rw [HCC.out] at h4
      clear hb3 h3
      go_wp2_with fail
      refine h4.mono ?_
      rintro e w4 ⟨hb4, rfl⟩
      have HB4 : Hid (Below W.heap.size W w4) := Lib.hid (HB3.out.trans (hb4.mono HB3.out.size))
      have h5 := VerifyCycle_any g nm l _ _ w4 ((H0.out.1.below HB4.out).mono fun b hb _ => hb) H0.out.small (H2.out.1.below HB4.out) hln.out
      rw [HV.out l] at h5
      clear hb4 h4
      go_wp2_with fail
      refine h5.mono ?_
      rintro e w5 ⟨rfl, hb5⟩
      have HB5 : Hid (Below W.heap.size W w5) := Lib.hid (HB4.out.trans (hb5.mono HB4.out.size))
      clear hb5 h5
      go_wp2_with fail
      exact bodyPost_ret (v := .bool true) (by simp [results, Try.results8, go_sem]) rfl ⟨rfl, HB5.out⟩
    · rw [hL] at h3
      have HV := Lib.hid hV
      have HCC := Lib.hid hC
      have HWL := Lib.hid hwl
      clear hL hV hC hwl
      go_wp2_with fail
      refine h3.mono ?_
      rintro e w3 ⟨hb3, rfl⟩
      have HB3 : Hid (Below W.heap.size W w3) := Lib.hid (HB2.out.trans (hb3.mono HB2.out.size))
      have h4 := Cycle_any g nm _ w3 ((H0.out.1.below HB3.out).mono fun b hb _ => hb) H0.out.small
      rw [HCC.out] at h4
      clear hb3 h3
      go_wp2_with fail
      refine h4.mono ?_
      rintro e w4 ⟨hb4, u4, rfl, hs4⟩
      have HB4 : Hid (Below W.heap.size W w4) := Lib.hid (HB3.out.trans (hb4.mono HB3.out.size))
      have HS4 := Lib.hid hs4
      obtain ⟨a4, c4, rfl, _⟩ := hs4
      have h5 := VerifyCycle_any g nm l _ _ w4 ((H0.out.1.below HB4.out).mono fun b hb _ => hb) H0.out.small (H2.out.1.below HB4.out) hln.out
      obtain ⟨R5, hR5⟩ : ∃ R, R = verifyCycleM g nm l := ⟨_, rfl⟩
      rw [← hR5] at h5
      clear hb4 h4 hR5
      go_wp2_with fail
      refine h5.mono ?_
      rintro e w5 ⟨rfl, hb5⟩
      have HB5 : Hid (Below W.heap.size W w5) := Lib.hid (HB4.out.trans (hb5.mono HB4.out.size))
      have h6 := VerifyCycle_any g nm w _ _ w5 ((H0.out.1.below HB5.out).mono fun b hb _ => hb) H0.out.small (HS4.out.below hb5) (by have := HWL.out; omega)
      rw [HV.out] at h6
      clear hb5 h5
      go_wp2_with fail
      refine h6.mono ?_
      rintro e w6 ⟨rfl, hb6⟩
      have HB6 : Hid (Below W.heap.size W w6) := Lib.hid (HB5.out.trans (hb6.mono HB5.out.size))
      clear hb6 h6
      go_wp2_with fail
      exact bodyPost_ret (v := .bool true) (by simp [results, Try.results8, go_sem]) rfl ⟨rfl, HB6.out⟩
end Go.Proofs.Ytolopideimnbgaa
