/-
  isAhead, Precedes, Below, Verify, Cycle.
-/
import Derived.Test.YtolopideimnbgaaHU
import Derived.Test.YtolopideimnbgaaHW
namespace Go.Proofs.Ytolopideimnbgaa
open Go.RowKit

def isAh (l : Nms) (a b : ByteArray) : Bool := decide (a ∈ l) && decide (b ∈ l.drop ((ixM l a).toNat + 1))
theorem isAhead_any {w : World} {Q : Nat → Prop} {v : Value} {l : Nms} (a b : ByteArray) (h : SRow w Q v l) (hn : l.length ≤ 140737488351232) :
    Calls Try.prog 62 #[v, .string a, .string b] w fun e w' => e = .returned (.bool (isAh l a b)) ∧ w = w' := by
  have hix := index_any a h (by omega)
  obtain ⟨vb, vc, rfl, _⟩ := id h
  obtain ⟨A, hA⟩ : ∃ A, A = isAh l a b := ⟨_, rfl⟩
  rw [← hA]
  by_cases ha : a ∈ l
  · obtain ⟨k, hk, hi, _⟩ := ixM_mem ha
    rw [hi] at hix
    have hA2 : A = decide (b ∈ l.drop (k + 1)) := by rw [hA]; unfold isAh; rw [decide_eq_true ha, hi]; rfl
    have hs := SRow.sub h (b := k + 1) (by omega)
    have hsr := sub_run vb l.length vc (k + 1) (by omega)
    obtain ⟨a', ha'⟩ := subS_parts vb l.length vc (k + 1)
    rw [ha'] at hs hsr
    have hcc := contains_any b hs (by rw [List.length_drop]; omega)
    rw [← hA2] at hcc
    have w1 : IntKind.i64.wrap ((k : Int) + 1) = ((k + 1 : Nat) : Int) := by rw [IntWalk.i64_in _ (by omega)]; omega
    have hk0 : (0 : Int) ≤ (k : Int) := by omega
    have hdec : decide ((0 : Int) ≤ (k : Int)) = true := decide_eq_true hk0
    clear h hs ha hi hA hA2 ha'
    generalize hki : (k : Int) = ki at *
    generalize ((k + 1 : Nat) : Int) = kj at *
    clear hki
    go_enter Try.func62, Try.ntmps62
    go_wp2_with fail
    refine hix.mono ?_
    rintro e w' ⟨rfl, rfl⟩
    go_wp2_with fail
    refine hcc.mono ?_
    rintro e w' ⟨rfl, rfl⟩
    go_wp2_with fail
    exact bodyPost_ret (v := .bool A) (by simp [results, Try.results62, go_sem]) rfl ⟨rfl, rfl⟩
  · have hneg : ixM l a = -1 := by
      unfold ixM
      refine Lib.idxFromS_miss a l 0 fun j hj e => ha ?_
      rw [← e]
      simp [List.getD, hj]
    rw [hneg] at hix
    have hA2 : A = false := by rw [hA]; unfold isAh; rw [decide_eq_false ha]; rfl
    subst hA2
    clear h ha hA hneg
    go_enter Try.func62, Try.ntmps62
    go_wp2_with fail
    refine hix.mono ?_
    rintro e w' ⟨rfl, rfl⟩
    go_wp2_with fail
    exact bodyPost_ret (v := .bool false) (by simp [results, Try.results62, go_sem]) rfl ⟨rfl, rfl⟩
theorem linearize_err {g : List Hr} {nm : ByteArray} {c : Int} (h : linearizeM g nm = .error c) : c ≠ 0 := by
  unfold linearizeM at h
  by_cases h0 : checkM g = 0
  · rw [if_pos h0] at h
    cases hp : posM g nm with
    | none => rw [hp] at h; cases h; decide
    | some n =>
      rw [hp] at h
      simp only at h
      cases hl : linM g n with
      | ok l => rw [hl] at h; cases h
      | error e => rw [hl] at h; cases h; decide
  · rw [if_neg h0] at h
    cases h
    exact h0
theorem linearize_len {g : List Hr} {nm : ByteArray} {l : Nms} (h : linearizeM g nm = .ok l) : l.length ≤ 120 := by
  unfold linearizeM at h
  by_cases h0 : checkM g = 0
  · rw [if_pos h0] at h
    cases hp : posM g nm with
    | none => rw [hp] at h; cases h
    | some n =>
      rw [hp] at h
      simp only at h
      cases hl : linM g n with
      | ok l' => rw [hl] at h; cases h; exact lin_len h0 hl
      | error e => rw [hl] at h; cases h
  · rw [if_neg h0] at h
    cases h
/-- Whether a class stands ahead of another. -/
def precedesM (g : List Hr) (nm a b : ByteArray) : Bool × Int := match linearizeM g nm with
  | .error c => (false, c)
  | .ok l => if a ∈ l ∧ b ∈ l then (isAh l a b, 0) else (false, 1)
set_option maxRecDepth 100000 in
set_option maxHeartbeats 4000000 in
theorem Precedes_any (g : List Hr) (nm a b : ByteArray) (v : Value) (W : World) (hr : HRow W (fun b => b < W.heap.size) v g) (hz : ∀ x ∈ g, x.2.length ≤ 8796093022207) :
    Calls Try.prog 28 #[v, .string nm, .string a, .string b] W fun e w' => e = .returned (.tuple #[.bool (precedesM g nm a b).1, .int .i64 (precedesM g nm a b).2]) ∧ Below W.heap.size W w' := by
  have hl := Linearize_any g nm v W hr hz
  obtain ⟨vb, vc, rfl, _⟩ := id hr
  obtain ⟨R1, hR1⟩ : ∃ R, R = (precedesM g nm a b).1 := ⟨_, rfl⟩
  obtain ⟨R2, hR2⟩ : ∃ R, R = (precedesM g nm a b).2 := ⟨_, rfl⟩
  rw [← hR1, ← hR2]
  unfold precedesM at hR1 hR2
  cases hL : linearizeM g nm with
  | error c =>
    have hc := linearize_err hL
    have hn' : (c != 0) = true := by simp [hc]
    rw [hL] at hl hR1 hR2
    simp only at hR1 hR2
    subst hR1; subst hR2
    clear hr hz
    go_enter Try.func28, Try.ntmps28
    go_wp2_with fail
    refine hl.mono ?_
    rintro e w1 ⟨hb1, rfl⟩
    have HB1 := Lib.hid hb1
    clear hb1 hl
    go_wp2_with fail
    exact bodyPost_ret (v := .tuple #[.bool false, .int .i64 R2]) (by simp [results, Try.results28, go_sem]) rfl ⟨rfl, HB1.out⟩
  | ok l =>
    have hlen := linearize_len hL
    rw [hL] at hl hR1 hR2
    simp only at hR1 hR2
    clear hr hz hL
    have HR1 := Lib.hid hR1
    have HR2 := Lib.hid hR2
    clear hR1 hR2
    go_enter Try.func28, Try.ntmps28
    go_wp2_with fail
    refine hl.mono ?_
    rintro e w1 ⟨hb1, v1, rfl, hs1⟩
    have HB1 := Lib.hid hb1
    have ca := contains_any a hs1 (by omega)
    have cb := contains_any b hs1 (by omega)
    have ci := isAhead_any a b hs1 (by omega)
    clear hb1 hl hs1
    by_cases ha : a ∈ l
    · rw [decide_eq_true ha] at ca
      by_cases hb : b ∈ l
      · rw [decide_eq_true hb] at cb
        have h1 : Hid (R1 = isAh l a b) := Lib.hid (by rw [HR1.out, if_pos ⟨ha, hb⟩])
        have h2 : Hid (R2 = 0) := Lib.hid (by rw [HR2.out, if_pos ⟨ha, hb⟩])
        clear ha hb HR1 HR2
        generalize isAh l a b = A at *
        go_wp2_with fail
        refine ca.mono ?_
        rintro e w' ⟨rfl, rfl⟩
        go_wp2_with fail
        refine cb.mono ?_
        rintro e w' ⟨rfl, rfl⟩
        go_wp2_with fail
        refine ci.mono ?_
        rintro e w' ⟨rfl, rfl⟩
        go_wp2_with fail
        refine bodyPost_ret (v := .tuple #[.bool A, .int .i64 0]) (by simp [results, Try.results28, go_sem]) rfl ⟨by rw [h1.out, h2.out], HB1.out⟩
      · rw [decide_eq_false hb] at cb
        have h1 : Hid (R1 = false) := Lib.hid (by rw [HR1.out, if_neg fun h => hb h.2])
        have h2 : Hid (R2 = 1) := Lib.hid (by rw [HR2.out, if_neg fun h => hb h.2])
        clear ha hb HR1 HR2 ci
        go_wp2_with fail
        refine ca.mono ?_
        rintro e w' ⟨rfl, rfl⟩
        go_wp2_with fail
        refine cb.mono ?_
        rintro e w' ⟨rfl, rfl⟩
        go_wp2_with fail
        refine bodyPost_ret (v := .tuple #[.bool false, .int .i64 1]) (by simp [results, Try.results28, go_sem]) rfl ⟨by rw [h1.out, h2.out], HB1.out⟩
    · rw [decide_eq_false ha] at ca
      have h1 : Hid (R1 = false) := Lib.hid (by rw [HR1.out, if_neg fun h => ha h.1])
      have h2 : Hid (R2 = 1) := Lib.hid (by rw [HR2.out, if_neg fun h => ha h.1])
      clear ha HR1 HR2 ci cb
      go_wp2_with fail
      refine ca.mono ?_
      rintro e w' ⟨rfl, rfl⟩
      go_wp2_with fail
      refine bodyPost_ret (v := .tuple #[.bool false, .int .i64 1]) (by simp [results, Try.results28, go_sem]) rfl ⟨by rw [h1.out, h2.out], HB1.out⟩
theorem anc_len {g : List Hr} {nm : ByteArray} {l : Nms} (h : ancestorsM g nm = .ok l) : l.length ≤ 120 := by
  unfold ancestorsM at h
  by_cases h0 : checkM g = 0
  · rw [if_pos h0] at h
    cases hp : posM g nm with
    | none => rw [hp] at h; cases h
    | some n =>
      rw [hp] at h
      cases h
      have := checkM_len h0
      exact Nat.le_trans (List.length_filter_le _ _) (by rw [List.length_map]; exact this)
  · rw [if_neg h0] at h; cases h
theorem anc_err {g : List Hr} {nm : ByteArray} {c : Int} (h : ancestorsM g nm = .error c) : c ≠ 0 := by
  unfold ancestorsM at h
  by_cases h0 : checkM g = 0
  · rw [if_pos h0] at h
    cases hp : posM g nm with
    | none => rw [hp] at h; cases h; decide
    | some n => rw [hp] at h; cases h
  · rw [if_neg h0] at h; cases h; exact h0
def belowM (g : List Hr) (a b : ByteArray) : Bool := match ancestorsM g a with
  | .ok l => decide (b ∈ l)
  | .error _ => false
set_option maxRecDepth 100000 in
theorem Below_any (g : List Hr) (a b : ByteArray) (v : Value) (W : World) (hr : HRow W (fun b => b < W.heap.size) v g) (hz : ∀ x ∈ g, x.2.length ≤ 8796093022207) :
    Calls Try.prog 19 #[v, .string a, .string b] W fun e w' => e = .returned (.bool (belowM g a b)) ∧ Below W.heap.size W w' := by
  have hl := Ancestors_any g a v W hr hz
  obtain ⟨vb, vc, rfl, _⟩ := id hr
  obtain ⟨R, hR⟩ : ∃ R, R = belowM g a b := ⟨_, rfl⟩
  rw [← hR]
  unfold belowM at hR
  cases hL : ancestorsM g a with
  | error c =>
    have hc := anc_err hL
    have hn' : (c == 0) = false := by simp [hc]
    rw [hL] at hl hR
    simp only at hR
    subst hR
    clear hr hz
    go_enter Try.func19, Try.ntmps19
    go_wp2_with fail
    refine hl.mono ?_
    rintro e w1 ⟨hb1, rfl⟩
    have HB1 := Lib.hid hb1
    clear hb1 hl
    go_wp2_with fail
    exact bodyPost_ret (v := .bool false) (by simp [results, Try.results19, go_sem]) rfl ⟨rfl, HB1.out⟩
  | ok l =>
    have hlen := anc_len hL
    rw [hL] at hl hR
    simp only at hR
    have HR := Lib.hid hR
    clear hr hz hL hR
    go_enter Try.func19, Try.ntmps19
    go_wp2_with fail
    refine hl.mono ?_
    rintro e w1 ⟨hb1, v1, rfl, hs1⟩
    have HB1 := Lib.hid hb1
    have cb := contains_any b hs1 (by omega)
    rw [← HR.out] at cb
    clear hb1 hl hs1 HR
    go_wp2_with fail
    refine cb.mono ?_
    rintro e w' ⟨rfl, rfl⟩
    go_wp2_with fail
    exact bodyPost_ret (v := .bool R) (by simp [results, Try.results19, go_sem]) rfl ⟨rfl, HB1.out⟩
theorem equal_any {w : World} {Q1 Q2 : Nat → Prop} {v1 v2 : Value} {l1 l2 : Nms} (h1 : SRow w Q1 v1 l1) (h2 : SRow w Q2 v2 l2) (n1 : l1.length ≤ 140737488351232) (n2 : l2.length ≤ 140737488351232) :
    Calls Try.prog 68 #[v1, v2] w fun e w' => e = .returned (.bool (decide (l1 = l2))) ∧ Below w.heap.size w w' := by
  obtain ⟨a1, c1, rfl, r1⟩ := h1
  obtain ⟨a2, c2, rfl, r2⟩ := h2
  by_cases e : l1.length = l2.length
  · cases l1 with
    | nil =>
      refine (Try.slices_Equal_string_empty a1 a2 c1 l2.length c2 w (by omega)).mono ?_
      rintro e w' ⟨rfl, rfl⟩
      refine ⟨?_, Below.refl _ _⟩
      cases l2 with
      | nil => rfl
      | cons y t => cases e
    | cons x t =>
      cases l2 with
      | nil => cases e
      | cons y s =>
        obtain ⟨g1, o1, rfl, _, _, t1, _⟩ := r1 (by simp)
        obtain ⟨g2, o2, rfl, _, _, t2, _⟩ := r2 (by simp)
        refine (Try.slices_Equal_string g1 o1 (x :: t).length c1 g2 o2 (y :: s).length c2 (x :: t) (y :: s) w (Nat.le_refl _) (Nat.le_refl _) (by omega) (by omega) (SRow.getD t1) (SRow.getD t2)).mono ?_
        rintro e w' ⟨rfl, q, rfl⟩
        rw [List.take_length, List.take_length]
        exact ⟨rfl, below_drewN (Below.refl _ _) _⟩
  · refine (Try.slices_Equal_string_lens a1 a2 l1.length c1 l2.length c2 w e).mono ?_
    rintro e w' ⟨rfl, rfl⟩
    rw [decide_eq_false fun h => e (congrArg List.length h)]
    exact ⟨rfl, Below.refl _ _⟩
def verifyM (g : List Hr) (nm : ByteArray) (l : Nms) : Int := match linearizeM g nm with
  | .ok r => if l = r then 0 else 72
  | .error c => c
set_option maxRecDepth 100000 in
theorem Verify_any (g : List Hr) (nm : ByteArray) (l : Nms) (v u : Value) (W : World) (hr : HRow W (fun b => b < W.heap.size) v g) (hz : ∀ x ∈ g, x.2.length ≤ 8796093022207) {Q : Nat → Prop} (hl : SRow W Q u l) (hn : l.length ≤ 140737488351232) :
    Calls Try.prog 34 #[v, .string nm, u] W fun e w' => e = .returned (.int .i64 (verifyM g nm l)) ∧ Below W.heap.size W w' := by
  have hL := Linearize_any g nm v W hr hz
  obtain ⟨vb, vc, rfl, _⟩ := id hr
  obtain ⟨R, hR⟩ : ∃ R, R = verifyM g nm l := ⟨_, rfl⟩
  rw [← hR]
  unfold verifyM at hR
  have HLR := Lib.hid hl
  obtain ⟨ub, uc, rfl, _⟩ := hl
  cases hM : linearizeM g nm with
  | error c =>
    have hc := linearize_err hM
    have hn' : (c != 0) = true := by simp [hc]
    rw [hM] at hL hR
    simp only at hR
    subst hR
    clear hr hz
    go_enter Try.func34, Try.ntmps34
    go_wp2_with fail
    refine hL.mono ?_
    rintro e w1 ⟨hb1, rfl⟩
    have HB1 := Lib.hid hb1
    clear hb1 hL
    go_wp2_with fail
    exact bodyPost_ret (v := .int .i64 R) (by simp [results, Try.results34, go_sem]) rfl ⟨rfl, HB1.out⟩
  | ok r =>
    have hlen := linearize_len hM
    rw [hM] at hL hR
    simp only at hR
    have HR := Lib.hid hR
    clear hr hz hM hR
    go_enter Try.func34, Try.ntmps34
    go_wp2_with fail
    refine hL.mono ?_
    rintro e w1 ⟨hb1, v1, rfl, hs1⟩
    have HB1 := Lib.hid hb1
    have ce := equal_any (HLR.out.below hb1) hs1 hn (by omega)
    clear hb1 hL hs1
    by_cases he : l = r
    · rw [decide_eq_true he] at ce
      have HE : Hid (R = 0) := Lib.hid (by rw [HR.out, if_pos he])
      clear he HR
      go_wp2_with fail
      refine ce.mono ?_
      rintro e w2 ⟨rfl, hb2⟩
      have HB2 := Lib.hid (HB1.out.trans (hb2.mono HB1.out.size))
      clear hb2
      go_wp2_with fail
      exact bodyPost_ret (v := .int .i64 0) (by simp [results, Try.results34, go_sem]) rfl ⟨by rw [HE.out], HB2.out⟩
    · rw [decide_eq_false he] at ce
      have HE : Hid (R = 72) := Lib.hid (by rw [HR.out, if_neg he])
      clear he HR
      go_wp2_with fail
      refine ce.mono ?_
      rintro e w2 ⟨rfl, hb2⟩
      have HB2 := Lib.hid (HB1.out.trans (hb2.mono HB1.out.size))
      clear hb2
      go_wp2_with fail
      exact bodyPost_ret (v := .int .i64 72) (by simp [results, Try.results34, go_sem]) rfl ⟨by rw [HE.out], HB2.out⟩
theorem lists_err {g : List Hr} {nm : ByteArray} {c : Int} (h : listsM g nm = .error c) : c ≠ 0 := by
  unfold listsM at h
  by_cases h0 : checkM g = 0
  · rw [if_pos h0] at h
    cases hp : posM g nm with
    | none => rw [hp] at h; cases h; decide
    | some n =>
      rw [hp] at h
      simp only at h
      cases hx : g[n]? with
      | none => rw [hx] at h; cases h; decide
      | some x =>
        rw [hx] at h
        simp only at h
        cases hs : seqM (supsM g x) with
        | ok ls => rw [hs] at h; cases h
        | error e => rw [hs] at h; cases h; decide
  · rw [if_neg h0] at h; cases h; exact h0
theorem lists_size {g : List Hr} {nm : ByteArray} {ls : List Nms} (h : listsM g nm = .ok ls) : totM ls ≤ 1000 ∧ ls.length ≤ 9 := by
  unfold listsM at h
  by_cases h0 : checkM g = 0
  · rw [if_pos h0] at h
    cases hp : posM g nm with
    | none => rw [hp] at h; cases h
    | some n =>
      rw [hp] at h
      simp only at h
      cases hx : g[n]? with
      | none => rw [hx] at h; cases h
      | some x =>
        rw [hx] at h
        simp only at h
        cases hs : seqM (supsM g x) with
        | ok l' =>
          rw [hs] at h
          cases h
          have := lists_small h0 hx
          rwa [(seq_mem _ _ hs).1] at this
        | error e => rw [hs] at h; cases h
  · rw [if_neg h0] at h; cases h
def cycleM (g : List Hr) (nm : ByteArray) : Except Int Nms := match listsM g nm with
  | .error c => .error c
  | .ok ls => match mergeM (totM (nonE ls)) (nonE ls) with
    | .ok _ => .error 3
    | .error ls' => .ok (cycM ls')
set_option maxRecDepth 100000 in
set_option maxHeartbeats 4000000 in
theorem Cycle_any (g : List Hr) (nm : ByteArray) (v : Value) (W : World) (hr : HRow W (fun b => b < W.heap.size) v g) (hz : ∀ x ∈ g, x.2.length ≤ 8796093022207) :
    Calls Try.prog 32 #[v, .string nm] W (LRes (cycleM g nm) W) := by
  have hL := Lists_any g nm v W hr hz
  obtain ⟨vb, vc, rfl, _⟩ := id hr
  obtain ⟨R, hR⟩ : ∃ R, R = cycleM g nm := ⟨_, rfl⟩
  rw [← hR]
  unfold cycleM at hR
  cases hM : listsM g nm with
  | error c =>
    have hc := lists_err hM
    have hn' : (c != 0) = true := by simp [hc]
    rw [hM] at hL hR
    simp only at hR
    subst hR
    clear hr hz
    go_enter Try.func32, Try.ntmps32
    go_wp2_with fail
    refine hL.mono ?_
    rintro e w1 ⟨hb1, rfl⟩
    have HB1 := Lib.hid hb1
    clear hb1 hL
    go_wp2_with fail
    exact bodyPost_ret (v := .tuple #[.slice none 0 0, .int .i64 c]) (by simp [results, Try.results32, go_sem]) rfl ⟨HB1.out, rfl⟩
  | ok ls =>
    obtain ⟨ht, hn⟩ := lists_size hM
    rw [hM] at hL hR
    simp only at hR
    have HR := Lib.hid hR
    clear hr hz hM hR
    go_enter Try.func32, Try.ntmps32
    go_wp2_with fail
    refine hL.mono ?_
    rintro e w1 ⟨hb1, v1, rfl, hs1⟩
    obtain ⟨a1, c1, rfl, _⟩ := id hs1
    have HB1 := Lib.hid hb1
    have hnw := newOf_any a1 c1 ls w1 hs1 (by omega) (by omega)
    clear hb1 hL hs1
    go_wp2_with fail
    refine (values_any a1 ls.length c1 w1).mono ?_
    rintro e w2 ⟨rfl, rfl⟩
    go_wp2_with fail
    refine hnw.mono ?_
    rintro e w3 ⟨mb, bm, rfl, hb3, hl3, hl4, hmg⟩
    have hmr := merge_any mb bm _ (nonE ls) w3 hmg (by rw [totM_nonE]; omega)
    have HB3 := Lib.hid (HB1.out.trans (hb3.mono HB1.out.size))
    have HMB : Hid (W.heap.size ≤ mb ∧ W.heap.size ≤ bm) := Lib.hid (by have := HB1.out.size; omega)
    clear hb3 hnw hmg hl3 hl4
    go_wp2_with fail
    refine hmr.mono ?_
    rintro e w4 ⟨hk4, hres⟩
    have HB4 : Hid (Below W.heap.size W w4) := Lib.hid (HB3.out.trans (hk4.below (fun k e => by have := HMB.out; omega) HB3.out.size))
    clear hk4 hmr
    cases hM : mergeM (totM (nonE ls)) (nonE ls) with
    | ok m =>
      rw [hM] at hres HR
      obtain ⟨v, rfl, hown⟩ := hres
      have HE : Hid (R = .error 3) := Lib.hid HR.out
      clear hown
      go_wp2_with fail
      refine bodyPost_ret (v := .tuple #[.slice none 0 0, .int .i64 3]) (by simp [results, Try.results32, go_sem]) rfl ⟨HB4.out, ?_⟩
      rw [HE.out]
    | error ls' =>
      rw [hM] at hres HR
      obtain ⟨rfl, hmg⟩ := hres
      have HE : Hid (R = .ok (cycM ls')) := Lib.hid HR.out
      obtain ⟨hst, _, hto, _⟩ := mergeM_stuck _ _ _ (Nat.le_refl _) nonE_ne hM
      have hcy := cycle_any mb bm _ ls' w4 hmg hst (by rw [totM_nonE] at hto; omega)
      clear hmg hst hM HR
      go_wp2_with fail
      refine hcy.mono ?_
      rintro e w5 ⟨v5, rfl, hb5, hs5⟩
      have HB5 := Lib.hid (HB4.out.trans (hb5.mono HB4.out.size))
      have HS5 := Lib.hid (hs5.mono (Q' := fun b => W.heap.size ≤ b) fun b _ h => by have := HB4.out.size; omega)
      clear hb5 hs5
      obtain ⟨a5, c5, rfl, _⟩ := HS5.out
      go_wp2_with fail
      refine bodyPost_ret (v := .tuple #[.slice a5 (cycM ls').length c5, .int .i64 0]) (by simp [results, Try.results32, go_sem]) rfl ⟨HB5.out, ?_⟩
      rw [HE.out]
      exact ⟨_, rfl, HS5.out⟩
end Go.Proofs.Ytolopideimnbgaa
