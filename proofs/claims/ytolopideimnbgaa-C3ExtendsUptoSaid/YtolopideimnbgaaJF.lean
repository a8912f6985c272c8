/-
  The walk of C3Extends.
-/
import Derived.Test.YtolopideimnbgaaJC
import Derived.Test.YtolopideimnbgaaJE
namespace Go.Proofs.Ytolopideimnbgaa
open Go.RowKit

theorem HIn.small {W : World} {v : Value} {g : List Hr} (h : HIn W v g) : ∀ x ∈ g, x.2.length ≤ 8796093022207 := fun x hx => by
  have := (h.2.2 x hx).2.1
  unfold reachBytes at this
  omega
theorem HOwn.empty (w : World) (base : Nat) (hb : base ≤ w.heap.size) : HOwn (w.alloc (.cells #[] 57)) base (.slice (some ⟨w.heap.size, 0, none⟩) ([] : List Hr).length 0) [] :=
  ⟨[], rfl, ⟨rfl, .inr ⟨w.heap.size, 0, #[], rfl, hb, heap_alloc_new w _, Nat.le_refl _, by unfold maxLen; omega, rfl, rfl⟩⟩, fun i x u hx => by simp at hx⟩
set_option maxRecDepth 100000 in
set_option maxHeartbeats 800000 in
theorem extendsLaw (g more : List Hr) (nm : ByteArray) (v0 v1 : Value) (W : World) (h0 : HIn W v0 g) (h1 : HIn W v1 more) (hb : g.length ≤ 1048576 ∧ more.length ≤ 1048576) :
    Calls Try.prog 9 #[v0, v1, .string nm] W fun e w' => e = .returned (.bool true) ∧ Below W.heap.size W w' := by
  have hs := sane_any W
  have H0 := Lib.hid h0
  have H1 := Lib.hid h1
  have HBD := Lib.hid hb
  obtain ⟨a0, c0, rfl, _⟩ := id h0.1
  obtain ⟨a1, c1, rfl, _⟩ := id h1.1
  clear h0 h1 hb
  go_enter Try.func9, Try.ntmps9
  go_wp2_with fail
  refine hs.mono ?_
  rintro e w1 ⟨rfl, hb1⟩
  have HB1 := Lib.hid hb1
  have h2 := Linearize_any g nm _ w1 ((H0.out.1.below hb1).mono fun b hb _ => hb) H0.out.small
  clear hs hb1
  obtain ⟨R1, hR1⟩ : ∃ R, R = linearizeM g nm := ⟨_, rfl⟩
  rw [← hR1] at h2
  have HR1 := Lib.hid hR1
  clear hR1
  go_wp2_with fail
  refine h2.mono ?_
  rintro e w2 ⟨hb2, hres⟩
  have HB2 : Hid (Below W.heap.size W w2) := Lib.hid (HB1.out.trans (hb2.mono HB1.out.size))
  have HT2 := Lib.hid hb2
  obtain ⟨u2, e2, hcase⟩ : ∃ (u : Value) (c : Int), e = .returned (.tuple #[u, .int .i64 c]) ∧ ((R1 = .error c ∧ c ≠ 0 ∧ u = .slice none 0 0) ∨ (∃ l, R1 = .ok l ∧ c = 0 ∧ SRow w2 (fun b => w1.heap.size ≤ b) u l ∧ l.length ≤ 120)) := by
    cases R1 with
    | ok l =>
      obtain ⟨v, rfl, hv⟩ := hres
      exact ⟨v, 0, rfl, .inr ⟨l, rfl, rfl, hv, linearize_len HR1.out.symm⟩⟩
    | error c => exact ⟨_, c, hres, .inl ⟨rfl, linearize_err HR1.out.symm, rfl⟩⟩
  obtain ⟨rfl, hcase⟩ := hcase
  have HC := Lib.hid hcase
  obtain ⟨ua, un, uc, rfl⟩ : ∃ a n c, u2 = .slice a n c := by
    rcases hcase with ⟨_, _, rfl⟩ | ⟨l, _, _, ⟨a, c, rfl, _⟩, _⟩
    · exact ⟨_, _, _, rfl⟩
    · exact ⟨_, _, _, rfl⟩
  clear hb2 hres hcase h2
  have HE := Lib.hid (HOwn.empty w2 w2.heap.size (Nat.le_refl _))
  have HBE : Hid (Below w2.heap.size w2 (w2.alloc (.cells #[] 57))) := Lib.hid ((Below.refl _ w2).alloc (Nat.le_refl _) _)
  have HG0 : Hid (HRow w2 (fun b => b < w2.heap.size) (.slice a0 g.length c0) g) := Lib.hid ((H0.out.1.below HB2.out).mono fun b hb _ => hb)
  have HM0 : Hid (HRow w2 (fun b => b < w2.heap.size) (.slice a1 more.length c1) more) := Lib.hid ((H1.out.1.below HB2.out).mono fun b hb _ => hb)
  have HG := Lib.hid (HG0.out.below HBE.out)
  go_wp2_with (at_builtin; first
    | (go_loud (refine wpList_append_heirs rfl _ _ rfl w2.heap.size _ _ g more (by rfl) (show HOwn w3 w2.heap.size (.slice b3 g.length c3) g from HO3.out) a1 c1 (by rfl) (HM0.out.below HB3.out) (by have := HBD.out; omega) HB3.out.size (g.length + more.length) rfl ?_); intro b4 c4 w4 hown4 hb4; have HO4 := Lib.hid hown4; have HB4 := Lib.hid (HB3.out.trans hb4); clear hown4 hb4)
    | (go_loud (refine wpList_append_heirs rfl _ _ rfl w2.heap.size _ _ [] g (by rfl) HE.out a0 c0 (by rfl) HG.out (by have := HBD.out; simp; omega) HBE.out.size g.length (by simp) ?_); intro b3 c3 w3 hown3 hb3; have HO3 := Lib.hid hown3; have HB3 := Lib.hid (HBE.out.trans hb3); clear hown3 hb3))
  have h5 := Linearize_any (g ++ more) nm _ w4 (HO4.out.row.mono fun b hb _ => hb) (fun x hx => (List.mem_append.1 hx).elim (H0.out.small x) (H1.out.small x))
  obtain ⟨R2, hR2⟩ : ∃ R, R = linearizeM (g ++ more) nm := ⟨_, rfl⟩
  rw [← hR2] at h5
  have HR2 := Lib.hid hR2
  clear hR2
  refine h5.mono ?_
  rintro e w5 ⟨hb5, hres⟩
  have HT5 : Hid (Below w2.heap.size w2 w5) := Lib.hid (HB4.out.trans (hb5.mono HB4.out.size))
  have HB5 : Hid (Below W.heap.size W w5) := Lib.hid (HB2.out.trans (HT5.out.mono HB2.out.size))
  clear h5
  rcases HC.out with ⟨hE, hne, hu⟩ | ⟨l, hE, rfl, hsr, hln⟩
  · obtain ⟨u5, f5, hf5⟩ : ∃ (u : Value) (c : Int), e = .returned (.tuple #[u, .int .i64 c]) := by
      cases R2 with
      | ok l => obtain ⟨v, rfl, _⟩ := hres; exact ⟨_, _, rfl⟩
      | error c => exact ⟨_, _, hres⟩
    subst hf5
    have hn1 : (e2 != 0) = true := by simp [hne]
    clear hres hb5 hE hu HC
    by_cases hef : e2 = f5
    · have hq : (e2 == f5) = true := by simp [hef]
      clear hef
      go_wp2_with fail
      exact bodyPost_ret (v := .bool true) (by simp [results, Try.results9, go_sem]) rfl ⟨rfl, HB5.out⟩
    · have hq : (e2 == f5) = false := by simp [hef]
      clear hef
      go_wp2_with fail
      exact bodyPost_ret (v := .bool true) (by simp [results, Try.results9, go_sem]) rfl ⟨rfl, HB5.out⟩
  · rcases ext_ok (more := more) (HR1.out.symm.trans hE) with h6 | ⟨c, h6, h7⟩
    · rw [HR2.out, h6] at hres
      obtain ⟨v, rfl, hs5⟩ := hres
      obtain ⟨a5, c5, rfl, _⟩ := id hs5
      have hsm := same_any (hsr.below HT5.out) hs5 (by omega) (by omega)
      rw [decide_eq_true rfl] at hsm
      clear hb5 hs5 hsr hE h6 HC
      go_wp2_with fail
      refine hsm.mono ?_
      rintro e w6 ⟨rfl, hb6⟩
      have HB6 := Lib.hid (HB5.out.trans (hb6.mono HB5.out.size))
      clear hb6
      go_wp2_with fail
      exact bodyPost_ret (v := .bool true) (by simp [results, Try.results9, go_sem]) rfl ⟨rfl, HB6.out⟩
    · rw [HR2.out, h6] at hres
      have hres : e = .returned (.tuple #[.slice none 0 0, .int .i64 c]) := hres
      subst hres
      clear hb5 hsr hE h6 HC
      rcases h7 with rfl | rfl
      · go_wp2_with fail
        exact bodyPost_ret (v := .bool true) (by simp [results, Try.results9, go_sem]) rfl ⟨rfl, HB5.out⟩
      · go_wp2_with fail
        exact bodyPost_ret (v := .bool true) (by simp [results, Try.results9, go_sem]) rfl ⟨rfl, HB5.out⟩
end Go.Proofs.Ytolopideimnbgaa
