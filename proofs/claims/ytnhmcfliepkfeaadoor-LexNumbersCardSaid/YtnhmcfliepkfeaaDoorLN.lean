/-
  The law of integers' texts.
-/
import Derived.Test.YtnhmcfliepkfeaaDoorSA
import Derived.Test.YtnhmcfliepkfeaaDoorRD
import Derived.Test.YtnhmcfliepkfeaaDoorMN
namespace Go.Proofs.YtnhmcfliepkfeaaDoor
open Go.RowKit Go.Shelf

theorem rdig_any (n : Int) (h0 : -9223372036854775808 ≤ n) (h1 : n ≤ 9223372036854775807) (w : World) : Calls Tryd.prog 12 #[.int .i64 n] w fun e w' => e = .returned (.string ⟨(Lib.itoa n).toArray⟩) ∧ w' = w := by
  by_cases hn : n < 0
  · obtain ⟨p, hp⟩ : ∃ p : Nat, n = -(p : Int) := ⟨n.natAbs, by omega⟩
    subst hp
    refine (rdig_neg p (by omega) (by omega) w).mono ?_
    rintro e w' ⟨b, rfl, hb, rfl⟩
    have e : Lib.itoa (-(p : Int)) = 45 :: Lib.decDigits p := Lib.itoa_neg p (by omega)
    refine ⟨?_, rfl⟩
    rw [e, ← hb]
  · obtain ⟨p, hp⟩ : ∃ p : Nat, n = (p : Int) := ⟨n.natAbs, by omega⟩
    subst hp
    refine (rdig_pos p (by omega) w).mono ?_
    rintro e w' ⟨b, rfl, hb, rfl⟩
    refine ⟨?_, rfl⟩
    rw [Lib.itoa_nonneg, ← hb]

set_option maxHeartbeats 4000000 in
set_option maxRecDepth 100000 in
theorem numbers_any (n : Int) (h0 : -9223372036854775808 ≤ n) (h1 : n ≤ 9223372036854775807) (w : World) (E : Env w) : Calls Tryd.prog 3 #[.int .i64 n] w fun e w' => e = .returned (.bool true) ∧ Below w.heap.size w w' := by
  have HS := Lib.hid (sane_any w E)
  have HE := Lib.hid (fun (W : World) (h : Below w.heap.size w W) => E.below E.size h)
  obtain ⟨s, hs⟩ : ∃ s : ByteArray, s = ⟨(Lib.itoa n).toArray⟩ := ⟨_, rfl⟩
  have hk := kind_itoa n h0 h1
  have hv := val_itoa n h0 h1
  have hl := Lib.itoa_length_le n h0 h1
  have hsz : s.size ≤ 100 := by rw [hs]; show (Lib.itoa n).toArray.size ≤ 100; simp; omega
  have hd := fun W E => digits_any n h0 h1 W E
  have hr := fun W => rdig_any n h0 h1 W
  rw [← hs] at hk hv hd hr
  have hnum := fun W E => number_any s (by omega) W E
  have hn : numberR s = (n, 0) := by simp [numberR, hk, hv]
  rw [hn] at hnum
  have hkd := fun W E => kind_any s (by omega) W E
  rw [hk] at hkd
  have HD := Lib.hid hd; have HR := Lib.hid hr; have HN := Lib.hid hnum; have HK := Lib.hid hkd
  clear hd hr hnum hkd hn hk hv hl hs hsz E
  go_enter Tryd.func3, Tryd.ntmps3
  go_wp2_with fail
  refine HS.out.mono ?_
  rintro e w1 ⟨rfl, b1⟩
  have B1 := Lib.hid b1
  clear b1 HS
  go_wp2_with fail
  refine (HD.out _ (HE.out _ B1.out)).mono ?_
  rintro e w2 ⟨rfl, b2⟩
  have B2 := Lib.hid (B1.out.trans (b2.mono B1.out.size))
  clear b2 B1
  go_wp2_with fail
  refine (HN.out _ (HE.out _ B2.out)).mono ?_
  rintro e w3 ⟨rfl, b3⟩
  have B3 := Lib.hid (B2.out.trans (b3.mono B2.out.size))
  clear b3 B2
  go_wp2_with fail
  refine (HR.out w3).mono ?_
  rintro e w4 ⟨rfl, rfl⟩
  go_wp2_with fail
  refine (HK.out _ (HE.out _ B3.out)).mono ?_
  rintro e w5 ⟨rfl, b5⟩
  have B5 := Lib.hid (B3.out.trans (b5.mono B3.out.size))
  clear b5 B3
  go_wp2_with fail
  exact bodyPost_ret (v := .bool true) (by simp [results, Tryd.results3, go_sem]) rfl ⟨rfl, B5.out⟩
end Go.Proofs.YtnhmcfliepkfeaaDoor
