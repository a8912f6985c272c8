/-
  The law: Pieces and Scan are as specified.
-/
import Derived.Test.YtlkanfnhemjdcaaGreatDoorXI
import Derived.Test.YtlkanfnhemjdcaaGreatDoorXN
import Derived.LoopTactic
namespace Go.Proofs.YtlkanfnhemjdcaaGreatDoor
section
open Go.RowKit Go.Shelf

theorem toks_len (t : ByteArray) : (toksR t).length ≤ 20000 := by
  have h1 := List.length_filter_le (fun x : Nat × Nat × Nat => isTok x.1) (piecesR t).1
  have h2 : (piecesR t).1.length ≤ 20000 := by
    by_cases he : (piecesR t).2.2 = 0
    · obtain ⟨_, hl, _, ht⟩ := piecesR_ok he
      have := cutAll_len t
      rw [hl]; omega
    · rw [piecesR_bad he]; simp
  exact Nat.le_trans h1 h2
theorem pieces_len (t : ByteArray) : (piecesR t).1.length ≤ 20000 := by
  by_cases he : (piecesR t).2.2 = 0
  · obtain ⟨_, hl, _, ht⟩ := piecesR_ok he
    have := cutAll_len t
    rw [hl]; omega
  · rw [piecesR_bad he]; simp

set_option maxHeartbeats 4000000 in
set_option maxRecDepth 100000 in
theorem cuts_any (t : ByteArray) (w : World) (E : Env w) :
    Calls Tryz.prog 3 #[.string t] w fun e w' => e = .returned (.bool true) ∧ Below w.heap.size w w' := by
  have HS := Lib.hid (sane_any w E)
  have HE := Lib.hid (fun (W : World) (h : Below w.heap.size w W) => E.below E.size h)
  obtain ⟨L, hL⟩ : ∃ L, L = (piecesR t).1 := ⟨_, rfl⟩
  obtain ⟨a, ha⟩ : ∃ a, a = (piecesR t).2.1 := ⟨_, rfl⟩
  obtain ⟨c, hc⟩ : ∃ c, c = (piecesR t).2.2 := ⟨_, rfl⟩
  obtain ⟨T, hT⟩ : ∃ T, T = toksR t := ⟨_, rfl⟩
  have hLn := pieces_len t
  have hTn := toks_len t
  have HP : Hid (∀ W, Env W → Calls Tryz.prog 8 #[.string t] W fun e w' => ∃ v, e = .returned (.tuple #[v, .int .i64 (a : Int), .int .i64 (c : Int)]) ∧ RowIn w' v L ∧ Below W.heap.size W w') := by
    refine Lib.hid fun W E => (pieces_all t W E).mono ?_
    rintro e w' ⟨v, rfl, hrow, hb⟩
    rw [ha, hc, hL]
    exact ⟨v, rfl, RowIn.of_owns hrow, hb⟩
  have HQ : Hid (∀ W, Calls Tryz.prog 9 #[.string t] W fun e w' => ∃ (b : Option Addr) (n cp : Nat), e = .returned (.agg #[.slice b n cp, .int .i64 (a : Int), .int .i64 (c : Int)]) ∧ RowIn w' (.slice b n cp) L ∧ Below W.heap.size W w') := by
    refine Lib.hid fun W => (rPieces_all t W).mono ?_
    rintro e w' ⟨v, rfl, hrow, hb⟩
    obtain ⟨b, n, cp, rfl⟩ := row_slice hrow
    rw [ha, hc, hL]
    exact ⟨b, n, cp, rfl, RowIn.of_owns hrow, hb⟩
  have HX : Hid (∀ W, Env W → Calls Tryz.prog 10 #[.string t] W fun e w' => ∃ v, e = .returned (.tuple #[v, .int .i64 (a : Int), .int .i64 (c : Int)]) ∧ TRow t w' v T ∧ Below W.heap.size W w') := by
    refine Lib.hid fun W E => (scan_any t W E).mono ?_
    rintro e w' ⟨v, rfl, hrow, hb⟩
    rw [ha, hc, hT]
    exact ⟨v, rfl, TRow.of_owns hrow, hb⟩
  have HY : Hid (∀ W, Calls Tryz.prog 11 #[.string t] W fun e w' => ∃ (b : Option Addr) (n cp : Nat), e = .returned (.agg #[.slice b n cp, .int .i64 (a : Int), .int .i64 (c : Int)]) ∧ TRow t w' (.slice b n cp) T ∧ Below W.heap.size W w') := by
    refine Lib.hid fun W => (rScan_any t W).mono ?_
    rintro e w' ⟨v, rfl, hrow, hb⟩
    obtain ⟨b, n, cp, rfl⟩ := row_slice hrow
    rw [ha, hc, hT]
    exact ⟨b, n, cp, rfl, TRow.of_owns hrow, hb⟩
  rw [← hL] at hLn
  rw [← hT] at hTn
  have HC1 := Lib.hid (fun v0 v W h0 h => rSame_rows v0 v L (by omega) W h0 h)
  have HC2 := Lib.hid (fun v0 v W h0 h => rEqual_rows t v0 v T (by omega) W h0 h)
  clear hL ha hc hT hLn hTn E
  go_enter Tryz.func3, Tryz.ntmps3
  go_wp2_with fail
  refine HS.out.mono ?_
  rintro e w1 ⟨rfl, b1⟩
  have B1 := Lib.hid b1
  clear b1 HS
  go_wp2_with fail
  refine (HP.out _ (HE.out _ B1.out)).mono ?_
  rintro e w2 ⟨v1, rfl, r1, b2⟩
  have B2 := Lib.hid (B1.out.trans (b2.mono B1.out.size))
  have R1 := Lib.hid r1
  clear b2 HP B1 r1
  go_wp2_with fail
  refine (HQ.out _).mono ?_
  rintro e w3 ⟨x1, x2, x3, rfl, r2, b3⟩
  have B3 := Lib.hid (B2.out.trans (b3.mono B2.out.size))
  have R13 := Lib.hid (R1.out.below b3)
  have R2 := Lib.hid r2
  clear b3 HQ B2 r2 R1
  go_wp2_with fail
  refine (HX.out _ (HE.out _ (B3.out.alloc B3.out.size _))).mono ?_
  rintro e w4 ⟨v3, rfl, r4, b4⟩
  have hz3 := B3.out.size
  have hz4 : w3.heap.size + 1 ≤ w4.heap.size := by simpa using b4.size
  have c0 : w4.cell? ⟨w3.heap.size, 0, none⟩ = some (.slice x1 x2 x3) := (res_at (b4.mono (by simp)) (j := 0) rfl).1
  have c1 : w4.cell? ⟨w3.heap.size, 1, none⟩ = some (.int .i64 (a : Int)) := (res_at (b4.mono (by simp)) (j := 1) rfl).1
  have c2 : w4.cell? ⟨w3.heap.size, 2, none⟩ = some (.int .i64 (c : Int)) := (res_at (b4.mono (by simp)) (j := 2) rfl).1
  have B34 := ((Below.refl _ w3).alloc (Nat.le_refl _) (.cells #[.slice x1 x2 x3, .int .i64 (a : Int), .int .i64 (c : Int)] 28)).trans (b4.mono (by simp))
  have B4 := Lib.hid (B3.out.trans (B34.mono hz3))
  have R14 := Lib.hid (R13.out.below B34); have R24 := Lib.hid (R2.out.below B34); have R4 := Lib.hid r4
  clear b4 HX B3 r4 R13 R2 B34
  go_wp2_with fail
  refine (HY.out _).mono ?_
  rintro e w5 ⟨y1, y2, y3, rfl, r5, b5⟩
  have hz5 := b5.size
  have B5 := Lib.hid (B4.out.trans (b5.mono B4.out.size))
  have R15 := Lib.hid (R14.out.below b5); have R25 := Lib.hid (R24.out.below b5); have R45 := Lib.hid (R4.out.below b5); have R5 := Lib.hid r5
  have ha : ∀ X (j : Nat) v, w4.cell? ⟨w3.heap.size, j, none⟩ = some v → (w5.alloc X).cell? ⟨w3.heap.size, j, none⟩ = some v := fun X j v h =>
    (((Below.refl _ w5).alloc (Nat.le_refl _) X).cell (p := ⟨w3.heap.size, j, none⟩) (show w3.heap.size < w5.heap.size by omega)).trans ((b5.cell (p := ⟨w3.heap.size, j, none⟩) hz4).trans h)
  have d0 := fun X => ha X 0 _ c0
  have d1 := fun X => ha X 1 _ c1
  have d2 := fun X => ha X 2 _ c2
  clear b5 HY B4 r5 R14 R24 R4 c0 c1 c2 ha
  go_wp2_with (first
    | (go_at_call 12; refine (HC1.out _ _ _ (R15.out.below ((Below.refl _ w5).alloc (Nat.le_refl _) _)) (R25.out.below ((Below.refl _ w5).alloc (Nat.le_refl _) _))).mono ?_; rintro e w6 ⟨rfl, b6⟩;
       have B56 := ((Below.refl _ w5).alloc (Nat.le_refl _) (.cells #[.slice y1 y2 y3, .int .i64 (a : Int), .int .i64 (c : Int)] 34)).trans (b6.mono (by simp));
       have R46 := Lib.hid (R45.out.below B56); have R56 := Lib.hid (R5.out.below B56);
       have k0 := (res_at (b6.mono (by simp)) (j := 0) rfl).1; have k1 := (res_at (b6.mono (by simp)) (j := 1) rfl).1; have k2 := (res_at (b6.mono (by simp)) (j := 2) rfl).1;
       have B6 := Lib.hid (B5.out.trans (B56.mono B5.out.size)); clear b6 B56 R15 R25 R45 R5 d0 d1 d2)
    | (go_at_call 13; refine (HC2.out _ _ _ R46.out R56.out).mono ?_; rintro e w7 ⟨rfl, b7⟩;
       have B7 := Lib.hid (B6.out.trans (b7.mono B6.out.size)); clear b7))
  exact bodyPost_ret (v := .bool true) (by simp [results, Tryz.results3, go_sem]) rfl ⟨rfl, B7.out⟩
end

end Go.Proofs.YtlkanfnhemjdcaaGreatDoor
