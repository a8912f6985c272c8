/-
  The rules of keywords, signs and pattern variables.
-/
import Derived.Test.YtledmagigkpbeaaDoorR
namespace Go.Proofs.YtledmagigkpbeaaDoor
open Go.RowKit

theorem byte_ne {c : UInt8} {n : Nat} (h : ¬ c.toNat = n) : ((c.toNat : Int) == (n : Int)) = false := by rw [beq_eq_false_iff_ne]; omega

set_option maxHeartbeats 2000000 in
set_option maxRecDepth 100000 in
theorem keyword_any (b i : Nat) (t : ByteArray) (w : World) (hb0 : b < w.heap.size) (hi : i < t.size) (ht : t.size ≤ 1048576) (h0 : w.cell? ⟨b, 0, none⟩ = some (.string t)) (h1 : w.cell? ⟨b, 1, none⟩ = some (.int .i64 (i : Int))) :
    Calls Tryd.prog 80 #[.pointer (some ⟨b, 0, none⟩)] w fun e w' => e = .returned (.int .i64 (keyN t i (winB t i) : Int)) ∧ Below w.heap.size w w' := by
  have hc := window_q b i t w (by omega) (by omega) h0 h1
  have hs : (winB t i).size ≤ 100 := by rw [win_size]; omega
  have hle := plainN_le (winB t i)
  have hj := fun (W : World) (hB : Below w.heap.size w W) (n : Nat) (hn : n ≤ 1048576) => joins_any b i n t W (by omega) hn ((hB.cell (p := ⟨b, 0, none⟩) hb0).trans h0) ((hB.cell (p := ⟨b, 1, none⟩) hb0).trans h1)
  have HN := Lib.hid (show keyN t i (winB t i) = _ from rfl)
  clear h0 h1
  generalize winB t i = s at *
  have hp := fun w => plain_any s (by omega) w
  have Hp := Lib.hid hp; clear hp
  have Hc := Lib.hid hc; clear hc
  have Hj := Lib.hid hj; clear hj
  by_cases hk : plainN s = 0
  · have hN : Hid (keyN t i s = 0) := Lib.hid (by simp [keyN, hk])
    rw [hk] at Hp
    clear HN hk hle
    go_enter Tryd.func80, Tryd.ntmps80
    go_wp2_with (first | (go_at_call 95; refine Hc.out.mono ?_; rintro e w1 ⟨rfl, q, rfl⟩) | (go_at_call 96; refine (Hp.out _).mono ?_; rintro e w2 ⟨rfl, hb⟩))
    go_ret
    exact ⟨ret_int (by rw [hN.out]; rfl), (below_drewN (Below.refl _ _) q).trans hb⟩
  · have hk' : ((plainN s : Int) == 0) = false := by rw [beq_eq_false_iff_ne]; omega
    by_cases hz : plainN s = s.size
    · have hN : Hid (keyN t i s = 0) := Lib.hid (by simp [keyN, aheadB_ge (t := s) (k := plainN s) (by omega)])
      have hz' : ((plainN s : Int) == (s.size : Int)) = true := by rw [beq_iff_eq]; omega
      clear HN hk hz
      generalize plainN s = k at *
      go_enter Tryd.func80, Tryd.ntmps80
      go_wp2_with (first | (go_at_call 95; refine Hc.out.mono ?_; rintro e w1 ⟨rfl, q, rfl⟩) | (go_at_call 96; refine (Hp.out _).mono ?_; rintro e w2 ⟨rfl, hb⟩))
      go_ret
      exact ⟨ret_int (by rw [hN.out]; rfl), (below_drewN (Below.refl _ _) q).trans hb⟩
    · have hlt : plainN s < s.size := by omega
      have hz' : ((plainN s : Int) == (s.size : Int)) = false := by rw [beq_eq_false_iff_ne]; omega
      by_cases hcol : s[plainN s] = 58
      · have hcol' : ((s[plainN s].toNat : Int) != 58) = false := by rw [hcol]; rfl
        have hN : Hid (keyN t i s = if joinsB (aheadB t (i + (plainN s + 1))) then 0 else plainN s + 1) := Lib.hid (by simp [keyN, hk, aheadB_lt hlt, hcol])
        clear HN hk hz hcol
        generalize plainN s = k at *
        have Hj2 := fun W hB => Hj.out W hB (k + 1) (by omega)
        have Hj3 := Lib.hid Hj2; clear Hj Hj2
        cases hjo : joinsB (aheadB t (i + (k + 1)))
        all_goals
          rw [hjo] at Hj3 hN
          go_enter Tryd.func80, Tryd.ntmps80
          go_wp2_with (first | (go_at_call 95; refine Hc.out.mono ?_; rintro e w1 ⟨rfl, q, rfl⟩) | (go_at_call 96; refine (Hp.out _).mono ?_; rintro e w2 ⟨rfl, hb⟩) | (go_at_call 99; refine (Hj3.out _ ((below_drewN (Below.refl _ _) q).trans hb)).mono ?_; rintro e w3 ⟨rfl, q3, rfl⟩))
          go_ret
          exact ⟨ret_int (by rw [hN.out]; rfl), below_drewN ((below_drewN (Below.refl _ _) q).trans hb) _⟩
      · have hcol' : ((s[plainN s].toNat : Int) != 58) = true := by
          rw [bne_iff_ne]; intro h; apply hcol; have : s[plainN s].toNat = 58 := by omega
          exact UInt8.toNat_inj.1 this
        have hN : Hid (keyN t i s = 0) := Lib.hid (by simp [keyN, aheadB_lt hlt, hcol])
        clear HN hk hz hcol
        generalize plainN s = k at *
        go_enter Tryd.func80, Tryd.ntmps80
        go_wp2_with (first | (go_at_call 95; refine Hc.out.mono ?_; rintro e w1 ⟨rfl, q, rfl⟩) | (go_at_call 96; refine (Hp.out _).mono ?_; rintro e w2 ⟨rfl, hb⟩))
        go_ret
        exact ⟨ret_int (by rw [hN.out]; rfl), (below_drewN (Below.refl _ _) q).trans hb⟩

set_option maxHeartbeats 4000000 in
set_option maxRecDepth 100000 in
theorem sign_two (b m : Nat) (s : ByteArray) (w : World) (hmn : min (2 : Int) (s.size : Int) = (m : Int)) (h3 : (0 : Int) ≤ (m : Int)) (h4 : (m : Int) ≤ (s.size : Int)) (_hsI : (0 : Int) < (s.size : Int)) (hsN : 0 < s.size)
    (HN : Hid (signN s = if signTwo (s.extract 0 m).toList then 2 else if signOne s[0] then 1 else 0))
    (Hc : Hid (Calls Tryd.prog 95 #[.pointer (some ⟨b, 0, none⟩)] w fun e w' => e = .returned (.string s) ∧ ∃ n, w' = w.drewN n))
    (hT : signTwo (s.extract 0 m).toList = true) :
    Calls Tryd.prog 82 #[.pointer (some ⟨b, 0, none⟩)] w fun e w' => e = .returned (.int .i64 (signN s : Int)) ∧ Below w.heap.size w w' := by
  cases a0 : ((s.extract 0 m).toList == [58, 61])
  case true =>
    clear hT
    go_enter Tryd.func82, Tryd.ntmps82
    go_wp2_with (go_at_call 95; refine Hc.out.mono ?_; rintro e w1 ⟨rfl, q, rfl⟩)
    go_ret
    exact ⟨ret_int (by rw [HN.out]; simp only [signTwo, a0]; rfl), below_drewN (Below.refl _ _) q⟩
  cases a1 : ((s.extract 0 m).toList == [58, 58])
  case true =>
    clear hT
    go_enter Tryd.func82, Tryd.ntmps82
    go_wp2_with (go_at_call 95; refine Hc.out.mono ?_; rintro e w1 ⟨rfl, q, rfl⟩)
    go_ret
    exact ⟨ret_int (by rw [HN.out]; simp only [signTwo, a0, a1]; rfl), below_drewN (Below.refl _ _) q⟩
  cases a2 : ((s.extract 0 m).toList == [61, 62])
  case true =>
    clear hT
    go_enter Tryd.func82, Tryd.ntmps82
    go_wp2_with (go_at_call 95; refine Hc.out.mono ?_; rintro e w1 ⟨rfl, q, rfl⟩)
    go_ret
    exact ⟨ret_int (by rw [HN.out]; simp only [signTwo, a0, a1, a2]; rfl), below_drewN (Below.refl _ _) q⟩
  cases a3 : ((s.extract 0 m).toList == [61, 61])
  case true =>
    clear hT
    go_enter Tryd.func82, Tryd.ntmps82
    go_wp2_with (go_at_call 95; refine Hc.out.mono ?_; rintro e w1 ⟨rfl, q, rfl⟩)
    go_ret
    exact ⟨ret_int (by rw [HN.out]; simp only [signTwo, a0, a1, a2, a3]; rfl), below_drewN (Below.refl _ _) q⟩
  cases a4 : ((s.extract 0 m).toList == [60, 61])
  case true =>
    clear hT
    go_enter Tryd.func82, Tryd.ntmps82
    go_wp2_with (go_at_call 95; refine Hc.out.mono ?_; rintro e w1 ⟨rfl, q, rfl⟩)
    go_ret
    exact ⟨ret_int (by rw [HN.out]; simp only [signTwo, a0, a1, a2, a3, a4]; rfl), below_drewN (Below.refl _ _) q⟩
  cases a5 : ((s.extract 0 m).toList == [62, 61])
  case true =>
    clear hT
    go_enter Tryd.func82, Tryd.ntmps82
    go_wp2_with (go_at_call 95; refine Hc.out.mono ?_; rintro e w1 ⟨rfl, q, rfl⟩)
    go_ret
    exact ⟨ret_int (by rw [HN.out]; simp only [signTwo, a0, a1, a2, a3, a4, a5]; rfl), below_drewN (Below.refl _ _) q⟩
  simp [signTwo, a0, a1, a2, a3, a4, a5] at hT

set_option maxHeartbeats 8000000 in
set_option maxRecDepth 100000 in
theorem sign_one (b m : Nat) (s : ByteArray) (w : World) (hmn : min (2 : Int) (s.size : Int) = (m : Int)) (h3 : (0 : Int) ≤ (m : Int)) (h4 : (m : Int) ≤ (s.size : Int)) (_hsI : (0 : Int) < (s.size : Int)) (hsN : 0 < s.size)
    (HN : Hid (signN s = if signTwo (s.extract 0 m).toList then 2 else if signOne s[0] then 1 else 0))
    (Hc : Hid (Calls Tryd.prog 95 #[.pointer (some ⟨b, 0, none⟩)] w fun e w' => e = .returned (.string s) ∧ ∃ n, w' = w.drewN n))
    (a0 : ((s.extract 0 m).toList == [58, 61]) = false) (a1 : ((s.extract 0 m).toList == [58, 58]) = false) (a2 : ((s.extract 0 m).toList == [61, 62]) = false) (a3 : ((s.extract 0 m).toList == [61, 61]) = false) (a4 : ((s.extract 0 m).toList == [60, 61]) = false) (a5 : ((s.extract 0 m).toList == [62, 61]) = false) :
    Calls Tryd.prog 82 #[.pointer (some ⟨b, 0, none⟩)] w fun e w' => e = .returned (.int .i64 (signN s : Int)) ∧ Below w.heap.size w w' := by
  cases c0 : ((s[0].toNat : Int) == 40)
  case true =>
    go_enter Tryd.func82, Tryd.ntmps82
    go_wp2_with (go_at_call 95; refine Hc.out.mono ?_; rintro e w1 ⟨rfl, q, rfl⟩)
    go_ret
    exact ⟨ret_int (by rw [HN.out]; simp only [signTwo, signOne, a0, a1, a2, a3, a4, a5, c0]; rfl), below_drewN (Below.refl _ _) q⟩
  cases c1 : ((s[0].toNat : Int) == 41)
  case true =>
    go_enter Tryd.func82, Tryd.ntmps82
    go_wp2_with (go_at_call 95; refine Hc.out.mono ?_; rintro e w1 ⟨rfl, q, rfl⟩)
    go_ret
    exact ⟨ret_int (by rw [HN.out]; simp only [signTwo, signOne, a0, a1, a2, a3, a4, a5, c0, c1]; rfl), below_drewN (Below.refl _ _) q⟩
  cases c2 : ((s[0].toNat : Int) == 91)
  case true =>
    go_enter Tryd.func82, Tryd.ntmps82
    go_wp2_with (go_at_call 95; refine Hc.out.mono ?_; rintro e w1 ⟨rfl, q, rfl⟩)
    go_ret
    exact ⟨ret_int (by rw [HN.out]; simp only [signTwo, signOne, a0, a1, a2, a3, a4, a5, c0, c1, c2]; rfl), below_drewN (Below.refl _ _) q⟩
  cases c3 : ((s[0].toNat : Int) == 93)
  case true =>
    go_enter Tryd.func82, Tryd.ntmps82
    go_wp2_with (go_at_call 95; refine Hc.out.mono ?_; rintro e w1 ⟨rfl, q, rfl⟩)
    go_ret
    exact ⟨ret_int (by rw [HN.out]; simp only [signTwo, signOne, a0, a1, a2, a3, a4, a5, c0, c1, c2, c3]; rfl), below_drewN (Below.refl _ _) q⟩
  cases c4 : ((s[0].toNat : Int) == 123)
  case true =>
    go_enter Tryd.func82, Tryd.ntmps82
    go_wp2_with (go_at_call 95; refine Hc.out.mono ?_; rintro e w1 ⟨rfl, q, rfl⟩)
    go_ret
    exact ⟨ret_int (by rw [HN.out]; simp only [signTwo, signOne, a0, a1, a2, a3, a4, a5, c0, c1, c2, c3, c4]; rfl), below_drewN (Below.refl _ _) q⟩
  cases c5 : ((s[0].toNat : Int) == 125)
  case true =>
    go_enter Tryd.func82, Tryd.ntmps82
    go_wp2_with (go_at_call 95; refine Hc.out.mono ?_; rintro e w1 ⟨rfl, q, rfl⟩)
    go_ret
    exact ⟨ret_int (by rw [HN.out]; simp only [signTwo, signOne, a0, a1, a2, a3, a4, a5, c0, c1, c2, c3, c4, c5]; rfl), below_drewN (Below.refl _ _) q⟩
  cases c6 : ((s[0].toNat : Int) == 44)
  case true =>
    go_enter Tryd.func82, Tryd.ntmps82
    go_wp2_with (go_at_call 95; refine Hc.out.mono ?_; rintro e w1 ⟨rfl, q, rfl⟩)
    go_ret
    exact ⟨ret_int (by rw [HN.out]; simp only [signTwo, signOne, a0, a1, a2, a3, a4, a5, c0, c1, c2, c3, c4, c5, c6]; rfl), below_drewN (Below.refl _ _) q⟩
  cases c7 : ((s[0].toNat : Int) == 59)
  case true =>
    go_enter Tryd.func82, Tryd.ntmps82
    go_wp2_with (go_at_call 95; refine Hc.out.mono ?_; rintro e w1 ⟨rfl, q, rfl⟩)
    go_ret
    exact ⟨ret_int (by rw [HN.out]; simp only [signTwo, signOne, a0, a1, a2, a3, a4, a5, c0, c1, c2, c3, c4, c5, c6, c7]; rfl), below_drewN (Below.refl _ _) q⟩
  cases c8 : ((s[0].toNat : Int) == 46)
  case true =>
    go_enter Tryd.func82, Tryd.ntmps82
    go_wp2_with (go_at_call 95; refine Hc.out.mono ?_; rintro e w1 ⟨rfl, q, rfl⟩)
    go_ret
    exact ⟨ret_int (by rw [HN.out]; simp only [signTwo, signOne, a0, a1, a2, a3, a4, a5, c0, c1, c2, c3, c4, c5, c6, c7, c8]; rfl), below_drewN (Below.refl _ _) q⟩
  cases c9 : ((s[0].toNat : Int) == 61)
  case true =>
    go_enter Tryd.func82, Tryd.ntmps82
    go_wp2_with (go_at_call 95; refine Hc.out.mono ?_; rintro e w1 ⟨rfl, q, rfl⟩)
    go_ret
    exact ⟨ret_int (by rw [HN.out]; simp only [signTwo, signOne, a0, a1, a2, a3, a4, a5, c0, c1, c2, c3, c4, c5, c6, c7, c8, c9]; rfl), below_drewN (Below.refl _ _) q⟩
  cases c10 : ((s[0].toNat : Int) == 60)
  case true =>
    go_enter Tryd.func82, Tryd.ntmps82
    go_wp2_with (go_at_call 95; refine Hc.out.mono ?_; rintro e w1 ⟨rfl, q, rfl⟩)
    go_ret
    exact ⟨ret_int (by rw [HN.out]; simp only [signTwo, signOne, a0, a1, a2, a3, a4, a5, c0, c1, c2, c3, c4, c5, c6, c7, c8, c9, c10]; rfl), below_drewN (Below.refl _ _) q⟩
  cases c11 : ((s[0].toNat : Int) == 62)
  case true =>
    go_enter Tryd.func82, Tryd.ntmps82
    go_wp2_with (go_at_call 95; refine Hc.out.mono ?_; rintro e w1 ⟨rfl, q, rfl⟩)
    go_ret
    exact ⟨ret_int (by rw [HN.out]; simp only [signTwo, signOne, a0, a1, a2, a3, a4, a5, c0, c1, c2, c3, c4, c5, c6, c7, c8, c9, c10, c11]; rfl), below_drewN (Below.refl _ _) q⟩
  cases c12 : ((s[0].toNat : Int) == 43)
  case true =>
    go_enter Tryd.func82, Tryd.ntmps82
    go_wp2_with (go_at_call 95; refine Hc.out.mono ?_; rintro e w1 ⟨rfl, q, rfl⟩)
    go_ret
    exact ⟨ret_int (by rw [HN.out]; simp only [signTwo, signOne, a0, a1, a2, a3, a4, a5, c0, c1, c2, c3, c4, c5, c6, c7, c8, c9, c10, c11, c12]; rfl), below_drewN (Below.refl _ _) q⟩
  cases c13 : ((s[0].toNat : Int) == 45)
  case true =>
    go_enter Tryd.func82, Tryd.ntmps82
    go_wp2_with (go_at_call 95; refine Hc.out.mono ?_; rintro e w1 ⟨rfl, q, rfl⟩)
    go_ret
    exact ⟨ret_int (by rw [HN.out]; simp only [signTwo, signOne, a0, a1, a2, a3, a4, a5, c0, c1, c2, c3, c4, c5, c6, c7, c8, c9, c10, c11, c12, c13]; rfl), below_drewN (Below.refl _ _) q⟩
  cases c14 : ((s[0].toNat : Int) == 42)
  case true =>
    go_enter Tryd.func82, Tryd.ntmps82
    go_wp2_with (go_at_call 95; refine Hc.out.mono ?_; rintro e w1 ⟨rfl, q, rfl⟩)
    go_ret
    exact ⟨ret_int (by rw [HN.out]; simp only [signTwo, signOne, a0, a1, a2, a3, a4, a5, c0, c1, c2, c3, c4, c5, c6, c7, c8, c9, c10, c11, c12, c13, c14]; rfl), below_drewN (Below.refl _ _) q⟩
  cases c15 : ((s[0].toNat : Int) == 47)
  case true =>
    go_enter Tryd.func82, Tryd.ntmps82
    go_wp2_with (go_at_call 95; refine Hc.out.mono ?_; rintro e w1 ⟨rfl, q, rfl⟩)
    go_ret
    exact ⟨ret_int (by rw [HN.out]; simp only [signTwo, signOne, a0, a1, a2, a3, a4, a5, c0, c1, c2, c3, c4, c5, c6, c7, c8, c9, c10, c11, c12, c13, c14, c15]; rfl), below_drewN (Below.refl _ _) q⟩
  cases c16 : ((s[0].toNat : Int) == 38)
  case true =>
    go_enter Tryd.func82, Tryd.ntmps82
    go_wp2_with (go_at_call 95; refine Hc.out.mono ?_; rintro e w1 ⟨rfl, q, rfl⟩)
    go_ret
    exact ⟨ret_int (by rw [HN.out]; simp only [signTwo, signOne, a0, a1, a2, a3, a4, a5, c0, c1, c2, c3, c4, c5, c6, c7, c8, c9, c10, c11, c12, c13, c14, c15, c16]; rfl), below_drewN (Below.refl _ _) q⟩
  cases c17 : ((s[0].toNat : Int) == 124)
  case true =>
    go_enter Tryd.func82, Tryd.ntmps82
    go_wp2_with (go_at_call 95; refine Hc.out.mono ?_; rintro e w1 ⟨rfl, q, rfl⟩)
    go_ret
    exact ⟨ret_int (by rw [HN.out]; simp only [signTwo, signOne, a0, a1, a2, a3, a4, a5, c0, c1, c2, c3, c4, c5, c6, c7, c8, c9, c10, c11, c12, c13, c14, c15, c16, c17]; rfl), below_drewN (Below.refl _ _) q⟩
  cases c18 : ((s[0].toNat : Int) == 126)
  case true =>
    go_enter Tryd.func82, Tryd.ntmps82
    go_wp2_with (go_at_call 95; refine Hc.out.mono ?_; rintro e w1 ⟨rfl, q, rfl⟩)
    go_ret
    exact ⟨ret_int (by rw [HN.out]; simp only [signTwo, signOne, a0, a1, a2, a3, a4, a5, c0, c1, c2, c3, c4, c5, c6, c7, c8, c9, c10, c11, c12, c13, c14, c15, c16, c17, c18]; rfl), below_drewN (Below.refl _ _) q⟩
  cases c19 : ((s[0].toNat : Int) == 63)
  case true =>
    go_enter Tryd.func82, Tryd.ntmps82
    go_wp2_with (go_at_call 95; refine Hc.out.mono ?_; rintro e w1 ⟨rfl, q, rfl⟩)
    go_ret
    exact ⟨ret_int (by rw [HN.out]; simp only [signTwo, signOne, a0, a1, a2, a3, a4, a5, c0, c1, c2, c3, c4, c5, c6, c7, c8, c9, c10, c11, c12, c13, c14, c15, c16, c17, c18, c19]; rfl), below_drewN (Below.refl _ _) q⟩
  go_enter Tryd.func82, Tryd.ntmps82
  go_wp2_with (go_at_call 95; refine Hc.out.mono ?_; rintro e w1 ⟨rfl, q, rfl⟩)
  go_ret
  exact ⟨ret_int (by rw [HN.out]; simp only [signTwo, signOne, a0, a1, a2, a3, a4, a5, c0, c1, c2, c3, c4, c5, c6, c7, c8, c9, c10, c11, c12, c13, c14, c15, c16, c17, c18, c19]; rfl), below_drewN (Below.refl _ _) q⟩

theorem sign_any (b i : Nat) (t : ByteArray) (w : World) (hi : i < t.size) (ht : t.size ≤ 1048576) (h0 : w.cell? ⟨b, 0, none⟩ = some (.string t)) (h1 : w.cell? ⟨b, 1, none⟩ = some (.int .i64 (i : Int))) :
    Calls Tryd.prog 82 #[.pointer (some ⟨b, 0, none⟩)] w fun e w' => e = .returned (.int .i64 (signN (winB t i) : Int)) ∧ Below w.heap.size w w' := by
  have hc := window_q b i t w (by omega) (by omega) h0 h1
  have hs : (winB t i).size ≤ 100 ∧ 1 ≤ (winB t i).size := by rw [win_size]; omega
  obtain ⟨hs1, hs2⟩ := hs
  generalize winB t i = s at *
  have hsN : 0 < s.size := by omega
  have HN : Hid (signN s = if signTwo (s.extract 0 (min 2 s.size)).toList then 2 else if signOne s[0] then 1 else 0) := Lib.hid (by simp [signN, aheadB_lt hsN])
  cases hT : signTwo (s.extract 0 (min 2 s.size)).toList
  · simp only [signTwo, Bool.or_eq_false_iff] at hT
    obtain ⟨⟨⟨⟨⟨a0, a1⟩, a2⟩, a3⟩, a4⟩, a5⟩ := hT
    exact sign_one b (min 2 s.size) s w (by omega) (by omega) (by omega) (by omega) hsN HN (Lib.hid hc) a0 a1 a2 a3 a4 a5
  · exact sign_two b (min 2 s.size) s w (by omega) (by omega) (by omega) (by omega) hsN HN (Lib.hid hc) hT
end Go.Proofs.YtledmagigkpbeaaDoor
