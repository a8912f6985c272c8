/-
  The rule of pattern variables.
-/
import Derived.Test.YtledmagigkpbeaaDoorR2
namespace Go.Proofs.YtledmagigkpbeaaDoor
open Go.RowKit

set_option maxHeartbeats 4000000 in
set_option maxRecDepth 100000 in
theorem pattern_any (b i : Nat) (t : ByteArray) (w : World) (hb0 : b < w.heap.size) (hi : i < t.size) (ht : t.size ≤ 1048576) (h0 : w.cell? ⟨b, 0, none⟩ = some (.string t)) (h1 : w.cell? ⟨b, 1, none⟩ = some (.int .i64 (i : Int))) :
    Calls Tryd.prog 83 #[.pointer (some ⟨b, 0, none⟩)] w fun e w' => e = .returned (.int .i64 (patN t i (winB t i) : Int)) ∧ Below w.heap.size w w' := by
  have hc := window_q b i t w (by omega) (by omega) h0 h1
  have hs : (winB t i).size ≤ 100 ∧ 1 ≤ (winB t i).size := by rw [win_size]; omega
  obtain ⟨hs1, hs2⟩ := hs
  have hj := fun (W : World) (hB : Below w.heap.size w W) (n : Nat) (hn : n ≤ 1048576) => joins_any b i n t W (by omega) hn ((hB.cell (p := ⟨b, 0, none⟩) hb0).trans h0) ((hB.cell (p := ⟨b, 1, none⟩) hb0).trans h1)
  clear h0 h1 hi ht
  generalize winB t i = s at *
  have hsN : 0 < s.size := by omega
  have hsI : (1 : Int) ≤ (s.size : Int) := by omega
  have hp1 := fun w => plain_any (s.extract 1 s.size) (by rw [lib_sz]; omega) w
  have hle := plainN_le (s.extract 1 s.size)
  rw [lib_sz] at hle
  have Hc := Lib.hid hc; have Hj := Lib.hid hj; have Hp1 := Lib.hid hp1; clear hc hj hp1
  have HN : Hid (patN t i s = _) := Lib.hid (patN.eq_1 t i s)
  rw [aheadB_lt hsN] at HN
  by_cases hq : s[0] = 63
  · have hq' : ((s[0].toNat : Int) != 63) = false := by rw [hq]; rfl
    rw [if_pos hq] at HN
    clear hq
    generalize plainN (s.extract 1 s.size) = k at *
    by_cases hk : k = 0
    · subst hk
      clear hle
      have HN2 : Hid (patN t i s = 0) := Lib.hid (by simpa using HN.out)
      clear HN
      go_enter Tryd.func83, Tryd.ntmps83
      go_wp2_with (go_at_call 95; refine Hc.out.mono ?_; rintro e w1 ⟨rfl, q, rfl⟩)
      refine (Hp1.out _).mono ?_
      rintro e w2 ⟨rfl, hb⟩
      go_wp2_with fail
      go_ret
      exact ⟨ret_int (by rw [HN2.out]; rfl), (below_drewN (Below.refl _ _) q).trans hb⟩
    · have hk' : ((k : Int) == 0) = false := by rw [beq_eq_false_iff_ne]; omega
      rw [if_neg hk] at HN
      clear hk
      by_cases hz : k + 1 = s.size
      · have hz' : ((k : Int) + 1 == (s.size : Int)) = true := by rw [beq_iff_eq]; omega
        have HN2 : Hid (patN t i s = k + 1) := Lib.hid (by rw [HN.out, aheadB_ge (by omega)]; rfl)
        clear HN hz
        go_enter Tryd.func83, Tryd.ntmps83
        go_wp2_with (go_at_call 95; refine Hc.out.mono ?_; rintro e w1 ⟨rfl, q, rfl⟩)
        refine (Hp1.out _).mono ?_
        rintro e w2 ⟨rfl, hb⟩
        go_wp2_with fail
        go_ret
        exact ⟨ret_int (by rw [HN2.out]; omega), (below_drewN (Below.refl _ _) q).trans hb⟩
      · have hlt : k + 1 < s.size := by omega
        have hltI : (k : Int) + 1 < (s.size : Int) := by omega
        have hz' : ((k : Int) + 1 == (s.size : Int)) = false := by rw [beq_eq_false_iff_ne]; omega
        rw [aheadB_lt hlt] at HN
        clear hz
        by_cases hcol : s[k + 1] = 58
        · have hcol' : ((s[k + 1].toNat : Int) != 58) = false := by rw [hcol]; rfl
          rw [if_pos hcol] at HN
          clear hcol
          have Hj2 := fun W hB => Hj.out W hB (k + 1 + 1) (by omega)
          have Hj3 := Lib.hid Hj2; clear Hj Hj2
          cases hjo : joinsB (aheadB t (i + (k + 1 + 1)))
          · rw [hjo] at Hj3 HN
            have hp2 := fun w => plain_any (s.extract (k + 1 + 1) s.size) (by rw [lib_sz]; omega) w
            have hle2 := plainN_le (s.extract (k + 1 + 1) s.size)
            rw [lib_sz] at hle2
            have Hp2 := Lib.hid hp2; clear hp2
            have hslI : (k : Int) + 1 + 1 ≤ (s.size : Int) := by omega
            generalize plainN (s.extract (k + 1 + 1) s.size) = m at *
            by_cases hm : 0 < m
            · have hm' : (0 : Int) < (m : Int) := by omega
              have HN2 : Hid (patN t i s = k + 1 + 1 + m) := Lib.hid (by rw [HN.out]; simp [hm])
              clear HN
              go_enter Tryd.func83, Tryd.ntmps83
              go_wp2_with (go_at_call 95; refine Hc.out.mono ?_; rintro e w1 ⟨rfl, q, rfl⟩)
              refine (Hp1.out _).mono ?_
              rintro e w2 ⟨rfl, hb⟩
              have hB2 := (below_drewN (Below.refl w.heap.size w) q).trans hb
              go_wp2_with fail
              refine (Hj3.out _ hB2).mono ?_
              rintro e w3 ⟨rfl, q3, rfl⟩
              go_wp2_with fail
              refine (Hp2.out _).mono ?_
              rintro e w4 ⟨rfl, hb4⟩
              go_wp2_with fail
              go_ret
              exact ⟨ret_int (by rw [HN2.out]; omega), (below_drewN hB2 _).trans (hb4.mono hB2.size)⟩
            · have hm0 : m = 0 := by omega
              subst hm0
              have HN2 : Hid (patN t i s = k + 1) := Lib.hid (by rw [HN.out]; simp)
              clear HN hle2 hm
              go_enter Tryd.func83, Tryd.ntmps83
              go_wp2_with (go_at_call 95; refine Hc.out.mono ?_; rintro e w1 ⟨rfl, q, rfl⟩)
              refine (Hp1.out _).mono ?_
              rintro e w2 ⟨rfl, hb⟩
              have hB2 := (below_drewN (Below.refl w.heap.size w) q).trans hb
              go_wp2_with fail
              refine (Hj3.out _ hB2).mono ?_
              rintro e w3 ⟨rfl, q3, rfl⟩
              go_wp2_with fail
              refine (Hp2.out _).mono ?_
              rintro e w4 ⟨rfl, hb4⟩
              go_wp2_with fail
              go_ret
              exact ⟨ret_int (by rw [HN2.out]; omega), (below_drewN hB2 _).trans (hb4.mono hB2.size)⟩
          · rw [hjo] at Hj3 HN
            have HN2 : Hid (patN t i s = k + 1) := Lib.hid (by rw [HN.out]; simp)
            clear HN
            go_enter Tryd.func83, Tryd.ntmps83
            go_wp2_with (go_at_call 95; refine Hc.out.mono ?_; rintro e w1 ⟨rfl, q, rfl⟩)
            refine (Hp1.out _).mono ?_
            rintro e w2 ⟨rfl, hb⟩
            have hB2 := (below_drewN (Below.refl w.heap.size w) q).trans hb
            go_wp2_with fail
            refine (Hj3.out _ hB2).mono ?_
            rintro e w3 ⟨rfl, q3, rfl⟩
            go_wp2_with fail
            go_ret
            exact ⟨ret_int (by rw [HN2.out]; omega), below_drewN hB2 _⟩
        · have hcol' : ((s[k + 1].toNat : Int) != 58) = true := by
            rw [bne_iff_ne]; intro h; apply hcol; have : s[k + 1].toNat = 58 := by omega
            exact UInt8.toNat_inj.1 this
          rw [if_neg hcol] at HN
          have HN2 : Hid (patN t i s = k + 1) := Lib.hid HN.out
          clear HN hcol
          go_enter Tryd.func83, Tryd.ntmps83
          go_wp2_with (go_at_call 95; refine Hc.out.mono ?_; rintro e w1 ⟨rfl, q, rfl⟩)
          refine (Hp1.out _).mono ?_
          rintro e w2 ⟨rfl, hb⟩
          go_wp2_with fail
          go_ret
          exact ⟨ret_int (by rw [HN2.out]; omega), (below_drewN (Below.refl _ _) q).trans hb⟩
  · have hq' : ((s[0].toNat : Int) != 63) = true := by
      rw [bne_iff_ne]; intro h; apply hq; have : s[0].toNat = 63 := by omega
      exact UInt8.toNat_inj.1 this
    rw [if_neg hq] at HN
    clear hq
    go_enter Tryd.func83, Tryd.ntmps83
    go_wp2_with (go_at_call 95; refine Hc.out.mono ?_; rintro e w1 ⟨rfl, q, rfl⟩)
    go_ret
    exact ⟨ret_int (by rw [HN.out]; rfl), below_drewN (Below.refl _ _) q⟩
end Go.Proofs.YtledmagigkpbeaaDoor
