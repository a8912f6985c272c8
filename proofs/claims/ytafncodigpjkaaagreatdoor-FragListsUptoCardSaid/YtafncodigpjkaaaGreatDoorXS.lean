/-
  The reference's choice among the rules, where no name begins.
-/
import Derived.Test.YtafncodigpjkaaaGreatDoorXQ
namespace Go.Proofs.YtafncodigpjkaaaGreatDoor
section
open Go.RowKit

set_option maxHeartbeats 8000000 in
set_option maxRecDepth 100000 in
theorem best_false (t : ByteArray) (i : Nat) (op : Bool) (hi : i < t.size) (ht : t.size ≤ 140737488351232) (hnm4 : nmB t i 4 = false) (w : World) :
    Calls Tryz.prog 126 #[.string t, .int .i64 (i : Int), .bool op] w fun e w' => e = .returned (.agg #[.int .i64 ((bestR t i op).1 : Int), .int .i64 ((bestR t i op).2 : Int)]) ∧ Below w.heap.size w w' := by
  have HBG := Lib.hid (fun W => rBegins_any t i (Nat.le_of_lt hi) ht W)
  have hwin := win_sz t i
  have HLG := Lib.hid (fun P hP hP2 W => rLongest_any P (winB t i) hP hP2 (by omega) W)
  obtain ⟨B, hB⟩ : ∃ B, B = bestR t i op := ⟨_, rfl⟩
  rw [← hB]
  unfold bestR at hB
  obtain ⟨RL, hRL⟩ : ∃ RL, RL = rulesL := ⟨_, rfl⟩
  have hRLlen := rulesL_len
  have hRLok := rulesL_ok
  rw [← hRL] at hB hRLlen hRLok
  have HB0 := Lib.hid hB; have HRL := Lib.hid hRL; have HOK := Lib.hid hRLok; have HLEN := Lib.hid hRLlen
  have HNM4 := Lib.hid hnm4
  clear hB hRLok hRLlen hnm4
  go_enter Tryz.func126, Tryz.ntmps126
  go_wp2_with fail
  refine (rRules_any _).mono ?_
  rintro e w1 ⟨v, rfl, hrow, hb1⟩
  rw [← hRL] at hrow
  obtain ⟨g, cap, rfl, hg, hR⟩ := rules_at (by rw [HLEN.out]; omega) hrow
  have hz1 := hb1.size
  simp only [World.size_alloc] at hg hz1
  have B1 : Hid (BSt (w.heap.size + 1) g RL w1 (0, 0) w1) := by
    refine Lib.hid ⟨.refl _ _, ?_, ?_, ?_, ?_, hR, by omega, by omega⟩
    · exact (hb1.cell (p := ⟨w.heap.size + 1, 0, none⟩) (by simp)).trans (new_cell _ _ _ _ _ _ (by simp) rfl)
    · exact (hb1.cell (p := ⟨w.heap.size + 1, 1, none⟩) (by simp)).trans (new_cell _ _ _ _ _ _ (by simp) rfl)
    · exact (hb1.frozen (p := ⟨w.heap.size + 1, 0, none⟩) (by simp)).trans (new_frozen _ _ _ _ _ (by simp))
    · exact (hb1.frozen (p := ⟨w.heap.size + 1, 1, none⟩) (by simp)).trans (new_frozen _ _ _ _ _ (by simp))
  have HRES : Hid (w1.cell? ⟨w.heap.size, 0, none⟩ = some (.int .i64 0) ∧ w1.cell? ⟨w.heap.size, 1, none⟩ = some (.int .i64 0) ∧ w1.frozen? ⟨w.heap.size, 0, none⟩ = false ∧ w1.frozen? ⟨w.heap.size, 1, none⟩ = false ∧ w.heap.size < w1.heap.size) := by
    refine Lib.hid ⟨?_, ?_, ?_, ?_, by omega⟩
    · exact (hb1.cell (p := ⟨w.heap.size, 0, none⟩) (by simp; omega)).trans (two_firstB _ _ _ _ _ _ _ rfl rfl)
    · exact (hb1.cell (p := ⟨w.heap.size, 1, none⟩) (by simp; omega)).trans (two_firstB _ _ _ _ _ _ _ rfl rfl)
    · exact (hb1.frozen (p := ⟨w.heap.size, 0, none⟩) (by simp; omega)).trans (two_frozenB _ _ _ _ _ _ rfl)
    · exact (hb1.frozen (p := ⟨w.heap.size, 1, none⟩) (by simp; omega)).trans (two_frozenB _ _ _ _ _ _ rfl)
  have BW : Hid (Below w.heap.size w w1) := Lib.hid ((((Below.refl _ w).alloc (Nat.le_refl _) _).alloc (by simp) _).trans (hb1.mono (by simp; omega)))
  clear hrow hb1 hR hg hz1 hRL
  go_wp2_with fail
  go_loopw [9, 10] (fun nv iv wr => ∃ k : Nat, k ≤ 4 ∧ iv = .int .i64 (k : Int) ∧ nv = .bool (nmB t i k) ∧ Hid (BSt (w.heap.size + 1) g RL w1 (0, 0) wr)) (fun _ iv _ => 4 - (intOf iv).toNat)
  case atStart => exact ⟨0, by omega, rfl, rfl, B1⟩
  case round =>
    obtain ⟨k, hk, rfl, rfl, hst⟩ := hrel
    have wk1 : IntKind.i64.wrap ((k : Int) + 1) = (k : Int) + 1 := IntWalk.i64_in _ (by omega)
    by_cases hlt : k < 4
    · have hlt' : (k : Int) < 4 := by omega
      cases hnm : nmB t i k with
      | true =>
        have HN : Hid (nmB t i (k + 1) = true) := Lib.hid (by rw [nmB, hnm]; rfl)
        clear hnm
        go_wp2_with fail
        refine (rPlain_any _).mono ?_
        rintro e w2 ⟨rfl, -, hb2⟩
        have S2 := Lib.hid (hst.out.below hb2)
        clear hb2 hst
        go_wp2_with fail
        go_quiet (fail)
        go_wp2_with fail
        exact ⟨⟨k + 1, by omega, by simp, by rw [HN.out], Lib.hid (S2.out.below (below_drewN (Below.refl _ _) _))⟩, by simp only [intOf]; omega⟩
      | false =>
        have HN : Hid (nmB t i (k + 1) = decide (0 < longR (nB k) (winB t i))) := Lib.hid (by rw [nmB, hnm]; rfl)
        obtain ⟨nk, hnk⟩ : ∃ nk, nk = nB k := ⟨_, rfl⟩
        have hns := nB_size k
        rw [← hnk] at HN hns
        have HNK := Lib.hid hnk
        clear hnm hnk
        go_wp2_with fail
        refine (rPlain_any _).mono ?_
        rintro e w2 ⟨rfl, -, hb2⟩
        have S2 := Lib.hid (hst.out.below hb2)
        have c0 := S2.out.kind
        have lo := S2.out.lo
        clear hb2 hst
        go_wp2_with fail
        go_region_with (first
            | (go_at_call 143; refine (rPlain_any _).mono ?_; rintro e w3 ⟨rfl, hs3, hb3⟩; have c3 : w3.cell? ⟨w2.heap.size, k, none⟩ = some (.string nk) := hs3.2 k nk (by rw [HNK.out]; unfold plainL; match k, hlt with | 0, _ => rfl | 1, _ => rfl | 2, _ => rfl | 3, _ => rfl))
            | (go_at_call 145; refine (HBG.out _).mono ?_; rintro e w5 ⟨rfl, rfl⟩)
            | (go_at_call 144; refine (HLG.out nk (by omega) (by omega) _).mono ?_; rintro e w4 ⟨rfl, hb4⟩))
        all_goals
          have S4 := Lib.hid ((S2.out.below ((Below.refl _ w2).drew.trans hb3)).below hb4)
          clear hb3 hb4 hs3 c3 c0 lo
          go_wp2_with fail
          exact ⟨⟨k + 1, by omega, by simp, by rw [HN.out], S4⟩, by simp only [intOf]; omega⟩
    · have hlt' : ((k : Int) < 4) = False := by simp; omega
      have hnmk : nmB t i k = false := by rw [show k = 4 by omega]; exact HNM4.out
      rw [hnmk]
      have HNM : Hid (false = nmB t i 4) := Lib.hid HNM4.out.symm
      clear hnmk
      go_wp2_with fail
      refine (rPlain_any _).mono ?_
      rintro e w2 ⟨rfl, -, hb2⟩
      have S2 := Lib.hid (hst.out.below hb2)
      clear hb2 hst
      go_wp2_with fail
      go_loopw [11] (fun iv ws => ∃ j : Nat, j ≤ RL.length ∧ iv = .int .i64 (j : Int) ∧ Hid (BSt (w.heap.size + 1) g RL w1 ((RL.take j).foldl (stepR false op t i) (0, 0)) ws)) (fun iv _ => RL.length - (intOf iv).toNat)
      case atStart => exact ⟨0, by omega, rfl, S2⟩
      case round =>
        obtain ⟨j, hj, rfl, hsj⟩ := hrel
        have hl36 : RL.length ≤ 36 := by rw [HLEN.out]; omega
        have wj1 : IntKind.i64.wrap ((j : Int) + 1) = (j : Int) + 1 := IntWalk.i64_in _ (by omega)
        by_cases hjt : j < RL.length
        · have hjt' : (j : Int) < (RL.length : Int) := by omega
          obtain ⟨⟨kd, P⟩, hx⟩ : ∃ x, RL[j]? = some x := ⟨_, List.getElem?_eq_getElem hjt⟩
          obtain ⟨⟨o1, o2⟩, hout⟩ : ∃ y, y = (RL.take j).foldl (stepR false op t i) (0, 0) := ⟨_, rfl⟩
          rw [← hout] at hsj
          have HF : Hid ((RL.take (j + 1)).foldl (stepR false op t i) (0, 0) = stepR false op t i (o1, o2) (kd, P)) := Lib.hid (by rw [fold_take _ _ _ _ _ hx, hout])
          obtain ⟨hP1, hP2⟩ := HOK.out (kd, P) (List.mem_iff_getElem?.2 ⟨j, hx⟩)
          simp only at hP1 hP2
          have hP0 : 0 < P.size := by omega
          obtain ⟨c0, c1⟩ := hsj.out.rules.cells j (kd, P) hx
          simp only at c0 c1
          have ok0 := hsj.out.kind; have ok1 := hsj.out.len; have of0 := hsj.out.f0; have of1 := hsj.out.f1
          simp only at ok0 ok1
          obtain ⟨n, hn⟩ : ∃ n, n = longR P (winB t i) := ⟨_, rfl⟩
          have hlong := HLG.out P (by omega) (by omega)
          rw [← hn] at hlong
          have HLO := Lib.hid hlong
          obtain ⟨al, hal⟩ : ∃ al, al = allowB kd P t i := ⟨_, rfl⟩
          have hallow := fun W => allowed_any kd P t i (by omega) (by omega) (Nat.le_of_lt hi) ht W
          rw [← hal] at hallow
          have HAL := Lib.hid hallow
          have hlow := hsj.out.rules.low; have hlo := hsj.out.lo
          have HN := Lib.hid hn; have HA := Lib.hid hal
          clear hx hout hn hal hlong hallow
          cases op with
          | false =>
            cases al with
            | false =>
              have HV : Hid ((RL.take (j + 1)).foldl (stepR false false t i) (0, 0) = (o1, o2)) := Lib.hid (by rw [HF.out]; unfold stepR; rw [if_pos (by unfold skipB; simp only; rw [← HA.out]; simp)])
              clear HA
              go_wp2_with fail
              refine (HAL.out _).mono ?_
              rintro e w5 ⟨rfl, hb5⟩
              have S5 := Lib.hid (hsj.out.below hb5)
              clear hb5 hsj ok0 ok1 of0 of1 c0 c1
              go_wp2_with fail
              exact ⟨⟨j + 1, by omega, by simp, by rw [HV.out]; exact S5⟩, by simp only [intOf]; omega⟩
            | true =>
              have HSK : Hid (skipB false false t i (kd, P) = false) := Lib.hid (by unfold skipB; simp only; rw [← HA.out]; simp)
              clear HA 
              go_wp2_with fail
              refine (HAL.out _).mono ?_
              rintro e w5 ⟨rfl, hb5⟩
              have S5 := Lib.hid (hsj.out.below hb5)
              have e0 : w5.cell? ⟨g, j * 2, none⟩ = some (.int .i64 (kd : Int)) := (hb5.cell (p := ⟨g, j * 2, none⟩) hlow).trans c0
              have e1 : w5.cell? ⟨g, j * 2 + 1, none⟩ = some (.string P) := (hb5.cell (p := ⟨g, j * 2 + 1, none⟩) hlow).trans c1
              have hlow5 : g < w5.heap.size := Nat.lt_of_lt_of_le hlow hb5.size
              clear hb5 hsj ok0 ok1 of0 of1 c0 c1 hlo hlow
              go_wp2_with fail
              go_region_held3 (fun w' => w'.cell? ⟨g, j * 2 + 1, none⟩ = some (.string P))
                (first
                  | go_keep
                  | exact (hb6.cell (p := ⟨g, j * 2 + 1, none⟩) (by simp; omega)).trans (by assumption)
                  | exact (hb6.cell (p := ⟨g, j * 2 + 1, none⟩) hlow5).trans (by assumption))
                (first
                  | (go_at_call 145; refine (HBG.out _).mono ?_; rintro e w7 ⟨rfl, rfl⟩)
                  | (go_at_call 144; refine (HLO.out _).mono ?_; rintro e w6 ⟨rfl, hb6⟩))
              all_goals
                have S6 := Lib.hid ((S5.out.below (Below.refl _ w5).drew).below hb6)
                have d0 : w6.cell? ⟨g, j * 2, none⟩ = some (.int .i64 (kd : Int)) := (hb6.cell (p := ⟨g, j * 2, none⟩) (by simp; omega)).trans (by simpa using e0)
                have ok0 := S6.out.kind; have ok1 := S6.out.len; have of0 := S6.out.f0; have of1 := S6.out.f1
                simp only at ok0 ok1
                clear hb6 e0 e1 S5
                by_cases hgt : o2 < n
                · skip
                  have HV : Hid ((RL.take (j + 1)).foldl (stepR false false t i) (0, 0) = (kd, n)) := Lib.hid (by rw [HF.out]; unfold stepR; rw [HSK.out, if_neg (by simp), ← HN.out]; rw [if_pos (Or.inl hgt)])
                  have hgt' : (o2 : Int) < (n : Int) := by omega
                  have hgd : decide ((o2 : Int) < (n : Int)) = true := by simp; omega
                  go_wp2_with fail
                  go_quiet (fail)
                  go_wp2_with fail
                  exact ⟨⟨j + 1, by omega, by simp, by rw [HV.out]; exact Lib.hid ((S6.out.below (below_drewN (Below.refl _ _) _)).better kd n)⟩, by simp only [intOf]; omega⟩
                · have hgt' : ((o2 : Int) < (n : Int)) = False := by simp; omega
                  have hgd : decide ((o2 : Int) < (n : Int)) = false := by simp; omega
                  have hgn : decide (o2 < n) = false := by simp; omega
                  by_cases heq : n = o2
                  · have heq' : ((n : Int) == (o2 : Int)) = true := by rw [heq]; simp
                    by_cases hkl : kd < o1
                    · have hkl' : (kd : Int) < (o1 : Int) := by omega
                      have HV : Hid ((RL.take (j + 1)).foldl (stepR false false t i) (0, 0) = (kd, n)) := Lib.hid (by rw [HF.out]; unfold stepR; rw [HSK.out, if_neg (by simp), ← HN.out]; rw [if_pos (Or.inr ⟨heq, hkl⟩)])
                      have hkd : decide ((kd : Int) < (o1 : Int)) = true := by simp; omega
                      clear heq
                      go_wp2_with fail
                      go_quiet (fail)
                      go_wp2_with fail
                      exact ⟨⟨j + 1, by omega, by simp, by rw [HV.out]; exact Lib.hid ((S6.out.below (below_drewN (Below.refl _ _) _)).better kd n)⟩, by simp only [intOf]; omega⟩
                    · have hkl' : ((kd : Int) < (o1 : Int)) = False := by simp; omega
                      have HV : Hid ((RL.take (j + 1)).foldl (stepR false false t i) (0, 0) = (o1, o2)) := Lib.hid (by rw [HF.out]; unfold stepR; rw [HSK.out, if_neg (by simp), ← HN.out]; rw [if_neg (by omega)])
                      have hkd : decide ((kd : Int) < (o1 : Int)) = false := by simp; omega
                      have hkn : decide (kd < o1) = false := by simp; omega
                      clear heq
                      go_wp2_with fail
                      go_quiet (fail)
                      go_wp2_with fail
                      exact ⟨⟨j + 1, by omega, by simp, by rw [HV.out]; exact Lib.hid (S6.out.below (below_drewN (Below.refl _ _) _))⟩, by simp only [intOf]; omega⟩
                  · have heq' : ((n : Int) == (o2 : Int)) = false := by rw [beq_eq_false_iff_ne]; omega
                    have HV : Hid ((RL.take (j + 1)).foldl (stepR false false t i) (0, 0) = (o1, o2)) := Lib.hid (by rw [HF.out]; unfold stepR; rw [HSK.out, if_neg (by simp), ← HN.out]; rw [if_neg (by omega)])
                    go_wp2_with fail
                    go_quiet (fail)
                    go_wp2_with fail
                    exact ⟨⟨j + 1, by omega, by simp, by rw [HV.out]; exact Lib.hid (S6.out.below (below_drewN (Below.refl _ _) _))⟩, by simp only [intOf]; omega⟩
          | true =>
            have ha0 : aheadB P 0 = P[0] := aheadB_lt hP0
            by_cases h45 : P[0] = 45
            · have hb45 : ((P[0].toNat : Int) == 45) = true := by rw [h45]; rfl
              have HV : Hid ((RL.take (j + 1)).foldl (stepR false true t i) (0, 0) = (o1, o2)) := Lib.hid (by rw [HF.out]; unfold stepR; rw [if_pos (by unfold skipB; simp only; rw [ha0, h45]; simp)])
              go_wp2_with fail
              exact ⟨⟨j + 1, by omega, by simp, by rw [HV.out]; exact hsj⟩, by simp only [intOf]; omega⟩
            · have hb45 : ((P[0].toNat : Int) == 45) = false := by rw [beq_eq_false_iff_ne]; intro e; apply h45; apply UInt8.toNat_inj.1; exact Int.ofNat.inj e
              cases al with
              | false =>
                have HV : Hid ((RL.take (j + 1)).foldl (stepR false true t i) (0, 0) = (o1, o2)) := Lib.hid (by rw [HF.out]; unfold stepR; rw [if_pos (by unfold skipB; simp only; rw [← HA.out]; simp)])
                clear HA
                go_wp2_with fail
                refine (HAL.out _).mono ?_
                rintro e w5 ⟨rfl, hb5⟩
                have S5 := Lib.hid (hsj.out.below hb5)
                clear hb5 hsj ok0 ok1 of0 of1 c0 c1
                go_wp2_with fail
                exact ⟨⟨j + 1, by omega, by simp, by rw [HV.out]; exact S5⟩, by simp only [intOf]; omega⟩
              | true =>
                have HSK : Hid (skipB false true t i (kd, P) = false) := Lib.hid (by unfold skipB; simp only; rw [← HA.out]; rw [ha0, show (P[0] == 45) = false by simpa using h45]; simp)
                clear HA 
                go_wp2_with fail
                refine (HAL.out _).mono ?_
                rintro e w5 ⟨rfl, hb5⟩
                have S5 := Lib.hid (hsj.out.below hb5)
                have e0 : w5.cell? ⟨g, j * 2, none⟩ = some (.int .i64 (kd : Int)) := (hb5.cell (p := ⟨g, j * 2, none⟩) hlow).trans c0
                have e1 : w5.cell? ⟨g, j * 2 + 1, none⟩ = some (.string P) := (hb5.cell (p := ⟨g, j * 2 + 1, none⟩) hlow).trans c1
                have hlow5 : g < w5.heap.size := Nat.lt_of_lt_of_le hlow hb5.size
                clear hb5 hsj ok0 ok1 of0 of1 c0 c1 hlo hlow
                go_wp2_with fail
                go_region_held3 (fun w' => w'.cell? ⟨g, j * 2 + 1, none⟩ = some (.string P))
                  (first
                    | go_keep
                    | exact (hb6.cell (p := ⟨g, j * 2 + 1, none⟩) (by simp; omega)).trans (by assumption)
                    | exact (hb6.cell (p := ⟨g, j * 2 + 1, none⟩) hlow5).trans (by assumption))
                  (first
                    | (go_at_call 145; refine (HBG.out _).mono ?_; rintro e w7 ⟨rfl, rfl⟩)
                    | (go_at_call 144; refine (HLO.out _).mono ?_; rintro e w6 ⟨rfl, hb6⟩))
                all_goals
                  have S6 := Lib.hid ((S5.out.below (Below.refl _ w5).drew).below hb6)
                  have d0 : w6.cell? ⟨g, j * 2, none⟩ = some (.int .i64 (kd : Int)) := (hb6.cell (p := ⟨g, j * 2, none⟩) (by simp; omega)).trans (by simpa using e0)
                  have ok0 := S6.out.kind; have ok1 := S6.out.len; have of0 := S6.out.f0; have of1 := S6.out.f1
                  simp only at ok0 ok1
                  clear hb6 e0 e1 S5
                  by_cases hgt : o2 < n
                  · skip
                    have HV : Hid ((RL.take (j + 1)).foldl (stepR false true t i) (0, 0) = (kd, n)) := Lib.hid (by rw [HF.out]; unfold stepR; rw [HSK.out, if_neg (by simp), ← HN.out]; rw [if_pos (Or.inl hgt)])
                    have hgt' : (o2 : Int) < (n : Int) := by omega
                    have hgd : decide ((o2 : Int) < (n : Int)) = true := by simp; omega
                    go_wp2_with fail
                    go_quiet (fail)
                    go_wp2_with fail
                    exact ⟨⟨j + 1, by omega, by simp, by rw [HV.out]; exact Lib.hid ((S6.out.below (below_drewN (Below.refl _ _) _)).better kd n)⟩, by simp only [intOf]; omega⟩
                  · have hgt' : ((o2 : Int) < (n : Int)) = False := by simp; omega
                    have hgd : decide ((o2 : Int) < (n : Int)) = false := by simp; omega
                    have hgn : decide (o2 < n) = false := by simp; omega
                    by_cases heq : n = o2
                    · have heq' : ((n : Int) == (o2 : Int)) = true := by rw [heq]; simp
                      by_cases hkl : kd < o1
                      · have hkl' : (kd : Int) < (o1 : Int) := by omega
                        have HV : Hid ((RL.take (j + 1)).foldl (stepR false true t i) (0, 0) = (kd, n)) := Lib.hid (by rw [HF.out]; unfold stepR; rw [HSK.out, if_neg (by simp), ← HN.out]; rw [if_pos (Or.inr ⟨heq, hkl⟩)])
                        have hkd : decide ((kd : Int) < (o1 : Int)) = true := by simp; omega
                        clear heq
                        go_wp2_with fail
                        go_quiet (fail)
                        go_wp2_with fail
                        exact ⟨⟨j + 1, by omega, by simp, by rw [HV.out]; exact Lib.hid ((S6.out.below (below_drewN (Below.refl _ _) _)).better kd n)⟩, by simp only [intOf]; omega⟩
                      · have hkl' : ((kd : Int) < (o1 : Int)) = False := by simp; omega
                        have HV : Hid ((RL.take (j + 1)).foldl (stepR false true t i) (0, 0) = (o1, o2)) := Lib.hid (by rw [HF.out]; unfold stepR; rw [HSK.out, if_neg (by simp), ← HN.out]; rw [if_neg (by omega)])
                        have hkd : decide ((kd : Int) < (o1 : Int)) = false := by simp; omega
                        have hkn : decide (kd < o1) = false := by simp; omega
                        clear heq
                        go_wp2_with fail
                        go_quiet (fail)
                        go_wp2_with fail
                        exact ⟨⟨j + 1, by omega, by simp, by rw [HV.out]; exact Lib.hid (S6.out.below (below_drewN (Below.refl _ _) _))⟩, by simp only [intOf]; omega⟩
                    · have heq' : ((n : Int) == (o2 : Int)) = false := by rw [beq_eq_false_iff_ne]; omega
                      have HV : Hid ((RL.take (j + 1)).foldl (stepR false true t i) (0, 0) = (o1, o2)) := Lib.hid (by rw [HF.out]; unfold stepR; rw [HSK.out, if_neg (by simp), ← HN.out]; rw [if_neg (by omega)])
                      go_wp2_with fail
                      go_quiet (fail)
                      go_wp2_with fail
                      exact ⟨⟨j + 1, by omega, by simp, by rw [HV.out]; exact Lib.hid (S6.out.below (below_drewN (Below.refl _ _) _))⟩, by simp only [intOf]; omega⟩
        · have hjt' : ((j : Int) < (RL.length : Int)) = False := by simp; omega
          have hE : (RL.take j).foldl (stepR false op t i) (0, 0) = RL.foldl (stepR false op t i) (0, 0) := by rw [List.take_of_length_le (by omega)]
          rw [hE] at hsj
          clear hE
          clear hj hl36 wj1
          go_wp2_with fail
          refine (signs_any _).mono ?_
          rintro e w8 ⟨rfl, hsg, hb8⟩
          obtain ⟨wz, rfl⟩ : ∃ wz : World, wz = wr := ⟨_, rfl⟩
          have hgsz := hsj.out.lo
          have S8 := Lib.hid (hsj.out.below hb8)
          clear hb8 hsj
          have hsg0 := hsg
          obtain ⟨OUT, hOUT⟩ : ∃ OUT, OUT = RL.foldl (stepR false op t i) (0, 0) := ⟨_, rfl⟩
          rw [← hOUT] at S8
          have HOUT := Lib.hid hOUT
          obtain ⟨SL, hSL⟩ : ∃ SL, SL = signL := ⟨_, rfl⟩
          rw [← hSL] at hsg
          have HSL := Lib.hid hSL; have HSG := Lib.hid hsg
          have HSLlen : Hid (SL.length = 26) := Lib.hid (by rw [hSL]; rfl)
          have HSLok : Hid (∀ x ∈ SL, 1 ≤ x.size ∧ x.size ≤ 2) := Lib.hid (by rw [hSL]; decide)
          clear hOUT hSL hsg hsg0
          go_wp2_with fail
          go_loopw [14] (fun iv ws => ∃ q : Nat, q ≤ 26 ∧ iv = .int .i64 (q : Int) ∧ Hid (BSt (w.heap.size + 1) g RL w1 ((SL.take q).foldl (stepS t i) OUT) ws) ∧ Hid (StrAt ws wz.heap.size SL)) (fun iv _ => 26 - (intOf iv).toNat)
          case atStart => exact ⟨0, by omega, rfl, S8, HSG⟩
          case round =>
            obtain ⟨q, hq, rfl, hsq, hss⟩ := hrel
            have wq1 : IntKind.i64.wrap ((q : Int) + 1) = (q : Int) + 1 := IntWalk.i64_in _ (by omega)
            by_cases hqt : q < 26
            · have hqt' : (q : Int) < 26 := by omega
              obtain ⟨x, hx⟩ : ∃ x, SL[q]? = some x := ⟨_, List.getElem?_eq_getElem (by rw [HSLlen.out]; omega)⟩
              obtain ⟨x1, x2⟩ := HSLok.out x (List.mem_iff_getElem?.2 ⟨q, hx⟩)
              have cx := hss.out.2 q x hx
              obtain ⟨⟨o1, o2⟩, hout⟩ : ∃ y, y = (SL.take q).foldl (stepS t i) OUT := ⟨_, rfl⟩
              rw [← hout] at hsq
              have HF : Hid ((SL.take (q + 1)).foldl (stepS t i) OUT = stepS t i (o1, o2) x) := Lib.hid (by rw [fold_take _ _ _ _ _ hx, hout])
              have ok0 := hsq.out.kind; have ok1 := hsq.out.len; have of0 := hsq.out.f0; have of1 := hsq.out.f1
              simp only at ok0 ok1
              have hlo := hsq.out.lo; have hlo2 := hss.out.1
              have wti : IntKind.i64.wrap ((t.size : Int) - (i : Int)) = ((t.size - i : Nat) : Int) := by rw [IntWalk.i64_in _ (by omega)]; omega
              have wix : IntKind.i64.wrap ((i : Int) + (x.size : Int)) = (i : Int) + (x.size : Int) := IntWalk.i64_in _ (by omega)
              clear hx hout
              by_cases h1 : o2 < x.size
              · have h1' : (o2 : Int) < (x.size : Int) := by omega
                by_cases h2 : x.size ≤ t.size - i
                · have h2' : (x.size : Int) ≤ ((t.size - i : Nat) : Int) := by omega
                  have s1 : (i : Int) ≤ (i : Int) + (x.size : Int) := by omega
                  have s2 : (i : Int) + (x.size : Int) ≤ (t.size : Int) := by omega
                  have s3 : ((i : Int) + (x.size : Int)).toNat = i + x.size := by omega
                  skip
                  by_cases h3 : t.extract i (i + x.size) = x
                  · have h3' : ((t.extract i (i + x.size)).toList == x.toList) = true := by rw [h3]; simp
                    have H3 := Lib.hid h3
                    clear h3
                    have HV : Hid ((SL.take (q + 1)).foldl (stepS t i) OUT = (5, x.size)) := Lib.hid (by rw [HF.out]; unfold stepS; rw [if_pos ⟨h1, h2, H3.out⟩])
                    go_wp2_with fail
                    go_quiet (fail)
                    go_wp2_with fail
                    exact ⟨⟨q + 1, by omega, by simp, by rw [HV.out]; exact Lib.hid ((hsq.out.below (below_drewN (Below.refl _ _) _)).better 5 x.size), Lib.hid ((hss.out.below (below_drewN (Below.refl _ _) _)).better (by omega) _ _)⟩, by simp only [intOf]; omega⟩
                  · have h3' : ((t.extract i (i + x.size)).toList == x.toList) = false := by rw [beq_eq_false_iff_ne]; intro e; exact h3 (bytes_ext e)
                    have HV : Hid ((SL.take (q + 1)).foldl (stepS t i) OUT = (o1, o2)) := Lib.hid (by rw [HF.out]; unfold stepS; rw [if_neg (fun h => h3 h.2.2)])
                    go_wp2_with fail
                    go_quiet (fail)
                    go_wp2_with fail
                    exact ⟨⟨q + 1, by omega, by simp, by rw [HV.out]; exact Lib.hid (hsq.out.below (below_drewN (Below.refl _ _) _)), Lib.hid (hss.out.below (below_drewN (Below.refl _ _) _))⟩, by simp only [intOf]; omega⟩
                · have h2' : ((x.size : Int) ≤ ((t.size - i : Nat) : Int)) = False := by simp; omega
                  have h2d : decide ((x.size : Int) ≤ ((t.size - i : Nat) : Int)) = false := by simp; omega
                  have h2n : decide (x.size ≤ t.size - i) = false := by simp; omega
                  have HV : Hid ((SL.take (q + 1)).foldl (stepS t i) OUT = (o1, o2)) := Lib.hid (by rw [HF.out]; unfold stepS; rw [if_neg (by omega)])
                  go_wp2_with fail
                  go_quiet (fail)
                  go_wp2_with fail
                  exact ⟨⟨q + 1, by omega, by simp, by rw [HV.out]; exact Lib.hid (hsq.out.below (below_drewN (Below.refl _ _) _)), Lib.hid (hss.out.below (below_drewN (Below.refl _ _) _))⟩, by simp only [intOf]; omega⟩
              · have h1' : ((o2 : Int) < (x.size : Int)) = False := by simp; omega
                have h1d : decide ((o2 : Int) < (x.size : Int)) = false := by simp; omega
                have h1n : decide (o2 < x.size) = false := by simp; omega
                have HV : Hid ((SL.take (q + 1)).foldl (stepS t i) OUT = (o1, o2)) := Lib.hid (by rw [HF.out]; unfold stepS; rw [if_neg (by omega)])
                go_wp2_with fail
                go_quiet (fail)
                go_wp2_with fail
                exact ⟨⟨q + 1, by omega, by simp, by rw [HV.out]; exact Lib.hid (hsq.out.below (below_drewN (Below.refl _ _) _)), Lib.hid (hss.out.below (below_drewN (Below.refl _ _) _))⟩, by simp only [intOf]; omega⟩
            · have hqt' : ((q : Int) < 26) = False := by simp; omega
              have hE : (SL.take q).foldl (stepS t i) OUT = SL.foldl (stepS t i) OUT := by rw [List.take_of_length_le (by rw [HSLlen.out]; omega)]
              rw [hE] at hsq
              clear hE hq
              have HV : Hid (B = SL.foldl (stepS t i) OUT) := Lib.hid (by rw [HB0.out, ← HNM.out, HSL.out, HOUT.out]; rfl)
              have ok0 := hsq.out.kind; have ok1 := hsq.out.len
              have hres0 := (hsq.out.kept.cell (c := w.heap.size) (o := 0) HRES.out.2.2.2.2 (by omega)).trans HRES.out.1
              have hres1 := (hsq.out.kept.cell (c := w.heap.size) (o := 1) HRES.out.2.2.2.2 (by omega)).trans HRES.out.2.1
              have hrf0 := (hsq.out.kept.frozen (c := w.heap.size) (o := 0) HRES.out.2.2.2.2 (by omega)).trans HRES.out.2.2.1
              have hrf1 := (hsq.out.kept.frozen (c := w.heap.size) (o := 1) HRES.out.2.2.2.2 (by omega)).trans HRES.out.2.2.2.1
              have BF := Lib.hid (BW.out.trans (hsq.out.kept.below (B := w.heap.size) (by omega) BW.out.size))
              obtain ⟨⟨b1, b2⟩, hout⟩ : ∃ y, y = SL.foldl (stepS t i) OUT := ⟨_, rfl⟩
              rw [← hout] at ok0 ok1
              have HVB : Hid (B = (b1, b2)) := Lib.hid (by rw [HV.out, hout])
              simp only at ok0 ok1
              clear hout HV
              go_wp2_with fail
              refine bodyPost_ret (v := .agg #[.int .i64 (b1 : Int), .int .i64 (b2 : Int)]) ?_ rfl ⟨by rw [HVB.out], ?_⟩
              · simp [results, Tryz.results126, go_sem, hres0, hres1]
              · repeat (first | exact BF.out | refine Below.setCell ?_ (by simp) _)
end

end Go.Proofs.YtafncodigpjkaaaGreatDoor
