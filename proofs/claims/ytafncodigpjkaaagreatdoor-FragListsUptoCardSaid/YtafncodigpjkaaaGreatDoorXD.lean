/-
  The rules of tokens: each returns how many bytes it takes at the cursor.
  The rules of keywords, signs and pattern variables.
  The rule of pattern variables.
  The list of the rules, and the longest token at the cursor.
  What is wrong with a token.
-/
import Derived.Test.YtafncodigpjkaaaGreatDoorXC
import Derived.Laws.EntriesVeiled
import Derived.Deep.RegionWith
namespace Go.Proofs.YtafncodigpjkaaaGreatDoor
section
open Go.RowKit

theorem hash_q (b i : Nat) (t : ByteArray) (w : World) (hi : i ≤ t.size) (h0 : w.cell? ⟨b, 0, none⟩ = some (.string t)) (h1 : w.cell? ⟨b, 1, none⟩ = some (.int .i64 (i : Int))) :
    Calls Tryz.prog 165 #[.pointer (some ⟨b, 0, none⟩)] w fun e w' => e = .returned (.int .i64 (hashN (restB t i) : Int)) ∧ ∃ n, w' = w.drewN n := by
  cases h : Lib.hasPrefix (restB t i).data.toList [35, 116]
  · cases h' : Lib.hasPrefix (restB t i).data.toList [35, 102]
    all_goals
      have hN : Hid (hashN (restB t i) = if Lib.hasPrefix (restB t i).data.toList [35, 116] || Lib.hasPrefix (restB t i).data.toList [35, 102] then 2 else 0) := Lib.hid rfl
      have hA := fun (q : Nat) => begins_any b i t ⟨#[35, 116]⟩ (w.drewN q) hi h0 h1
      have hB := fun (q : Nat) => begins_any b i t ⟨#[35, 102]⟩ (w.drewN q) hi h0 h1
      have hA' := Lib.hid hA; have hB' := Lib.hid hB; clear hA hB
      go_enter Tryz.func165, Tryz.ntmps165
      go_wp2_with fail
      refine (hA'.out 0).mono ?_
      rintro e w1 ⟨rfl, q, rfl⟩
      go_wp2_with fail
      refine (hB'.out _).mono ?_
      rintro e w1 ⟨rfl, q2, rfl⟩
      go_wp2_with fail
      go_ret
      exact ⟨ret_int (by rw [hN.out, h, h']; rfl), _, rfl⟩
  · have hN : Hid (hashN (restB t i) = if Lib.hasPrefix (restB t i).data.toList [35, 116] || Lib.hasPrefix (restB t i).data.toList [35, 102] then 2 else 0) := Lib.hid rfl
    have hA := begins_any b i t ⟨#[35, 116]⟩ w hi h0 h1
    have hA' := Lib.hid hA; clear hA
    go_enter Tryz.func165, Tryz.ntmps165
    go_wp2_with fail
    refine hA'.out.mono ?_
    rintro e w1 ⟨rfl, q, rfl⟩
    go_wp2_with fail
    go_ret
    exact ⟨ret_int (by rw [hN.out, h]; rfl), _, rfl⟩

/-- What the rules need of a text's window, as facts in the walk's spelling. -/
theorem win_size (t : ByteArray) (i : Nat) : (winB t i).size = min (i + 100) t.size - i := by simp [winB]

set_option maxHeartbeats 1000000 in
set_option maxRecDepth 100000 in
theorem name_any (b i : Nat) (t : ByteArray) (w : World) (hi : i ≤ t.size) (ht : t.size ≤ 140737488351232) (h0 : w.cell? ⟨b, 0, none⟩ = some (.string t)) (h1 : w.cell? ⟨b, 1, none⟩ = some (.int .i64 (i : Int))) :
    Calls Tryz.prog 162 #[.pointer (some ⟨b, 0, none⟩)] w fun e w' => e = .returned (.int .i64 (nameN (winB t i) : Int)) ∧ Below w.heap.size w w' := by
  have hc := window_q b i t w hi ht h0 h1
  have hs : (winB t i).size ≤ 100 := by rw [win_size]; omega
  clear h0 h1
  generalize winB t i = s at *
  have hp := fun w => plain_any s (by omega) w
  have hle := plainN_le s
  have hN : Hid (nameN s = if plainN s = 0 then 0 else plainN s + libN (s.extract (plainN s) s.size)) := Lib.hid rfl
  have hl := fun w => library_any (s.extract (plainN s) s.size) (by rw [lib_sz]; omega) w
  have hll := libN_le (s.extract (plainN s) s.size)
  rw [lib_sz] at hll
  have Hp := Lib.hid hp; have Hl := Lib.hid hl; clear hp hl
  generalize plainN s = k at *
  by_cases hk : k = 0
  · subst hk
    clear hll
    go_enter Tryz.func162, Tryz.ntmps162
    go_wp2_with (first | (go_at_call 172; refine hc.mono ?_; clear hc; rintro e w1 ⟨rfl, q, rfl⟩) | (go_at_call 173; refine (Hp.out _).mono ?_; rintro e w2 ⟨rfl, hb⟩))
    go_ret
    exact ⟨ret_int (by rw [hN.out]; rfl), (below_drewN (Below.refl _ _) q).trans hb⟩
  · have hk' : ((k : Int) == 0) = false := by rw [beq_eq_false_iff_ne]; omega
    have hle' : (k : Int) ≤ (s.size : Int) := by omega
    have hH : Hid (¬ k = 0) := Lib.hid hk
    clear hk
    go_enter Tryz.func162, Tryz.ntmps162
    go_wp2_with (first | (go_at_call 172; refine hc.mono ?_; clear hc; rintro e w1 ⟨rfl, q, rfl⟩) | (go_at_call 173; refine (Hp.out _).mono ?_; rintro e w2 ⟨rfl, hb⟩) | (go_at_call 174; refine (Hl.out _).mono ?_; rintro e w3 ⟨rfl, hb2⟩))
    go_ret
    exact ⟨ret_int (by rw [hN.out, if_neg hH.out]; omega), ((below_drewN (Below.refl _ _) q).trans hb).trans (hb2.mono hb.size)⟩

theorem ahead0_q (b i : Nat) (t : ByteArray) (w : World) (hi : i ≤ 140737488351232) (h0 : w.cell? ⟨b, 0, none⟩ = some (.string t)) (h1 : w.cell? ⟨b, 1, none⟩ = some (.int .i64 (i : Int))) :
    Calls Tryz.prog 133 #[.pointer (some ⟨b, 0, none⟩), .int .i64 0] w fun e w' => e = .returned (.int .u8 ((aheadB t i).toNat : Int)) ∧ ∃ n, w' = w.drewN n :=
  ahead_q b i 0 t w hi (by omega) h0 h1

set_option maxHeartbeats 2000000 in
set_option maxRecDepth 100000 in
theorem integer_any (b i : Nat) (op : Bool) (t : ByteArray) (w : World) (hi : i < t.size) (ht : t.size ≤ 140737488351232) (h0 : w.cell? ⟨b, 0, none⟩ = some (.string t)) (h1 : w.cell? ⟨b, 1, none⟩ = some (.int .i64 (i : Int))) (h2 : w.cell? ⟨b, 2, none⟩ = some (.bool op)) :
    Calls Tryz.prog 163 #[.pointer (some ⟨b, 0, none⟩)] w fun e w' => e = .returned (.int .i64 (intN (winB t i) (aheadB t i) op : Int)) ∧ Below w.heap.size w w' := by
  have hc := window_q b i t w (by omega) ht h0 h1
  have ha := fun (q : Nat) => ahead0_q b i t (w.drewN q) (by omega) h0 h1
  have hs : (winB t i).size ≤ 100 ∧ 1 ≤ (winB t i).size := by rw [win_size]; omega
  obtain ⟨hs1, hs2⟩ := hs
  clear h0 h1
  generalize winB t i = s at *
  generalize aheadB t i = c at *
  have hsI : (1 : Int) ≤ (s.size : Int) := by omega
  have Ha := Lib.hid ha; clear ha
  have Hc := Lib.hid hc; clear hc
  by_cases hm : c = 45 ∧ op = false
  · obtain ⟨hm1, rfl⟩ := hm
    have hm1' : ((c.toNat : Int) == 45) = true := by rw [hm1]; rfl
    have hN : Hid (intN s c false = if runN bD (s.extract 1 s.size) 0 = 0 then 0 else 1 + runN bD (s.extract 1 s.size) 0) := Lib.hid (by simp [intN, hm1])
    have hr := fun w => run_any (s.extract 1 s.size) 1 bD (by rw [lib_sz]; omega) w (fun c w => cls1 _ _ _ _ _ _ w)
    have hrl := (runN_le bD (s.extract 1 s.size) 0 (by omega)).2
    rw [lib_sz] at hrl
    have Hr := Lib.hid hr; clear hr hm1
    generalize runN bD (s.extract 1 s.size) 0 = d at *
    by_cases hd : d = 0
    · subst hd
      clear hrl
      go_enter Tryz.func163, Tryz.ntmps163
      go_wp2_with (first | (go_at_call 172; refine Hc.out.mono ?_; rintro e w1 ⟨rfl, q, rfl⟩) | (go_at_call 133; refine (Ha.out _).mono ?_; rintro e w2 ⟨rfl, q2, rfl⟩) | (go_at_call 175; refine (Hr.out _).mono ?_; rintro e w3 ⟨rfl, hb⟩))
      go_ret
      exact ⟨ret_int (by rw [hN.out]; rfl), (below_drewN (Below.refl _ _) _).trans hb⟩
    · have hd' : ((d : Int) == 0) = false := by rw [beq_eq_false_iff_ne]; omega
      have hH : Hid (¬ d = 0) := Lib.hid hd
      clear hd
      go_enter Tryz.func163, Tryz.ntmps163
      go_wp2_with (first | (go_at_call 172; refine Hc.out.mono ?_; rintro e w1 ⟨rfl, q, rfl⟩) | (go_at_call 133; refine (Ha.out _).mono ?_; rintro e w2 ⟨rfl, q2, rfl⟩) | (go_at_call 175; refine (Hr.out _).mono ?_; rintro e w3 ⟨rfl, hb⟩))
      go_ret
      exact ⟨ret_int (by rw [hN.out, if_neg hH.out]; omega), (below_drewN (Below.refl _ _) _).trans hb⟩
  · have hN : Hid (intN s c op = runN bD (s.extract 0 s.size) 0) := Lib.hid (by
      have : (c == 45 && !op) = false := by
        cases op
        · simp at hm; simp [hm]
        · simp
      simp [intN, this])
    have hr := fun w => run_any (s.extract 0 s.size) 1 bD (by rw [lib_sz]; omega) w (fun c w => cls1 _ _ _ _ _ _ w)
    have hrl := (runN_le bD (s.extract 0 s.size) 0 (by omega)).2
    rw [lib_sz] at hrl
    have hfull : s.extract 0 s.size = s := by simp
    have Hr := Lib.hid hr; clear hr
    rw [hfull] at Hr hrl hN
    clear hfull
    generalize runN bD s 0 = d at *
    cases hc45 : ((c.toNat : Int) == 45)
    · clear hm
      by_cases hd : d = 0
      · subst hd
        clear hrl
        go_enter Tryz.func163, Tryz.ntmps163
        go_wp2_with (first | (go_at_call 172; refine Hc.out.mono ?_; rintro e w1 ⟨rfl, q, rfl⟩) | (go_at_call 133; refine (Ha.out _).mono ?_; rintro e w2 ⟨rfl, q2, rfl⟩) | (go_at_call 175; refine (Hr.out _).mono ?_; rintro e w3 ⟨rfl, hb⟩))
        go_ret
        exact ⟨ret_int (by rw [hN.out]; rfl), (below_drewN (Below.refl _ _) _).trans hb⟩
      · have hd' : ((d : Int) == 0) = false := by rw [beq_eq_false_iff_ne]; omega
        clear hd
        go_enter Tryz.func163, Tryz.ntmps163
        go_wp2_with (first | (go_at_call 172; refine Hc.out.mono ?_; rintro e w1 ⟨rfl, q, rfl⟩) | (go_at_call 133; refine (Ha.out _).mono ?_; rintro e w2 ⟨rfl, q2, rfl⟩) | (go_at_call 175; refine (Hr.out _).mono ?_; rintro e w3 ⟨rfl, hb⟩))
        go_ret
        exact ⟨ret_int (by rw [hN.out]), (below_drewN (Below.refl _ _) _).trans hb⟩
    · have hop : op = true := by
        cases op
        · exfalso; apply hm; refine ⟨?_, rfl⟩
          have : c.toNat = 45 := by have := beq_iff_eq.1 hc45; omega
          exact UInt8.toNat_inj.1 this
        · rfl
      subst hop
      clear hm
      by_cases hd : d = 0
      · subst hd
        clear hrl
        go_enter Tryz.func163, Tryz.ntmps163
        go_wp2_with (first | (go_at_call 172; refine Hc.out.mono ?_; rintro e w1 ⟨rfl, q, rfl⟩) | (go_at_call 133; refine (Ha.out _).mono ?_; rintro e w2 ⟨rfl, q2, rfl⟩) | (go_at_call 175; refine (Hr.out _).mono ?_; rintro e w3 ⟨rfl, hb⟩))
        go_ret
        exact ⟨ret_int (by rw [hN.out]; rfl), (below_drewN (Below.refl _ _) _).trans hb⟩
      · have hd' : ((d : Int) == 0) = false := by rw [beq_eq_false_iff_ne]; omega
        clear hd
        go_enter Tryz.func163, Tryz.ntmps163
        go_wp2_with (first | (go_at_call 172; refine Hc.out.mono ?_; rintro e w1 ⟨rfl, q, rfl⟩) | (go_at_call 133; refine (Ha.out _).mono ?_; rintro e w2 ⟨rfl, q2, rfl⟩) | (go_at_call 175; refine (Hr.out _).mono ?_; rintro e w3 ⟨rfl, hb⟩))
        go_ret
        exact ⟨ret_int (by rw [hN.out]), (below_drewN (Below.refl _ _) _).trans hb⟩
end

section
open Go.RowKit

set_option maxHeartbeats 2000000 in
set_option maxRecDepth 100000 in
theorem keyword_any (b i : Nat) (t : ByteArray) (w : World) (hb0 : b < w.heap.size) (hi : i < t.size) (ht : t.size ≤ 140737488351232) (h0 : w.cell? ⟨b, 0, none⟩ = some (.string t)) (h1 : w.cell? ⟨b, 1, none⟩ = some (.int .i64 (i : Int))) :
    Calls Tryz.prog 164 #[.pointer (some ⟨b, 0, none⟩)] w fun e w' => e = .returned (.int .i64 (keyN t i (winB t i) : Int)) ∧ Below w.heap.size w w' := by
  have hc := window_q b i t w (by omega) (by omega) h0 h1
  have hs : (winB t i).size ≤ 100 := by rw [win_size]; omega
  have hle := plainN_le (winB t i)
  have hj := fun (W : World) (hB : Below w.heap.size w W) (n : Nat) (hn : n ≤ 140737488351232) => joins_any b i n t W (by omega) hn ((hB.cell (p := ⟨b, 0, none⟩) hb0).trans h0) ((hB.cell (p := ⟨b, 1, none⟩) hb0).trans h1)
  have HN := Lib.hid (show keyN t i (winB t i) = _ from rfl)
  clear h0 h1
  generalize winB t i = s at *
  have hp := fun w => plain_any s (by omega) w
  have Hp := Lib.hid hp; clear hp
  have Hc := Lib.hid hc; clear hc
  have Hj := Lib.hid hj; clear hj
  by_cases hk : plainN s = 0
  · have hN : Hid (keyN t i s = 0) := Lib.hid (by simp [keyN, hk])
    rw [hk] at Hp
    clear HN hk hle
    go_enter Tryz.func164, Tryz.ntmps164
    go_wp2_with (first | (go_at_call 172; refine Hc.out.mono ?_; rintro e w1 ⟨rfl, q, rfl⟩) | (go_at_call 173; refine (Hp.out _).mono ?_; rintro e w2 ⟨rfl, hb⟩))
    go_ret
    exact ⟨ret_int (by rw [hN.out]; rfl), (below_drewN (Below.refl _ _) q).trans hb⟩
  · have hk' : ((plainN s : Int) == 0) = false := by rw [beq_eq_false_iff_ne]; omega
    by_cases hz : plainN s = s.size
    · have hN : Hid (keyN t i s = 0) := Lib.hid (by simp [keyN, aheadB_ge (t := s) (k := plainN s) (by omega)])
      have hz' : ((plainN s : Int) == (s.size : Int)) = true := by rw [beq_iff_eq]; omega
      clear HN hk hz
      generalize plainN s = k at *
      go_enter Tryz.func164, Tryz.ntmps164
      go_wp2_with (first | (go_at_call 172; refine Hc.out.mono ?_; rintro e w1 ⟨rfl, q, rfl⟩) | (go_at_call 173; refine (Hp.out _).mono ?_; rintro e w2 ⟨rfl, hb⟩))
      go_ret
      exact ⟨ret_int (by rw [hN.out]; rfl), (below_drewN (Below.refl _ _) q).trans hb⟩
    · have hlt : plainN s < s.size := by omega
      have hz' : ((plainN s : Int) == (s.size : Int)) = false := by rw [beq_eq_false_iff_ne]; omega
      by_cases hcol : s[plainN s] = 58
      · have hcol' : ((s[plainN s].toNat : Int) != 58) = false := by rw [hcol]; rfl
        have hN : Hid (keyN t i s = if joinsB (aheadB t (i + (plainN s + 1))) then 0 else plainN s + 1) := Lib.hid (by simp [keyN, hk, aheadB_lt hlt, hcol])
        clear HN hk hz hcol
        generalize plainN s = k at *
        have Hj2 := fun W hB => Hj.out W hB (k + 1) (by omega)
        have Hj3 := Lib.hid Hj2; clear Hj Hj2
        cases hjo : joinsB (aheadB t (i + (k + 1)))
        all_goals
          rw [hjo] at Hj3 hN
          go_enter Tryz.func164, Tryz.ntmps164
          go_wp2_with (first | (go_at_call 172; refine Hc.out.mono ?_; rintro e w1 ⟨rfl, q, rfl⟩) | (go_at_call 173; refine (Hp.out _).mono ?_; rintro e w2 ⟨rfl, hb⟩) | (go_at_call 176; refine (Hj3.out _ ((below_drewN (Below.refl _ _) q).trans hb)).mono ?_; rintro e w3 ⟨rfl, q3, rfl⟩))
          go_ret
          exact ⟨ret_int (by rw [hN.out]; rfl), below_drewN ((below_drewN (Below.refl _ _) q).trans hb) _⟩
      · have hcol' : ((s[plainN s].toNat : Int) != 58) = true := by
          rw [bne_iff_ne]; intro h; apply hcol; have : s[plainN s].toNat = 58 := by omega
          exact UInt8.toNat_inj.1 this
        have hN : Hid (keyN t i s = 0) := Lib.hid (by simp [keyN, aheadB_lt hlt, hcol])
        clear HN hk hz hcol
        generalize plainN s = k at *
        go_enter Tryz.func164, Tryz.ntmps164
        go_wp2_with (first | (go_at_call 172; refine Hc.out.mono ?_; rintro e w1 ⟨rfl, q, rfl⟩) | (go_at_call 173; refine (Hp.out _).mono ?_; rintro e w2 ⟨rfl, hb⟩))
        go_ret
        exact ⟨ret_int (by rw [hN.out]; rfl), (below_drewN (Below.refl _ _) q).trans hb⟩

set_option maxHeartbeats 4000000 in
set_option maxRecDepth 100000 in
theorem sign_two (b m : Nat) (s : ByteArray) (w : World) (hmn : min (2 : Int) (s.size : Int) = (m : Int)) (h3 : (0 : Int) ≤ (m : Int)) (h4 : (m : Int) ≤ (s.size : Int)) (_hsI : (0 : Int) < (s.size : Int)) (hsN : 0 < s.size)
    (HN : Hid (signN s = if signTwo (s.extract 0 m).toList then 2 else if signOne s[0] then 1 else 0))
    (Hc : Hid (Calls Tryz.prog 172 #[.pointer (some ⟨b, 0, none⟩)] w fun e w' => e = .returned (.string s) ∧ ∃ n, w' = w.drewN n))
    (hT : signTwo (s.extract 0 m).toList = true) :
    Calls Tryz.prog 166 #[.pointer (some ⟨b, 0, none⟩)] w fun e w' => e = .returned (.int .i64 (signN s : Int)) ∧ Below w.heap.size w w' := by
  cases a0 : ((s.extract 0 m).toList == [58, 61])
  case true =>
    clear hT
    go_enter Tryz.func166, Tryz.ntmps166
    go_wp2_with (go_at_call 172; refine Hc.out.mono ?_; rintro e w1 ⟨rfl, q, rfl⟩)
    go_ret
    exact ⟨ret_int (by rw [HN.out]; simp only [signTwo, a0]; rfl), below_drewN (Below.refl _ _) q⟩
  cases a1 : ((s.extract 0 m).toList == [58, 58])
  case true =>
    clear hT
    go_enter Tryz.func166, Tryz.ntmps166
    go_wp2_with (go_at_call 172; refine Hc.out.mono ?_; rintro e w1 ⟨rfl, q, rfl⟩)
    go_ret
    exact ⟨ret_int (by rw [HN.out]; simp only [signTwo, a0, a1]; rfl), below_drewN (Below.refl _ _) q⟩
  cases a2 : ((s.extract 0 m).toList == [61, 62])
  case true =>
    clear hT
    go_enter Tryz.func166, Tryz.ntmps166
    go_wp2_with (go_at_call 172; refine Hc.out.mono ?_; rintro e w1 ⟨rfl, q, rfl⟩)
    go_ret
    exact ⟨ret_int (by rw [HN.out]; simp only [signTwo, a0, a1, a2]; rfl), below_drewN (Below.refl _ _) q⟩
  cases a3 : ((s.extract 0 m).toList == [61, 61])
  case true =>
    clear hT
    go_enter Tryz.func166, Tryz.ntmps166
    go_wp2_with (go_at_call 172; refine Hc.out.mono ?_; rintro e w1 ⟨rfl, q, rfl⟩)
    go_ret
    exact ⟨ret_int (by rw [HN.out]; simp only [signTwo, a0, a1, a2, a3]; rfl), below_drewN (Below.refl _ _) q⟩
  cases a4 : ((s.extract 0 m).toList == [60, 61])
  case true =>
    clear hT
    go_enter Tryz.func166, Tryz.ntmps166
    go_wp2_with (go_at_call 172; refine Hc.out.mono ?_; rintro e w1 ⟨rfl, q, rfl⟩)
    go_ret
    exact ⟨ret_int (by rw [HN.out]; simp only [signTwo, a0, a1, a2, a3, a4]; rfl), below_drewN (Below.refl _ _) q⟩
  cases a5 : ((s.extract 0 m).toList == [62, 61])
  case true =>
    clear hT
    go_enter Tryz.func166, Tryz.ntmps166
    go_wp2_with (go_at_call 172; refine Hc.out.mono ?_; rintro e w1 ⟨rfl, q, rfl⟩)
    go_ret
    exact ⟨ret_int (by rw [HN.out]; simp only [signTwo, a0, a1, a2, a3, a4, a5]; rfl), below_drewN (Below.refl _ _) q⟩
  simp [signTwo, a0, a1, a2, a3, a4, a5] at hT

set_option maxHeartbeats 8000000 in
set_option maxRecDepth 100000 in
theorem sign_one (b m : Nat) (s : ByteArray) (w : World) (hmn : min (2 : Int) (s.size : Int) = (m : Int)) (h3 : (0 : Int) ≤ (m : Int)) (h4 : (m : Int) ≤ (s.size : Int)) (_hsI : (0 : Int) < (s.size : Int)) (hsN : 0 < s.size)
    (HN : Hid (signN s = if signTwo (s.extract 0 m).toList then 2 else if signOne s[0] then 1 else 0))
    (Hc : Hid (Calls Tryz.prog 172 #[.pointer (some ⟨b, 0, none⟩)] w fun e w' => e = .returned (.string s) ∧ ∃ n, w' = w.drewN n))
    (a0 : ((s.extract 0 m).toList == [58, 61]) = false) (a1 : ((s.extract 0 m).toList == [58, 58]) = false) (a2 : ((s.extract 0 m).toList == [61, 62]) = false) (a3 : ((s.extract 0 m).toList == [61, 61]) = false) (a4 : ((s.extract 0 m).toList == [60, 61]) = false) (a5 : ((s.extract 0 m).toList == [62, 61]) = false) :
    Calls Tryz.prog 166 #[.pointer (some ⟨b, 0, none⟩)] w fun e w' => e = .returned (.int .i64 (signN s : Int)) ∧ Below w.heap.size w w' := by
  cases c0 : ((s[0].toNat : Int) == 40)
  case true =>
    go_enter Tryz.func166, Tryz.ntmps166
    go_wp2_with (go_at_call 172; refine Hc.out.mono ?_; rintro e w1 ⟨rfl, q, rfl⟩)
    go_ret
    exact ⟨ret_int (by rw [HN.out]; simp only [signTwo, signOne, a0, a1, a2, a3, a4, a5, c0]; rfl), below_drewN (Below.refl _ _) q⟩
  cases c1 : ((s[0].toNat : Int) == 41)
  case true =>
    go_enter Tryz.func166, Tryz.ntmps166
    go_wp2_with (go_at_call 172; refine Hc.out.mono ?_; rintro e w1 ⟨rfl, q, rfl⟩)
    go_ret
    exact ⟨ret_int (by rw [HN.out]; simp only [signTwo, signOne, a0, a1, a2, a3, a4, a5, c0, c1]; rfl), below_drewN (Below.refl _ _) q⟩
  cases c2 : ((s[0].toNat : Int) == 91)
  case true =>
    go_enter Tryz.func166, Tryz.ntmps166
    go_wp2_with (go_at_call 172; refine Hc.out.mono ?_; rintro e w1 ⟨rfl, q, rfl⟩)
    go_ret
    exact ⟨ret_int (by rw [HN.out]; simp only [signTwo, signOne, a0, a1, a2, a3, a4, a5, c0, c1, c2]; rfl), below_drewN (Below.refl _ _) q⟩
  cases c3 : ((s[0].toNat : Int) == 93)
  case true =>
    go_enter Tryz.func166, Tryz.ntmps166
    go_wp2_with (go_at_call 172; refine Hc.out.mono ?_; rintro e w1 ⟨rfl, q, rfl⟩)
    go_ret
    exact ⟨ret_int (by rw [HN.out]; simp only [signTwo, signOne, a0, a1, a2, a3, a4, a5, c0, c1, c2, c3]; rfl), below_drewN (Below.refl _ _) q⟩
  cases c4 : ((s[0].toNat : Int) == 123)
  case true =>
    go_enter Tryz.func166, Tryz.ntmps166
    go_wp2_with (go_at_call 172; refine Hc.out.mono ?_; rintro e w1 ⟨rfl, q, rfl⟩)
    go_ret
    exact ⟨ret_int (by rw [HN.out]; simp only [signTwo, signOne, a0, a1, a2, a3, a4, a5, c0, c1, c2, c3, c4]; rfl), below_drewN (Below.refl _ _) q⟩
  cases c5 : ((s[0].toNat : Int) == 125)
  case true =>
    go_enter Tryz.func166, Tryz.ntmps166
    go_wp2_with (go_at_call 172; refine Hc.out.mono ?_; rintro e w1 ⟨rfl, q, rfl⟩)
    go_ret
    exact ⟨ret_int (by rw [HN.out]; simp only [signTwo, signOne, a0, a1, a2, a3, a4, a5, c0, c1, c2, c3, c4, c5]; rfl), below_drewN (Below.refl _ _) q⟩
  cases c6 : ((s[0].toNat : Int) == 44)
  case true =>
    go_enter Tryz.func166, Tryz.ntmps166
    go_wp2_with (go_at_call 172; refine Hc.out.mono ?_; rintro e w1 ⟨rfl, q, rfl⟩)
    go_ret
    exact ⟨ret_int (by rw [HN.out]; simp only [signTwo, signOne, a0, a1, a2, a3, a4, a5, c0, c1, c2, c3, c4, c5, c6]; rfl), below_drewN (Below.refl _ _) q⟩
  cases c7 : ((s[0].toNat : Int) == 59)
  case true =>
    go_enter Tryz.func166, Tryz.ntmps166
    go_wp2_with (go_at_call 172; refine Hc.out.mono ?_; rintro e w1 ⟨rfl, q, rfl⟩)
    go_ret
    exact ⟨ret_int (by rw [HN.out]; simp only [signTwo, signOne, a0, a1, a2, a3, a4, a5, c0, c1, c2, c3, c4, c5, c6, c7]; rfl), below_drewN (Below.refl _ _) q⟩
  cases c8 : ((s[0].toNat : Int) == 46)
  case true =>
    go_enter Tryz.func166, Tryz.ntmps166
    go_wp2_with (go_at_call 172; refine Hc.out.mono ?_; rintro e w1 ⟨rfl, q, rfl⟩)
    go_ret
    exact ⟨ret_int (by rw [HN.out]; simp only [signTwo, signOne, a0, a1, a2, a3, a4, a5, c0, c1, c2, c3, c4, c5, c6, c7, c8]; rfl), below_drewN (Below.refl _ _) q⟩
  cases c9 : ((s[0].toNat : Int) == 61)
  case true =>
    go_enter Tryz.func166, Tryz.ntmps166
    go_wp2_with (go_at_call 172; refine Hc.out.mono ?_; rintro e w1 ⟨rfl, q, rfl⟩)
    go_ret
    exact ⟨ret_int (by rw [HN.out]; simp only [signTwo, signOne, a0, a1, a2, a3, a4, a5, c0, c1, c2, c3, c4, c5, c6, c7, c8, c9]; rfl), below_drewN (Below.refl _ _) q⟩
  cases c10 : ((s[0].toNat : Int) == 60)
  case true =>
    go_enter Tryz.func166, Tryz.ntmps166
    go_wp2_with (go_at_call 172; refine Hc.out.mono ?_; rintro e w1 ⟨rfl, q, rfl⟩)
    go_ret
    exact ⟨ret_int (by rw [HN.out]; simp only [signTwo, signOne, a0, a1, a2, a3, a4, a5, c0, c1, c2, c3, c4, c5, c6, c7, c8, c9, c10]; rfl), below_drewN (Below.refl _ _) q⟩
  cases c11 : ((s[0].toNat : Int) == 62)
  case true =>
    go_enter Tryz.func166, Tryz.ntmps166
    go_wp2_with (go_at_call 172; refine Hc.out.mono ?_; rintro e w1 ⟨rfl, q, rfl⟩)
    go_ret
    exact ⟨ret_int (by rw [HN.out]; simp only [signTwo, signOne, a0, a1, a2, a3, a4, a5, c0, c1, c2, c3, c4, c5, c6, c7, c8, c9, c10, c11]; rfl), below_drewN (Below.refl _ _) q⟩
  cases c12 : ((s[0].toNat : Int) == 43)
  case true =>
    go_enter Tryz.func166, Tryz.ntmps166
    go_wp2_with (go_at_call 172; refine Hc.out.mono ?_; rintro e w1 ⟨rfl, q, rfl⟩)
    go_ret
    exact ⟨ret_int (by rw [HN.out]; simp only [signTwo, signOne, a0, a1, a2, a3, a4, a5, c0, c1, c2, c3, c4, c5, c6, c7, c8, c9, c10, c11, c12]; rfl), below_drewN (Below.refl _ _) q⟩
  cases c13 : ((s[0].toNat : Int) == 45)
  case true =>
    go_enter Tryz.func166, Tryz.ntmps166
    go_wp2_with (go_at_call 172; refine Hc.out.mono ?_; rintro e w1 ⟨rfl, q, rfl⟩)
    go_ret
    exact ⟨ret_int (by rw [HN.out]; simp only [signTwo, signOne, a0, a1, a2, a3, a4, a5, c0, c1, c2, c3, c4, c5, c6, c7, c8, c9, c10, c11, c12, c13]; rfl), below_drewN (Below.refl _ _) q⟩
  cases c14 : ((s[0].toNat : Int) == 42)
  case true =>
    go_enter Tryz.func166, Tryz.ntmps166
    go_wp2_with (go_at_call 172; refine Hc.out.mono ?_; rintro e w1 ⟨rfl, q, rfl⟩)
    go_ret
    exact ⟨ret_int (by rw [HN.out]; simp only [signTwo, signOne, a0, a1, a2, a3, a4, a5, c0, c1, c2, c3, c4, c5, c6, c7, c8, c9, c10, c11, c12, c13, c14]; rfl), below_drewN (Below.refl _ _) q⟩
  cases c15 : ((s[0].toNat : Int) == 47)
  case true =>
    go_enter Tryz.func166, Tryz.ntmps166
    go_wp2_with (go_at_call 172; refine Hc.out.mono ?_; rintro e w1 ⟨rfl, q, rfl⟩)
    go_ret
    exact ⟨ret_int (by rw [HN.out]; simp only [signTwo, signOne, a0, a1, a2, a3, a4, a5, c0, c1, c2, c3, c4, c5, c6, c7, c8, c9, c10, c11, c12, c13, c14, c15]; rfl), below_drewN (Below.refl _ _) q⟩
  cases c16 : ((s[0].toNat : Int) == 38)
  case true =>
    go_enter Tryz.func166, Tryz.ntmps166
    go_wp2_with (go_at_call 172; refine Hc.out.mono ?_; rintro e w1 ⟨rfl, q, rfl⟩)
    go_ret
    exact ⟨ret_int (by rw [HN.out]; simp only [signTwo, signOne, a0, a1, a2, a3, a4, a5, c0, c1, c2, c3, c4, c5, c6, c7, c8, c9, c10, c11, c12, c13, c14, c15, c16]; rfl), below_drewN (Below.refl _ _) q⟩
  cases c17 : ((s[0].toNat : Int) == 124)
  case true =>
    go_enter Tryz.func166, Tryz.ntmps166
    go_wp2_with (go_at_call 172; refine Hc.out.mono ?_; rintro e w1 ⟨rfl, q, rfl⟩)
    go_ret
    exact ⟨ret_int (by rw [HN.out]; simp only [signTwo, signOne, a0, a1, a2, a3, a4, a5, c0, c1, c2, c3, c4, c5, c6, c7, c8, c9, c10, c11, c12, c13, c14, c15, c16, c17]; rfl), below_drewN (Below.refl _ _) q⟩
  cases c18 : ((s[0].toNat : Int) == 126)
  case true =>
    go_enter Tryz.func166, Tryz.ntmps166
    go_wp2_with (go_at_call 172; refine Hc.out.mono ?_; rintro e w1 ⟨rfl, q, rfl⟩)
    go_ret
    exact ⟨ret_int (by rw [HN.out]; simp only [signTwo, signOne, a0, a1, a2, a3, a4, a5, c0, c1, c2, c3, c4, c5, c6, c7, c8, c9, c10, c11, c12, c13, c14, c15, c16, c17, c18]; rfl), below_drewN (Below.refl _ _) q⟩
  cases c19 : ((s[0].toNat : Int) == 63)
  case true =>
    go_enter Tryz.func166, Tryz.ntmps166
    go_wp2_with (go_at_call 172; refine Hc.out.mono ?_; rintro e w1 ⟨rfl, q, rfl⟩)
    go_ret
    exact ⟨ret_int (by rw [HN.out]; simp only [signTwo, signOne, a0, a1, a2, a3, a4, a5, c0, c1, c2, c3, c4, c5, c6, c7, c8, c9, c10, c11, c12, c13, c14, c15, c16, c17, c18, c19]; rfl), below_drewN (Below.refl _ _) q⟩
  go_enter Tryz.func166, Tryz.ntmps166
  go_wp2_with (go_at_call 172; refine Hc.out.mono ?_; rintro e w1 ⟨rfl, q, rfl⟩)
  go_ret
  exact ⟨ret_int (by rw [HN.out]; simp only [signTwo, signOne, a0, a1, a2, a3, a4, a5, c0, c1, c2, c3, c4, c5, c6, c7, c8, c9, c10, c11, c12, c13, c14, c15, c16, c17, c18, c19]; rfl), below_drewN (Below.refl _ _) q⟩

theorem sign_any (b i : Nat) (t : ByteArray) (w : World) (hi : i < t.size) (ht : t.size ≤ 140737488351232) (h0 : w.cell? ⟨b, 0, none⟩ = some (.string t)) (h1 : w.cell? ⟨b, 1, none⟩ = some (.int .i64 (i : Int))) :
    Calls Tryz.prog 166 #[.pointer (some ⟨b, 0, none⟩)] w fun e w' => e = .returned (.int .i64 (signN (winB t i) : Int)) ∧ Below w.heap.size w w' := by
  have hc := window_q b i t w (by omega) (by omega) h0 h1
  have hs : (winB t i).size ≤ 100 ∧ 1 ≤ (winB t i).size := by rw [win_size]; omega
  obtain ⟨hs1, hs2⟩ := hs
  generalize winB t i = s at *
  have hsN : 0 < s.size := by omega
  have HN : Hid (signN s = if signTwo (s.extract 0 (min 2 s.size)).toList then 2 else if signOne s[0] then 1 else 0) := Lib.hid (by simp [signN, aheadB_lt hsN])
  cases hT : signTwo (s.extract 0 (min 2 s.size)).toList
  · simp only [signTwo, Bool.or_eq_false_iff] at hT
    obtain ⟨⟨⟨⟨⟨a0, a1⟩, a2⟩, a3⟩, a4⟩, a5⟩ := hT
    exact sign_one b (min 2 s.size) s w (by omega) (by omega) (by omega) (by omega) hsN HN (Lib.hid hc) a0 a1 a2 a3 a4 a5
  · exact sign_two b (min 2 s.size) s w (by omega) (by omega) (by omega) (by omega) hsN HN (Lib.hid hc) hT
end

section
open Go.RowKit

set_option maxHeartbeats 4000000 in
set_option maxRecDepth 100000 in
theorem pattern_any (b i : Nat) (t : ByteArray) (w : World) (hb0 : b < w.heap.size) (hi : i < t.size) (ht : t.size ≤ 140737488351232) (h0 : w.cell? ⟨b, 0, none⟩ = some (.string t)) (h1 : w.cell? ⟨b, 1, none⟩ = some (.int .i64 (i : Int))) :
    Calls Tryz.prog 167 #[.pointer (some ⟨b, 0, none⟩)] w fun e w' => e = .returned (.int .i64 (patN t i (winB t i) : Int)) ∧ Below w.heap.size w w' := by
  have hc := window_q b i t w (by omega) (by omega) h0 h1
  have hs : (winB t i).size ≤ 100 ∧ 1 ≤ (winB t i).size := by rw [win_size]; omega
  obtain ⟨hs1, hs2⟩ := hs
  have hj := fun (W : World) (hB : Below w.heap.size w W) (n : Nat) (hn : n ≤ 140737488351232) => joins_any b i n t W (by omega) hn ((hB.cell (p := ⟨b, 0, none⟩) hb0).trans h0) ((hB.cell (p := ⟨b, 1, none⟩) hb0).trans h1)
  clear h0 h1 hi ht
  generalize winB t i = s at *
  have hsN : 0 < s.size := by omega
  have hsI : (1 : Int) ≤ (s.size : Int) := by omega
  have hp1 := fun w => plain_any (s.extract 1 s.size) (by rw [lib_sz]; omega) w
  have hle := plainN_le (s.extract 1 s.size)
  rw [lib_sz] at hle
  have Hc := Lib.hid hc; have Hj := Lib.hid hj; have Hp1 := Lib.hid hp1; clear hc hj hp1
  have HN : Hid (patN t i s = _) := Lib.hid (patN.eq_1 t i s)
  rw [aheadB_lt hsN] at HN
  by_cases hq : s[0] = 63
  · have hq' : ((s[0].toNat : Int) != 63) = false := by rw [hq]; rfl
    rw [if_pos hq] at HN
    clear hq
    generalize plainN (s.extract 1 s.size) = k at *
    by_cases hk : k = 0
    · subst hk
      clear hle
      have HN2 : Hid (patN t i s = 0) := Lib.hid (by simpa using HN.out)
      clear HN
      go_enter Tryz.func167, Tryz.ntmps167
      go_wp2_with (go_at_call 172; refine Hc.out.mono ?_; rintro e w1 ⟨rfl, q, rfl⟩)
      refine (Hp1.out _).mono ?_
      rintro e w2 ⟨rfl, hb⟩
      go_wp2_with fail
      go_ret
      exact ⟨ret_int (by rw [HN2.out]; rfl), (below_drewN (Below.refl _ _) q).trans hb⟩
    · have hk' : ((k : Int) == 0) = false := by rw [beq_eq_false_iff_ne]; omega
      rw [if_neg hk] at HN
      clear hk
      by_cases hz : k + 1 = s.size
      · have hz' : ((k : Int) + 1 == (s.size : Int)) = true := by rw [beq_iff_eq]; omega
        have HN2 : Hid (patN t i s = k + 1) := Lib.hid (by rw [HN.out, aheadB_ge (by omega)]; rfl)
        clear HN hz
        go_enter Tryz.func167, Tryz.ntmps167
        go_wp2_with (go_at_call 172; refine Hc.out.mono ?_; rintro e w1 ⟨rfl, q, rfl⟩)
        refine (Hp1.out _).mono ?_
        rintro e w2 ⟨rfl, hb⟩
        go_wp2_with fail
        go_ret
        exact ⟨ret_int (by rw [HN2.out]; omega), (below_drewN (Below.refl _ _) q).trans hb⟩
      · have hlt : k + 1 < s.size := by omega
        have hltI : (k : Int) + 1 < (s.size : Int) := by omega
        have hz' : ((k : Int) + 1 == (s.size : Int)) = false := by rw [beq_eq_false_iff_ne]; omega
        rw [aheadB_lt hlt] at HN
        clear hz
        by_cases hcol : s[k + 1] = 58
        · have hcol' : ((s[k + 1].toNat : Int) != 58) = false := by rw [hcol]; rfl
          rw [if_pos hcol] at HN
          clear hcol
          have Hj2 := fun W hB => Hj.out W hB (k + 1 + 1) (by omega)
          have Hj3 := Lib.hid Hj2; clear Hj Hj2
          cases hjo : joinsB (aheadB t (i + (k + 1 + 1)))
          · rw [hjo] at Hj3 HN
            have hp2 := fun w => plain_any (s.extract (k + 1 + 1) s.size) (by rw [lib_sz]; omega) w
            have hle2 := plainN_le (s.extract (k + 1 + 1) s.size)
            rw [lib_sz] at hle2
            have Hp2 := Lib.hid hp2; clear hp2
            have hslI : (k : Int) + 1 + 1 ≤ (s.size : Int) := by omega
            generalize plainN (s.extract (k + 1 + 1) s.size) = m at *
            by_cases hm : 0 < m
            · have hm' : (0 : Int) < (m : Int) := by omega
              have HN2 : Hid (patN t i s = k + 1 + 1 + m) := Lib.hid (by rw [HN.out]; simp [hm])
              clear HN
              go_enter Tryz.func167, Tryz.ntmps167
              go_wp2_with (go_at_call 172; refine Hc.out.mono ?_; rintro e w1 ⟨rfl, q, rfl⟩)
              refine (Hp1.out _).mono ?_
              rintro e w2 ⟨rfl, hb⟩
              have hB2 := (below_drewN (Below.refl w.heap.size w) q).trans hb
              go_wp2_with fail
              refine (Hj3.out _ hB2).mono ?_
              rintro e w3 ⟨rfl, q3, rfl⟩
              go_wp2_with fail
              refine (Hp2.out _).mono ?_
              rintro e w4 ⟨rfl, hb4⟩
              go_wp2_with fail
              go_ret
              exact ⟨ret_int (by rw [HN2.out]; omega), (below_drewN hB2 _).trans (hb4.mono hB2.size)⟩
            · have hm0 : m = 0 := by omega
              subst hm0
              have HN2 : Hid (patN t i s = k + 1) := Lib.hid (by rw [HN.out]; simp)
              clear HN hle2 hm
              go_enter Tryz.func167, Tryz.ntmps167
              go_wp2_with (go_at_call 172; refine Hc.out.mono ?_; rintro e w1 ⟨rfl, q, rfl⟩)
              refine (Hp1.out _).mono ?_
              rintro e w2 ⟨rfl, hb⟩
              have hB2 := (below_drewN (Below.refl w.heap.size w) q).trans hb
              go_wp2_with fail
              refine (Hj3.out _ hB2).mono ?_
              rintro e w3 ⟨rfl, q3, rfl⟩
              go_wp2_with fail
              refine (Hp2.out _).mono ?_
              rintro e w4 ⟨rfl, hb4⟩
              go_wp2_with fail
              go_ret
              exact ⟨ret_int (by rw [HN2.out]; omega), (below_drewN hB2 _).trans (hb4.mono hB2.size)⟩
          · rw [hjo] at Hj3 HN
            have HN2 : Hid (patN t i s = k + 1) := Lib.hid (by rw [HN.out]; simp)
            clear HN
            go_enter Tryz.func167, Tryz.ntmps167
            go_wp2_with (go_at_call 172; refine Hc.out.mono ?_; rintro e w1 ⟨rfl, q, rfl⟩)
            refine (Hp1.out _).mono ?_
            rintro e w2 ⟨rfl, hb⟩
            have hB2 := (below_drewN (Below.refl w.heap.size w) q).trans hb
            go_wp2_with fail
            refine (Hj3.out _ hB2).mono ?_
            rintro e w3 ⟨rfl, q3, rfl⟩
            go_wp2_with fail
            go_ret
            exact ⟨ret_int (by rw [HN2.out]; omega), below_drewN hB2 _⟩
        · have hcol' : ((s[k + 1].toNat : Int) != 58) = true := by
            rw [bne_iff_ne]; intro h; apply hcol; have : s[k + 1].toNat = 58 := by omega
            exact UInt8.toNat_inj.1 this
          rw [if_neg hcol] at HN
          have HN2 : Hid (patN t i s = k + 1) := Lib.hid HN.out
          clear HN hcol
          go_enter Tryz.func167, Tryz.ntmps167
          go_wp2_with (go_at_call 172; refine Hc.out.mono ?_; rintro e w1 ⟨rfl, q, rfl⟩)
          refine (Hp1.out _).mono ?_
          rintro e w2 ⟨rfl, hb⟩
          go_wp2_with fail
          go_ret
          exact ⟨ret_int (by rw [HN2.out]; omega), (below_drewN (Below.refl _ _) q).trans hb⟩
  · have hq' : ((s[0].toNat : Int) != 63) = true := by
      rw [bne_iff_ne]; intro h; apply hq; have : s[0].toNat = 63 := by omega
      exact UInt8.toNat_inj.1 this
    rw [if_neg hq] at HN
    clear hq
    go_enter Tryz.func167, Tryz.ntmps167
    go_wp2_with (go_at_call 172; refine Hc.out.mono ?_; rintro e w1 ⟨rfl, q, rfl⟩)
    go_ret
    exact ⟨ret_int (by rw [HN.out]; rfl), below_drewN (Below.refl _ _) q⟩
end

section
open Go.RowKit

/-- The list of the rules: a kind and a function each. -/
def rulesV : Value := .agg #[.int .i64 1, .func (.func 162) #[] #[], .int .i64 2, .func (.func 163) #[] #[], .int .i64 3, .func (.func 164) #[] #[], .int .i64 4, .func (.func 165) #[] #[], .int .i64 5, .func (.func 166) #[] #[], .int .i64 6, .func (.func 167) #[] #[]]
theorem rules_any (w : World) :
    Calls Tryz.prog 150 #[] w fun e w' => e = .returned rulesV ∧ Below w.heap.size w w' := by
  go_enter Tryz.func150, Tryz.ntmps150
  go_wp2
  refine bodyPost_ret (v := rulesV) ?_ rfl ⟨rfl, (Below.refl _ _).alloc (Nat.le_refl _) _⟩
  simp [results, Tryz.results150, go_sem, rulesV]
theorem ruleAt0 (w : World) : (Instr.index 187 rulesV (.int .i64 0)).run Tryz.prog w = .ok (.agg #[.int .i64 1, .func (.func 162) #[] #[]]) w := by kernel_rfl
theorem ruleAt1 (w : World) : (Instr.index 187 rulesV (.int .i64 1)).run Tryz.prog w = .ok (.agg #[.int .i64 2, .func (.func 163) #[] #[]]) w := by kernel_rfl
theorem ruleAt2 (w : World) : (Instr.index 187 rulesV (.int .i64 2)).run Tryz.prog w = .ok (.agg #[.int .i64 3, .func (.func 164) #[] #[]]) w := by kernel_rfl
theorem ruleAt3 (w : World) : (Instr.index 187 rulesV (.int .i64 3)).run Tryz.prog w = .ok (.agg #[.int .i64 4, .func (.func 165) #[] #[]]) w := by kernel_rfl
theorem ruleAt4 (w : World) : (Instr.index 187 rulesV (.int .i64 4)).run Tryz.prog w = .ok (.agg #[.int .i64 5, .func (.func 166) #[] #[]]) w := by kernel_rfl
theorem ruleAt5 (w : World) : (Instr.index 187 rulesV (.int .i64 5)).run Tryz.prog w = .ok (.agg #[.int .i64 6, .func (.func 167) #[] #[]]) w := by kernel_rfl

/-- A cutter's cells. -/
structure IsCut (b i : Nat) (t : ByteArray) (op : Bool) (n : Nat) (w : World) : Prop where
  text : w.cell? ⟨b, 0, none⟩ = some (.string t)
  at' : w.cell? ⟨b, 1, none⟩ = some (.int .i64 (i : Int))
  op : w.cell? ⟨b, 2, none⟩ = some (.bool op)
  tok : w.cell? ⟨b, 3, none⟩ = some (.int .i64 (n : Int))
theorem IsCut.below {b i n : Nat} {t : ByteArray} {op : Bool} {w w' : World} {B : Nat} (h : IsCut b i t op n w) (hb : b < B) (hB : Below B w w') : IsCut b i t op n w' :=
  ⟨(hB.cell (p := ⟨b, 0, none⟩) hb).trans h.text, (hB.cell (p := ⟨b, 1, none⟩) hb).trans h.at', (hB.cell (p := ⟨b, 2, none⟩) hb).trans h.op, (hB.cell (p := ⟨b, 3, none⟩) hb).trans h.tok⟩

theorem ruleCall0 (b i n : Nat) (t : ByteArray) (op : Bool) (W : World) (_hb : b < W.heap.size) (hi : i < t.size) (_ht : t.size ≤ 140737488351232) (h : IsCut b i t op n W) :
    Calls Tryz.prog 162 #[.pointer (some ⟨b, 0, none⟩)] W fun e w' => e = .returned (.int .i64 (ruleN t i op 0 : Int)) ∧ Below W.heap.size W w' :=
  name_any b i t W (by omega) (by omega) h.text h.at'
theorem ruleCall1 (b i n : Nat) (t : ByteArray) (op : Bool) (W : World) (_hb : b < W.heap.size) (hi : i < t.size) (_ht : t.size ≤ 140737488351232) (h : IsCut b i t op n W) :
    Calls Tryz.prog 163 #[.pointer (some ⟨b, 0, none⟩)] W fun e w' => e = .returned (.int .i64 (ruleN t i op 1 : Int)) ∧ Below W.heap.size W w' :=
  integer_any b i op t W hi (by omega) h.text h.at' h.op
theorem ruleCall2 (b i n : Nat) (t : ByteArray) (op : Bool) (W : World) (_hb : b < W.heap.size) (hi : i < t.size) (_ht : t.size ≤ 140737488351232) (h : IsCut b i t op n W) :
    Calls Tryz.prog 164 #[.pointer (some ⟨b, 0, none⟩)] W fun e w' => e = .returned (.int .i64 (ruleN t i op 2 : Int)) ∧ Below W.heap.size W w' :=
  keyword_any b i t W _hb hi _ht h.text h.at'
theorem ruleCall3 (b i n : Nat) (t : ByteArray) (op : Bool) (W : World) (_hb : b < W.heap.size) (hi : i < t.size) (_ht : t.size ≤ 140737488351232) (h : IsCut b i t op n W) :
    Calls Tryz.prog 165 #[.pointer (some ⟨b, 0, none⟩)] W fun e w' => e = .returned (.int .i64 (ruleN t i op 3 : Int)) ∧ Below W.heap.size W w' :=
  ((hash_q b i t W (by omega) h.text h.at').mono fun _ _ ⟨he, q, hw⟩ => ⟨he, hw ▸ below_drewN (Below.refl _ _) q⟩)
theorem ruleCall4 (b i n : Nat) (t : ByteArray) (op : Bool) (W : World) (_hb : b < W.heap.size) (hi : i < t.size) (_ht : t.size ≤ 140737488351232) (h : IsCut b i t op n W) :
    Calls Tryz.prog 166 #[.pointer (some ⟨b, 0, none⟩)] W fun e w' => e = .returned (.int .i64 (ruleN t i op 4 : Int)) ∧ Below W.heap.size W w' :=
  sign_any b i t W hi _ht h.text h.at'
theorem ruleCall5 (b i n : Nat) (t : ByteArray) (op : Bool) (W : World) (_hb : b < W.heap.size) (hi : i < t.size) (_ht : t.size ≤ 140737488351232) (h : IsCut b i t op n W) :
    Calls Tryz.prog 167 #[.pointer (some ⟨b, 0, none⟩)] W fun e w' => e = .returned (.int .i64 (ruleN t i op 5 : Int)) ∧ Below W.heap.size W w' :=
  pattern_any b i t W _hb hi _ht h.text h.at'

structure LongRel (w : World) (i : Nat) (n : Nat → Nat) (k : Nat) (wr : World) : Prop where
  c0 : wr.cell? ⟨w.heap.size + 1, 0, none⟩ = some (.int .i64 ((bestTo n k).1 : Int))
  c1 : wr.cell? ⟨w.heap.size + 1, 1, none⟩ = some (.int .i64 (i : Int))
  c2 : wr.cell? ⟨w.heap.size + 1, 2, none⟩ = some (.int .i64 ((bestTo n k).2 : Int))
  r0 : wr.cell? ⟨w.heap.size, 0, none⟩ = some (.int .i64 0)
  r1 : wr.cell? ⟨w.heap.size, 1, none⟩ = some (.int .i64 0)
  r2 : wr.cell? ⟨w.heap.size, 2, none⟩ = some (.int .i64 0)
  f : ∀ o, wr.frozen? ⟨w.heap.size + 1, o, none⟩ = false
  g : ∀ o, wr.frozen? ⟨w.heap.size, o, none⟩ = false
  below : Below w.heap.size w wr
  size : w.heap.size + 1 < wr.heap.size
theorem LongRel.later {w : World} {i k : Nat} {n : Nat → Nat} {wr w' : World} (h : LongRel w i n k wr) (hb : Below wr.heap.size wr w') : LongRel w i n k w' :=
  have s := h.size
  have s2 := hb.size
  ⟨(hb.cell (p := ⟨_, 0, none⟩) h.size).trans h.c0, (hb.cell (p := ⟨_, 1, none⟩) h.size).trans h.c1, (hb.cell (p := ⟨_, 2, none⟩) h.size).trans h.c2,
   (hb.cell (p := ⟨_, 0, none⟩) (by simp; omega)).trans h.r0, (hb.cell (p := ⟨_, 1, none⟩) (by simp; omega)).trans h.r1, (hb.cell (p := ⟨_, 2, none⟩) (by simp; omega)).trans h.r2,
   fun o => (hb.frozen (p := ⟨_, o, none⟩) h.size).trans (h.f o), fun o => (hb.frozen (p := ⟨_, o, none⟩) (by simp; omega)).trans (h.g o),
   h.below.trans (hb.mono (by omega)), by omega⟩

theorem LongRel.keep {w : World} {i k : Nat} {n : Nat → Nat} {wr : World} (h : LongRel w i n k wr) (hk : ¬ (bestTo n k).2 < n k) : LongRel w i n (k + 1) wr := by
  have e : bestTo n (k + 1) = bestTo n k := by rw [bestTo, if_neg hk]
  exact ⟨by rw [e]; exact h.c0, h.c1, by rw [e]; exact h.c2, h.r0, h.r1, h.r2, h.f, h.g, h.below, h.size⟩
theorem LongRel.take {w : World} {i k : Nat} {n : Nat → Nat} {wr : World} (h : LongRel w i n k wr) (hk : (bestTo n k).2 < n k) :
    LongRel w i n (k + 1) ((wr.setCell ⟨w.heap.size + 1, 0, none⟩ (.int .i64 ((k + 1 : Nat) : Int))).setCell ⟨w.heap.size + 1, 2, none⟩ (.int .i64 (n k : Int))) := by
  have e : bestTo n (k + 1) = (k + 1, n k) := by rw [bestTo, if_pos hk]
  refine ⟨?_, ?_, ?_, ?_, ?_, ?_, ?_, ?_, ?_, ?_⟩
  · rw [e, World.cell?_setCell_other _ _ _ _ (by simp)]; exact World.cell?_setCell_same' _ _ _ (by rw [h.c0]; rfl)
  · rw [World.cell?_setCell_other _ _ _ _ (by simp), World.cell?_setCell_other _ _ _ _ (by simp)]; exact h.c1
  · rw [e]; exact World.cell?_setCell_same' _ _ _ (by rw [World.cell?_setCell_other _ _ _ _ (by simp), h.c2]; rfl)
  · rw [World.cell?_setCell_other _ _ _ _ (by simp), World.cell?_setCell_other _ _ _ _ (by simp)]; exact h.r0
  · rw [World.cell?_setCell_other _ _ _ _ (by simp), World.cell?_setCell_other _ _ _ _ (by simp)]; exact h.r1
  · rw [World.cell?_setCell_other _ _ _ _ (by simp), World.cell?_setCell_other _ _ _ _ (by simp)]; exact h.r2
  · intro o; rw [World.frozen?_setCell, World.frozen?_setCell]; exact h.f o
  · intro o; rw [World.frozen?_setCell, World.frozen?_setCell]; exact h.g o
  · exact (h.below.setCell (p := ⟨w.heap.size + 1, 0, none⟩) (by simp) _).setCell (p := ⟨w.heap.size + 1, 2, none⟩) (by simp) _
  · simpa using h.size

set_option maxHeartbeats 8000000 in
set_option maxRecDepth 100000 in
theorem longest_any (b i n : Nat) (t : ByteArray) (op : Bool) (w : World) (hb0 : b < w.heap.size) (hi : i < t.size) (ht : t.size ≤ 140737488351232) (h : IsCut b i t op n w) :
    Calls Tryz.prog 135 #[.pointer (some ⟨b, 0, none⟩)] w fun e w' => e = .returned (.agg #[.int .i64 ((bestTo (ruleN t i op) 6).1 : Int), .int .i64 (i : Int), .int .i64 ((bestTo (ruleN t i op) 6).2 : Int)]) ∧ Below w.heap.size w w' := by
  have hat : ∀ o, (w.alloc o).cell? ⟨b, 1, none⟩ = some (.int .i64 (i : Int)) := fun o => (((Below.refl _ w).alloc (Nat.le_refl _) o).cell (p := ⟨b, 1, none⟩) hb0).trans h.at'
  have H := Lib.hid h; clear h
  go_enter Tryz.func135, Tryz.ntmps135
  go_wp2_with (go_at_call 150; refine (rules_any _).mono ?_; rintro e w1 ⟨rfl, hb1⟩)
  have hL0 : LongRel w i (ruleN t i op) 0 w1 := by
    have hBB : Below w.heap.size w w1 := (((Below.refl _ w).alloc (Nat.le_refl _) _).alloc (by simp) _).trans (hb1.mono (by simp; omega))
    have s1 := hb1.size
    simp only [World.size_alloc] at s1
    exact ⟨(hb1.cell (p := ⟨_, 0, none⟩) (by simp)).trans (by simp [bestTo]), (hb1.cell (p := ⟨_, 1, none⟩) (by simp)).trans (by simp), (hb1.cell (p := ⟨_, 2, none⟩) (by simp)).trans (by simp [bestTo]),
      (hb1.cell (p := ⟨_, 0, none⟩) (by simp; omega)).trans (by simp), (hb1.cell (p := ⟨_, 1, none⟩) (by simp; omega)).trans (by simp), (hb1.cell (p := ⟨_, 2, none⟩) (by simp; omega)).trans (by simp),
      fun o => (hb1.frozen (p := ⟨_, o, none⟩) (by simp)).trans (by simp), fun o => (hb1.frozen (p := ⟨_, o, none⟩) (by simp; omega)).trans (by simp), hBB, by omega⟩
  clear hat hb1
  have HL := Lib.hid hL0; clear hL0
  go_loopw [14] (fun i' wr => ∃ k : Nat, k ≤ 6 ∧ i' = .int .i64 k ∧ Hid (LongRel w i (ruleN t i op) k wr)) (fun i' _ => 6 - (intOf i').toNat)
  case atStart => exact ⟨0, by omega, rfl, HL⟩
  case round =>
    obtain ⟨k, hk, rfl, hr⟩ := hrel
    have hcs : k = 0 ∨ k = 1 ∨ k = 2 ∨ k = 3 ∨ k = 4 ∨ k = 5 ∨ k = 6 := by omega
    rcases hcs with rfl | rfl | rfl | rfl | rfl | rfl | rfl
    · have hBa : Below w.heap.size w (wr.alloc (.cells #[.int .i64 1, .func (.func 162) #[] #[]] 186)) := hr.out.below.alloc (by have := hr.out.size; omega) _
      have hcall := ruleCall0 b i n t op (wr.alloc (.cells #[.int .i64 1, .func (.func 162) #[] #[]] 186)) (by have := hr.out.size; simp; omega) hi ht (H.out.below hb0 hBa)
      have hx := ruleAt0
      have HC := Lib.hid hcall; clear hcall hBa
      by_cases hlt : (bestTo (ruleN t i op) 0).2 < ruleN t i op 0
      all_goals
        go_wp2_with fail
        refine HC.out.mono ?_
        rintro e w2 ⟨rfl, hb2⟩
        clear hx HC
        have hBB : Below wr.heap.size wr w2 := ((Below.refl _ wr).alloc (Nat.le_refl _) _).trans (hb2.mono (by simp))
        have d := hr.out.later hBB
        have k0 : w2.cell? ⟨wr.heap.size, 0, none⟩ = some (.int .i64 1) := (hb2.cell (p := ⟨_, 0, none⟩) (by simp)).trans (by simp)
        have e0 := d.c0; have e2 := d.c2; have e6 := d.f
        have D := Lib.hid d
        clear d hb2 hBB
        go_wp2_with fail
        go_roundw
        case rel => exact ⟨1, by omega, by go_num, Lib.hid (by first | exact D.out.take hlt | exact D.out.keep hlt)⟩
        case measure => simp [intOf]
    · have hBa : Below w.heap.size w (wr.alloc (.cells #[.int .i64 2, .func (.func 163) #[] #[]] 186)) := hr.out.below.alloc (by have := hr.out.size; omega) _
      have hcall := ruleCall1 b i n t op (wr.alloc (.cells #[.int .i64 2, .func (.func 163) #[] #[]] 186)) (by have := hr.out.size; simp; omega) hi ht (H.out.below hb0 hBa)
      have hx := ruleAt1
      have HC := Lib.hid hcall; clear hcall hBa
      by_cases hlt : (bestTo (ruleN t i op) 1).2 < ruleN t i op 1
      all_goals
        go_wp2_with fail
        refine HC.out.mono ?_
        rintro e w2 ⟨rfl, hb2⟩
        clear hx HC
        have hBB : Below wr.heap.size wr w2 := ((Below.refl _ wr).alloc (Nat.le_refl _) _).trans (hb2.mono (by simp))
        have d := hr.out.later hBB
        have k0 : w2.cell? ⟨wr.heap.size, 0, none⟩ = some (.int .i64 2) := (hb2.cell (p := ⟨_, 0, none⟩) (by simp)).trans (by simp)
        have e0 := d.c0; have e2 := d.c2; have e6 := d.f
        have D := Lib.hid d
        clear d hb2 hBB
        go_wp2_with fail
        go_roundw
        case rel => exact ⟨2, by omega, by go_num, Lib.hid (by first | exact D.out.take hlt | exact D.out.keep hlt)⟩
        case measure => simp [intOf]
    · have hBa : Below w.heap.size w (wr.alloc (.cells #[.int .i64 3, .func (.func 164) #[] #[]] 186)) := hr.out.below.alloc (by have := hr.out.size; omega) _
      have hcall := ruleCall2 b i n t op (wr.alloc (.cells #[.int .i64 3, .func (.func 164) #[] #[]] 186)) (by have := hr.out.size; simp; omega) hi ht (H.out.below hb0 hBa)
      have hx := ruleAt2
      have HC := Lib.hid hcall; clear hcall hBa
      by_cases hlt : (bestTo (ruleN t i op) 2).2 < ruleN t i op 2
      all_goals
        go_wp2_with fail
        refine HC.out.mono ?_
        rintro e w2 ⟨rfl, hb2⟩
        clear hx HC
        have hBB : Below wr.heap.size wr w2 := ((Below.refl _ wr).alloc (Nat.le_refl _) _).trans (hb2.mono (by simp))
        have d := hr.out.later hBB
        have k0 : w2.cell? ⟨wr.heap.size, 0, none⟩ = some (.int .i64 3) := (hb2.cell (p := ⟨_, 0, none⟩) (by simp)).trans (by simp)
        have e0 := d.c0; have e2 := d.c2; have e6 := d.f
        have D := Lib.hid d
        clear d hb2 hBB
        go_wp2_with fail
        go_roundw
        case rel => exact ⟨3, by omega, by go_num, Lib.hid (by first | exact D.out.take hlt | exact D.out.keep hlt)⟩
        case measure => simp [intOf]
    · have hBa : Below w.heap.size w (wr.alloc (.cells #[.int .i64 4, .func (.func 165) #[] #[]] 186)) := hr.out.below.alloc (by have := hr.out.size; omega) _
      have hcall := ruleCall3 b i n t op (wr.alloc (.cells #[.int .i64 4, .func (.func 165) #[] #[]] 186)) (by have := hr.out.size; simp; omega) hi ht (H.out.below hb0 hBa)
      have hx := ruleAt3
      have HC := Lib.hid hcall; clear hcall hBa
      by_cases hlt : (bestTo (ruleN t i op) 3).2 < ruleN t i op 3
      all_goals
        go_wp2_with fail
        refine HC.out.mono ?_
        rintro e w2 ⟨rfl, hb2⟩
        clear hx HC
        have hBB : Below wr.heap.size wr w2 := ((Below.refl _ wr).alloc (Nat.le_refl _) _).trans (hb2.mono (by simp))
        have d := hr.out.later hBB
        have k0 : w2.cell? ⟨wr.heap.size, 0, none⟩ = some (.int .i64 4) := (hb2.cell (p := ⟨_, 0, none⟩) (by simp)).trans (by simp)
        have e0 := d.c0; have e2 := d.c2; have e6 := d.f
        have D := Lib.hid d
        clear d hb2 hBB
        go_wp2_with fail
        go_roundw
        case rel => exact ⟨4, by omega, by go_num, Lib.hid (by first | exact D.out.take hlt | exact D.out.keep hlt)⟩
        case measure => simp [intOf]
    · have hBa : Below w.heap.size w (wr.alloc (.cells #[.int .i64 5, .func (.func 166) #[] #[]] 186)) := hr.out.below.alloc (by have := hr.out.size; omega) _
      have hcall := ruleCall4 b i n t op (wr.alloc (.cells #[.int .i64 5, .func (.func 166) #[] #[]] 186)) (by have := hr.out.size; simp; omega) hi ht (H.out.below hb0 hBa)
      have hx := ruleAt4
      have HC := Lib.hid hcall; clear hcall hBa
      by_cases hlt : (bestTo (ruleN t i op) 4).2 < ruleN t i op 4
      all_goals
        go_wp2_with fail
        refine HC.out.mono ?_
        rintro e w2 ⟨rfl, hb2⟩
        clear hx HC
        have hBB : Below wr.heap.size wr w2 := ((Below.refl _ wr).alloc (Nat.le_refl _) _).trans (hb2.mono (by simp))
        have d := hr.out.later hBB
        have k0 : w2.cell? ⟨wr.heap.size, 0, none⟩ = some (.int .i64 5) := (hb2.cell (p := ⟨_, 0, none⟩) (by simp)).trans (by simp)
        have e0 := d.c0; have e2 := d.c2; have e6 := d.f
        have D := Lib.hid d
        clear d hb2 hBB
        go_wp2_with fail
        go_roundw
        case rel => exact ⟨5, by omega, by go_num, Lib.hid (by first | exact D.out.take hlt | exact D.out.keep hlt)⟩
        case measure => simp [intOf]
    · have hBa : Below w.heap.size w (wr.alloc (.cells #[.int .i64 6, .func (.func 167) #[] #[]] 186)) := hr.out.below.alloc (by have := hr.out.size; omega) _
      have hcall := ruleCall5 b i n t op (wr.alloc (.cells #[.int .i64 6, .func (.func 167) #[] #[]] 186)) (by have := hr.out.size; simp; omega) hi ht (H.out.below hb0 hBa)
      have hx := ruleAt5
      have HC := Lib.hid hcall; clear hcall hBa
      by_cases hlt : (bestTo (ruleN t i op) 5).2 < ruleN t i op 5
      all_goals
        go_wp2_with fail
        refine HC.out.mono ?_
        rintro e w2 ⟨rfl, hb2⟩
        clear hx HC
        have hBB : Below wr.heap.size wr w2 := ((Below.refl _ wr).alloc (Nat.le_refl _) _).trans (hb2.mono (by simp))
        have d := hr.out.later hBB
        have k0 : w2.cell? ⟨wr.heap.size, 0, none⟩ = some (.int .i64 6) := (hb2.cell (p := ⟨_, 0, none⟩) (by simp)).trans (by simp)
        have e0 := d.c0; have e2 := d.c2; have e6 := d.f
        have D := Lib.hid d
        clear d hb2 hBB
        go_wp2_with fail
        go_roundw
        case rel => exact ⟨6, by omega, by go_num, Lib.hid (by first | exact D.out.take hlt | exact D.out.keep hlt)⟩
        case measure => simp [intOf]
    · have d := hr.out
      have e0 := d.c0; have e1 := d.c1; have e2 := d.c2; have e3 := d.r0; have e4 := d.r1; have e5 := d.r2; have e6 := d.f; have e7 := d.g
      have eB := Lib.hid d.below
      clear d H HL hi ht hk
      go_wp2_with fail
      refine bodyPost_ret (v := .agg #[.int .i64 ((bestTo (ruleN t i op) 6).1 : Int), .int .i64 (i : Int), .int .i64 ((bestTo (ruleN t i op) 6).2 : Int)]) ?_ rfl ⟨rfl, ?_⟩
      · simp [results, Tryz.results135, go_sem, *]
      · exact ((eB.out.setCell (p := ⟨w.heap.size, 0, none⟩) (Nat.le_refl _) _).setCell (p := ⟨w.heap.size, 1, none⟩) (Nat.le_refl _) _).setCell (p := ⟨w.heap.size, 2, none⟩) (Nat.le_refl _) _
end

section
open Go.RowKit

set_option maxHeartbeats 4000000 in
set_option maxRecDepth 100000 in
theorem fault_num (b i n l : Nat) (t : ByteArray) (op : Bool) (w : World) (E : Env w) (hb0 : b < w.heap.size) (hi : i + l ≤ t.size) (ht : t.size ≤ 140737488351232) (h : IsCut b i t op n w) :
    Calls Tryz.prog 136 #[.pointer (some ⟨b, 0, none⟩), .agg #[.int .i64 2, .int .i64 (i : Int), .int .i64 (l : Int)]] w fun e w' => e = .returned (.int .i64 (faultN t i 2 l : Int)) ∧ Below w.heap.size w w' := by
  have ha := fun (o : Obj) (q : Nat) => ahead_q b i l t ((w.alloc o).drewN q) (by omega) (by omega) (h.below hb0 ((Below.refl _ w).alloc (Nat.le_refl _) o)).text (h.below hb0 ((Below.refl _ w).alloc (Nat.le_refl _) o)).at'
  have hp := fun W (hB : Below w.heap.size w W) => piece_any b 2 i l t W (by have := hB.size; omega) hi (by omega) (h.below hb0 hB).text
  have hv := fun W (hB : Below w.heap.size w W) => value_any (cutB t i l) (by simp [cutB]; omega) W (E.below E.size hB)
  have hs := fun W => spoils_any (aheadB t (i + l)) W
  have Ha := Lib.hid ha; have Hp := Lib.hid hp; have Hv := Lib.hid hv; have Hs := Lib.hid hs
  have HN := Lib.hid (faultN.eq_1 t i 2 l)
  clear ha hp hv hs h E hi ht
  go_enter Tryz.func136, Tryz.ntmps136
  go_wp2_with fail
  go_quiet ((go_at_call 133; exact Calls.quiet_of (Ha.out _ _)))
  go_wp2_with fail
  go_region_with (first
    | (go_at_call 151; refine (Hp.out _ ?_).mono ?_; exact below_drewN ((Below.refl _ w).alloc (Nat.le_refl _) _) _; rintro e w1 ⟨rfl, hb1⟩)
    | (go_at_call 96; refine (Hv.out _ ?_).mono ?_; exact (below_drewN ((Below.refl _ w).alloc (Nat.le_refl _) _) _).trans (hb1.mono (by simp)); rintro e w2 ⟨rfl, hb2⟩))
  have hB2 : Below w.heap.size w w2 := ((below_drewN ((Below.refl _ w).alloc (Nat.le_refl _) _) _).trans (hb1.mono (by simp))).trans (hb2.mono (by have := hb1.size; simp at this; omega))
  have HB2 := Lib.hid hB2
  clear hb1 hb2 hB2 Hp Hv Ha
  cases hok : (valO (cutB t i l)).isSome
  · rw [hok] at HN
    go_wp2_with fail
    go_ret
    exact ⟨ret_int (by rw [HN.out]; rfl), HB2.out⟩
  · rw [hok] at HN
    cases hsp : bSpoils (aheadB t (i + l))
    all_goals
      rw [hsp] at HN Hs
      go_wp2_with (go_at_call 152; refine (Hs.out _).mono ?_; rintro e w3 ⟨rfl, hb3⟩)
      go_ret
      exact ⟨ret_int (by rw [HN.out]; rfl), HB2.out.trans (hb3.mono HB2.out.size)⟩

/- GEN -/
set_option maxHeartbeats 4000000 in
set_option maxRecDepth 100000 in
theorem fault_sign (b i n l : Nat) (t : ByteArray) (op : Bool) (w : World) (hb0 : b < w.heap.size) (hi : i + l ≤ t.size) (ht : t.size ≤ 140737488351232) (h : IsCut b i t op n w) :
    Calls Tryz.prog 136 #[.pointer (some ⟨b, 0, none⟩), .agg #[.int .i64 5, .int .i64 (i : Int), .int .i64 (l : Int)]] w fun e w' => e = .returned (.int .i64 (faultN t i 5 l : Int)) ∧ Below w.heap.size w w' := by
  have ha := fun (o : Obj) (q : Nat) => ahead_q b i l t ((w.alloc o).drewN q) (by omega) (by omega) (h.below hb0 ((Below.refl _ w).alloc (Nat.le_refl _) o)).text (h.below hb0 ((Below.refl _ w).alloc (Nat.le_refl _) o)).at'
  have HN := Lib.hid (faultN.eq_1 t i 5 l)
  have Ha := Lib.hid ha
  clear ha h hi ht
  go_enter Tryz.func136, Tryz.ntmps136
  go_wp2_with fail
  go_quiet ((go_at_call 133; exact Calls.quiet_of (Ha.out _ _)))
  go_wp2_with fail
  go_ret
  exact ⟨ret_int (by rw [HN.out]; rfl), (below_drewN ((Below.refl _ w).alloc (Nat.le_refl _) _) _)⟩

set_option maxHeartbeats 4000000 in
set_option maxRecDepth 100000 in
theorem fault_name (b i n l : Nat) (t : ByteArray) (op : Bool) (w : World) (hb0 : b < w.heap.size) (hi : i + l ≤ t.size) (ht : t.size ≤ 140737488351232) (h : IsCut b i t op n w) :
    Calls Tryz.prog 136 #[.pointer (some ⟨b, 0, none⟩), .agg #[.int .i64 1, .int .i64 (i : Int), .int .i64 (l : Int)]] w fun e w' => e = .returned (.int .i64 (faultN t i 1 l : Int)) ∧ Below w.heap.size w w' := by
  have ha := fun (o : Obj) (q : Nat) => ahead_q b i l t ((w.alloc o).drewN q) (by omega) (by omega) (h.below hb0 ((Below.refl _ w).alloc (Nat.le_refl _) o)).text (h.below hb0 ((Below.refl _ w).alloc (Nat.le_refl _) o)).at'
  have HN := Lib.hid (faultN.eq_1 t i 1 l)
  have Ha := Lib.hid ha
  clear ha h hi ht
  by_cases hl : 40 < l
  · have hl' : (40 : Int) < (l : Int) := by omega
    have HL := Lib.hid hl; clear hl
    go_enter Tryz.func136, Tryz.ntmps136
    go_wp2_with fail
    go_quiet ((go_at_call 133; exact Calls.quiet_of (Ha.out _ _)))
    go_wp2_with fail
    go_ret
    exact ⟨ret_int (by rw [HN.out]; simp [HL.out]), (below_drewN ((Below.refl _ w).alloc (Nat.le_refl _) _) _)⟩
  · have hl' : ¬ (40 : Int) < (l : Int) := by omega
    have HL := Lib.hid hl; clear hl
    go_enter Tryz.func136, Tryz.ntmps136
    go_wp2_with fail
    go_quiet ((go_at_call 133; exact Calls.quiet_of (Ha.out _ _)))
    go_wp2_with fail
    go_ret
    exact ⟨ret_int (by rw [HN.out]; simp [HL.out]), (below_drewN ((Below.refl _ w).alloc (Nat.le_refl _) _) _)⟩

set_option maxHeartbeats 4000000 in
set_option maxRecDepth 100000 in
theorem fault_key (b i n l : Nat) (t : ByteArray) (op : Bool) (w : World) (hb0 : b < w.heap.size) (hi : i + l ≤ t.size) (ht : t.size ≤ 140737488351232) (h : IsCut b i t op n w) :
    Calls Tryz.prog 136 #[.pointer (some ⟨b, 0, none⟩), .agg #[.int .i64 3, .int .i64 (i : Int), .int .i64 (l : Int)]] w fun e w' => e = .returned (.int .i64 (faultN t i 3 l : Int)) ∧ Below w.heap.size w w' := by
  have ha := fun (o : Obj) (q : Nat) => ahead_q b i l t ((w.alloc o).drewN q) (by omega) (by omega) (h.below hb0 ((Below.refl _ w).alloc (Nat.le_refl _) o)).text (h.below hb0 ((Below.refl _ w).alloc (Nat.le_refl _) o)).at'
  have HN := Lib.hid (faultN.eq_1 t i 3 l)
  have Ha := Lib.hid ha
  clear ha h hi ht
  by_cases hl : 40 < l
  · have hl' : (40 : Int) < (l : Int) := by omega
    have HL := Lib.hid hl; clear hl
    go_enter Tryz.func136, Tryz.ntmps136
    go_wp2_with fail
    go_quiet ((go_at_call 133; exact Calls.quiet_of (Ha.out _ _)))
    go_wp2_with fail
    go_ret
    exact ⟨ret_int (by rw [HN.out]; simp [HL.out]), (below_drewN ((Below.refl _ w).alloc (Nat.le_refl _) _) _)⟩
  · have hl' : ¬ (40 : Int) < (l : Int) := by omega
    have HL := Lib.hid hl; clear hl
    go_enter Tryz.func136, Tryz.ntmps136
    go_wp2_with fail
    go_quiet ((go_at_call 133; exact Calls.quiet_of (Ha.out _ _)))
    go_wp2_with fail
    go_ret
    exact ⟨ret_int (by rw [HN.out]; simp [HL.out]), (below_drewN ((Below.refl _ w).alloc (Nat.le_refl _) _) _)⟩

set_option maxHeartbeats 4000000 in
set_option maxRecDepth 100000 in
theorem fault_pat (b i n l : Nat) (t : ByteArray) (op : Bool) (w : World) (hb0 : b < w.heap.size) (hi : i + l ≤ t.size) (ht : t.size ≤ 140737488351232) (h : IsCut b i t op n w) :
    Calls Tryz.prog 136 #[.pointer (some ⟨b, 0, none⟩), .agg #[.int .i64 6, .int .i64 (i : Int), .int .i64 (l : Int)]] w fun e w' => e = .returned (.int .i64 (faultN t i 6 l : Int)) ∧ Below w.heap.size w w' := by
  have ha := fun (o : Obj) (q : Nat) => ahead_q b i l t ((w.alloc o).drewN q) (by omega) (by omega) (h.below hb0 ((Below.refl _ w).alloc (Nat.le_refl _) o)).text (h.below hb0 ((Below.refl _ w).alloc (Nat.le_refl _) o)).at'
  have HN := Lib.hid (faultN.eq_1 t i 6 l)
  have Ha := Lib.hid ha
  clear ha h hi ht
  by_cases hl : 40 < l
  · have hl' : (40 : Int) < (l : Int) := by omega
    have HL := Lib.hid hl; clear hl
    go_enter Tryz.func136, Tryz.ntmps136
    go_wp2_with fail
    go_quiet ((go_at_call 133; exact Calls.quiet_of (Ha.out _ _)))
    go_wp2_with fail
    go_ret
    exact ⟨ret_int (by rw [HN.out]; simp [HL.out]), (below_drewN ((Below.refl _ w).alloc (Nat.le_refl _) _) _)⟩
  · have hl' : ¬ (40 : Int) < (l : Int) := by omega
    have HL := Lib.hid hl; clear hl
    go_enter Tryz.func136, Tryz.ntmps136
    go_wp2_with fail
    go_quiet ((go_at_call 133; exact Calls.quiet_of (Ha.out _ _)))
    go_wp2_with fail
    go_ret
    exact ⟨ret_int (by rw [HN.out]; simp [HL.out]), (below_drewN ((Below.refl _ w).alloc (Nat.le_refl _) _) _)⟩

set_option maxHeartbeats 4000000 in
set_option maxRecDepth 100000 in
theorem fault_hash (b i n l : Nat) (t : ByteArray) (op : Bool) (w : World) (hb0 : b < w.heap.size) (hi : i + l ≤ t.size) (ht : t.size ≤ 140737488351232) (h : IsCut b i t op n w) :
    Calls Tryz.prog 136 #[.pointer (some ⟨b, 0, none⟩), .agg #[.int .i64 4, .int .i64 (i : Int), .int .i64 (l : Int)]] w fun e w' => e = .returned (.int .i64 (faultN t i 4 l : Int)) ∧ Below w.heap.size w w' := by
  have ha := fun (o : Obj) (q : Nat) => ahead_q b i l t ((w.alloc o).drewN q) (by omega) (by omega) (h.below hb0 ((Below.refl _ w).alloc (Nat.le_refl _) o)).text (h.below hb0 ((Below.refl _ w).alloc (Nat.le_refl _) o)).at'
  have hs := fun W => classesOf_any (aheadB t (i + l)) W
  have Hs := Lib.hid hs; clear hs
  have hx := cls2
  have HN := Lib.hid (faultN.eq_1 t i 4 l)
  have Ha := Lib.hid ha
  clear ha h hi ht
  cases hW : bW (aheadB t (i + l))
  all_goals
    rw [hW] at HN Hs
    go_enter Tryz.func136, Tryz.ntmps136
    go_wp2_with fail
    go_quiet ((go_at_call 133; exact Calls.quiet_of (Ha.out _ _)))
    go_wp2_with (go_at_call 153; refine (Hs.out _).mono ?_; rintro e w3 ⟨rfl, hb3⟩)
    go_ret
    exact ⟨ret_int (by rw [HN.out]; rfl), (below_drewN ((Below.refl _ w).alloc (Nat.le_refl _) _) _).trans (hb3.mono (by simp))⟩

set_option maxHeartbeats 4000000 in
set_option maxRecDepth 100000 in
theorem fault_none (b i n l : Nat) (t : ByteArray) (op : Bool) (w : World) (hb0 : b < w.heap.size) (hi : i + l ≤ t.size) (ht : t.size ≤ 140737488351232) (h : IsCut b i t op n w) :
    Calls Tryz.prog 136 #[.pointer (some ⟨b, 0, none⟩), .agg #[.int .i64 0, .int .i64 (i : Int), .int .i64 (l : Int)]] w fun e w' => e = .returned (.int .i64 (faultN t i 0 l : Int)) ∧ Below w.heap.size w w' := by
  have ha := fun (o : Obj) (q : Nat) => ahead_q b i l t ((w.alloc o).drewN q) (by omega) (by omega) (h.below hb0 ((Below.refl _ w).alloc (Nat.le_refl _) o)).text (h.below hb0 ((Below.refl _ w).alloc (Nat.le_refl _) o)).at'
  have h2 := fun W (hB : Below w.heap.size w W) => ahead0_q b i t W (by omega) (h.below hb0 hB).text (h.below hb0 hB).at'
  have H2 := Lib.hid h2; clear h2
  have HN := Lib.hid (faultN.eq_1 t i 0 l)
  have Ha := Lib.hid ha
  clear ha h hi ht
  by_cases hc : aheadB t i = 35
  · have hc' : ((aheadB t i).toNat : Int) == 35 := by rw [hc]; rfl
    have HC := Lib.hid hc; clear hc
    go_enter Tryz.func136, Tryz.ntmps136
    go_wp2_with fail
    go_quiet ((go_at_call 133; exact Calls.quiet_of (Ha.out _ _)))
    go_wp2_with (go_at_call 133; refine (H2.out _ (below_drewN ((Below.refl _ w).alloc (Nat.le_refl _) _) _)).mono ?_; rintro e w3 ⟨rfl, q, rfl⟩)
    go_ret
    exact ⟨ret_int (by rw [HN.out]; simp [HC.out]), (below_drewN ((Below.refl _ w).alloc (Nat.le_refl _) _) _)⟩
  · have hc' : (((aheadB t i).toNat : Int) == 35) = false := by
      rw [beq_eq_false_iff_ne]; intro hh; apply hc
      exact UInt8.toNat_inj.1 (by show (aheadB t i).toNat = 35; omega)
    have HC := Lib.hid hc; clear hc
    go_enter Tryz.func136, Tryz.ntmps136
    go_wp2_with fail
    go_quiet ((go_at_call 133; exact Calls.quiet_of (Ha.out _ _)))
    go_wp2_with (go_at_call 133; refine (H2.out _ (below_drewN ((Below.refl _ w).alloc (Nat.le_refl _) _) _)).mono ?_; rintro e w3 ⟨rfl, q, rfl⟩)
    go_ret
    exact ⟨ret_int (by rw [HN.out]; simp [HC.out]), (below_drewN ((Below.refl _ w).alloc (Nat.le_refl _) _) _)⟩

theorem fault_any (b i n k l : Nat) (t : ByteArray) (op : Bool) (w : World) (E : Env w) (hb0 : b < w.heap.size) (hk : k ≤ 6) (hi : i + l ≤ t.size) (ht : t.size ≤ 140737488351232) (h : IsCut b i t op n w) :
    Calls Tryz.prog 136 #[.pointer (some ⟨b, 0, none⟩), .agg #[.int .i64 (k : Int), .int .i64 (i : Int), .int .i64 (l : Int)]] w fun e w' => e = .returned (.int .i64 (faultN t i k l : Int)) ∧ Below w.heap.size w w' := by
  have hcs : k = 0 ∨ k = 1 ∨ k = 2 ∨ k = 3 ∨ k = 4 ∨ k = 5 ∨ k = 6 := by omega
  rcases hcs with rfl | rfl | rfl | rfl | rfl | rfl | rfl
  · exact fault_none b i n l t op w hb0 hi ht h
  · exact fault_name b i n l t op w hb0 hi ht h
  · exact fault_num b i n l t op w E hb0 hi ht h
  · exact fault_key b i n l t op w hb0 hi ht h
  · exact fault_hash b i n l t op w hb0 hi ht h
  · exact fault_sign b i n l t op w hb0 hi ht h
  · exact fault_pat b i n l t op w hb0 hi ht h
end

end Go.Proofs.YtafncodigpjkaaaGreatDoor
