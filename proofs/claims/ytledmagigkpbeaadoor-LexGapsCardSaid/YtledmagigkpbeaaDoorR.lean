/-
  The rules of tokens: each returns how many bytes it takes at the cursor.
-/
import Derived.Test.YtledmagigkpbeaaDoorC3
namespace Go.Proofs.YtledmagigkpbeaaDoor
open Go.RowKit

theorem hash_q (b i : Nat) (t : ByteArray) (w : World) (hi : i ≤ t.size) (h0 : w.cell? ⟨b, 0, none⟩ = some (.string t)) (h1 : w.cell? ⟨b, 1, none⟩ = some (.int .i64 (i : Int))) :
    Calls Tryd.prog 81 #[.pointer (some ⟨b, 0, none⟩)] w fun e w' => e = .returned (.int .i64 (hashN (restB t i) : Int)) ∧ ∃ n, w' = w.drewN n := by
  cases h : Lib.hasPrefix (restB t i).data.toList [35, 116]
  · cases h' : Lib.hasPrefix (restB t i).data.toList [35, 102]
    all_goals
      have hN : Hid (hashN (restB t i) = if Lib.hasPrefix (restB t i).data.toList [35, 116] || Lib.hasPrefix (restB t i).data.toList [35, 102] then 2 else 0) := Lib.hid rfl
      have hA := fun (q : Nat) => begins_any b i t ⟨#[35, 116]⟩ (w.drewN q) hi h0 h1
      have hB := fun (q : Nat) => begins_any b i t ⟨#[35, 102]⟩ (w.drewN q) hi h0 h1
      have hA' := Lib.hid hA; have hB' := Lib.hid hB; clear hA hB
      go_enter Tryd.func81, Tryd.ntmps81
      go_wp2_with fail
      refine (hA'.out 0).mono ?_
      rintro e w1 ⟨rfl, q, rfl⟩
      go_wp2_with fail
      refine (hB'.out _).mono ?_
      rintro e w1 ⟨rfl, q2, rfl⟩
      go_wp2_with fail
      go_ret
      exact ⟨ret_int (by rw [hN.out, h, h']; rfl), _, rfl⟩
  · have hN : Hid (hashN (restB t i) = if Lib.hasPrefix (restB t i).data.toList [35, 116] || Lib.hasPrefix (restB t i).data.toList [35, 102] then 2 else 0) := Lib.hid rfl
    have hA := begins_any b i t ⟨#[35, 116]⟩ w hi h0 h1
    have hA' := Lib.hid hA; clear hA
    go_enter Tryd.func81, Tryd.ntmps81
    go_wp2_with fail
    refine hA'.out.mono ?_
    rintro e w1 ⟨rfl, q, rfl⟩
    go_wp2_with fail
    go_ret
    exact ⟨ret_int (by rw [hN.out, h]; rfl), _, rfl⟩

/-- What the rules need of a text's window, as facts in the walk's spelling. -/
theorem win_size (t : ByteArray) (i : Nat) : (winB t i).size = min (i + 100) t.size - i := by simp [winB]

set_option maxHeartbeats 1000000 in
set_option maxRecDepth 100000 in
theorem name_any (b i : Nat) (t : ByteArray) (w : World) (hi : i ≤ t.size) (ht : t.size ≤ 1048576) (h0 : w.cell? ⟨b, 0, none⟩ = some (.string t)) (h1 : w.cell? ⟨b, 1, none⟩ = some (.int .i64 (i : Int))) :
    Calls Tryd.prog 78 #[.pointer (some ⟨b, 0, none⟩)] w fun e w' => e = .returned (.int .i64 (nameN (winB t i) : Int)) ∧ Below w.heap.size w w' := by
  have hc := window_q b i t w hi ht h0 h1
  have hs : (winB t i).size ≤ 100 := by rw [win_size]; omega
  clear h0 h1
  generalize winB t i = s at *
  have hp := fun w => plain_any s (by omega) w
  have hle := plainN_le s
  have hN : Hid (nameN s = if plainN s = 0 then 0 else plainN s + libN (s.extract (plainN s) s.size)) := Lib.hid rfl
  have hl := fun w => library_any (s.extract (plainN s) s.size) (by rw [lib_sz]; omega) w
  have hll := libN_le (s.extract (plainN s) s.size)
  rw [lib_sz] at hll
  have Hp := Lib.hid hp; have Hl := Lib.hid hl; clear hp hl
  generalize plainN s = k at *
  by_cases hk : k = 0
  · subst hk
    clear hll
    go_enter Tryd.func78, Tryd.ntmps78
    go_wp2_with (first | (go_at_call 95; refine hc.mono ?_; clear hc; rintro e w1 ⟨rfl, q, rfl⟩) | (go_at_call 96; refine (Hp.out _).mono ?_; rintro e w2 ⟨rfl, hb⟩))
    go_ret
    exact ⟨ret_int (by rw [hN.out]; rfl), (below_drewN (Below.refl _ _) q).trans hb⟩
  · have hk' : ((k : Int) == 0) = false := by rw [beq_eq_false_iff_ne]; omega
    have hle' : (k : Int) ≤ (s.size : Int) := by omega
    have hH : Hid (¬ k = 0) := Lib.hid hk
    clear hk
    go_enter Tryd.func78, Tryd.ntmps78
    go_wp2_with (first | (go_at_call 95; refine hc.mono ?_; clear hc; rintro e w1 ⟨rfl, q, rfl⟩) | (go_at_call 96; refine (Hp.out _).mono ?_; rintro e w2 ⟨rfl, hb⟩) | (go_at_call 97; refine (Hl.out _).mono ?_; rintro e w3 ⟨rfl, hb2⟩))
    go_ret
    exact ⟨ret_int (by rw [hN.out, if_neg hH.out]; omega), ((below_drewN (Below.refl _ _) q).trans hb).trans (hb2.mono hb.size)⟩

theorem ahead0_q (b i : Nat) (t : ByteArray) (w : World) (hi : i ≤ 1048576) (h0 : w.cell? ⟨b, 0, none⟩ = some (.string t)) (h1 : w.cell? ⟨b, 1, none⟩ = some (.int .i64 (i : Int))) :
    Calls Tryd.prog 46 #[.pointer (some ⟨b, 0, none⟩), .int .i64 0] w fun e w' => e = .returned (.int .u8 ((aheadB t i).toNat : Int)) ∧ ∃ n, w' = w.drewN n :=
  ahead_q b i 0 t w hi (by omega) h0 h1

set_option maxHeartbeats 2000000 in
set_option maxRecDepth 100000 in
theorem integer_any (b i : Nat) (op : Bool) (t : ByteArray) (w : World) (hi : i < t.size) (ht : t.size ≤ 1048576) (h0 : w.cell? ⟨b, 0, none⟩ = some (.string t)) (h1 : w.cell? ⟨b, 1, none⟩ = some (.int .i64 (i : Int))) (h2 : w.cell? ⟨b, 2, none⟩ = some (.bool op)) :
    Calls Tryd.prog 79 #[.pointer (some ⟨b, 0, none⟩)] w fun e w' => e = .returned (.int .i64 (intN (winB t i) (aheadB t i) op : Int)) ∧ Below w.heap.size w w' := by
  have hc := window_q b i t w (by omega) ht h0 h1
  have ha := fun (q : Nat) => ahead0_q b i t (w.drewN q) (by omega) h0 h1
  have hs : (winB t i).size ≤ 100 ∧ 1 ≤ (winB t i).size := by rw [win_size]; omega
  obtain ⟨hs1, hs2⟩ := hs
  clear h0 h1
  generalize winB t i = s at *
  generalize aheadB t i = c at *
  have hsI : (1 : Int) ≤ (s.size : Int) := by omega
  have Ha := Lib.hid ha; clear ha
  have Hc := Lib.hid hc; clear hc
  by_cases hm : c = 45 ∧ op = false
  · obtain ⟨hm1, rfl⟩ := hm
    have hm1' : ((c.toNat : Int) == 45) = true := by rw [hm1]; rfl
    have hN : Hid (intN s c false = if runN bD (s.extract 1 s.size) 0 = 0 then 0 else 1 + runN bD (s.extract 1 s.size) 0) := Lib.hid (by simp [intN, hm1])
    have hr := fun w => run_any (s.extract 1 s.size) 1 bD (by rw [lib_sz]; omega) w (fun c w => cls1 _ _ _ _ _ _ w)
    have hrl := (runN_le bD (s.extract 1 s.size) 0 (by omega)).2
    rw [lib_sz] at hrl
    have Hr := Lib.hid hr; clear hr hm1
    generalize runN bD (s.extract 1 s.size) 0 = d at *
    by_cases hd : d = 0
    · subst hd
      clear hrl
      go_enter Tryd.func79, Tryd.ntmps79
      go_wp2_with (first | (go_at_call 95; refine Hc.out.mono ?_; rintro e w1 ⟨rfl, q, rfl⟩) | (go_at_call 46; refine (Ha.out _).mono ?_; rintro e w2 ⟨rfl, q2, rfl⟩) | (go_at_call 98; refine (Hr.out _).mono ?_; rintro e w3 ⟨rfl, hb⟩))
      go_ret
      exact ⟨ret_int (by rw [hN.out]; rfl), (below_drewN (Below.refl _ _) _).trans hb⟩
    · have hd' : ((d : Int) == 0) = false := by rw [beq_eq_false_iff_ne]; omega
      have hH : Hid (¬ d = 0) := Lib.hid hd
      clear hd
      go_enter Tryd.func79, Tryd.ntmps79
      go_wp2_with (first | (go_at_call 95; refine Hc.out.mono ?_; rintro e w1 ⟨rfl, q, rfl⟩) | (go_at_call 46; refine (Ha.out _).mono ?_; rintro e w2 ⟨rfl, q2, rfl⟩) | (go_at_call 98; refine (Hr.out _).mono ?_; rintro e w3 ⟨rfl, hb⟩))
      go_ret
      exact ⟨ret_int (by rw [hN.out, if_neg hH.out]; omega), (below_drewN (Below.refl _ _) _).trans hb⟩
  · have hN : Hid (intN s c op = runN bD (s.extract 0 s.size) 0) := Lib.hid (by
      have : (c == 45 && !op) = false := by
        cases op
        · simp at hm; simp [hm]
        · simp
      simp [intN, this])
    have hr := fun w => run_any (s.extract 0 s.size) 1 bD (by rw [lib_sz]; omega) w (fun c w => cls1 _ _ _ _ _ _ w)
    have hrl := (runN_le bD (s.extract 0 s.size) 0 (by omega)).2
    rw [lib_sz] at hrl
    have hfull : s.extract 0 s.size = s := by simp
    have Hr := Lib.hid hr; clear hr
    rw [hfull] at Hr hrl hN
    clear hfull
    generalize runN bD s 0 = d at *
    cases hc45 : ((c.toNat : Int) == 45)
    · clear hm
      by_cases hd : d = 0
      · subst hd
        clear hrl
        go_enter Tryd.func79, Tryd.ntmps79
        go_wp2_with (first | (go_at_call 95; refine Hc.out.mono ?_; rintro e w1 ⟨rfl, q, rfl⟩) | (go_at_call 46; refine (Ha.out _).mono ?_; rintro e w2 ⟨rfl, q2, rfl⟩) | (go_at_call 98; refine (Hr.out _).mono ?_; rintro e w3 ⟨rfl, hb⟩))
        go_ret
        exact ⟨ret_int (by rw [hN.out]; rfl), (below_drewN (Below.refl _ _) _).trans hb⟩
      · have hd' : ((d : Int) == 0) = false := by rw [beq_eq_false_iff_ne]; omega
        clear hd
        go_enter Tryd.func79, Tryd.ntmps79
        go_wp2_with (first | (go_at_call 95; refine Hc.out.mono ?_; rintro e w1 ⟨rfl, q, rfl⟩) | (go_at_call 46; refine (Ha.out _).mono ?_; rintro e w2 ⟨rfl, q2, rfl⟩) | (go_at_call 98; refine (Hr.out _).mono ?_; rintro e w3 ⟨rfl, hb⟩))
        go_ret
        exact ⟨ret_int (by rw [hN.out]), (below_drewN (Below.refl _ _) _).trans hb⟩
    · have hop : op = true := by
        cases op
        · exfalso; apply hm; refine ⟨?_, rfl⟩
          have : c.toNat = 45 := by have := beq_iff_eq.1 hc45; omega
          exact UInt8.toNat_inj.1 this
        · rfl
      subst hop
      clear hm
      by_cases hd : d = 0
      · subst hd
        clear hrl
        go_enter Tryd.func79, Tryd.ntmps79
        go_wp2_with (first | (go_at_call 95; refine Hc.out.mono ?_; rintro e w1 ⟨rfl, q, rfl⟩) | (go_at_call 46; refine (Ha.out _).mono ?_; rintro e w2 ⟨rfl, q2, rfl⟩) | (go_at_call 98; refine (Hr.out _).mono ?_; rintro e w3 ⟨rfl, hb⟩))
        go_ret
        exact ⟨ret_int (by rw [hN.out]; rfl), (below_drewN (Below.refl _ _) _).trans hb⟩
      · have hd' : ((d : Int) == 0) = false := by rw [beq_eq_false_iff_ne]; omega
        clear hd
        go_enter Tryd.func79, Tryd.ntmps79
        go_wp2_with (first | (go_at_call 95; refine Hc.out.mono ?_; rintro e w1 ⟨rfl, q, rfl⟩) | (go_at_call 46; refine (Ha.out _).mono ?_; rintro e w2 ⟨rfl, q2, rfl⟩) | (go_at_call 98; refine (Hr.out _).mono ?_; rintro e w3 ⟨rfl, hb⟩))
        go_ret
        exact ⟨ret_int (by rw [hN.out]), (below_drewN (Below.refl _ _) _).trans hb⟩
end Go.Proofs.YtledmagigkpbeaaDoor
