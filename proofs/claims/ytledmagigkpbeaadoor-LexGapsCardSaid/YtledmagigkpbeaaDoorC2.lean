/-
  The longest plain name at the beginning of a text, and the library's name behind it.
-/
import Derived.Test.YtledmagigkpbeaaDoorC
import Derived.Lib.RabinKarpLaws
namespace Go.Proofs.YtledmagigkpbeaaDoor
open Go.RowKit

theorem emp_no {s : ByteArray} (h : 0 < s.size) : s.toList.isEmpty = false := by
  rw [Lib.toList_data]
  cases hl : s.data.toList with
  | nil => have : s.data.toList.length = 0 := by rw [hl]; rfl
           simp at this; have := ByteArray.size_data (a := s); simp_all
  | cons a l => rfl
theorem emp_yes {s : ByteArray} (h : ¬ 0 < s.size) : s.toList.isEmpty = true := by
  rw [Lib.toList_data]
  have : s.data.size = 0 := by rw [ByteArray.size_data]; omega
  rw [List.isEmpty_iff]; exact List.length_eq_zero_iff.1 (by simpa using this)

def PlainRel (s : ByteArray) (w : World) (l h i : Value) (wr : World) : Prop :=
  ∃ (k : Nat) (has : Bool) (best : Nat), k ≤ s.size ∧ i = .int .i64 (k : Int) ∧ h = .bool has ∧ l = .int .i64 (best : Int) ∧ plainGo s k has best = plainGo s 0 false 0 ∧ Below w.heap.size w wr

set_option maxHeartbeats 4000000 in
set_option maxRecDepth 100000 in
theorem plain_any (s : ByteArray) (hs : s.size ≤ 1048576) (w : World) :
    Calls Tryd.prog 96 #[.string s] w fun e w' => e = .returned (.int .i64 (plainN s : Int)) ∧ Below w.heap.size w w' := by
  by_cases h0 : 0 < s.size
  · have he := emp_no h0
    have hc := classesOf_any s[0] w
    by_cases hz : (bL s[0] || bB s[0]) = true
    · have hN : Hid (plainN s = plainGo s 0 false 0) := Lib.hid (by simp [plainN, h0, hz])
      cases hL : bL s[0]
      · have hB : bB s[0] = true := by simpa [hL] using hz
        clear hz
        go_enter Tryd.func96, Tryd.ntmps96
        go_wp2_with (go_at_call 64; refine hc.mono ?_; clear hc; rintro e w1 ⟨rfl, hb1⟩)
        clear hL hB he
        have hb2 : Below w.heap.size w (w1.alloc (.cells #[.bool false, .bool (bD s[0]), .bool (bW s[0]), .bool (bF s[0]), .bool true, .bool (bQ s[0])] 100)) := hb1.alloc hb1.size _
        go_loopw [4, 5, 6] (fun l h i wr => PlainRel s w l h i wr) (fun _ _ i _ => s.size - (intOf i).toNat)
        case atStart => exact ⟨0, false, 0, Nat.zero_le _, rfl, rfl, rfl, rfl, hb2⟩
        case round =>
          obtain ⟨k, has, best, hk, rfl, rfl, rfl, hr, hb⟩ := hrel
          have Hr := Lib.hid hr; clear hr
          by_cases hlt : k < s.size
          · have hc := classesOf_any s[k] wr
            cases hW : bW s[k]
            · go_wp2_with (go_at_call 64; refine hc.mono ?_; clear hc; rintro e w2 ⟨rfl, hb2⟩)
              go_ret
              exact ⟨ret_int (by rw [hN.out, ← Hr.out, plainGo_no hlt hW]), (hb.trans (hb2.mono hb.size)).alloc (by have := hb.size; have := hb2.size; omega) _⟩
            · have HS := Lib.hid (plainGo_go (has := has) (best := best) hlt hW)
              cases has <;> cases hL : bL s[k] <;> cases hF : bF s[k]
              all_goals
                go_wp2_with (go_at_call 64; refine hc.mono ?_; clear hc; rintro e w2 ⟨rfl, hb2⟩)
                go_roundw
                case rel => exact ⟨k + 1, _, _, by omega, by go_num, rfl, by first | rfl | go_num, by rw [← Hr.out, HS.out]; simp [hL, hF], (hb.trans (hb2.mono hb.size)).alloc (by have := hb.size; have := hb2.size; omega) _⟩
                case measure => simp [intOf]; omega
          · go_wp2
            go_ret
            exact ⟨ret_int (by rw [hN.out, ← Hr.out, plainGo_end hlt]), hb⟩
      · clear hz
        go_enter Tryd.func96, Tryd.ntmps96
        go_wp2_with (go_at_call 64; refine hc.mono ?_; clear hc; rintro e w1 ⟨rfl, hb1⟩)
        clear hL he
        go_loopw [4, 5, 6] (fun l h i wr => PlainRel s w l h i wr) (fun _ _ i _ => s.size - (intOf i).toNat)
        case atStart => exact ⟨0, false, 0, Nat.zero_le _, rfl, rfl, rfl, rfl, hb1.alloc hb1.size _⟩
        case round =>
          obtain ⟨k, has, best, hk, rfl, rfl, rfl, hr, hb⟩ := hrel
          have Hr := Lib.hid hr; clear hr
          by_cases hlt : k < s.size
          · have hc := classesOf_any s[k] wr
            cases hW : bW s[k]
            · go_wp2_with (go_at_call 64; refine hc.mono ?_; clear hc; rintro e w2 ⟨rfl, hb2⟩)
              go_ret
              exact ⟨ret_int (by rw [hN.out, ← Hr.out, plainGo_no hlt hW]), (hb.trans (hb2.mono hb.size)).alloc (by have := hb.size; have := hb2.size; omega) _⟩
            · have HS := Lib.hid (plainGo_go (has := has) (best := best) hlt hW)
              cases has <;> cases hL : bL s[k] <;> cases hF : bF s[k]
              all_goals
                go_wp2_with (go_at_call 64; refine hc.mono ?_; clear hc; rintro e w2 ⟨rfl, hb2⟩)
                go_roundw
                case rel => exact ⟨k + 1, _, _, by omega, by go_num, rfl, by first | rfl | go_num, by rw [← Hr.out, HS.out]; simp [hL, hF], (hb.trans (hb2.mono hb.size)).alloc (by have := hb.size; have := hb2.size; omega) _⟩
                case measure => simp [intOf]; omega
          · go_wp2
            go_ret
            exact ⟨ret_int (by rw [hN.out, ← Hr.out, plainGo_end hlt]), hb⟩
    · have hL : bL s[0] = false := by cases h : bL s[0] <;> simp_all
      have hB : bB s[0] = false := by cases h : bB s[0] <;> simp_all
      have hN : Hid (plainN s = 0) := Lib.hid (by simp [plainN, hL, hB])
      clear hz
      go_enter Tryd.func96, Tryd.ntmps96
      go_wp2_with (go_at_call 64; refine hc.mono ?_; clear hc; rintro e w1 ⟨rfl, hb1⟩)
      go_ret
      exact ⟨ret_int (by rw [hN.out]; rfl), hb1.alloc hb1.size _⟩
  · have he := emp_yes h0
    have hN : Hid (plainN s = 0) := Lib.hid (by simp [plainN, h0])
    go_enter Tryd.func96, Tryd.ntmps96
    go_wp2
    go_ret
    exact ⟨ret_int (by rw [hN.out]; rfl), Below.refl _ _⟩

theorem lib_sz (s : ByteArray) (a : Nat) : (s.extract a s.size).size = s.size - a := by simp
set_option maxHeartbeats 2000000 in
set_option maxRecDepth 100000 in
theorem library_any (s : ByteArray) (hs : s.size ≤ 1048576) (w : World) :
    Calls Tryd.prog 97 #[.string s] w fun e w' => e = .returned (.int .i64 (libN s : Int)) ∧ Below w.heap.size w w' := by
  by_cases h1 : 1 < s.size
  · have h1' : ¬ (s.size : Int) < 2 := by omega
    by_cases hA : s[0] = 64
    · have hA' : ((s[0].toNat : Int) != 64) = false := by rw [hA]; rfl
      have hc := classesOf_any s[1] w
      by_cases hQ : (bL s[1] || bD s[1]) = true
      · have hN : Hid (libN s = runN bQ s 1) := Lib.hid (by simp [libN, h1, hA, hQ])
        have hr := fun w => run_any (s.extract 1 s.size) 5 bQ (by rw [lib_sz]; omega) w (fun c w => cls5 _ _ _ _ _ _ w)
        have hE : Hid (runN bQ s 1 = runN bQ (s.extract 1 s.size) 0 + 1) := Lib.hid (runN_shift bQ s 1 (by omega))
        have hle := (runN_le bQ (s.extract 1 s.size) 0 (by omega)).2
        rw [lib_sz] at hle
        clear hA
        have Hr := Lib.hid hr; clear hr
        cases hL : bL s[1] <;> cases hD : bD s[1]
        case false.false => simp [hL, hD] at hQ
        all_goals
          clear hQ
          go_enter Tryd.func97, Tryd.ntmps97
          go_wp2_with (first | (go_at_call 64; refine hc.mono ?_; clear hc; rintro e w1 ⟨rfl, hb1⟩) | (go_at_call 98; refine (Hr.out _).mono ?_; rintro e w2 ⟨rfl, hb2⟩))
          go_ret
          exact ⟨ret_int (by rw [hN.out, hE.out]; omega), (hb1.alloc hb1.size _).trans (hb2.mono (by have := hb1.size; simp; omega))⟩
      · have hL : bL s[1] = false := by cases h : bL s[1] <;> simp_all
        have hD : bD s[1] = false := by cases h : bD s[1] <;> simp_all
        have hN : Hid (libN s = 0) := Lib.hid (by simp [libN, hA, hL, hD])
        clear hQ hA
        go_enter Tryd.func97, Tryd.ntmps97
        go_wp2_with (go_at_call 64; refine hc.mono ?_; clear hc; rintro e w1 ⟨rfl, hb1⟩)
        go_ret
        exact ⟨ret_int (by rw [hN.out]; rfl), hb1.alloc hb1.size _⟩
    · have hA' : ((s[0].toNat : Int) != 64) = true := by
        rw [bne_iff_ne]; intro h; apply hA; have : s[0].toNat = 64 := by omega
        exact UInt8.toNat_inj.1 this
      have hN : Hid (libN s = 0) := Lib.hid (by simp [libN, hA])
      clear hA
      go_enter Tryd.func97, Tryd.ntmps97
      go_wp2
      go_ret
      exact ⟨ret_int (by rw [hN.out]; rfl), Below.refl _ _⟩
  · have hN : Hid (libN s = 0) := Lib.hid (by simp [libN, h1])
    go_enter Tryd.func97, Tryd.ntmps97
    go_wp2
    go_ret
    exact ⟨ret_int (by rw [hN.out]; rfl), Below.refl _ _⟩
end Go.Proofs.YtledmagigkpbeaaDoor
