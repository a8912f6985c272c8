/-
  The smallest functions of the lexer: each returns what the plain function gives.
  The cursor's reading methods: they return what the text and the place give, and change nothing.
  The loops over a text: how many bytes of a class begin it, the longest plain name, the library's name, blanks.
  The longest plain name at the beginning of a text, and the library's name behind it.
  Blanks and nested comments.
  The decimal text of an integer, and the value of digits.
-/
import Derived.Test.YtafncodigpjkaaaGreatDoorChecked
import Derived.Test.YtafncodigpjkaaaGreatDoorShelf
import Derived.Test.YtafncodigpjkaaaGreatDoorXA
import Derived.Tactics
import Derived.Tactics2
import Derived.WalkKit
import Derived.Outline
import Derived.OwnWalk
import Derived.Below
import Derived.KernelRfl
import Derived.Deep.QuietTactic
import Derived.BigQuiet
import Derived.BigRegion
import Derived.RegionTactic
import Derived.Lib.Hide
import Derived.IntWalk
import Derived.WalkSmall
import Derived.LoopTactic
import Derived.Lib.RabinKarpLaws
import Derived.Lib.LaidTab
import Derived.WideLaws
import Derived.Lib.AtoiAll
import Derived.Lib.AtoiErrMem
namespace Go.Proofs.YtafncodigpjkaaaGreatDoor
section
open Go.RowKit

theorem idx_any (s : ByteArray) (c : UInt8) (w : World) :
    Calls Tryz.prog 91 #[.string s, .int .u8 (c.toNat : Int)] w fun e w' => e = .returned (.int .i64 (Lib.indexByte s.data.toList c)) ∧ w = w' := by
  refine (Tryz.strings_IndexByte s (c.toNat : Int) w).mono ?_
  rintro e w' ⟨rfl, rfl⟩
  exact ⟨by simp, rfl⟩

theorem isBlank_any (c : UInt8) (w : World) :
    Calls Tryz.prog 132 #[.int .u8 (c.toNat : Int)] w fun e w' => e = .returned (.bool (bBlank c)) ∧ w = w' := by
  go_enter Tryz.func132, Tryz.ntmps132
  go_wp2_with (go_at_call 91; refine (idx_any _ _ _).mono ?_; rintro e w' ⟨rfl, rfl⟩)
  go_ret
  exact ⟨rfl, rfl⟩

theorem isToken_any (k : Int) (w : World) :
    Calls Tryz.prog 117 #[.int .i64 k] w fun e w' => e = .returned (.bool (decide (1 ≤ k) && decide (k ≤ 6))) ∧ w = w' := by
  by_cases h1 : 1 ≤ k
  · go_enter Tryz.func117, Tryz.ntmps117
    go_wp2
    go_ret
    exact ⟨by simp [h1], rfl⟩
  · go_enter Tryz.func117, Tryz.ntmps117
    go_wp2
    go_ret
    exact ⟨by simp; omega, rfl⟩

set_option maxHeartbeats 4000000 in
theorem classesOf_any (c : UInt8) (w : World) :
    Calls Tryz.prog 153 #[.int .u8 (c.toNat : Int)] w fun e w' => e = .returned (.agg #[.bool (bL c), .bool (bD c), .bool (bW c), .bool (bF c), .bool (bB c), .bool (bQ c)]) ∧ Below w.heap.size w w' := by
  go_enter Tryz.func153, Tryz.ntmps153
  go_wp2_with (go_at_call 91; refine (idx_any _ _ _).mono ?_; rintro e w' ⟨rfl, rfl⟩)
  all_goals
    refine bodyPost_ret (v := .agg #[.bool (bL c), .bool (bD c), .bool (bW c), .bool (bF c), .bool (bB c), .bool (bQ c)]) ?_ rfl ⟨rfl, ((Below.refl _ _).alloc (Nat.le_refl _) _).alloc (by simp) _⟩
    simp [results, Tryz.results153, go_sem, bL, bD, bW, bF, bB, bQ, *]
    try grind

theorem cls0 (x0 x1 x2 x3 x4 x5 : Bool) (w : World) :
    (Instr.index 191 (.agg #[.bool x0, .bool x1, .bool x2, .bool x3, .bool x4, .bool x5]) (.int .i64 0)).run Tryz.prog w = .ok (.bool x0) w := by kernel_rfl
theorem cls1 (x0 x1 x2 x3 x4 x5 : Bool) (w : World) :
    (Instr.index 191 (.agg #[.bool x0, .bool x1, .bool x2, .bool x3, .bool x4, .bool x5]) (.int .i64 1)).run Tryz.prog w = .ok (.bool x1) w := by kernel_rfl
theorem cls2 (x0 x1 x2 x3 x4 x5 : Bool) (w : World) :
    (Instr.index 191 (.agg #[.bool x0, .bool x1, .bool x2, .bool x3, .bool x4, .bool x5]) (.int .i64 2)).run Tryz.prog w = .ok (.bool x2) w := by kernel_rfl
theorem cls5 (x0 x1 x2 x3 x4 x5 : Bool) (w : World) :
    (Instr.index 191 (.agg #[.bool x0, .bool x1, .bool x2, .bool x3, .bool x4, .bool x5]) (.int .i64 5)).run Tryz.prog w = .ok (.bool x5) w := by kernel_rfl

set_option maxRecDepth 100000 in
theorem spoils_any (c : UInt8) (w : World) :
    Calls Tryz.prog 152 #[.int .u8 (c.toNat : Int)] w fun e w' => e = .returned (.bool (bSpoils c)) ∧ Below w.heap.size w w' := by
  have hc := classesOf_any c w
  have hi := cls0
  go_enter Tryz.func152, Tryz.ntmps152
  go_wp2_with (first | (go_at_call 153; refine hc.mono ?_; clear hc; rintro e w' ⟨rfl, hb⟩) | (go_at_call 91; refine (idx_any _ _ _).mono ?_; rintro e w' ⟨rfl, rfl⟩))
  all_goals
    go_ret
    refine ⟨?_, hb⟩
    simp [bSpoils, *]
end

section
open Go.RowKit

theorem done_q (b i : Nat) (t : ByteArray) (w : World) (h0 : w.cell? ⟨b, 0, none⟩ = some (.string t)) (h1 : w.cell? ⟨b, 1, none⟩ = some (.int .i64 (i : Int))) :
    Calls Tryz.prog 115 #[.pointer (some ⟨b, 0, none⟩)] w fun e w' => e = .returned (.bool (decide (t.size ≤ i))) ∧ ∃ n, w' = w.drewN n := by
  go_enter Tryz.func115, Tryz.ntmps115
  go_wp2
  go_quiet (fail)
  go_wp2
  go_ret
  exact ⟨rfl, _, rfl⟩

theorem rest_q (b i : Nat) (t : ByteArray) (w : World) (hi : i ≤ t.size) (h0 : w.cell? ⟨b, 0, none⟩ = some (.string t)) (h1 : w.cell? ⟨b, 1, none⟩ = some (.int .i64 (i : Int))) :
    Calls Tryz.prog 149 #[.pointer (some ⟨b, 0, none⟩)] w fun e w' => e = .returned (.string (restB t i)) ∧ ∃ n, w' = w.drewN n := by
  have hi' : (i : Int) ≤ (t.size : Int) := by omega
  go_enter Tryz.func149, Tryz.ntmps149
  go_wp2
  go_quiet (fail)
  go_wp2
  go_ret
  exact ⟨rfl, _, rfl⟩

set_option maxHeartbeats 1000000 in
theorem window_q (b i : Nat) (t : ByteArray) (w : World) (hi : i ≤ t.size) (ht : t.size ≤ 140737488351232) (h0 : w.cell? ⟨b, 0, none⟩ = some (.string t)) (h1 : w.cell? ⟨b, 1, none⟩ = some (.int .i64 (i : Int))) :
    Calls Tryz.prog 172 #[.pointer (some ⟨b, 0, none⟩)] w fun e w' => e = .returned (.string (winB t i)) ∧ ∃ n, w' = w.drewN n := by
  have hi' : (i : Int) ≤ (t.size : Int) := by omega
  have hw : IntKind.i64.wrap ((i : Int) + 100) = (i : Int) + 100 := IntWalk.i64_in _ (by omega)
  by_cases hc : i + 100 ≤ t.size
  · have hm : min ((i : Int) + 100) (t.size : Int) = (i : Int) + 100 := by omega
    have hm2 : min (i + 100) t.size = i + 100 := by omega
    have h3 : (i : Int) ≤ (i : Int) + 100 := by omega
    have h4 : (i : Int) + 100 ≤ (t.size : Int) := by omega
    go_enter Tryz.func172, Tryz.ntmps172
    go_wp2
    go_quiet (fail)
    go_wp2
    go_ret
    exact ⟨by rw [winB, hm2]; rfl, _, rfl⟩
  · have hm : min ((i : Int) + 100) (t.size : Int) = (t.size : Int) := by omega
    have hm2 : min (i + 100) t.size = t.size := by omega
    go_enter Tryz.func172, Tryz.ntmps172
    go_wp2
    go_quiet (fail)
    go_wp2
    go_ret
    exact ⟨by rw [winB, hm2]; rfl, _, rfl⟩

theorem ahead_q (b i n : Nat) (t : ByteArray) (w : World) (hi : i ≤ 140737488351232) (hn : n ≤ 140737488351232) (h0 : w.cell? ⟨b, 0, none⟩ = some (.string t)) (h1 : w.cell? ⟨b, 1, none⟩ = some (.int .i64 (i : Int))) :
    Calls Tryz.prog 133 #[.pointer (some ⟨b, 0, none⟩), .int .i64 (n : Int)] w fun e w' => e = .returned (.int .u8 ((aheadB t (i + n)).toNat : Int)) ∧ ∃ n, w' = w.drewN n := by
  have hw : IntKind.i64.wrap ((i : Int) + (n : Int)) = (i : Int) + (n : Int) := IntWalk.i64_in _ (by omega)
  have ht : ((i : Int) + (n : Int)).toNat = i + n := by omega
  have hp : (0 : Int) ≤ (i : Int) + (n : Int) := by omega
  by_cases hc : i + n < t.size
  · have hl : (i : Int) + (n : Int) < (t.size : Int) := by omega
    have hg : decide ((t.size : Int) ≤ (i : Int) + (n : Int)) = false := by simp; omega
    have he := aheadB_lt hc
    have He := Lib.hid he; clear he
    go_enter Tryz.func133, Tryz.ntmps133
    go_wp2
    go_quiet (fail)
    go_wp2
    go_quiet (fail)
    go_wp2
    go_ret
    exact ⟨by rw [He.out]; rfl, _, World.drewN_drewN _ _ _⟩
  · have hg : decide ((t.size : Int) ≤ (i : Int) + (n : Int)) = true := by simp; omega
    have he := aheadB_ge (t := t) (k := i + n) (by omega)
    have He := Lib.hid he; clear he
    go_enter Tryz.func133, Tryz.ntmps133
    go_wp2
    go_quiet (fail)
    go_wp2
    go_ret
    exact ⟨by rw [He.out]; rfl, _, rfl⟩


theorem piece_any (b k a l : Nat) (t : ByteArray) (w : World) (hb : b < w.heap.size) (ha : a + l ≤ t.size) (ht : t.size ≤ 140737488351232) (h0 : w.cell? ⟨b, 0, none⟩ = some (.string t)) :
    Calls Tryz.prog 151 #[.pointer (some ⟨b, 0, none⟩), .agg #[.int .i64 (k : Int), .int .i64 (a : Int), .int .i64 (l : Int)]] w fun e w' => e = .returned (.string (cutB t a l)) ∧ Below w.heap.size w w' := by
  have hw : IntKind.i64.wrap ((a : Int) + (l : Int)) = (a : Int) + (l : Int) := IntWalk.i64_in _ (by omega)
  have h3 : (a : Int) ≤ (a : Int) + (l : Int) := by omega
  have h4 : (a : Int) + (l : Int) ≤ (t.size : Int) := by omega
  have hx : ∀ o, (w.alloc o).cell? ⟨b, 0, none⟩ = some (.string t) := fun o => (((Below.refl _ w).alloc (Nat.le_refl _) o).cell (p := ⟨b, 0, none⟩) hb).trans h0
  have ht2 : ((a : Int) + (l : Int)).toNat = a + l := by omega
  go_enter Tryz.func151, Tryz.ntmps151
  go_wp2
  go_quiet (fail)
  go_wp2
  go_ret
  refine ⟨?_, ?_⟩
  · rfl
  · exact below_drewN ((Below.refl _ w).alloc (Nat.le_refl _) _) _

theorem begins_any (b i : Nat) (t p : ByteArray) (w : World) (hi : i ≤ t.size) (h0 : w.cell? ⟨b, 0, none⟩ = some (.string t)) (h1 : w.cell? ⟨b, 1, none⟩ = some (.int .i64 (i : Int))) :
    Calls Tryz.prog 129 #[.pointer (some ⟨b, 0, none⟩), .string p] w fun e w' => e = .returned (.bool (Lib.hasPrefix (restB t i).data.toList p.data.toList)) ∧ ∃ n, w' = w.drewN n := by
  go_enter Tryz.func129, Tryz.ntmps129
  go_wp2_with (first | (go_at_call 149; refine (rest_q b i t _ hi h0 h1).mono ?_; rintro e w1 ⟨rfl, n, rfl⟩) | (go_at_call 148; refine (Tryz.strings_HasPrefix _ _ _).mono ?_; rintro e w2 ⟨rfl, rfl⟩))
  go_ret
  exact ⟨rfl, _, rfl⟩

theorem joins_any (b i n : Nat) (t : ByteArray) (w : World) (hi : i ≤ 140737488351232) (hn : n ≤ 140737488351232) (h0 : w.cell? ⟨b, 0, none⟩ = some (.string t)) (h1 : w.cell? ⟨b, 1, none⟩ = some (.int .i64 (i : Int))) :
    Calls Tryz.prog 176 #[.pointer (some ⟨b, 0, none⟩), .int .i64 (n : Int)] w fun e w' => e = .returned (.bool (joinsB (aheadB t (i + n)))) ∧ ∃ n, w' = w.drewN n := by
  go_enter Tryz.func176, Tryz.ntmps176
  go_wp2_with (go_at_call 133; refine (ahead_q b i n t _ hi hn h0 h1).mono ?_; rintro e w1 ⟨rfl, n, rfl⟩)
  all_goals
    go_ret
    refine ⟨?_, _, rfl⟩
    simp [joinsB, *]

theorem line_any (b i : Nat) (t : ByteArray) (w : World) (hi : i ≤ t.size) (h0 : w.cell? ⟨b, 0, none⟩ = some (.string t)) (h1 : w.cell? ⟨b, 1, none⟩ = some (.int .i64 (i : Int))) :
    Calls Tryz.prog 130 #[.pointer (some ⟨b, 0, none⟩)] w fun e w' => e = .returned (.int .i64 (lineN (restB t i) : Int)) ∧ ∃ n, w' = w.drewN n := by
  go_enter Tryz.func130, Tryz.ntmps130
  go_wp2_with (first | (go_at_call 149; refine (rest_q b i t _ hi h0 h1).mono ?_; rintro e w1 ⟨rfl, n, rfl⟩) | (go_at_call 91; refine (idx_any _ (10 : UInt8) _).mono ?_; rintro e w2 ⟨rfl, rfl⟩))
  all_goals
    go_ret
    refine ⟨?_, _, rfl⟩
  · have h : 0 ≤ Lib.indexByte (restB t i).data.toList 10 := by assumption
    simp [lineN, h]; omega
  · have h : ¬ 0 ≤ Lib.indexByte (restB t i).data.toList 10 := by omega
    simp only [lineN, if_neg h]; rfl
end

section
open Go.RowKit

theorem ret_int {k : IntKind} {a b : Int} (h : a = b) : Ending.returned (.int k a) = .returned (.int k b) := by rw [h]

set_option maxHeartbeats 1000000 in
set_option maxRecDepth 100000 in
theorem run_any (s : ByteArray) (cl : Int) (p : UInt8 → Bool) (hs : s.size ≤ 140737488351232) (w : World)
    (hx : ∀ c w, (Instr.index 191 (.agg #[.bool (bL c), .bool (bD c), .bool (bW c), .bool (bF c), .bool (bB c), .bool (bQ c)]) (.int .i64 cl)).run Tryz.prog w = .ok (.bool (p c)) w) :
    Calls Tryz.prog 175 #[.string s, .int .i64 cl] w fun e w' => e = .returned (.int .i64 (runN p s 0 : Int)) ∧ Below w.heap.size w w' := by
  go_enter Tryz.func175, Tryz.ntmps175
  go_wp2
  go_loopw [5] (fun n wr => ∃ k : Nat, k ≤ s.size ∧ n = .int .i64 k ∧ Hid (runN p s k = runN p s 0) ∧ Below w.heap.size w wr) (fun n _ => s.size - (intOf n).toNat)
  case atStart => exact ⟨0, Nat.zero_le _, rfl, Lib.hid rfl, Below.refl _ _⟩
  case round =>
    obtain ⟨k, hk, rfl, hr, hb⟩ := hrel
    by_cases hlt : k < s.size
    · have hc := classesOf_any s[k] wr
      by_cases hp : p s[k] = true
      · go_wp2_with (go_at_call 153; refine hc.mono ?_; clear hc; rintro e w1 ⟨rfl, hb1⟩)
        go_roundw
        case rel => exact ⟨k + 1, by omega, by go_num, Lib.hid (by rw [← runN_go hlt hp]; exact hr.out), hb.trans (hb1.mono hb.size)⟩
        case measure => simp [intOf]; omega
      · have hp' : p s[k] = false := by simpa using hp
        go_wp2_with (go_at_call 153; refine hc.mono ?_; clear hc; rintro e w1 ⟨rfl, hb1⟩)
        go_ret
        exact ⟨ret_int (by rw [← hr.out, runN_no hlt hp']), hb.trans (hb1.mono hb.size)⟩
    · go_wp2
      go_ret
      exact ⟨ret_int (by rw [← hr.out, runN_end hlt]), hb⟩
end

section
open Go.RowKit

theorem emp_no {s : ByteArray} (h : 0 < s.size) : s.toList.isEmpty = false := by
  rw [Lib.toList_data]
  cases hl : s.data.toList with
  | nil => have : s.data.toList.length = 0 := by rw [hl]; rfl
           simp at this; have := ByteArray.size_data (a := s); simp_all
  | cons a l => rfl
theorem emp_yes {s : ByteArray} (h : ¬ 0 < s.size) : s.toList.isEmpty = true := by
  rw [Lib.toList_data]
  have : s.data.size = 0 := by rw [ByteArray.size_data]; omega
  rw [List.isEmpty_iff]; exact List.length_eq_zero_iff.1 (by simpa using this)

def PlainRel (s : ByteArray) (w : World) (l h i : Value) (wr : World) : Prop :=
  ∃ (k : Nat) (has : Bool) (best : Nat), k ≤ s.size ∧ i = .int .i64 (k : Int) ∧ h = .bool has ∧ l = .int .i64 (best : Int) ∧ plainGo s k has best = plainGo s 0 false 0 ∧ Below w.heap.size w wr

set_option maxHeartbeats 4000000 in
set_option maxRecDepth 100000 in
theorem plain_any (s : ByteArray) (hs : s.size ≤ 140737488351232) (w : World) :
    Calls Tryz.prog 173 #[.string s] w fun e w' => e = .returned (.int .i64 (plainN s : Int)) ∧ Below w.heap.size w w' := by
  by_cases h0 : 0 < s.size
  · have he := emp_no h0
    have hc := classesOf_any s[0] w
    by_cases hz : (bL s[0] || bB s[0]) = true
    · have hN : Hid (plainN s = plainGo s 0 false 0) := Lib.hid (by simp [plainN, h0, hz])
      cases hL : bL s[0]
      · have hB : bB s[0] = true := by simpa [hL] using hz
        clear hz
        go_enter Tryz.func173, Tryz.ntmps173
        go_wp2_with (go_at_call 153; refine hc.mono ?_; clear hc; rintro e w1 ⟨rfl, hb1⟩)
        clear hL hB he
        have hb2 : Below w.heap.size w (w1.alloc (.cells #[.bool false, .bool (bD s[0]), .bool (bW s[0]), .bool (bF s[0]), .bool true, .bool (bQ s[0])] 191)) := hb1.alloc hb1.size _
        go_loopw [4, 5, 6] (fun l h i wr => PlainRel s w l h i wr) (fun _ _ i _ => s.size - (intOf i).toNat)
        case atStart => exact ⟨0, false, 0, Nat.zero_le _, rfl, rfl, rfl, rfl, hb2⟩
        case round =>
          obtain ⟨k, has, best, hk, rfl, rfl, rfl, hr, hb⟩ := hrel
          have Hr := Lib.hid hr; clear hr
          by_cases hlt : k < s.size
          · have hc := classesOf_any s[k] wr
            cases hW : bW s[k]
            · go_wp2_with (go_at_call 153; refine hc.mono ?_; clear hc; rintro e w2 ⟨rfl, hb2⟩)
              go_ret
              exact ⟨ret_int (by rw [hN.out, ← Hr.out, plainGo_no hlt hW]), (hb.trans (hb2.mono hb.size)).alloc (by have := hb.size; have := hb2.size; omega) _⟩
            · have HS := Lib.hid (plainGo_go (has := has) (best := best) hlt hW)
              cases has <;> cases hL : bL s[k] <;> cases hF : bF s[k]
              all_goals
                go_wp2_with (go_at_call 153; refine hc.mono ?_; clear hc; rintro e w2 ⟨rfl, hb2⟩)
                go_roundw
                case rel => exact ⟨k + 1, _, _, by omega, by go_num, rfl, by first | rfl | go_num, by rw [← Hr.out, HS.out]; simp [hL, hF], (hb.trans (hb2.mono hb.size)).alloc (by have := hb.size; have := hb2.size; omega) _⟩
                case measure => simp [intOf]; omega
          · go_wp2
            go_ret
            exact ⟨ret_int (by rw [hN.out, ← Hr.out, plainGo_end hlt]), hb⟩
      · clear hz
        go_enter Tryz.func173, Tryz.ntmps173
        go_wp2_with (go_at_call 153; refine hc.mono ?_; clear hc; rintro e w1 ⟨rfl, hb1⟩)
        clear hL he
        go_loopw [4, 5, 6] (fun l h i wr => PlainRel s w l h i wr) (fun _ _ i _ => s.size - (intOf i).toNat)
        case atStart => exact ⟨0, false, 0, Nat.zero_le _, rfl, rfl, rfl, rfl, hb1.alloc hb1.size _⟩
        case round =>
          obtain ⟨k, has, best, hk, rfl, rfl, rfl, hr, hb⟩ := hrel
          have Hr := Lib.hid hr; clear hr
          by_cases hlt : k < s.size
          · have hc := classesOf_any s[k] wr
            cases hW : bW s[k]
            · go_wp2_with (go_at_call 153; refine hc.mono ?_; clear hc; rintro e w2 ⟨rfl, hb2⟩)
              go_ret
              exact ⟨ret_int (by rw [hN.out, ← Hr.out, plainGo_no hlt hW]), (hb.trans (hb2.mono hb.size)).alloc (by have := hb.size; have := hb2.size; omega) _⟩
            · have HS := Lib.hid (plainGo_go (has := has) (best := best) hlt hW)
              cases has <;> cases hL : bL s[k] <;> cases hF : bF s[k]
              all_goals
                go_wp2_with (go_at_call 153; refine hc.mono ?_; clear hc; rintro e w2 ⟨rfl, hb2⟩)
                go_roundw
                case rel => exact ⟨k + 1, _, _, by omega, by go_num, rfl, by first | rfl | go_num, by rw [← Hr.out, HS.out]; simp [hL, hF], (hb.trans (hb2.mono hb.size)).alloc (by have := hb.size; have := hb2.size; omega) _⟩
                case measure => simp [intOf]; omega
          · go_wp2
            go_ret
            exact ⟨ret_int (by rw [hN.out, ← Hr.out, plainGo_end hlt]), hb⟩
    · have hL : bL s[0] = false := by cases h : bL s[0] <;> simp_all
      have hB : bB s[0] = false := by cases h : bB s[0] <;> simp_all
      have hN : Hid (plainN s = 0) := Lib.hid (by simp [plainN, hL, hB])
      clear hz
      go_enter Tryz.func173, Tryz.ntmps173
      go_wp2_with (go_at_call 153; refine hc.mono ?_; clear hc; rintro e w1 ⟨rfl, hb1⟩)
      go_ret
      exact ⟨ret_int (by rw [hN.out]; rfl), hb1.alloc hb1.size _⟩
  · have he := emp_yes h0
    have hN : Hid (plainN s = 0) := Lib.hid (by simp [plainN, h0])
    go_enter Tryz.func173, Tryz.ntmps173
    go_wp2
    go_ret
    exact ⟨ret_int (by rw [hN.out]; rfl), Below.refl _ _⟩

theorem lib_sz (s : ByteArray) (a : Nat) : (s.extract a s.size).size = s.size - a := by simp
set_option maxHeartbeats 2000000 in
set_option maxRecDepth 100000 in
theorem library_any (s : ByteArray) (hs : s.size ≤ 140737488351232) (w : World) :
    Calls Tryz.prog 174 #[.string s] w fun e w' => e = .returned (.int .i64 (libN s : Int)) ∧ Below w.heap.size w w' := by
  by_cases h1 : 1 < s.size
  · have h1' : ¬ (s.size : Int) < 2 := by omega
    by_cases hA : s[0] = 64
    · have hA' : ((s[0].toNat : Int) != 64) = false := by rw [hA]; rfl
      have hc := classesOf_any s[1] w
      by_cases hQ : (bL s[1] || bD s[1]) = true
      · have hN : Hid (libN s = runN bQ s 1) := Lib.hid (by simp [libN, h1, hA, hQ])
        have hr := fun w => run_any (s.extract 1 s.size) 5 bQ (by rw [lib_sz]; omega) w (fun c w => cls5 _ _ _ _ _ _ w)
        have hE : Hid (runN bQ s 1 = runN bQ (s.extract 1 s.size) 0 + 1) := Lib.hid (runN_shift bQ s 1 (by omega))
        have hle := (runN_le bQ (s.extract 1 s.size) 0 (by omega)).2
        rw [lib_sz] at hle
        clear hA
        have Hr := Lib.hid hr; clear hr
        cases hL : bL s[1] <;> cases hD : bD s[1]
        case false.false => simp [hL, hD] at hQ
        all_goals
          clear hQ
          go_enter Tryz.func174, Tryz.ntmps174
          go_wp2_with (first | (go_at_call 153; refine hc.mono ?_; clear hc; rintro e w1 ⟨rfl, hb1⟩) | (go_at_call 175; refine (Hr.out _).mono ?_; rintro e w2 ⟨rfl, hb2⟩))
          go_ret
          exact ⟨ret_int (by rw [hN.out, hE.out]; omega), (hb1.alloc hb1.size _).trans (hb2.mono (by have := hb1.size; simp; omega))⟩
      · have hL : bL s[1] = false := by cases h : bL s[1] <;> simp_all
        have hD : bD s[1] = false := by cases h : bD s[1] <;> simp_all
        have hN : Hid (libN s = 0) := Lib.hid (by simp [libN, hA, hL, hD])
        clear hQ hA
        go_enter Tryz.func174, Tryz.ntmps174
        go_wp2_with (go_at_call 153; refine hc.mono ?_; clear hc; rintro e w1 ⟨rfl, hb1⟩)
        go_ret
        exact ⟨ret_int (by rw [hN.out]; rfl), hb1.alloc hb1.size _⟩
    · have hA' : ((s[0].toNat : Int) != 64) = true := by
        rw [bne_iff_ne]; intro h; apply hA; have : s[0].toNat = 64 := by omega
        exact UInt8.toNat_inj.1 this
      have hN : Hid (libN s = 0) := Lib.hid (by simp [libN, hA])
      clear hA
      go_enter Tryz.func174, Tryz.ntmps174
      go_wp2
      go_ret
      exact ⟨ret_int (by rw [hN.out]; rfl), Below.refl _ _⟩
  · have hN : Hid (libN s = 0) := Lib.hid (by simp [libN, h1])
    go_enter Tryz.func174, Tryz.ntmps174
    go_wp2
    go_ret
    exact ⟨ret_int (by rw [hN.out]; rfl), Below.refl _ _⟩
end

section
open Go.RowKit

set_option maxHeartbeats 1000000 in
set_option maxRecDepth 100000 in
theorem blanks_q (b i : Nat) (t : ByteArray) (w : World) (hi : i < t.size) (ht : t.size ≤ 140737488351232) (h0 : w.cell? ⟨b, 0, none⟩ = some (.string t)) (h1 : w.cell? ⟨b, 1, none⟩ = some (.int .i64 (i : Int))) :
    Calls Tryz.prog 134 #[.pointer (some ⟨b, 0, none⟩)] w fun e w' => e = .returned (.int .i64 (blanksN t i : Int)) ∧ ∃ n, w' = w.drewN n := by
  go_enter Tryz.func134, Tryz.ntmps134
  go_wp2
  go_loopw [3] (fun n wr => ∃ k : Nat, i + k ≤ t.size ∧ n = .int .i64 k ∧ Hid (runN bBlank t (i + k) = runN bBlank t (i + 1)) ∧ ∃ q, wr = w.drewN q) (fun n _ => t.size - i - (intOf n).toNat)
  case atStart => exact ⟨1, by omega, rfl, Lib.hid rfl, 0, rfl⟩
  case round =>
    obtain ⟨k, hk, rfl, hr, q, rfl⟩ := hrel
    have ha := ahead_q b i k t (w.drewN q) (by omega) (by omega) h0 h1
    by_cases hlt : i + k < t.size
    · cases hp : bBlank (aheadB t (i + k))
      · have HE := Lib.hid (runN_no hlt (by rw [← aheadB_lt hlt]; exact hp))
        go_wp2_with (first | (go_at_call 133; refine ha.mono ?_; clear ha; rintro e w1 ⟨rfl, q1, rfl⟩) | (go_at_call 132; refine (isBlank_any _ _).mono ?_; rintro e w2 ⟨rfl, rfl⟩))
        go_ret
        exact ⟨ret_int (by rw [blanksN, ← hr.out, HE.out]; omega), _, rfl⟩
      · have HE := Lib.hid (runN_go hlt (by rw [← aheadB_lt hlt]; exact hp))
        go_wp2_with (first | (go_at_call 133; refine ha.mono ?_; clear ha; rintro e w1 ⟨rfl, q1, rfl⟩) | (go_at_call 132; refine (isBlank_any _ _).mono ?_; rintro e w2 ⟨rfl, rfl⟩))
        go_roundw
        case rel => exact ⟨k + 1, by omega, by go_num, Lib.hid (by rw [← hr.out, HE.out]; rfl), _, rfl⟩
        case measure => simp [intOf]; omega
    · have hp : bBlank (aheadB t (i + k)) = false := by rw [aheadB_ge (by omega)]; decide
      have HE := Lib.hid (runN_end (p := bBlank) hlt)
      go_wp2_with (first | (go_at_call 133; refine ha.mono ?_; clear ha; rintro e w1 ⟨rfl, q1, rfl⟩) | (go_at_call 132; refine (isBlank_any _ _).mono ?_; rintro e w2 ⟨rfl, rfl⟩))
      go_ret
      exact ⟨ret_int (by rw [blanksN, ← hr.out, HE.out]; omega), _, rfl⟩

/-- What the panic with a refusal ends in. -/
def refusedEnd (i c : Nat) : Ending := .panicked [{ v := .iface 151 (.agg #[.int .i64 (i : Int), .int .i64 (c : Int)]), recovered := false }]
def nestedEnd (i : Nat) : Except Nat Nat → Ending
  | .ok n => .returned (.int .i64 (n : Int))
  | .error c => refusedEnd i c

set_option maxHeartbeats 2000000 in
set_option maxRecDepth 100000 in
theorem nested_q (b i : Nat) (t : ByteArray) (w : World) (hi : i ≤ t.size) (ht : t.size ≤ 140737488351232) (h0 : w.cell? ⟨b, 0, none⟩ = some (.string t)) (h1 : w.cell? ⟨b, 1, none⟩ = some (.int .i64 (i : Int))) :
    Calls Tryz.prog 131 #[.pointer (some ⟨b, 0, none⟩)] w fun e w' => e = nestedEnd i (nestedGo (restB t i) 0 0) ∧ ∃ n, w' = w.drewN n := by
  have hrs : (restB t i).size ≤ 140737488351232 := by rw [rest_size]; omega
  have hcr := rest_q b i t w hi h0 h1
  generalize restB t i = r at *
  go_enter Tryz.func131, Tryz.ntmps131
  go_wp2_with (go_at_call 149; refine hcr.mono ?_; clear hcr; rintro e w1 ⟨rfl, n, rfl⟩)
  go_loopw [4, 5] (fun o i wr => ∃ (k : Nat) (m : Int), k ≤ r.size ∧ -(k : Int) ≤ m ∧ m ≤ 100 ∧ i = .int .i64 k ∧ o = .int .i64 m ∧ Hid (nestedGo r k m = nestedGo r 0 0) ∧ ∃ q, wr = w.drewN q) (fun _ i _ => r.size - (intOf i).toNat)
  case atStart => exact ⟨0, 0, by omega, by omega, by omega, rfl, rfl, Lib.hid rfl, _, rfl⟩
  case round =>
    obtain ⟨k, m, hk, hm1, hm2, rfl, rfl, hr, q, rfl⟩ := hrel
    by_cases hlt : k + 2 ≤ r.size
    · have hmn : min ((k : Int) + 2) (r.size : Int) = (k : Int) + 2 := by omega
      have hN : Hid (min (k + 2) r.size = k + 2) := Lib.hid (by omega)
      have hw : IntKind.i64.wrap ((k : Int) + 2) = (k : Int) + 2 := IntWalk.i64_in _ (by omega)
      have h3 : (k : Int) ≤ (k : Int) + 2 := by omega
      have h4 : (k : Int) + 2 ≤ r.size := by omega
      have hkl : k < r.size := by omega
      cases ho : ((r.extract k (k + 2)).toList == [47, 42])
      · cases hc : ((r.extract k (k + 2)).toList == [42, 47])
        · have HE := Lib.hid (nested_on (m := m) hkl (by rw [hN.out]; exact ho) (by rw [hN.out]; exact hc))
          go_wp2
          go_roundw
          case rel => exact ⟨k + 1, m, by omega, by omega, by omega, by go_num, rfl, Lib.hid (by rw [← HE.out]; exact hr.out), _, rfl⟩
          case measure => simp [intOf]; omega
        · cases hz : (m - 1 == 0)
          · have HE := Lib.hid (nested_less (m := m) hkl (by rw [hN.out]; exact ho) (by rw [hN.out]; exact hc) hz)
            go_wp2
            go_roundw
            case rel => exact ⟨k + 2, m - 1, by omega, by omega, by omega, by go_num, rfl, Lib.hid (by rw [← HE.out]; exact hr.out), _, rfl⟩
            case measure => simp [intOf]; omega
          · have HE := Lib.hid (nested_shut (m := m) hkl (by rw [hN.out]; exact ho) (by rw [hN.out]; exact hc) hz)
            go_wp2
            go_ret
            exact ⟨by rw [← hr.out, HE.out]; rfl, _, rfl⟩
      · by_cases hd : 100 < m + 1
        · have HE := Lib.hid (nested_deep (m := m) hkl (by rw [hN.out]; exact ho) hd)
          go_wp2
          exact ⟨rfl, by rw [← hr.out, HE.out]; rfl, _, rfl⟩
        · have HE := Lib.hid (nested_open (m := m) hkl (by rw [hN.out]; exact ho) hd)
          go_wp2
          go_roundw
          case rel => exact ⟨k + 2, m + 1, by omega, by omega, by omega, by go_num, rfl, Lib.hid (by rw [← HE.out]; exact hr.out), _, rfl⟩
          case measure => simp [intOf]; omega
    · by_cases hkl : k < r.size
      · have hmn : min ((k : Int) + 2) (r.size : Int) = (r.size : Int) := by omega
        have hN : Hid (min (k + 2) r.size = r.size) := Lib.hid (by omega)
        have hw : IntKind.i64.wrap ((k : Int) + 2) = (k : Int) + 2 := IntWalk.i64_in _ (by omega)
        have ho := two_short (s := r) (i := k) (by omega) 47 42
        have hc := two_short (s := r) (i := k) (by omega) 42 47
        have HE := Lib.hid (nested_on (m := m) hkl (by rw [hN.out]; exact ho) (by rw [hN.out]; exact hc))
        go_wp2
        go_roundw
        case rel => exact ⟨k + 1, m, by omega, by omega, by omega, by go_num, rfl, Lib.hid (by rw [← HE.out]; exact hr.out), _, rfl⟩
        case measure => simp [intOf]; omega
      · have HE := Lib.hid (nested_end (m := m) hkl)
        go_wp2
        exact ⟨rfl, by rw [← hr.out, HE.out]; rfl, _, rfl⟩
end

section
open Go.RowKit

/-- What the library's variables hold. -/
structure Env (w : World) : Prop where
  tab : Lib.TabIs Tryz.prog w "internal/strconv.uint64pow10" .u64 Lib.pow10Tab
  max : ∃ m : Int, w.cell? ⟨0, 0, none⟩ = some (.int .i64 m)
  syn : ∃ te pe, w.cell? ⟨1, 0, none⟩ = some (.iface te pe)
  ran : ∃ te pe, w.cell? ⟨2, 0, none⟩ = some (.iface te pe)
  size : 10 < w.heap.size

theorem Env.below {w w' : World} {B : Nat} (E : Env w) (hB : 10 < B) (h : Below B w w') : Env w' := by
  obtain ⟨m, hm⟩ := E.max
  obtain ⟨a, b, hs⟩ := E.syn
  obtain ⟨c, d, hr⟩ := E.ran
  have := h.size
  have := E.size
  exact ⟨var?_below h (g := 3) (by kernel_rfl) (by omega) E.tab, ⟨m, (h.cell (p := ⟨0, 0, none⟩) (by simp; omega)).trans hm⟩,
    ⟨a, b, (h.cell (p := ⟨1, 0, none⟩) (by simp; omega)).trans hs⟩, ⟨c, d, (h.cell (p := ⟨2, 0, none⟩) (by simp; omega)).trans hr⟩, by omega⟩

theorem below_grown (w : World) (k : Nat) (os : Array Obj) : Below w.heap.size w (Sort.grow (w.drewN k) os) := by
  refine ⟨rfl, rfl, rfl, by simp [Sort.grow], fun j hj => ?_⟩
  simp [Sort.grow, Array.getElem?_append, hj]

theorem digits_any (n : Int) (h0 : -9223372036854775808 ≤ n) (h1 : n ≤ 9223372036854775807) (w : World) (E : Env w) :
    Calls Tryz.prog 119 #[.int .i64 n] w fun e w' => e = .returned (.string ⟨(Lib.itoa n).toArray⟩) ∧ Below w.heap.size w w' := by
  have hc := Tryz.strconv_Itoa n h0 h1 w E.tab
  have Hc := Lib.hid hc
  clear hc E h0 h1
  go_enter Tryz.func119, Tryz.ntmps119
  go_wp2_with fail
  refine Hc.out.mono ?_
  rintro e w1 ⟨rfl, k, os, rfl⟩
  go_wp2_with fail
  go_ret
  exact ⟨rfl, below_grown _ _ _⟩

theorem atoi_bounds {l : List UInt8} {v : Int} (h : Lib.atoiAll l = .ok v) : -9223372036854775808 ≤ v ∧ v ≤ 9223372036854775807 := by
  unfold Lib.atoiAll at h
  split at h
  · cases h
  · simp only at h
    split at h
    · cases h
    · cases h
    · split at h
      · cases h
      · split at h
        · cases h
        · injection h with h
          split at h <;> omega

set_option maxHeartbeats 1000000 in
theorem value_any (s : ByteArray) (hs : s.size ≤ 140737488351232) (w : World) (E : Env w) :
    Calls Tryz.prog 96 #[.string s] w fun e w' => e = .returned (.tuple #[.int .i64 ((valO s).getD 0), .bool (valO s).isSome]) ∧ Below w.heap.size w w' := by
  obtain ⟨a, b, hsy⟩ := E.syn
  obtain ⟨c, d, hra⟩ := E.ran
  cases hv : Lib.atoiAll s.data.toList with
  | ok v =>
    obtain ⟨v0, v1⟩ := atoi_bounds hv
    have hN : valO s = if Lib.itoa v = s.data.toList then some v else none := by simp [valO, hv]
    have hc := Tryz.strconv_Atoi_ok s (by omega) v hv w
    have hd := fun W (hB : Below w.heap.size w W) => digits_any v v0 v1 W (E.below E.size hB)
    have Hc := Lib.hid hc; have Hd := Lib.hid hd; have HN := Lib.hid hN
    clear hc hd hN hsy hra hv
    go_enter Tryz.func96, Tryz.ntmps96
    go_wp2_with fail
    refine Hc.out.mono ?_
    rintro e w1 ⟨rfl, hw⟩
    have hB : Below w.heap.size w w1 := by
      rcases hw with rfl | ⟨t, rfl⟩
      · exact Below.refl _ _
      · exact Lib.bytesWorld_below _ _ _
    clear hw
    by_cases hq : Lib.itoa v = s.data.toList
    · have hq' : (!Lib.itoa v == s.toList) = false := by rw [ByteArray.toList_eq, hq]; simp
      have HV : Hid (valO s = some v) := Lib.hid (by rw [HN.out, if_pos hq])
      clear hq HN
      go_wp2_with fail
      refine (Hd.out _ hB).mono ?_
      rintro e w2 ⟨rfl, hB2⟩
      go_wp2_with fail
      go_ret2
      exact ⟨by rw [HV.out]; rfl, hB.trans (hB2.mono hB.size)⟩
    · have hq' : (!Lib.itoa v == s.toList) = true := by rw [ByteArray.toList_eq]; simp [hq]
      have HV : Hid (valO s = none) := Lib.hid (by rw [HN.out, if_neg hq])
      clear hq HN
      go_wp2_with fail
      refine (Hd.out _ hB).mono ?_
      rintro e w2 ⟨rfl, hB2⟩
      go_wp2_with fail
      go_ret2
      exact ⟨by rw [HV.out]; rfl, hB.trans (hB2.mono hB.size)⟩
  | range =>
    have HV : Hid (valO s = none) := Lib.hid (by simp [valO, hv])
    have hc := Tryz.strconv_Atoi_range s (by omega) hv _ w hra (.inr ⟨c, d, rfl⟩)
    have Hc := Lib.hid hc
    clear hc hra hsy hv
    go_enter Tryz.func96, Tryz.ntmps96
    go_wp2_with fail
    refine Hc.out.mono ?_
    rintro e w1 ⟨N, rfl, hN1, hN2, hB⟩
    clear hN1 hN2
    go_wp2_with fail
    go_ret2
    exact ⟨by rw [HV.out]; rfl, hB⟩
  | _ =>
    have HV : Hid (valO s = none) := Lib.hid (by simp [valO, hv])
    have hc := Tryz.strconv_Atoi_syntax s (by omega) hv _ w hsy (.inr ⟨a, b, rfl⟩)
    have Hc := Lib.hid hc
    clear hc hra hsy hv
    go_enter Tryz.func96, Tryz.ntmps96
    go_wp2_with fail
    refine Hc.out.mono ?_
    rintro e w1 ⟨N, rfl, hN1, hN2, hB⟩
    clear hN1 hN2
    go_wp2_with fail
    go_ret2
    exact ⟨by rw [HV.out]; rfl, hB⟩
end

end Go.Proofs.YtafncodigpjkaaaGreatDoor
