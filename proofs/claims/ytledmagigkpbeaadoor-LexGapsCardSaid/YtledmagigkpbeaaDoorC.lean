/-
  The loops over a text: how many bytes of a class begin it, the longest plain name, the library's name, blanks.
-/
import Derived.Test.YtledmagigkpbeaaDoorB
import Derived.LoopTactic
namespace Go.Proofs.YtledmagigkpbeaaDoor
open Go.RowKit

theorem ret_int {k : IntKind} {a b : Int} (h : a = b) : Ending.returned (.int k a) = .returned (.int k b) := by rw [h]

set_option maxHeartbeats 1000000 in
set_option maxRecDepth 100000 in
theorem run_any (s : ByteArray) (cl : Int) (p : UInt8 → Bool) (hs : s.size ≤ 1048576) (w : World)
    (hx : ∀ c w, (Instr.index 100 (.agg #[.bool (bL c), .bool (bD c), .bool (bW c), .bool (bF c), .bool (bB c), .bool (bQ c)]) (.int .i64 cl)).run Tryd.prog w = .ok (.bool (p c)) w) :
    Calls Tryd.prog 98 #[.string s, .int .i64 cl] w fun e w' => e = .returned (.int .i64 (runN p s 0 : Int)) ∧ Below w.heap.size w w' := by
  go_enter Tryd.func98, Tryd.ntmps98
  go_wp2
  go_loopw [5] (fun n wr => ∃ k : Nat, k ≤ s.size ∧ n = .int .i64 k ∧ Hid (runN p s k = runN p s 0) ∧ Below w.heap.size w wr) (fun n _ => s.size - (intOf n).toNat)
  case atStart => exact ⟨0, Nat.zero_le _, rfl, Lib.hid rfl, Below.refl _ _⟩
  case round =>
    obtain ⟨k, hk, rfl, hr, hb⟩ := hrel
    by_cases hlt : k < s.size
    · have hc := classesOf_any s[k] wr
      by_cases hp : p s[k] = true
      · go_wp2_with (go_at_call 64; refine hc.mono ?_; clear hc; rintro e w1 ⟨rfl, hb1⟩)
        go_roundw
        case rel => exact ⟨k + 1, by omega, by go_num, Lib.hid (by rw [← runN_go hlt hp]; exact hr.out), hb.trans (hb1.mono hb.size)⟩
        case measure => simp [intOf]; omega
      · have hp' : p s[k] = false := by simpa using hp
        go_wp2_with (go_at_call 64; refine hc.mono ?_; clear hc; rintro e w1 ⟨rfl, hb1⟩)
        go_ret
        exact ⟨ret_int (by rw [← hr.out, runN_no hlt hp']), hb.trans (hb1.mono hb.size)⟩
    · go_wp2
      go_ret
      exact ⟨ret_int (by rw [← hr.out, runN_end hlt]), hb⟩
end Go.Proofs.YtledmagigkpbeaaDoor
