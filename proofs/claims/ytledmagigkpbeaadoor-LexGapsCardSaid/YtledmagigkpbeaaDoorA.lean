/-
  The smallest functions of the lexer: each returns what the plain function gives.
-/
import Derived.Test.YtledmagigkpbeaaDoorChecked
import Derived.Test.YtledmagigkpbeaaDoorShelf
import Derived.Test.YtledmagigkpbeaaDoorMath
import Derived.Tactics
import Derived.Tactics2
import Derived.WalkKit
import Derived.Outline
import Derived.OwnWalk
import Derived.Below
import Derived.KernelRfl
namespace Go.Proofs.YtledmagigkpbeaaDoor
open Go.RowKit

theorem idx_any (s : ByteArray) (c : UInt8) (w : World) :
    Calls Tryd.prog 39 #[.string s, .int .u8 (c.toNat : Int)] w fun e w' => e = .returned (.int .i64 (Lib.indexByte s.data.toList c)) ∧ w = w' := by
  refine (Tryd.strings_IndexByte s (c.toNat : Int) w).mono ?_
  rintro e w' ⟨rfl, rfl⟩
  exact ⟨by simp, rfl⟩

theorem isBlank_any (c : UInt8) (w : World) :
    Calls Tryd.prog 45 #[.int .u8 (c.toNat : Int)] w fun e w' => e = .returned (.bool (bBlank c)) ∧ w = w' := by
  go_enter Tryd.func45, Tryd.ntmps45
  go_wp2_with (go_at_call 39; refine (idx_any _ _ _).mono ?_; rintro e w' ⟨rfl, rfl⟩)
  go_ret
  exact ⟨rfl, rfl⟩

theorem isToken_any (k : Int) (w : World) :
    Calls Tryd.prog 30 #[.int .i64 k] w fun e w' => e = .returned (.bool (decide (1 ≤ k) && decide (k ≤ 6))) ∧ w = w' := by
  by_cases h1 : 1 ≤ k
  · go_enter Tryd.func30, Tryd.ntmps30
    go_wp2
    go_ret
    exact ⟨by simp [h1], rfl⟩
  · go_enter Tryd.func30, Tryd.ntmps30
    go_wp2
    go_ret
    exact ⟨by simp; omega, rfl⟩

set_option maxHeartbeats 4000000 in
theorem classesOf_any (c : UInt8) (w : World) :
    Calls Tryd.prog 64 #[.int .u8 (c.toNat : Int)] w fun e w' => e = .returned (.agg #[.bool (bL c), .bool (bD c), .bool (bW c), .bool (bF c), .bool (bB c), .bool (bQ c)]) ∧ Below w.heap.size w w' := by
  go_enter Tryd.func64, Tryd.ntmps64
  go_wp2_with (go_at_call 39; refine (idx_any _ _ _).mono ?_; rintro e w' ⟨rfl, rfl⟩)
  all_goals
    refine bodyPost_ret (v := .agg #[.bool (bL c), .bool (bD c), .bool (bW c), .bool (bF c), .bool (bB c), .bool (bQ c)]) ?_ rfl ⟨rfl, ((Below.refl _ _).alloc (Nat.le_refl _) _).alloc (by simp) _⟩
    simp [results, Tryd.results64, go_sem, bL, bD, bW, bF, bB, bQ, *]
    try grind

theorem bcell {W w1 : World} (hb : Below W.heap.size W w1) : (∀ b o, b < W.heap.size → w1.cell? ⟨b, o, none⟩ = W.cell? ⟨b, o, none⟩) ∧ (∀ b o, b < W.heap.size → w1.frozen? ⟨b, o, none⟩ = W.frozen? ⟨b, o, none⟩) :=
  ⟨fun b o h => hb.cell (p := ⟨b, o, none⟩) h, fun b o h => hb.frozen (p := ⟨b, o, none⟩) h⟩

theorem cls0 (x0 x1 x2 x3 x4 x5 : Bool) (w : World) :
    (Instr.index 100 (.agg #[.bool x0, .bool x1, .bool x2, .bool x3, .bool x4, .bool x5]) (.int .i64 0)).run Tryd.prog w = .ok (.bool x0) w := by kernel_rfl
theorem cls1 (x0 x1 x2 x3 x4 x5 : Bool) (w : World) :
    (Instr.index 100 (.agg #[.bool x0, .bool x1, .bool x2, .bool x3, .bool x4, .bool x5]) (.int .i64 1)).run Tryd.prog w = .ok (.bool x1) w := by kernel_rfl
theorem cls2 (x0 x1 x2 x3 x4 x5 : Bool) (w : World) :
    (Instr.index 100 (.agg #[.bool x0, .bool x1, .bool x2, .bool x3, .bool x4, .bool x5]) (.int .i64 2)).run Tryd.prog w = .ok (.bool x2) w := by kernel_rfl
theorem cls3 (x0 x1 x2 x3 x4 x5 : Bool) (w : World) :
    (Instr.index 100 (.agg #[.bool x0, .bool x1, .bool x2, .bool x3, .bool x4, .bool x5]) (.int .i64 3)).run Tryd.prog w = .ok (.bool x3) w := by kernel_rfl
theorem cls4 (x0 x1 x2 x3 x4 x5 : Bool) (w : World) :
    (Instr.index 100 (.agg #[.bool x0, .bool x1, .bool x2, .bool x3, .bool x4, .bool x5]) (.int .i64 4)).run Tryd.prog w = .ok (.bool x4) w := by kernel_rfl
theorem cls5 (x0 x1 x2 x3 x4 x5 : Bool) (w : World) :
    (Instr.index 100 (.agg #[.bool x0, .bool x1, .bool x2, .bool x3, .bool x4, .bool x5]) (.int .i64 5)).run Tryd.prog w = .ok (.bool x5) w := by kernel_rfl

set_option maxRecDepth 100000 in
theorem spoils_any (c : UInt8) (w : World) :
    Calls Tryd.prog 63 #[.int .u8 (c.toNat : Int)] w fun e w' => e = .returned (.bool (bSpoils c)) ∧ Below w.heap.size w w' := by
  have hc := classesOf_any c w
  have hi := cls0
  go_enter Tryd.func63, Tryd.ntmps63
  go_wp2_with (first | (go_at_call 64; refine hc.mono ?_; clear hc; rintro e w' ⟨rfl, hb⟩) | (go_at_call 39; refine (idx_any _ _ _).mono ?_; rintro e w' ⟨rfl, rfl⟩))
  all_goals
    go_ret
    refine ⟨?_, hb⟩
    simp [bSpoils, *]
end Go.Proofs.YtledmagigkpbeaaDoor
