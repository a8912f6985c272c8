/-
  A new cutter, and the function over its pieces.
  The deferred closure that takes a refusal up.
-/
import Derived.Test.YtafncodigpjkaaaGreatDoorXE
import Derived.Test.YtafncodigpjkaaaGreatDoorXA
import Derived.RangeFuncNested
import Derived.RangeFuncBound
import Derived.RangeFuncCalls
import Derived.RangeFuncLeaves
import Derived.Shelf.Abstract
import Derived.Shelf.RegionOpen
import Derived.OwnWalkIn
import Derived.TacticsInMore
import Derived.LoopNIn
import Derived.LoopIn
import Derived.Recover
import Derived.RecoverIn
import Derived.RegionIn
import Derived.Laws.Pointers
namespace Go.Proofs.YtafncodigpjkaaaGreatDoor
section
open Go.RowKit Go.Shelf

theorem newCutter_any (t : ByteArray) (w : World) :
    Calls Tryz.prog 114 #[.string t] w fun e w' => e = .returned (.pointer (some ⟨w.heap.size, 0, none⟩)) ∧ w' = w.alloc (.cells #[.string t, .int .i64 0, .bool false, .int .i64 0] 158) := by
  go_enter Tryz.func114, Tryz.ntmps114
  go_wp2
  go_ret
  exact ⟨rfl, rfl⟩
end

section
open Go.RowKit Go.Shelf

theorem assert_yes (x : Value) (w : World) : (Instr.typeAssert (.iface 151 x) 20 151 true).run Tryz.prog w = .ok (.tuple #[x, .bool true]) w := by kernel_rfl
theorem assert_nil (w : World) : (Instr.typeAssert .nilIface 20 151 true).run Tryz.prog w = .ok (.tuple #[.agg #[.int .i64 0, .int .i64 0], .bool false]) w := by kernel_rfl
end

end Go.Proofs.YtafncodigpjkaaaGreatDoor
