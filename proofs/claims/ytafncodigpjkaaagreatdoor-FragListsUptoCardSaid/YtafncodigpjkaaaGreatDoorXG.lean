/-
  The function over a cutter's pieces, from any place on, with a body that may stop.
-/
import Derived.Test.YtafncodigpjkaaaGreatDoorXO
import Derived.Test.YtafncodigpjkaaaGreatDoorXA
import Derived.RangeFuncNested
import Derived.RangeFuncBound
import Derived.RangeFuncCalls
import Derived.RangeFuncLeaves
import Derived.Shelf.Abstract
import Derived.Shelf.RegionOpen
import Derived.OwnWalkIn
import Derived.TacticsInMore
import Derived.LoopNIn
import Derived.LoopIn
namespace Go.Proofs.YtafncodigpjkaaaGreatDoor
section
open Go.RowKit Go.Shelf

theorem steps_snoc {t : ByteArray} {i0 : Nat} {op0 : Bool} {n0 : Nat} {pre : List (Nat × Nat × Nat)} {i : Nat} {op : Bool} {m : Nat} {p : Nat × Nat} (h : Steps t i0 op0 n0 pre (i, op, m)) (hi : i < t.size) (hp : nextR t i op = .ok p) (hc : ¬ (isTok p.1 = true ∧ m = 6000)) :
    Steps t i0 op0 n0 (pre ++ [(p.1, i, p.2)]) (i + p.2, (if isTok p.1 then opE p.1 (cutB t i p.2) else op), (if isTok p.1 then m + 1 else m)) :=
  steps_append pre _ i0 op0 n0 _ _ h ⟨hi, rfl, hp, hc, rfl⟩
end

end Go.Proofs.YtafncodigpjkaaaGreatDoor
