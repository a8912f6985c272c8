/-
  The function over a cutter's pieces, from any place on, with a body that may stop.
-/
import Derived.Test.YtcokdapnafgnpaaGreatDoorXO
import Derived.Test.YtcokdapnafgnpaaGreatDoorXA
import Derived.RangeFuncNested
import Derived.RangeFuncBound
import Derived.RangeFuncCalls
import Derived.RangeFuncLeaves
import Derived.Shelf.Abstract
import Derived.Shelf.RegionOpen
import Derived.OwnWalkIn
import Derived.TacticsInMore
import Derived.LoopNIn
import Derived.LoopIn
namespace Go.Proofs.YtcokdapnafgnpaaGreatDoor
section
open Go.RowKit Go.Shelf

theorem steps_snoc {t : ByteArray} {i0 : Nat} {op0 : Bool} {n0 : Nat} {pre : List (Nat × Nat × Nat)} {i : Nat} {op : Bool} {m : Nat} {p : Nat × Nat} (h : Steps t i0 op0 n0 pre (i, op, m)) (hi : i < t.size) (hp : nextR t i op = .ok p) (hc : ¬ (isTok p.1 = true ∧ m = 6000)) :
    Steps t i0 op0 n0 (pre ++ [(p.1, i, p.2)]) (i + p.2, (if isTok p.1 then opE p.1 (cutB t i p.2) else op), (if isTok p.1 then m + 1 else m)) :=
  steps_append pre _ i0 op0 n0 _ _ h ⟨hi, rfl, hp, hc, rfl⟩

structure IterRel2 (b cb : Nat) (t : ByteArray) (i0 : Nat) (op0 : Bool) (n0 : Nat) (J : List (Nat × Nat × Nat) → World → Prop) (i : Nat) (op : Bool) (n : Nat) (pre : List (Nat × Nat × Nat)) (w : World) : Prop where
  cut : IsCut b i t op n w
  free : CutFree b w
  box : w.cell? ⟨cb, 0, none⟩ = some (.pointer (some ⟨b, 0, none⟩))
  hb : b < w.heap.size
  hcb : cb < w.heap.size
  hi : i ≤ t.size
  hn : n ≤ 6000
  j : J pre w
  st : Steps t i0 op0 n0 pre (i, op, n)
/-- How the function over the pieces ends: all pieces were yielded; the body stopped; or a piece was refused. -/
def IterEnd (b : Nat) (t : ByteArray) (i0 : Nat) (op0 : Bool) (n0 : Nat) (J : List (Nat × Nat × Nat) → World → Prop) (Stop : World → Prop) (e : Ending) (W' : World) : Prop :=
  (e = .returned (.tuple #[]) ∧ ∃ pre op m, Steps t i0 op0 n0 pre (t.size, op, m) ∧ IsCut b t.size t op m W' ∧ CutFree b W' ∧ J pre W') ∨ (e = .returned (.tuple #[]) ∧ Stop W') ∨
  (∃ pre i op m c, e = refusedEnd i c ∧ Steps t i0 op0 n0 pre (i, op, m) ∧ i < t.size ∧ (nextR t i op = .error c ∨ (∃ p, nextR t i op = .ok p ∧ isTok p.1 = true ∧ m = 6000 ∧ c = 2)) ∧ J pre W')
end

end Go.Proofs.YtcokdapnafgnpaaGreatDoor
