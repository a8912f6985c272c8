/-
  At.
-/
import Derived.Test.YtafncodigpjkaaaGreatDoorFJ4
namespace Go.Proofs.YtafncodigpjkaaaGreatDoor
section
open Go.RowKit

theorem IntRow.below {w w' : World} {v : Value} {p : List Int} (h : IntRow w v p) (hb : Below w.heap.size w w') : IntRow w' v p := by
  obtain ⟨b, c, rfl, hr⟩ := h
  refine ⟨b, c, rfl, fun hne => ?_⟩
  obtain ⟨g, o, e, z, hc⟩ := hr hne
  exact ⟨g, o, e, by have := hb.size; omega, fun k i hk => (hb.cell (p := ⟨g, o + k, none⟩) z).trans (hc k i hk)⟩
end

end Go.Proofs.YtafncodigpjkaaaGreatDoor
