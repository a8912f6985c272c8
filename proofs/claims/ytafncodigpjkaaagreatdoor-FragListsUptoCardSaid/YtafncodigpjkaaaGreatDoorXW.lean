/-
  The reference's kinds, names and their parts are the lexer's.
-/
import Derived.Test.YtafncodigpjkaaaGreatDoorXN
import Derived.Test.YtafncodigpjkaaaGreatDoorXM
import Derived.Test.YtafncodigpjkaaaGreatDoorXH
import Derived.Test.YtafncodigpjkaaaGreatDoorXA
namespace Go.Proofs.YtafncodigpjkaaaGreatDoor
section
open Go.RowKit

/-! Numbers: what has a value is an integer as a whole. -/
/-! Kind. -/
end

end Go.Proofs.YtafncodigpjkaaaGreatDoor
