/-
  The reference's kinds, names and their parts are the lexer's.
-/
import Derived.Test.YtcokdapnafgnpaaGreatDoorXN
import Derived.Test.YtcokdapnafgnpaaGreatDoorXM
import Derived.Test.YtcokdapnafgnpaaGreatDoorXH
import Derived.Test.YtcokdapnafgnpaaGreatDoorXA
namespace Go.Proofs.YtcokdapnafgnpaaGreatDoor
section
open Go.RowKit

/-! Numbers: what has a value is an integer as a whole. -/
/-! Kind. -/
end

end Go.Proofs.YtcokdapnafgnpaaGreatDoor
