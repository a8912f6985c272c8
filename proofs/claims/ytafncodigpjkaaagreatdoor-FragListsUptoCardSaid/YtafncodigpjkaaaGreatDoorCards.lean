/-
  DERIVED. GIVEN WITH THE SEED: THE CARDS: each row of YtafncodigpjkaaaGreatDoorRows.lean that lists a variable, with what it lists TIED to the program's text (the seventh form; the later family's looks); each row that meets fmt, with fmt's text TOLD by the authors' own Lean function (tested against real Go, not proved from fmt's source: count such statements apart). THE CARD IS WHAT COUNTS. Prove the row's statement (the work); the ties are given (YtafncodigpjkaaaGreatDoorTie.lean); close each card by the builder's one call (the guide's Derived/Test/ToyasCard.lean, 'card_holds'). Laid BY PROGRAM, IN A SANDBOX (cutbox-door.mjs). By AI agents, Wed Nov 11 2026. No macro, syntax, notation, axiom, sorry.
-/
import Derived.Test.YtafncodigpjkaaaGreatDoorRows
import GoSem.ClaimSeven
namespace Go.Proofs.YtafncodigpjkaaaGreatDoor
namespace Rows

/-- THE TIED CARD OF 'skerrylaw02.FragReads'. -/
def fragReadsCard : Claim7 := { stood := { row := fragReadsRow, standIns := [], harness := (true, "2d13f89ccf9d17a75a47a264fbefce06dde5c6629d25515637dbc879ea6e3660"), looks := true }, kinds := [], alts := [], laidByText := true, laidKinds := [.data, .data, .data, .sentinel, .sentinel], laidTests := true, laidLooks := .later }
def FragReadsCardSaid : Prop := Claim7.holds Tryz.pinned (.plain (OpenSpec.ofChange fragReadsSpec)) fragReadsCard

/-- THE TIED CARD OF 'skerrylaw02.FragFlats'. -/
def fragFlatsCard : Claim7 := { stood := { row := fragFlatsRow, standIns := [], harness := (true, "2d13f89ccf9d17a75a47a264fbefce06dde5c6629d25515637dbc879ea6e3660"), looks := true }, kinds := [], alts := [], laidByText := true, laidKinds := [.data, .data, .data, .sentinel, .sentinel], laidTests := true, laidLooks := .later }
def FragFlatsCardSaid : Prop := Claim7.holds Tryz.pinned (.plain (OpenSpec.ofChange fragFlatsSpec)) fragFlatsCard

/-- THE TIED CARD OF 'skerrylaw02.FragLists'. -/
def fragListsCard : Claim7 := { stood := { row := fragListsRow, standIns := [], harness := (true, "2d13f89ccf9d17a75a47a264fbefce06dde5c6629d25515637dbc879ea6e3660"), looks := true }, kinds := [], alts := [], laidByText := true, laidKinds := [.data, .data, .data, .sentinel, .sentinel], laidTests := true, laidLooks := .later }
def FragListsCardSaid : Prop := Claim7.holds Tryz.pinned (.plain (OpenSpec.ofChange fragListsSpec)) fragListsCard

/-- THE TIED CARD OF 'skerrylaw02.FragPaths'. -/
def fragPathsCard : Claim7 := { stood := { row := fragPathsRow, standIns := [], harness := (true, "2d13f89ccf9d17a75a47a264fbefce06dde5c6629d25515637dbc879ea6e3660"), looks := true }, kinds := [], alts := [], laidByText := true, laidKinds := [.data, .data, .data, .sentinel, .sentinel], laidTests := true, laidLooks := .later }
def FragPathsCardSaid : Prop := Claim7.holds Tryz.pinned (.plain (OpenSpec.ofChange fragPathsSpec)) fragPathsCard

/-- THE TIED CARD OF 'skerrylaw02.FragPieces'. -/
def fragPiecesCard : Claim7 := { stood := { row := fragPiecesRow, standIns := [], harness := (true, "2d13f89ccf9d17a75a47a264fbefce06dde5c6629d25515637dbc879ea6e3660"), looks := true }, kinds := [], alts := [], laidByText := true, laidKinds := [.data, .data, .data, .sentinel, .sentinel], laidTests := true, laidLooks := .later }
def FragPiecesCardSaid : Prop := Claim7.holds Tryz.pinned (.plain (OpenSpec.ofChange fragPiecesSpec)) fragPiecesCard

/-- THE SECOND FORM's CARD OF 'skerrylaw02.FragReads'. -/
def fragReadsUptoCard : Claim7 := { stood := { row := fragReadsUptoRow, standIns := [], harness := (true, "2d13f89ccf9d17a75a47a264fbefce06dde5c6629d25515637dbc879ea6e3660"), looks := true }, kinds := [], alts := [], laidByText := true, laidKinds := [.data, .data, .data, .sentinel, .sentinel], laidTests := true, laidLooks := .later }
def FragReadsUptoCardSaid : Prop := Claim7.holds Tryz.pinned (.plain (OpenSpec.upto fragReadsSpec)) fragReadsUptoCard

/-- THE SECOND FORM's CARD OF 'skerrylaw02.FragFlats'. -/
def fragFlatsUptoCard : Claim7 := { stood := { row := fragFlatsUptoRow, standIns := [], harness := (true, "2d13f89ccf9d17a75a47a264fbefce06dde5c6629d25515637dbc879ea6e3660"), looks := true }, kinds := [], alts := [], laidByText := true, laidKinds := [.data, .data, .data, .sentinel, .sentinel], laidTests := true, laidLooks := .later }
def FragFlatsUptoCardSaid : Prop := Claim7.holds Tryz.pinned (.plain (OpenSpec.upto fragFlatsSpec)) fragFlatsUptoCard

/-- THE SECOND FORM's CARD OF 'skerrylaw02.FragLists'. -/
def fragListsUptoCard : Claim7 := { stood := { row := fragListsUptoRow, standIns := [], harness := (true, "2d13f89ccf9d17a75a47a264fbefce06dde5c6629d25515637dbc879ea6e3660"), looks := true }, kinds := [], alts := [], laidByText := true, laidKinds := [.data, .data, .data, .sentinel, .sentinel], laidTests := true, laidLooks := .later }
def FragListsUptoCardSaid : Prop := Claim7.holds Tryz.pinned (.plain (OpenSpec.upto fragListsSpec)) fragListsUptoCard

/-- THE SECOND FORM's CARD OF 'skerrylaw02.FragPaths'. -/
def fragPathsUptoCard : Claim7 := { stood := { row := fragPathsUptoRow, standIns := [], harness := (true, "2d13f89ccf9d17a75a47a264fbefce06dde5c6629d25515637dbc879ea6e3660"), looks := true }, kinds := [], alts := [], laidByText := true, laidKinds := [.data, .data, .data, .sentinel, .sentinel], laidTests := true, laidLooks := .later }
def FragPathsUptoCardSaid : Prop := Claim7.holds Tryz.pinned (.plain (OpenSpec.upto fragPathsSpec)) fragPathsUptoCard

/-- THE SECOND FORM's CARD OF 'skerrylaw02.FragPieces'. -/
def fragPiecesUptoCard : Claim7 := { stood := { row := fragPiecesUptoRow, standIns := [], harness := (true, "2d13f89ccf9d17a75a47a264fbefce06dde5c6629d25515637dbc879ea6e3660"), looks := true }, kinds := [], alts := [], laidByText := true, laidKinds := [.data, .data, .data, .sentinel, .sentinel], laidTests := true, laidLooks := .later }
def FragPiecesUptoCardSaid : Prop := Claim7.holds Tryz.pinned (.plain (OpenSpec.upto fragPiecesSpec)) fragPiecesUptoCard
end Rows
end Go.Proofs.YtafncodigpjkaaaGreatDoor
