/-
  DERIVED. GIVEN WITH THE SEED: THE CARDS: each row of YtledmagigkpbeaaDoorRows.lean that lists a variable, with what it lists TIED to the program's text (the seventh form; the later family's looks); each row that meets fmt, with fmt's text TOLD by the authors' own Lean function (tested against real Go, not proved from fmt's source: count such statements apart). THE CARD IS WHAT COUNTS. Prove the row's statement (the work); the ties are given (YtledmagigkpbeaaDoorTie.lean); close each card by the builder's one call (the guide's Derived/Test/ToyasCard.lean, 'card_holds'). Laid BY PROGRAM, IN A SANDBOX (cutbox-door.mjs). By AI agents, Wed Nov 11 2026. No macro, syntax, notation, axiom, sorry.
-/
import Derived.Test.YtledmagigkpbeaaDoorRows
import GoSem.ClaimSeven
namespace Go.Proofs.YtledmagigkpbeaaDoor
namespace Rows

/-- THE TIED CARD OF 'skerrylaw01.LexNumbers'. -/
def lexNumbersCard : Claim7 := { stood := { row := lexNumbersRow, standIns := [], harness := (true, "3d9eca8635d9b56c4368afa4250fe446d503ebf3916ede140b27c2eeebcbbfbc"), looks := true }, kinds := [], alts := [], laidByText := true, laidKinds := [.data, .data, .data, .sentinel, .sentinel], laidTests := true, laidLooks := .later }
def LexNumbersCardSaid : Prop := Claim7.holds Tryd.pinned (.plain (OpenSpec.ofChange lexNumbersSpec)) lexNumbersCard

/-- THE TIED CARD OF 'skerrylaw01.LexWhole'. -/
def lexWholeCard : Claim7 := { stood := { row := lexWholeRow, standIns := [], harness := (true, "3d9eca8635d9b56c4368afa4250fe446d503ebf3916ede140b27c2eeebcbbfbc"), looks := true }, kinds := [], alts := [], laidByText := true, laidKinds := [.data, .data, .data, .sentinel, .sentinel], laidTests := true, laidLooks := .later }
def LexWholeCardSaid : Prop := Claim7.holds Tryd.pinned (.plain (OpenSpec.ofChange lexWholeSpec)) lexWholeCard

/-- THE TIED CARD OF 'skerrylaw01.LexGaps'. -/
def lexGapsCard : Claim7 := { stood := { row := lexGapsRow, standIns := [], harness := (true, "3d9eca8635d9b56c4368afa4250fe446d503ebf3916ede140b27c2eeebcbbfbc"), looks := true }, kinds := [], alts := [], laidByText := true, laidKinds := [.data, .data, .data, .sentinel, .sentinel], laidTests := true, laidLooks := .later }
def LexGapsCardSaid : Prop := Claim7.holds Tryd.pinned (.plain (OpenSpec.ofChange lexGapsSpec)) lexGapsCard

/-- THE TIED CARD OF 'skerrylaw01.LexLocal'. -/
def lexLocalCard : Claim7 := { stood := { row := lexLocalRow, standIns := [], harness := (true, "3d9eca8635d9b56c4368afa4250fe446d503ebf3916ede140b27c2eeebcbbfbc"), looks := true }, kinds := [], alts := [], laidByText := true, laidKinds := [.data, .data, .data, .sentinel, .sentinel], laidTests := true, laidLooks := .later }
def LexLocalCardSaid : Prop := Claim7.holds Tryd.pinned (.plain (OpenSpec.ofChange lexLocalSpec)) lexLocalCard

/-- THE TIED CARD OF 'skerrylaw01.LexLongest'. -/
def lexLongestCard : Claim7 := { stood := { row := lexLongestRow, standIns := [], harness := (true, "3d9eca8635d9b56c4368afa4250fe446d503ebf3916ede140b27c2eeebcbbfbc"), looks := true }, kinds := [], alts := [], laidByText := true, laidKinds := [.data, .data, .data, .sentinel, .sentinel], laidTests := true, laidLooks := .later }
def LexLongestCardSaid : Prop := Claim7.holds Tryd.pinned (.plain (OpenSpec.ofChange lexLongestSpec)) lexLongestCard

/-- THE TIED CARD OF 'skerrylaw01.LexUndone'. -/
def lexUndoneCard : Claim7 := { stood := { row := lexUndoneRow, standIns := [], harness := (true, "3d9eca8635d9b56c4368afa4250fe446d503ebf3916ede140b27c2eeebcbbfbc"), looks := true }, kinds := [], alts := [], laidByText := true, laidKinds := [.data, .data, .data, .sentinel, .sentinel], laidTests := true, laidLooks := .later }
def LexUndoneCardSaid : Prop := Claim7.holds Tryd.pinned (.plain (OpenSpec.ofChange lexUndoneSpec)) lexUndoneCard

/-- THE SECOND FORM's CARD OF 'skerrylaw01.LexNumbers'. -/
def lexNumbersUptoCard : Claim7 := { stood := { row := lexNumbersUptoRow, standIns := [], harness := (true, "3d9eca8635d9b56c4368afa4250fe446d503ebf3916ede140b27c2eeebcbbfbc"), looks := true }, kinds := [], alts := [], laidByText := true, laidKinds := [.data, .data, .data, .sentinel, .sentinel], laidTests := true, laidLooks := .later }
def LexNumbersUptoCardSaid : Prop := Claim7.holds Tryd.pinned (.plain (OpenSpec.upto lexNumbersSpec)) lexNumbersUptoCard

/-- THE SECOND FORM's CARD OF 'skerrylaw01.LexWhole'. -/
def lexWholeUptoCard : Claim7 := { stood := { row := lexWholeUptoRow, standIns := [], harness := (true, "3d9eca8635d9b56c4368afa4250fe446d503ebf3916ede140b27c2eeebcbbfbc"), looks := true }, kinds := [], alts := [], laidByText := true, laidKinds := [.data, .data, .data, .sentinel, .sentinel], laidTests := true, laidLooks := .later }
def LexWholeUptoCardSaid : Prop := Claim7.holds Tryd.pinned (.plain (OpenSpec.upto lexWholeSpec)) lexWholeUptoCard

/-- THE SECOND FORM's CARD OF 'skerrylaw01.LexGaps'. -/
def lexGapsUptoCard : Claim7 := { stood := { row := lexGapsUptoRow, standIns := [], harness := (true, "3d9eca8635d9b56c4368afa4250fe446d503ebf3916ede140b27c2eeebcbbfbc"), looks := true }, kinds := [], alts := [], laidByText := true, laidKinds := [.data, .data, .data, .sentinel, .sentinel], laidTests := true, laidLooks := .later }
def LexGapsUptoCardSaid : Prop := Claim7.holds Tryd.pinned (.plain (OpenSpec.upto lexGapsSpec)) lexGapsUptoCard

/-- THE SECOND FORM's CARD OF 'skerrylaw01.LexLocal'. -/
def lexLocalUptoCard : Claim7 := { stood := { row := lexLocalUptoRow, standIns := [], harness := (true, "3d9eca8635d9b56c4368afa4250fe446d503ebf3916ede140b27c2eeebcbbfbc"), looks := true }, kinds := [], alts := [], laidByText := true, laidKinds := [.data, .data, .data, .sentinel, .sentinel], laidTests := true, laidLooks := .later }
def LexLocalUptoCardSaid : Prop := Claim7.holds Tryd.pinned (.plain (OpenSpec.upto lexLocalSpec)) lexLocalUptoCard

/-- THE SECOND FORM's CARD OF 'skerrylaw01.LexLongest'. -/
def lexLongestUptoCard : Claim7 := { stood := { row := lexLongestUptoRow, standIns := [], harness := (true, "3d9eca8635d9b56c4368afa4250fe446d503ebf3916ede140b27c2eeebcbbfbc"), looks := true }, kinds := [], alts := [], laidByText := true, laidKinds := [.data, .data, .data, .sentinel, .sentinel], laidTests := true, laidLooks := .later }
def LexLongestUptoCardSaid : Prop := Claim7.holds Tryd.pinned (.plain (OpenSpec.upto lexLongestSpec)) lexLongestUptoCard

/-- THE SECOND FORM's CARD OF 'skerrylaw01.LexUndone'. -/
def lexUndoneUptoCard : Claim7 := { stood := { row := lexUndoneUptoRow, standIns := [], harness := (true, "3d9eca8635d9b56c4368afa4250fe446d503ebf3916ede140b27c2eeebcbbfbc"), looks := true }, kinds := [], alts := [], laidByText := true, laidKinds := [.data, .data, .data, .sentinel, .sentinel], laidTests := true, laidLooks := .later }
def LexUndoneUptoCardSaid : Prop := Claim7.holds Tryd.pinned (.plain (OpenSpec.upto lexUndoneSpec)) lexUndoneUptoCard
end Rows
end Go.Proofs.YtledmagigkpbeaaDoor
