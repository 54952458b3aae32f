/-
  DERIVED. GIVEN WITH THE SEED: THE CARDS: each row of YtnkgpinadgacgabDoorRows.lean that lists a variable, with what it lists TIED to the program's text (the seventh form; the later family's looks); each row that meets fmt, with fmt's text TOLD by the authors' own Lean function (tested against real Go, not proved from fmt's source: count such statements apart). THE CARD IS WHAT COUNTS. Prove the row's statement (the work); the ties are given (YtnkgpinadgacgabDoorTie.lean); close each card by the builder's one call (the guide's Derived/Test/ToyasCard.lean, 'card_holds'). Laid BY PROGRAM, IN A SANDBOX (cutbox-door.mjs). By AI agents, Wed Nov 11 2026. No macro, syntax, notation, axiom, sorry.
-/
import Derived.Test.YtnkgpinadgacgabDoorRows
import GoSem.ClaimSeven
namespace Go.Proofs.YtnkgpinadgacgabDoor
namespace Rows

/-- THE TIED CARD OF 'yardkeep.Made'. -/
def madeCard : Claim7 := { stood := { row := madeRow, standIns := [], harness := (true, "95cd3e4aa56ae1dc35ad9cc1b8e4376c2ed94325666cbd8311d7115117896259"), looks := false }, kinds := [], alts := [], laidByText := true, laidKinds := [.data], laidTests := true, laidLooks := .later }
def MadeCardSaid : Prop := Claim7.holds Tryd.pinned (.plain (OpenSpec.ofChange madeSpec)) madeCard

/-- THE TIED CARD OF 'yardkeep.Mirrored'. -/
def mirroredCard : Claim7 := { stood := { row := mirroredRow, standIns := [], harness := (true, "95cd3e4aa56ae1dc35ad9cc1b8e4376c2ed94325666cbd8311d7115117896259"), looks := false }, kinds := [], alts := [], laidByText := true, laidKinds := [.data], laidTests := true, laidLooks := .later }
def MirroredCardSaid : Prop := Claim7.holds Tryd.pinned (.plain (OpenSpec.ofChange mirroredSpec)) mirroredCard

/-- THE TIED CARD OF 'yardkeep.Walled'. -/
def walledCard : Claim7 := { stood := { row := walledRow, standIns := [], harness := (true, "95cd3e4aa56ae1dc35ad9cc1b8e4376c2ed94325666cbd8311d7115117896259"), looks := false }, kinds := [], alts := [], laidByText := true, laidKinds := [.data], laidTests := true, laidLooks := .later }
def WalledCardSaid : Prop := Claim7.holds Tryd.pinned (.plain (OpenSpec.ofChange walledSpec)) walledCard

/-- THE TIED CARD OF 'yardkeep.Few'. -/
def fewCard : Claim7 := { stood := { row := fewRow, standIns := [], harness := (true, "95cd3e4aa56ae1dc35ad9cc1b8e4376c2ed94325666cbd8311d7115117896259"), looks := false }, kinds := [], alts := [], laidByText := true, laidKinds := [.data], laidTests := true, laidLooks := .later }
def FewCardSaid : Prop := Claim7.holds Tryd.pinned (.plain (OpenSpec.ofChange fewSpec)) fewCard

/-- THE TIED CARD OF 'yardkeep.Judged'. -/
def judgedCard : Claim7 := { stood := { row := judgedRow, standIns := [], harness := (true, "95cd3e4aa56ae1dc35ad9cc1b8e4376c2ed94325666cbd8311d7115117896259"), looks := false }, kinds := [], alts := [], laidByText := true, laidKinds := [.data], laidTests := true, laidLooks := .later }
def JudgedCardSaid : Prop := Claim7.holds Tryd.pinned (.plain (OpenSpec.ofChange judgedSpec)) judgedCard

/-- THE TIED CARD OF 'yardkeep.Back'. -/
def backCard : Claim7 := { stood := { row := backRow, standIns := [], harness := (true, "95cd3e4aa56ae1dc35ad9cc1b8e4376c2ed94325666cbd8311d7115117896259"), looks := false }, kinds := [], alts := [], laidByText := true, laidKinds := [.data, .data, .data], laidTests := true, laidLooks := .later }
def BackCardSaid : Prop := Claim7.holds Tryd.pinned (.plain (OpenSpec.ofChange backSpec)) backCard

/-- THE TIED CARD OF 'yardkeep.Asked'. -/
def askedCard : Claim7 := { stood := { row := askedRow, standIns := [], harness := (true, "95cd3e4aa56ae1dc35ad9cc1b8e4376c2ed94325666cbd8311d7115117896259"), looks := false }, kinds := [], alts := [], laidByText := true, laidKinds := [.data, .data, .data, .data], laidTests := true, laidLooks := .later }
def AskedCardSaid : Prop := Claim7.holds Tryd.pinned (.plain (OpenSpec.ofChange askedSpec)) askedCard

/-- THE SECOND FORM's CARD OF 'yardkeep.Made'. -/
def madeUptoCard : Claim7 := { stood := { row := madeUptoRow, standIns := [], harness := (true, "95cd3e4aa56ae1dc35ad9cc1b8e4376c2ed94325666cbd8311d7115117896259"), looks := false }, kinds := [], alts := [], laidByText := true, laidKinds := [.data], laidTests := true, laidLooks := .later }
def MadeUptoCardSaid : Prop := Claim7.holds Tryd.pinned (.plain (OpenSpec.upto madeSpec)) madeUptoCard

/-- THE SECOND FORM's CARD OF 'yardkeep.Mirrored'. -/
def mirroredUptoCard : Claim7 := { stood := { row := mirroredUptoRow, standIns := [], harness := (true, "95cd3e4aa56ae1dc35ad9cc1b8e4376c2ed94325666cbd8311d7115117896259"), looks := false }, kinds := [], alts := [], laidByText := true, laidKinds := [.data], laidTests := true, laidLooks := .later }
def MirroredUptoCardSaid : Prop := Claim7.holds Tryd.pinned (.plain (OpenSpec.upto mirroredSpec)) mirroredUptoCard

/-- THE SECOND FORM's CARD OF 'yardkeep.Walled'. -/
def walledUptoCard : Claim7 := { stood := { row := walledUptoRow, standIns := [], harness := (true, "95cd3e4aa56ae1dc35ad9cc1b8e4376c2ed94325666cbd8311d7115117896259"), looks := false }, kinds := [], alts := [], laidByText := true, laidKinds := [.data], laidTests := true, laidLooks := .later }
def WalledUptoCardSaid : Prop := Claim7.holds Tryd.pinned (.plain (OpenSpec.upto walledSpec)) walledUptoCard

/-- THE SECOND FORM's CARD OF 'yardkeep.Few'. -/
def fewUptoCard : Claim7 := { stood := { row := fewUptoRow, standIns := [], harness := (true, "95cd3e4aa56ae1dc35ad9cc1b8e4376c2ed94325666cbd8311d7115117896259"), looks := false }, kinds := [], alts := [], laidByText := true, laidKinds := [.data], laidTests := true, laidLooks := .later }
def FewUptoCardSaid : Prop := Claim7.holds Tryd.pinned (.plain (OpenSpec.upto fewSpec)) fewUptoCard

/-- THE SECOND FORM's CARD OF 'yardkeep.Judged'. -/
def judgedUptoCard : Claim7 := { stood := { row := judgedUptoRow, standIns := [], harness := (true, "95cd3e4aa56ae1dc35ad9cc1b8e4376c2ed94325666cbd8311d7115117896259"), looks := false }, kinds := [], alts := [], laidByText := true, laidKinds := [.data], laidTests := true, laidLooks := .later }
def JudgedUptoCardSaid : Prop := Claim7.holds Tryd.pinned (.plain (OpenSpec.upto judgedSpec)) judgedUptoCard

/-- THE SECOND FORM's CARD OF 'yardkeep.Back'. -/
def backUptoCard : Claim7 := { stood := { row := backUptoRow, standIns := [], harness := (true, "95cd3e4aa56ae1dc35ad9cc1b8e4376c2ed94325666cbd8311d7115117896259"), looks := false }, kinds := [], alts := [], laidByText := true, laidKinds := [.data, .data, .data], laidTests := true, laidLooks := .later }
def BackUptoCardSaid : Prop := Claim7.holds Tryd.pinned (.plain (OpenSpec.upto backSpec)) backUptoCard

/-- THE SECOND FORM's CARD OF 'yardkeep.Asked'. -/
def askedUptoCard : Claim7 := { stood := { row := askedUptoRow, standIns := [], harness := (true, "95cd3e4aa56ae1dc35ad9cc1b8e4376c2ed94325666cbd8311d7115117896259"), looks := false }, kinds := [], alts := [], laidByText := true, laidKinds := [.data, .data, .data, .data], laidTests := true, laidLooks := .later }
def AskedUptoCardSaid : Prop := Claim7.holds Tryd.pinned (.plain (OpenSpec.upto askedSpec)) askedUptoCard
end Rows
end Go.Proofs.YtnkgpinadgacgabDoor
