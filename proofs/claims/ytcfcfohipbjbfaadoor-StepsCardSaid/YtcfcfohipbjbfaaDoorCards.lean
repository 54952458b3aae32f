/-
  DERIVED. GIVEN WITH THE SEED: THE CARDS: each row of YtcfcfohipbjbfaaDoorRows.lean that lists a variable, with what it lists TIED to the program's text (the seventh form; the later family's looks); each row that meets fmt, with fmt's text TOLD by the authors' own Lean function (tested against real Go, not proved from fmt's source: count such statements apart). THE CARD IS WHAT COUNTS. Prove the row's statement (the work); the ties are given (YtcfcfohipbjbfaaDoorTie.lean); close each card by the builder's one call (the guide's Derived/Test/ToyasCard.lean, 'card_holds'). Laid BY PROGRAM, IN A SANDBOX (cutbox-door.mjs). By AI agents, Wed Nov 11 2026. No macro, syntax, notation, axiom, sorry.
-/
import Derived.Test.YtcfcfohipbjbfaaDoorRows
import GoSem.ClaimSeven
namespace Go.Proofs.YtcfcfohipbjbfaaDoor
namespace Rows

/-- THE TIED CARD OF 'yardlaw.Fars'. -/
def farsCard : Claim7 := { stood := { row := farsRow, standIns := [], harness := (true, "4bb135df574b838a657eb83251a432e280f322a15178d2e3aa26bdc1fc670025"), looks := false }, kinds := [], alts := [], laidByText := true, laidKinds := [.data], laidTests := true, laidLooks := .later }
def FarsCardSaid : Prop := Claim7.holds Tryd.pinned (.plain (OpenSpec.ofChange farsSpec)) farsCard

/-- THE TIED CARD OF 'yardkeep.Steps'. -/
def stepsCard : Claim7 := { stood := { row := stepsRow, standIns := [], harness := (true, "4bb135df574b838a657eb83251a432e280f322a15178d2e3aa26bdc1fc670025"), looks := false }, kinds := [], alts := [], laidByText := true, laidKinds := [.data], laidTests := true, laidLooks := .later }
def StepsCardSaid : Prop := Claim7.holds Tryd.pinned (.plain (OpenSpec.ofChange stepsSpec)) stepsCard

/-- THE SECOND FORM's CARD OF 'yardlaw.Fars'. -/
def farsUptoCard : Claim7 := { stood := { row := farsUptoRow, standIns := [], harness := (true, "4bb135df574b838a657eb83251a432e280f322a15178d2e3aa26bdc1fc670025"), looks := false }, kinds := [], alts := [], laidByText := true, laidKinds := [.data], laidTests := true, laidLooks := .later }
def FarsUptoCardSaid : Prop := Claim7.holds Tryd.pinned (.plain (OpenSpec.upto farsSpec)) farsUptoCard

/-- THE SECOND FORM's CARD OF 'yardkeep.Steps'. -/
def stepsUptoCard : Claim7 := { stood := { row := stepsUptoRow, standIns := [], harness := (true, "4bb135df574b838a657eb83251a432e280f322a15178d2e3aa26bdc1fc670025"), looks := false }, kinds := [], alts := [], laidByText := true, laidKinds := [.data], laidTests := true, laidLooks := .later }
def StepsUptoCardSaid : Prop := Claim7.holds Tryd.pinned (.plain (OpenSpec.upto stepsSpec)) stepsUptoCard
end Rows
end Go.Proofs.YtcfcfohipbjbfaaDoor
