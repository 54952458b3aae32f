/-
  DERIVED. GIVEN WITH THE SEED: THE CARDS: each row of YtnkgpinadgacgaaDoorRows.lean that lists a variable, with what it lists TIED to the program's text (the seventh form; the later family's looks); each row that meets fmt, with fmt's text TOLD by the authors' own Lean function (tested against real Go, not proved from fmt's source: count such statements apart). THE CARD IS WHAT COUNTS. Prove the row's statement (the work); the ties are given (YtnkgpinadgacgaaDoorTie.lean); close each card by the builder's one call (the guide's Derived/Test/ToyasCard.lean, 'card_holds'). Laid BY PROGRAM, IN A SANDBOX (cutbox-door.mjs). By AI agents, Wed Nov 11 2026. No macro, syntax, notation, axiom, sorry.
-/
import Derived.Test.YtnkgpinadgacgaaDoorRows
import GoSem.ClaimSeven
namespace Go.Proofs.YtnkgpinadgacgaaDoor
namespace Rows

/-- THE TIED CARD OF 'yardlaw.Fars'. -/
def farsCard : Claim7 := { stood := { row := farsRow, standIns := [], harness := (true, "42d2ab99265fe3a29f23dc0a134b4986c23345365f35f7250f63e5b0a58afe08"), looks := false }, kinds := [], alts := [], laidByText := true, laidKinds := [.data], laidTests := true, laidLooks := .later }
def FarsCardSaid : Prop := Claim7.holds Tryd.pinned (.plain (OpenSpec.ofChange farsSpec)) farsCard

/-- THE TIED CARD OF 'yardlaw.Alones'. -/
def alonesCard : Claim7 := { stood := { row := alonesRow, standIns := [], harness := (true, "42d2ab99265fe3a29f23dc0a134b4986c23345365f35f7250f63e5b0a58afe08"), looks := false }, kinds := [], alts := [], laidByText := true, laidKinds := [.data], laidTests := true, laidLooks := .later }
def AlonesCardSaid : Prop := Claim7.holds Tryd.pinned (.plain (OpenSpec.ofChange alonesSpec)) alonesCard

/-- THE TIED CARD OF 'yardlaw.Layered'. -/
def layeredCard : Claim7 := { stood := { row := layeredRow, standIns := [], harness := (true, "42d2ab99265fe3a29f23dc0a134b4986c23345365f35f7250f63e5b0a58afe08"), looks := false }, kinds := [], alts := [], laidByText := true, laidKinds := [.data], laidTests := true, laidLooks := .later }
def LayeredCardSaid : Prop := Claim7.holds Tryd.pinned (.plain (OpenSpec.ofChange layeredSpec)) layeredCard

/-- THE TIED CARD OF 'yardlaw.Judges'. -/
def judgesCard : Claim7 := { stood := { row := judgesRow, standIns := [], harness := (true, "42d2ab99265fe3a29f23dc0a134b4986c23345365f35f7250f63e5b0a58afe08"), looks := false }, kinds := [], alts := [], laidByText := true, laidKinds := [.data], laidTests := true, laidLooks := .later }
def JudgesCardSaid : Prop := Claim7.holds Tryd.pinned (.plain (OpenSpec.ofChange judgesSpec)) judgesCard

/-- THE TIED CARD OF 'yardlaw.Counts'. -/
def countsCard : Claim7 := { stood := { row := countsRow, standIns := [], harness := (true, "42d2ab99265fe3a29f23dc0a134b4986c23345365f35f7250f63e5b0a58afe08"), looks := false }, kinds := [], alts := [], laidByText := true, laidKinds := [.data], laidTests := true, laidLooks := .later }
def CountsCardSaid : Prop := Claim7.holds Tryd.pinned (.plain (OpenSpec.ofChange countsSpec)) countsCard

/-- THE TIED CARD OF 'yardlaw.Solves'. -/
def solvesCard : Claim7 := { stood := { row := solvesRow, standIns := [], harness := (true, "42d2ab99265fe3a29f23dc0a134b4986c23345365f35f7250f63e5b0a58afe08"), looks := false }, kinds := [], alts := [], laidByText := true, laidKinds := [.data], laidTests := true, laidLooks := .later }
def SolvesCardSaid : Prop := Claim7.holds Tryd.pinned (.plain (OpenSpec.ofChange solvesSpec)) solvesCard

/-- THE TIED CARD OF 'yardlaw.Texts'. -/
def textsCard : Claim7 := { stood := { row := textsRow, standIns := [], harness := (true, "42d2ab99265fe3a29f23dc0a134b4986c23345365f35f7250f63e5b0a58afe08"), looks := false }, kinds := [], alts := [], laidByText := true, laidKinds := [.data, .data, .data], laidTests := true, laidLooks := .later }
def TextsCardSaid : Prop := Claim7.holds Tryd.pinned (.plain (OpenSpec.ofChange textsSpec)) textsCard

/-- THE TIED CARD OF 'yardkeep.Steps'. -/
def stepsCard : Claim7 := { stood := { row := stepsRow, standIns := [], harness := (true, "42d2ab99265fe3a29f23dc0a134b4986c23345365f35f7250f63e5b0a58afe08"), looks := false }, kinds := [], alts := [], laidByText := true, laidKinds := [.data], laidTests := true, laidLooks := .later }
def StepsCardSaid : Prop := Claim7.holds Tryd.pinned (.plain (OpenSpec.ofChange stepsSpec)) stepsCard

/-- THE TIED CARD OF 'yardkeep.Single'. -/
def singleCard : Claim7 := { stood := { row := singleRow, standIns := [], harness := (true, "42d2ab99265fe3a29f23dc0a134b4986c23345365f35f7250f63e5b0a58afe08"), looks := false }, kinds := [], alts := [], laidByText := true, laidKinds := [.data], laidTests := true, laidLooks := .later }
def SingleCardSaid : Prop := Claim7.holds Tryd.pinned (.plain (OpenSpec.ofChange singleSpec)) singleCard

/-- THE TIED CARD OF 'yardkeep.Lanes'. -/
def lanesCard : Claim7 := { stood := { row := lanesRow, standIns := [], harness := (true, "42d2ab99265fe3a29f23dc0a134b4986c23345365f35f7250f63e5b0a58afe08"), looks := false }, kinds := [], alts := [], laidByText := true, laidKinds := [.data], laidTests := true, laidLooks := .later }
def LanesCardSaid : Prop := Claim7.holds Tryd.pinned (.plain (OpenSpec.ofChange lanesSpec)) lanesCard

/-- THE SECOND FORM's CARD OF 'yardlaw.Fars'. -/
def farsUptoCard : Claim7 := { stood := { row := farsUptoRow, standIns := [], harness := (true, "42d2ab99265fe3a29f23dc0a134b4986c23345365f35f7250f63e5b0a58afe08"), looks := false }, kinds := [], alts := [], laidByText := true, laidKinds := [.data], laidTests := true, laidLooks := .later }
def FarsUptoCardSaid : Prop := Claim7.holds Tryd.pinned (.plain (OpenSpec.upto farsSpec)) farsUptoCard

/-- THE SECOND FORM's CARD OF 'yardlaw.Alones'. -/
def alonesUptoCard : Claim7 := { stood := { row := alonesUptoRow, standIns := [], harness := (true, "42d2ab99265fe3a29f23dc0a134b4986c23345365f35f7250f63e5b0a58afe08"), looks := false }, kinds := [], alts := [], laidByText := true, laidKinds := [.data], laidTests := true, laidLooks := .later }
def AlonesUptoCardSaid : Prop := Claim7.holds Tryd.pinned (.plain (OpenSpec.upto alonesSpec)) alonesUptoCard

/-- THE SECOND FORM's CARD OF 'yardlaw.Layered'. -/
def layeredUptoCard : Claim7 := { stood := { row := layeredUptoRow, standIns := [], harness := (true, "42d2ab99265fe3a29f23dc0a134b4986c23345365f35f7250f63e5b0a58afe08"), looks := false }, kinds := [], alts := [], laidByText := true, laidKinds := [.data], laidTests := true, laidLooks := .later }
def LayeredUptoCardSaid : Prop := Claim7.holds Tryd.pinned (.plain (OpenSpec.upto layeredSpec)) layeredUptoCard

/-- THE SECOND FORM's CARD OF 'yardlaw.Judges'. -/
def judgesUptoCard : Claim7 := { stood := { row := judgesUptoRow, standIns := [], harness := (true, "42d2ab99265fe3a29f23dc0a134b4986c23345365f35f7250f63e5b0a58afe08"), looks := false }, kinds := [], alts := [], laidByText := true, laidKinds := [.data], laidTests := true, laidLooks := .later }
def JudgesUptoCardSaid : Prop := Claim7.holds Tryd.pinned (.plain (OpenSpec.upto judgesSpec)) judgesUptoCard

/-- THE SECOND FORM's CARD OF 'yardlaw.Counts'. -/
def countsUptoCard : Claim7 := { stood := { row := countsUptoRow, standIns := [], harness := (true, "42d2ab99265fe3a29f23dc0a134b4986c23345365f35f7250f63e5b0a58afe08"), looks := false }, kinds := [], alts := [], laidByText := true, laidKinds := [.data], laidTests := true, laidLooks := .later }
def CountsUptoCardSaid : Prop := Claim7.holds Tryd.pinned (.plain (OpenSpec.upto countsSpec)) countsUptoCard

/-- THE SECOND FORM's CARD OF 'yardlaw.Solves'. -/
def solvesUptoCard : Claim7 := { stood := { row := solvesUptoRow, standIns := [], harness := (true, "42d2ab99265fe3a29f23dc0a134b4986c23345365f35f7250f63e5b0a58afe08"), looks := false }, kinds := [], alts := [], laidByText := true, laidKinds := [.data], laidTests := true, laidLooks := .later }
def SolvesUptoCardSaid : Prop := Claim7.holds Tryd.pinned (.plain (OpenSpec.upto solvesSpec)) solvesUptoCard

/-- THE SECOND FORM's CARD OF 'yardlaw.Texts'. -/
def textsUptoCard : Claim7 := { stood := { row := textsUptoRow, standIns := [], harness := (true, "42d2ab99265fe3a29f23dc0a134b4986c23345365f35f7250f63e5b0a58afe08"), looks := false }, kinds := [], alts := [], laidByText := true, laidKinds := [.data, .data, .data], laidTests := true, laidLooks := .later }
def TextsUptoCardSaid : Prop := Claim7.holds Tryd.pinned (.plain (OpenSpec.upto textsSpec)) textsUptoCard

/-- THE SECOND FORM's CARD OF 'yardkeep.Steps'. -/
def stepsUptoCard : Claim7 := { stood := { row := stepsUptoRow, standIns := [], harness := (true, "42d2ab99265fe3a29f23dc0a134b4986c23345365f35f7250f63e5b0a58afe08"), looks := false }, kinds := [], alts := [], laidByText := true, laidKinds := [.data], laidTests := true, laidLooks := .later }
def StepsUptoCardSaid : Prop := Claim7.holds Tryd.pinned (.plain (OpenSpec.upto stepsSpec)) stepsUptoCard

/-- THE SECOND FORM's CARD OF 'yardkeep.Single'. -/
def singleUptoCard : Claim7 := { stood := { row := singleUptoRow, standIns := [], harness := (true, "42d2ab99265fe3a29f23dc0a134b4986c23345365f35f7250f63e5b0a58afe08"), looks := false }, kinds := [], alts := [], laidByText := true, laidKinds := [.data], laidTests := true, laidLooks := .later }
def SingleUptoCardSaid : Prop := Claim7.holds Tryd.pinned (.plain (OpenSpec.upto singleSpec)) singleUptoCard

/-- THE SECOND FORM's CARD OF 'yardkeep.Lanes'. -/
def lanesUptoCard : Claim7 := { stood := { row := lanesUptoRow, standIns := [], harness := (true, "42d2ab99265fe3a29f23dc0a134b4986c23345365f35f7250f63e5b0a58afe08"), looks := false }, kinds := [], alts := [], laidByText := true, laidKinds := [.data], laidTests := true, laidLooks := .later }
def LanesUptoCardSaid : Prop := Claim7.holds Tryd.pinned (.plain (OpenSpec.upto lanesSpec)) lanesUptoCard
end Rows
end Go.Proofs.YtnkgpinadgacgaaDoor
