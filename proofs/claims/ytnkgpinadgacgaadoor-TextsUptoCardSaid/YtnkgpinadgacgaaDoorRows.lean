/-
  NARROWER THAN 'FOR EVERY INPUT', by the rows' own cells (each row's printed sentence says how): Fars: laid · Alones: laid · Layered: laid · Judges: laid · Counts: laid · Solves: laid · Texts: laid · Steps: laid · Single: laid · Lanes: laid.
  DERIVED. THE GIVEN ROWS OF THIS SEAT. 10 by the template 'for every input the law returns true; each argument reads behind the call as it read before'; 0 by the template 'total and deterministic' (their statements: YtnkgpinadgacgaaDoorTotals.lean).
  GIVEN WITH THE SEED: the statements are not yours to turn. If you find one false, say at which input.
  Laid BY PROGRAM, IN A SANDBOX (cutbox-rows.mjs): the forced cells as the released guide's own fill.sh prints them over the translation bfe2eaf75a893803… (all of the seat's roots in one cut). By AI agents, Wed Nov 11 2026. No macro, syntax, notation, axiom, sorry.
-/
import Derived.Test.YtnkgpinadgacgaaDoorChecked
import GoSem.Claim
import GoSem.ClaimJoined
import GoSem.ClaimMapViews
import Derived.JoinedTies
import Derived.KernelRfl
namespace Go.Proofs.YtnkgpinadgacgaaDoor
/- THE CELL 'sum', in the pinned program and in every row, IS THE sha256 OF THE DUMP (.gsa) THAT YtnkgpinadgacgaaDoorProg.lean LOADS. Nothing in Lean hashes anything: it is a label: what it is worth is what the hold of that sum in a sandbox is worth. -/
noncomputable def Tryd.pinned : Pinned := { name := "ytnkgpinadgacgaadoor", sum := "bfe2eaf75a8938039730cf07417268553a7e77bad31ba9382b811879d20b20f1", checked := Tryd.checked }
namespace Rows
def none {H : Type} : Left H := { results := [], args := [] }

/- WHAT THE LISTED PACKAGE-LEVEL VARIABLES READ AS WHEN THE CALL BEGINS. Each datum BY PROGRAM (the guide's laid-datum.mjs) off the statement by which the dump's own 'gosem.cut.vars' lays the variable. In a bare row this is a premise. The card (YtnkgpinadgacgaaDoorCards.lean) ties it to the program's text. -/
def laid_yard_grid_sides {H : Type} : DataW H := .agg [.agg [.lit (.int .i64 (-1)), .lit (.int .i64 0)], .agg [.lit (.int .i64 1), .lit (.int .i64 0)], .agg [.lit (.int .i64 0), .lit (.int .i64 (-1))], .agg [.lit (.int .i64 0), .lit (.int .i64 1)]]
def laid_math_bits_deBruijn32tab {H : Type} : DataW H := .agg [.lit (.int .u8 0), .lit (.int .u8 1), .lit (.int .u8 28), .lit (.int .u8 2), .lit (.int .u8 29), .lit (.int .u8 14), .lit (.int .u8 24), .lit (.int .u8 3), .lit (.int .u8 30), .lit (.int .u8 22), .lit (.int .u8 20), .lit (.int .u8 15), .lit (.int .u8 25), .lit (.int .u8 17), .lit (.int .u8 4), .lit (.int .u8 8), .lit (.int .u8 31), .lit (.int .u8 27), .lit (.int .u8 13), .lit (.int .u8 23), .lit (.int .u8 21), .lit (.int .u8 19), .lit (.int .u8 16), .lit (.int .u8 7), .lit (.int .u8 26), .lit (.int .u8 12), .lit (.int .u8 18), .lit (.int .u8 6), .lit (.int .u8 11), .lit (.int .u8 5), .lit (.int .u8 10), .lit (.int .u8 9)]
def laid_math_bits_deBruijn64tab {H : Type} : DataW H := .agg [.lit (.int .u8 0), .lit (.int .u8 1), .lit (.int .u8 56), .lit (.int .u8 2), .lit (.int .u8 57), .lit (.int .u8 49), .lit (.int .u8 28), .lit (.int .u8 3), .lit (.int .u8 61), .lit (.int .u8 58), .lit (.int .u8 42), .lit (.int .u8 50), .lit (.int .u8 38), .lit (.int .u8 29), .lit (.int .u8 17), .lit (.int .u8 4), .lit (.int .u8 62), .lit (.int .u8 47), .lit (.int .u8 59), .lit (.int .u8 36), .lit (.int .u8 45), .lit (.int .u8 43), .lit (.int .u8 51), .lit (.int .u8 22), .lit (.int .u8 53), .lit (.int .u8 39), .lit (.int .u8 33), .lit (.int .u8 30), .lit (.int .u8 24), .lit (.int .u8 18), .lit (.int .u8 12), .lit (.int .u8 5), .lit (.int .u8 63), .lit (.int .u8 55), .lit (.int .u8 48), .lit (.int .u8 27), .lit (.int .u8 60), .lit (.int .u8 41), .lit (.int .u8 37), .lit (.int .u8 16), .lit (.int .u8 46), .lit (.int .u8 35), .lit (.int .u8 44), .lit (.int .u8 21), .lit (.int .u8 52), .lit (.int .u8 32), .lit (.int .u8 23), .lit (.int .u8 11), .lit (.int .u8 54), .lit (.int .u8 26), .lit (.int .u8 40), .lit (.int .u8 15), .lit (.int .u8 34), .lit (.int .u8 20), .lit (.int .u8 31), .lit (.int .u8 10), .lit (.int .u8 25), .lit (.int .u8 14), .lit (.int .u8 19), .lit (.int .u8 9), .lit (.int .u8 13), .lit (.int .u8 8), .lit (.int .u8 7), .lit (.int .u8 6)]
def laid_internal_strconv_uint64pow10 {H : Type} : DataW H := .agg [.lit (.int .u64 1), .lit (.int .u64 10), .lit (.int .u64 100), .lit (.int .u64 1000), .lit (.int .u64 10000), .lit (.int .u64 100000), .lit (.int .u64 1000000), .lit (.int .u64 10000000), .lit (.int .u64 100000000), .lit (.int .u64 1000000000), .lit (.int .u64 10000000000), .lit (.int .u64 100000000000), .lit (.int .u64 1000000000000), .lit (.int .u64 10000000000000), .lit (.int .u64 100000000000000), .lit (.int .u64 1000000000000000), .lit (.int .u64 10000000000000000), .lit (.int .u64 100000000000000000), .lit (.int .u64 1000000000000000000), .lit (.int .u64 10000000000000000000)]

/-- 'yardlaw.Fars': WHATEVER THE INPUT: true; the input reads as it did. -/
def farsSpec : ChangeSpec := { name := "fars", fn := fun _ => fun
  | [d1, d2] => { results := [.lit (.bool true)], args := [d1, d2] }
  | _ => none }
def farsRow : OpenClaim := { program := "ytnkgpinadgacgaadoor", sum := "bfe2eaf75a8938039730cf07417268553a7e77bad31ba9382b811879d20b20f1", func := "yard/yardlaw.Fars", spec := "fars", named := ["yard/grid.sides"], plainKeys := false, apart := false, laid := [("yard/grid.sides", laid_yard_grid_sides)] }
def FarsSaid : Prop := farsRow.holds Tryd.pinned (OpenSpec.ofChange farsSpec)

/-- ITS FALSE NEIGHBOUR: 'it returns false'. Refute it at one input. -/
def farsWrong : ChangeSpec := { name := "fars", fn := fun _ => fun
  | [d1, d2] => { results := [.lit (.bool false)], args := [d1, d2] }
  | _ => none }
def FarsWrongFalsely : Prop := farsRow.holds Tryd.pinned (OpenSpec.ofChange farsWrong)

/-- 'yardlaw.Alones': WHATEVER THE INPUT: true; the input reads as it did. -/
def alonesSpec : ChangeSpec := { name := "alones", fn := fun _ => fun
  | [d1, d2, d3] => { results := [.lit (.bool true)], args := [d1, d2, d3] }
  | _ => none }
def alonesRow : OpenClaim := { program := "ytnkgpinadgacgaadoor", sum := "bfe2eaf75a8938039730cf07417268553a7e77bad31ba9382b811879d20b20f1", func := "yard/yardlaw.Alones", spec := "alones", unfollowed := true, recurses := true, named := ["yard/grid.sides"], plainKeys := false, apart := false, laid := [("yard/grid.sides", laid_yard_grid_sides)] }
def AlonesSaid : Prop := alonesRow.holds Tryd.pinned (OpenSpec.ofChange alonesSpec)

/-- ITS FALSE NEIGHBOUR: 'it returns false'. Refute it at one input. -/
def alonesWrong : ChangeSpec := { name := "alones", fn := fun _ => fun
  | [d1, d2, d3] => { results := [.lit (.bool false)], args := [d1, d2, d3] }
  | _ => none }
def AlonesWrongFalsely : Prop := alonesRow.holds Tryd.pinned (OpenSpec.ofChange alonesWrong)

/-- 'yardlaw.Layered': WHATEVER THE INPUT: true; the input reads as it did. -/
def layeredSpec : ChangeSpec := { name := "layered", fn := fun _ => fun
  | [d1, d2, d3, d4] => { results := [.lit (.bool true)], args := [d1, d2, d3, d4] }
  | _ => none }
def layeredRow : OpenClaim := { program := "ytnkgpinadgacgaadoor", sum := "bfe2eaf75a8938039730cf07417268553a7e77bad31ba9382b811879d20b20f1", func := "yard/yardlaw.Layered", spec := "layered", unfollowed := true, recurses := true, named := ["yard/grid.sides"], plainKeys := false, apart := false, laid := [("yard/grid.sides", laid_yard_grid_sides)] }
def LayeredSaid : Prop := layeredRow.holds Tryd.pinned (OpenSpec.ofChange layeredSpec)

/-- ITS FALSE NEIGHBOUR: 'it returns false'. Refute it at one input. -/
def layeredWrong : ChangeSpec := { name := "layered", fn := fun _ => fun
  | [d1, d2, d3, d4] => { results := [.lit (.bool false)], args := [d1, d2, d3, d4] }
  | _ => none }
def LayeredWrongFalsely : Prop := layeredRow.holds Tryd.pinned (OpenSpec.ofChange layeredWrong)

/-- 'yardlaw.Judges': WHATEVER THE INPUT: true; the input reads as it did. -/
def judgesSpec : ChangeSpec := { name := "judges", fn := fun _ => fun
  | [d1, d2, d3] => { results := [.lit (.bool true)], args := [d1, d2, d3] }
  | _ => none }
def judgesRow : OpenClaim := { program := "ytnkgpinadgacgaadoor", sum := "bfe2eaf75a8938039730cf07417268553a7e77bad31ba9382b811879d20b20f1", func := "yard/yardlaw.Judges", spec := "judges", unfollowed := true, recurses := true, named := ["yard/grid.sides"], plainKeys := false, apart := false, laid := [("yard/grid.sides", laid_yard_grid_sides)] }
def JudgesSaid : Prop := judgesRow.holds Tryd.pinned (OpenSpec.ofChange judgesSpec)

/-- ITS FALSE NEIGHBOUR: 'it returns false'. Refute it at one input. -/
def judgesWrong : ChangeSpec := { name := "judges", fn := fun _ => fun
  | [d1, d2, d3] => { results := [.lit (.bool false)], args := [d1, d2, d3] }
  | _ => none }
def JudgesWrongFalsely : Prop := judgesRow.holds Tryd.pinned (OpenSpec.ofChange judgesWrong)

/-- 'yardlaw.Counts': WHATEVER THE INPUT: true; the input reads as it did. -/
def countsSpec : ChangeSpec := { name := "counts", fn := fun _ => fun
  | [d] => { results := [.lit (.bool true)], args := [d] }
  | _ => none }
def countsRow : OpenClaim := { program := "ytnkgpinadgacgaadoor", sum := "bfe2eaf75a8938039730cf07417268553a7e77bad31ba9382b811879d20b20f1", func := "yard/yardlaw.Counts", spec := "counts", named := ["yard/grid.sides"], plainKeys := false, apart := false, laid := [("yard/grid.sides", laid_yard_grid_sides)] }
def CountsSaid : Prop := countsRow.holds Tryd.pinned (OpenSpec.ofChange countsSpec)

/-- ITS FALSE NEIGHBOUR: 'it returns false'. Refute it at one input. -/
def countsWrong : ChangeSpec := { name := "counts", fn := fun _ => fun
  | [d] => { results := [.lit (.bool false)], args := [d] }
  | _ => none }
def CountsWrongFalsely : Prop := countsRow.holds Tryd.pinned (OpenSpec.ofChange countsWrong)

/-- 'yardlaw.Solves': WHATEVER THE INPUT: true; the input reads as it did. -/
def solvesSpec : ChangeSpec := { name := "solves", fn := fun _ => fun
  | [d] => { results := [.lit (.bool true)], args := [d] }
  | _ => none }
def solvesRow : OpenClaim := { program := "ytnkgpinadgacgaadoor", sum := "bfe2eaf75a8938039730cf07417268553a7e77bad31ba9382b811879d20b20f1", func := "yard/yardlaw.Solves", spec := "solves", unfollowed := true, recurses := true, named := ["yard/grid.sides"], plainKeys := false, apart := false, laid := [("yard/grid.sides", laid_yard_grid_sides)] }
def SolvesSaid : Prop := solvesRow.holds Tryd.pinned (OpenSpec.ofChange solvesSpec)

/-- ITS FALSE NEIGHBOUR: 'it returns false'. Refute it at one input. -/
def solvesWrong : ChangeSpec := { name := "solves", fn := fun _ => fun
  | [d] => { results := [.lit (.bool false)], args := [d] }
  | _ => none }
def SolvesWrongFalsely : Prop := solvesRow.holds Tryd.pinned (OpenSpec.ofChange solvesWrong)

/-- 'yardlaw.Texts': WHATEVER THE INPUT: true; the input reads as it did. -/
def textsSpec : ChangeSpec := { name := "texts", fn := fun _ => fun
  | [d1, d2] => { results := [.lit (.bool true)], args := [d1, d2] }
  | _ => none }
def textsRow : OpenClaim := { program := "ytnkgpinadgacgaadoor", sum := "bfe2eaf75a8938039730cf07417268553a7e77bad31ba9382b811879d20b20f1", func := "yard/yardlaw.Texts", spec := "texts", inPlace := ["internal/abi.NoEscape"], recurses := true, named := ["internal/strconv.uint64pow10", "math/bits.deBruijn32tab", "math/bits.deBruijn64tab"], plainKeys := false, apart := false, laid := [("math/bits.deBruijn32tab", laid_math_bits_deBruijn32tab), ("math/bits.deBruijn64tab", laid_math_bits_deBruijn64tab), ("internal/strconv.uint64pow10", laid_internal_strconv_uint64pow10)] }
def TextsSaid : Prop := textsRow.holds Tryd.pinned (OpenSpec.ofChange textsSpec)

/-- ITS FALSE NEIGHBOUR: 'it returns false'. Refute it at one input. -/
def textsWrong : ChangeSpec := { name := "texts", fn := fun _ => fun
  | [d1, d2] => { results := [.lit (.bool false)], args := [d1, d2] }
  | _ => none }
def TextsWrongFalsely : Prop := textsRow.holds Tryd.pinned (OpenSpec.ofChange textsWrong)

/-- 'yardkeep.Steps': WHATEVER THE INPUT: true; the input reads as it did. -/
def stepsSpec : ChangeSpec := { name := "steps", fn := fun _ => fun
  | [d1, d2, d3] => { results := [.lit (.bool true)], args := [d1, d2, d3] }
  | _ => none }
def stepsRow : OpenClaim := { program := "ytnkgpinadgacgaadoor", sum := "bfe2eaf75a8938039730cf07417268553a7e77bad31ba9382b811879d20b20f1", func := "yard/yardkeep.Steps", spec := "steps", named := ["yard/grid.sides"], plainKeys := false, apart := false, laid := [("yard/grid.sides", laid_yard_grid_sides)] }
def StepsSaid : Prop := stepsRow.holds Tryd.pinned (OpenSpec.ofChange stepsSpec)

/-- ITS FALSE NEIGHBOUR: 'it returns false'. Refute it at one input. -/
def stepsWrong : ChangeSpec := { name := "steps", fn := fun _ => fun
  | [d1, d2, d3] => { results := [.lit (.bool false)], args := [d1, d2, d3] }
  | _ => none }
def StepsWrongFalsely : Prop := stepsRow.holds Tryd.pinned (OpenSpec.ofChange stepsWrong)

/-- 'yardkeep.Single': WHATEVER THE INPUT: true; the input reads as it did. -/
def singleSpec : ChangeSpec := { name := "single", fn := fun _ => fun
  | [d1, d2, d3, d4, d5] => { results := [.lit (.bool true)], args := [d1, d2, d3, d4, d5] }
  | _ => none }
def singleRow : OpenClaim := { program := "ytnkgpinadgacgaadoor", sum := "bfe2eaf75a8938039730cf07417268553a7e77bad31ba9382b811879d20b20f1", func := "yard/yardkeep.Single", spec := "single", unfollowed := true, recurses := true, named := ["yard/grid.sides"], plainKeys := false, apart := false, laid := [("yard/grid.sides", laid_yard_grid_sides)] }
def SingleSaid : Prop := singleRow.holds Tryd.pinned (OpenSpec.ofChange singleSpec)

/-- ITS FALSE NEIGHBOUR: 'it returns false'. Refute it at one input. -/
def singleWrong : ChangeSpec := { name := "single", fn := fun _ => fun
  | [d1, d2, d3, d4, d5] => { results := [.lit (.bool false)], args := [d1, d2, d3, d4, d5] }
  | _ => none }
def SingleWrongFalsely : Prop := singleRow.holds Tryd.pinned (OpenSpec.ofChange singleWrong)

/-- 'yardkeep.Lanes': WHATEVER THE INPUT: true; the input reads as it did. -/
def lanesSpec : ChangeSpec := { name := "lanes", fn := fun _ => fun
  | [d1, d2, d3, d4, d5] => { results := [.lit (.bool true)], args := [d1, d2, d3, d4, d5] }
  | _ => none }
def lanesRow : OpenClaim := { program := "ytnkgpinadgacgaadoor", sum := "bfe2eaf75a8938039730cf07417268553a7e77bad31ba9382b811879d20b20f1", func := "yard/yardkeep.Lanes", spec := "lanes", unfollowed := true, recurses := true, named := ["yard/grid.sides"], plainKeys := false, apart := false, laid := [("yard/grid.sides", laid_yard_grid_sides)] }
def LanesSaid : Prop := lanesRow.holds Tryd.pinned (OpenSpec.ofChange lanesSpec)

/-- ITS FALSE NEIGHBOUR: 'it returns false'. Refute it at one input. -/
def lanesWrong : ChangeSpec := { name := "lanes", fn := fun _ => fun
  | [d1, d2, d3, d4, d5] => { results := [.lit (.bool false)], args := [d1, d2, d3, d4, d5] }
  | _ => none }
def LanesWrongFalsely : Prop := lanesRow.holds Tryd.pinned (OpenSpec.ofChange lanesWrong)

/- THE SECOND FORM. 'bulk': how many values and letters a reading holds, each counted each time it is reached (what is shared counts as often as it is met; a slice's spare places count too). A statement '..UptoSaid' is the law's where the arguments, and the package variables that the reading takes, are together of bulk at most 1048576: NARROWER than '..Said'. Prove '..Said' where nothing that the law and all that it calls make is longer than what came in: it says more and counts as full. Else prove '..UptoSaid'. A law counts once. -/
mutual
def uptoBulk {H : Type} : DataW H → Nat
  | .lit (.string bytes) => bytes.length + 1
  | .lit _ => 1
  | .nil => 1
  | .ptr d => uptoBulk d + 1
  | .slice elems spare => uptoBulkAll elems + uptoBulkAll spare + 1
  | .agg parts => uptoBulkAll parts + 1
  | .iface _ d => uptoBulk d + 1
  | .map entries => uptoBulkEntries entries + 1
  | .held _ => 1
def uptoBulkAll {H : Type} : List (DataW H) → Nat
  | [] => 0
  | d :: r => uptoBulk d + uptoBulkAll r
def uptoBulkEntries {H : Type} : List (Lit × DataW H) → Nat
  | [] => 0
  | x :: r => uptoBulkEntry x + uptoBulkEntries r
def uptoBulkEntry {H : Type} : Lit × DataW H → Nat
  | (.string bytes, d) => bytes.length + uptoBulk d + 1
  | (_, d) => uptoBulk d + 1
 end
def uptoSmall : (H : Type) → List (DataW H) → Bool := fun _ ds => decide (uptoBulkAll ds ≤ 1048576)
def OpenSpec.upto (s : _root_.Go.ChangeSpec) : _root_.Go.OpenSpec := { _root_.Go.OpenSpec.ofChange s with cond := some uptoSmall }

/-- 'yardlaw.Fars', WHERE WHAT IT READS IS OF BULK AT MOST 1048576: true; the input reads as it did. -/
def farsUptoRow : OpenClaim := { program := "ytnkgpinadgacgaadoor", sum := "bfe2eaf75a8938039730cf07417268553a7e77bad31ba9382b811879d20b20f1", func := "yard/yardlaw.Fars", spec := "fars", named := ["yard/grid.sides"], plainKeys := false, apart := false, laid := [("yard/grid.sides", laid_yard_grid_sides)], narrowed := true }
def FarsUptoSaid : Prop := farsUptoRow.holds Tryd.pinned (OpenSpec.upto farsSpec)

/-- 'yardlaw.Alones', WHERE WHAT IT READS IS OF BULK AT MOST 1048576: true; the input reads as it did. -/
def alonesUptoRow : OpenClaim := { program := "ytnkgpinadgacgaadoor", sum := "bfe2eaf75a8938039730cf07417268553a7e77bad31ba9382b811879d20b20f1", func := "yard/yardlaw.Alones", spec := "alones", unfollowed := true, recurses := true, named := ["yard/grid.sides"], plainKeys := false, apart := false, laid := [("yard/grid.sides", laid_yard_grid_sides)], narrowed := true }
def AlonesUptoSaid : Prop := alonesUptoRow.holds Tryd.pinned (OpenSpec.upto alonesSpec)

/-- 'yardlaw.Layered', WHERE WHAT IT READS IS OF BULK AT MOST 1048576: true; the input reads as it did. -/
def layeredUptoRow : OpenClaim := { program := "ytnkgpinadgacgaadoor", sum := "bfe2eaf75a8938039730cf07417268553a7e77bad31ba9382b811879d20b20f1", func := "yard/yardlaw.Layered", spec := "layered", unfollowed := true, recurses := true, named := ["yard/grid.sides"], plainKeys := false, apart := false, laid := [("yard/grid.sides", laid_yard_grid_sides)], narrowed := true }
def LayeredUptoSaid : Prop := layeredUptoRow.holds Tryd.pinned (OpenSpec.upto layeredSpec)

/-- 'yardlaw.Judges', WHERE WHAT IT READS IS OF BULK AT MOST 1048576: true; the input reads as it did. -/
def judgesUptoRow : OpenClaim := { program := "ytnkgpinadgacgaadoor", sum := "bfe2eaf75a8938039730cf07417268553a7e77bad31ba9382b811879d20b20f1", func := "yard/yardlaw.Judges", spec := "judges", unfollowed := true, recurses := true, named := ["yard/grid.sides"], plainKeys := false, apart := false, laid := [("yard/grid.sides", laid_yard_grid_sides)], narrowed := true }
def JudgesUptoSaid : Prop := judgesUptoRow.holds Tryd.pinned (OpenSpec.upto judgesSpec)

/-- 'yardlaw.Counts', WHERE WHAT IT READS IS OF BULK AT MOST 1048576: true; the input reads as it did. -/
def countsUptoRow : OpenClaim := { program := "ytnkgpinadgacgaadoor", sum := "bfe2eaf75a8938039730cf07417268553a7e77bad31ba9382b811879d20b20f1", func := "yard/yardlaw.Counts", spec := "counts", named := ["yard/grid.sides"], plainKeys := false, apart := false, laid := [("yard/grid.sides", laid_yard_grid_sides)], narrowed := true }
def CountsUptoSaid : Prop := countsUptoRow.holds Tryd.pinned (OpenSpec.upto countsSpec)

/-- 'yardlaw.Solves', WHERE WHAT IT READS IS OF BULK AT MOST 1048576: true; the input reads as it did. -/
def solvesUptoRow : OpenClaim := { program := "ytnkgpinadgacgaadoor", sum := "bfe2eaf75a8938039730cf07417268553a7e77bad31ba9382b811879d20b20f1", func := "yard/yardlaw.Solves", spec := "solves", unfollowed := true, recurses := true, named := ["yard/grid.sides"], plainKeys := false, apart := false, laid := [("yard/grid.sides", laid_yard_grid_sides)], narrowed := true }
def SolvesUptoSaid : Prop := solvesUptoRow.holds Tryd.pinned (OpenSpec.upto solvesSpec)

/-- 'yardlaw.Texts', WHERE WHAT IT READS IS OF BULK AT MOST 1048576: true; the input reads as it did. -/
def textsUptoRow : OpenClaim := { program := "ytnkgpinadgacgaadoor", sum := "bfe2eaf75a8938039730cf07417268553a7e77bad31ba9382b811879d20b20f1", func := "yard/yardlaw.Texts", spec := "texts", inPlace := ["internal/abi.NoEscape"], recurses := true, named := ["internal/strconv.uint64pow10", "math/bits.deBruijn32tab", "math/bits.deBruijn64tab"], plainKeys := false, apart := false, laid := [("math/bits.deBruijn32tab", laid_math_bits_deBruijn32tab), ("math/bits.deBruijn64tab", laid_math_bits_deBruijn64tab), ("internal/strconv.uint64pow10", laid_internal_strconv_uint64pow10)], narrowed := true }
def TextsUptoSaid : Prop := textsUptoRow.holds Tryd.pinned (OpenSpec.upto textsSpec)

/-- 'yardkeep.Steps', WHERE WHAT IT READS IS OF BULK AT MOST 1048576: true; the input reads as it did. -/
def stepsUptoRow : OpenClaim := { program := "ytnkgpinadgacgaadoor", sum := "bfe2eaf75a8938039730cf07417268553a7e77bad31ba9382b811879d20b20f1", func := "yard/yardkeep.Steps", spec := "steps", named := ["yard/grid.sides"], plainKeys := false, apart := false, laid := [("yard/grid.sides", laid_yard_grid_sides)], narrowed := true }
def StepsUptoSaid : Prop := stepsUptoRow.holds Tryd.pinned (OpenSpec.upto stepsSpec)

/-- 'yardkeep.Single', WHERE WHAT IT READS IS OF BULK AT MOST 1048576: true; the input reads as it did. -/
def singleUptoRow : OpenClaim := { program := "ytnkgpinadgacgaadoor", sum := "bfe2eaf75a8938039730cf07417268553a7e77bad31ba9382b811879d20b20f1", func := "yard/yardkeep.Single", spec := "single", unfollowed := true, recurses := true, named := ["yard/grid.sides"], plainKeys := false, apart := false, laid := [("yard/grid.sides", laid_yard_grid_sides)], narrowed := true }
def SingleUptoSaid : Prop := singleUptoRow.holds Tryd.pinned (OpenSpec.upto singleSpec)

/-- 'yardkeep.Lanes', WHERE WHAT IT READS IS OF BULK AT MOST 1048576: true; the input reads as it did. -/
def lanesUptoRow : OpenClaim := { program := "ytnkgpinadgacgaadoor", sum := "bfe2eaf75a8938039730cf07417268553a7e77bad31ba9382b811879d20b20f1", func := "yard/yardkeep.Lanes", spec := "lanes", unfollowed := true, recurses := true, named := ["yard/grid.sides"], plainKeys := false, apart := false, laid := [("yard/grid.sides", laid_yard_grid_sides)], narrowed := true }
def LanesUptoSaid : Prop := lanesUptoRow.holds Tryd.pinned (OpenSpec.upto lanesSpec)

end Rows
end Go.Proofs.YtnkgpinadgacgaaDoor
