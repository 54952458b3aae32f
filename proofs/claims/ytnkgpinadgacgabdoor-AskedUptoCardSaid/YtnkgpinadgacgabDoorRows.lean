/-
  NARROWER THAN 'FOR EVERY INPUT', by the rows' own cells (each row's printed sentence says how): Made: laid · Mirrored: laid · Walled: laid · Few: laid · Judged: laid · Back: laid · Asked: laid.
  DERIVED. THE GIVEN ROWS OF THIS SEAT. 7 by the template 'for every input the law returns true; each argument reads behind the call as it read before'; 0 by the template 'total and deterministic' (their statements: YtnkgpinadgacgabDoorTotals.lean).
  GIVEN WITH THE SEED: the statements are not yours to turn. If you find one false, say at which input.
  Laid BY PROGRAM, IN A SANDBOX (cutbox-rows.mjs): the forced cells as the released guide's own fill.sh prints them over the translation 24b4a8206290cfe0… (all of the seat's roots in one cut). By AI agents, Wed Nov 11 2026. No macro, syntax, notation, axiom, sorry.
-/
import Derived.Test.YtnkgpinadgacgabDoorChecked
import GoSem.Claim
import GoSem.ClaimJoined
import GoSem.ClaimMapViews
import Derived.JoinedTies
import Derived.KernelRfl
namespace Go.Proofs.YtnkgpinadgacgabDoor
/- THE CELL 'sum', in the pinned program and in every row, IS THE sha256 OF THE DUMP (.gsa) THAT YtnkgpinadgacgabDoorProg.lean LOADS. Nothing in Lean hashes anything: it is a label: what it is worth is what the hold of that sum in a sandbox is worth. -/
noncomputable def Tryd.pinned : Pinned := { name := "ytnkgpinadgacgabdoor", sum := "24b4a8206290cfe03a14432ee62c88864710a1dacb4e652ff0623edb958c8ecb", checked := Tryd.checked }
namespace Rows
def none {H : Type} : Left H := { results := [], args := [] }

/- WHAT THE LISTED PACKAGE-LEVEL VARIABLES READ AS WHEN THE CALL BEGINS. Each datum BY PROGRAM (the guide's laid-datum.mjs) off the statement by which the dump's own 'gosem.cut.vars' lays the variable. In a bare row this is a premise. The card (YtnkgpinadgacgabDoorCards.lean) ties it to the program's text. -/
def laid_yard_grid_sides {H : Type} : DataW H := .agg [.agg [.lit (.int .i64 (-1)), .lit (.int .i64 0)], .agg [.lit (.int .i64 1), .lit (.int .i64 0)], .agg [.lit (.int .i64 0), .lit (.int .i64 (-1))], .agg [.lit (.int .i64 0), .lit (.int .i64 1)]]
def laid_math_bits_deBruijn32tab {H : Type} : DataW H := .agg [.lit (.int .u8 0), .lit (.int .u8 1), .lit (.int .u8 28), .lit (.int .u8 2), .lit (.int .u8 29), .lit (.int .u8 14), .lit (.int .u8 24), .lit (.int .u8 3), .lit (.int .u8 30), .lit (.int .u8 22), .lit (.int .u8 20), .lit (.int .u8 15), .lit (.int .u8 25), .lit (.int .u8 17), .lit (.int .u8 4), .lit (.int .u8 8), .lit (.int .u8 31), .lit (.int .u8 27), .lit (.int .u8 13), .lit (.int .u8 23), .lit (.int .u8 21), .lit (.int .u8 19), .lit (.int .u8 16), .lit (.int .u8 7), .lit (.int .u8 26), .lit (.int .u8 12), .lit (.int .u8 18), .lit (.int .u8 6), .lit (.int .u8 11), .lit (.int .u8 5), .lit (.int .u8 10), .lit (.int .u8 9)]
def laid_math_bits_deBruijn64tab {H : Type} : DataW H := .agg [.lit (.int .u8 0), .lit (.int .u8 1), .lit (.int .u8 56), .lit (.int .u8 2), .lit (.int .u8 57), .lit (.int .u8 49), .lit (.int .u8 28), .lit (.int .u8 3), .lit (.int .u8 61), .lit (.int .u8 58), .lit (.int .u8 42), .lit (.int .u8 50), .lit (.int .u8 38), .lit (.int .u8 29), .lit (.int .u8 17), .lit (.int .u8 4), .lit (.int .u8 62), .lit (.int .u8 47), .lit (.int .u8 59), .lit (.int .u8 36), .lit (.int .u8 45), .lit (.int .u8 43), .lit (.int .u8 51), .lit (.int .u8 22), .lit (.int .u8 53), .lit (.int .u8 39), .lit (.int .u8 33), .lit (.int .u8 30), .lit (.int .u8 24), .lit (.int .u8 18), .lit (.int .u8 12), .lit (.int .u8 5), .lit (.int .u8 63), .lit (.int .u8 55), .lit (.int .u8 48), .lit (.int .u8 27), .lit (.int .u8 60), .lit (.int .u8 41), .lit (.int .u8 37), .lit (.int .u8 16), .lit (.int .u8 46), .lit (.int .u8 35), .lit (.int .u8 44), .lit (.int .u8 21), .lit (.int .u8 52), .lit (.int .u8 32), .lit (.int .u8 23), .lit (.int .u8 11), .lit (.int .u8 54), .lit (.int .u8 26), .lit (.int .u8 40), .lit (.int .u8 15), .lit (.int .u8 34), .lit (.int .u8 20), .lit (.int .u8 31), .lit (.int .u8 10), .lit (.int .u8 25), .lit (.int .u8 14), .lit (.int .u8 19), .lit (.int .u8 9), .lit (.int .u8 13), .lit (.int .u8 8), .lit (.int .u8 7), .lit (.int .u8 6)]
def laid_internal_strconv_uint64pow10 {H : Type} : DataW H := .agg [.lit (.int .u64 1), .lit (.int .u64 10), .lit (.int .u64 100), .lit (.int .u64 1000), .lit (.int .u64 10000), .lit (.int .u64 100000), .lit (.int .u64 1000000), .lit (.int .u64 10000000), .lit (.int .u64 100000000), .lit (.int .u64 1000000000), .lit (.int .u64 10000000000), .lit (.int .u64 100000000000), .lit (.int .u64 1000000000000), .lit (.int .u64 10000000000000), .lit (.int .u64 100000000000000), .lit (.int .u64 1000000000000000), .lit (.int .u64 10000000000000000), .lit (.int .u64 100000000000000000), .lit (.int .u64 1000000000000000000), .lit (.int .u64 10000000000000000000)]

/-- 'yardkeep.Made': WHATEVER THE INPUT: true; the input reads as it did. -/
def madeSpec : ChangeSpec := { name := "made", fn := fun _ => fun
  | [d1, d2] => { results := [.lit (.bool true)], args := [d1, d2] }
  | _ => none }
def madeRow : OpenClaim := { program := "ytnkgpinadgacgabdoor", sum := "24b4a8206290cfe03a14432ee62c88864710a1dacb4e652ff0623edb958c8ecb", func := "yard/yardkeep.Made", spec := "made", unfollowed := true, recurses := true, named := ["yard/grid.sides"], plainKeys := false, apart := false, laid := [("yard/grid.sides", laid_yard_grid_sides)] }
def MadeSaid : Prop := madeRow.holds Tryd.pinned (OpenSpec.ofChange madeSpec)

/-- ITS FALSE NEIGHBOUR: 'it returns false'. Refute it at one input. -/
def madeWrong : ChangeSpec := { name := "made", fn := fun _ => fun
  | [d1, d2] => { results := [.lit (.bool false)], args := [d1, d2] }
  | _ => none }
def MadeWrongFalsely : Prop := madeRow.holds Tryd.pinned (OpenSpec.ofChange madeWrong)

/-- 'yardkeep.Mirrored': WHATEVER THE INPUT: true; the input reads as it did. -/
def mirroredSpec : ChangeSpec := { name := "mirrored", fn := fun _ => fun
  | [d] => { results := [.lit (.bool true)], args := [d] }
  | _ => none }
def mirroredRow : OpenClaim := { program := "ytnkgpinadgacgabdoor", sum := "24b4a8206290cfe03a14432ee62c88864710a1dacb4e652ff0623edb958c8ecb", func := "yard/yardkeep.Mirrored", spec := "mirrored", unfollowed := true, recurses := true, named := ["yard/grid.sides"], plainKeys := false, apart := false, laid := [("yard/grid.sides", laid_yard_grid_sides)] }
def MirroredSaid : Prop := mirroredRow.holds Tryd.pinned (OpenSpec.ofChange mirroredSpec)

/-- ITS FALSE NEIGHBOUR: 'it returns false'. Refute it at one input. -/
def mirroredWrong : ChangeSpec := { name := "mirrored", fn := fun _ => fun
  | [d] => { results := [.lit (.bool false)], args := [d] }
  | _ => none }
def MirroredWrongFalsely : Prop := mirroredRow.holds Tryd.pinned (OpenSpec.ofChange mirroredWrong)

/-- 'yardkeep.Walled': WHATEVER THE INPUT: true; the input reads as it did. -/
def walledSpec : ChangeSpec := { name := "walled", fn := fun _ => fun
  | [d1, d2] => { results := [.lit (.bool true)], args := [d1, d2] }
  | _ => none }
def walledRow : OpenClaim := { program := "ytnkgpinadgacgabdoor", sum := "24b4a8206290cfe03a14432ee62c88864710a1dacb4e652ff0623edb958c8ecb", func := "yard/yardkeep.Walled", spec := "walled", unfollowed := true, recurses := true, named := ["yard/grid.sides"], plainKeys := false, apart := false, laid := [("yard/grid.sides", laid_yard_grid_sides)] }
def WalledSaid : Prop := walledRow.holds Tryd.pinned (OpenSpec.ofChange walledSpec)

/-- ITS FALSE NEIGHBOUR: 'it returns false'. Refute it at one input. -/
def walledWrong : ChangeSpec := { name := "walled", fn := fun _ => fun
  | [d1, d2] => { results := [.lit (.bool false)], args := [d1, d2] }
  | _ => none }
def WalledWrongFalsely : Prop := walledRow.holds Tryd.pinned (OpenSpec.ofChange walledWrong)

/-- 'yardkeep.Few': WHATEVER THE INPUT: true; the input reads as it did. -/
def fewSpec : ChangeSpec := { name := "few", fn := fun _ => fun
  | [d1, d2] => { results := [.lit (.bool true)], args := [d1, d2] }
  | _ => none }
def fewRow : OpenClaim := { program := "ytnkgpinadgacgabdoor", sum := "24b4a8206290cfe03a14432ee62c88864710a1dacb4e652ff0623edb958c8ecb", func := "yard/yardkeep.Few", spec := "few", unfollowed := true, recurses := true, named := ["yard/grid.sides"], plainKeys := false, apart := false, laid := [("yard/grid.sides", laid_yard_grid_sides)] }
def FewSaid : Prop := fewRow.holds Tryd.pinned (OpenSpec.ofChange fewSpec)

/-- ITS FALSE NEIGHBOUR: 'it returns false'. Refute it at one input. -/
def fewWrong : ChangeSpec := { name := "few", fn := fun _ => fun
  | [d1, d2] => { results := [.lit (.bool false)], args := [d1, d2] }
  | _ => none }
def FewWrongFalsely : Prop := fewRow.holds Tryd.pinned (OpenSpec.ofChange fewWrong)

/-- 'yardkeep.Judged': WHATEVER THE INPUT: true; the input reads as it did. -/
def judgedSpec : ChangeSpec := { name := "judged", fn := fun _ => fun
  | [d1, d2, d3, d4, d5, d6] => { results := [.lit (.bool true)], args := [d1, d2, d3, d4, d5, d6] }
  | _ => none }
def judgedRow : OpenClaim := { program := "ytnkgpinadgacgabdoor", sum := "24b4a8206290cfe03a14432ee62c88864710a1dacb4e652ff0623edb958c8ecb", func := "yard/yardkeep.Judged", spec := "judged", unfollowed := true, recurses := true, named := ["yard/grid.sides"], plainKeys := false, apart := false, laid := [("yard/grid.sides", laid_yard_grid_sides)] }
def JudgedSaid : Prop := judgedRow.holds Tryd.pinned (OpenSpec.ofChange judgedSpec)

/-- ITS FALSE NEIGHBOUR: 'it returns false'. Refute it at one input. -/
def judgedWrong : ChangeSpec := { name := "judged", fn := fun _ => fun
  | [d1, d2, d3, d4, d5, d6] => { results := [.lit (.bool false)], args := [d1, d2, d3, d4, d5, d6] }
  | _ => none }
def JudgedWrongFalsely : Prop := judgedRow.holds Tryd.pinned (OpenSpec.ofChange judgedWrong)

/-- 'yardkeep.Back': WHATEVER THE INPUT: true; the input reads as it did. -/
def backSpec : ChangeSpec := { name := "back", fn := fun _ => fun
  | [d1, d2, d3, d4] => { results := [.lit (.bool true)], args := [d1, d2, d3, d4] }
  | _ => none }
def backRow : OpenClaim := { program := "ytnkgpinadgacgabdoor", sum := "24b4a8206290cfe03a14432ee62c88864710a1dacb4e652ff0623edb958c8ecb", func := "yard/yardkeep.Back", spec := "back", inPlace := ["internal/abi.NoEscape"], named := ["internal/strconv.uint64pow10", "math/bits.deBruijn32tab", "math/bits.deBruijn64tab"], plainKeys := false, apart := false, laid := [("math/bits.deBruijn32tab", laid_math_bits_deBruijn32tab), ("math/bits.deBruijn64tab", laid_math_bits_deBruijn64tab), ("internal/strconv.uint64pow10", laid_internal_strconv_uint64pow10)] }
def BackSaid : Prop := backRow.holds Tryd.pinned (OpenSpec.ofChange backSpec)

/-- ITS FALSE NEIGHBOUR: 'it returns false'. Refute it at one input. -/
def backWrong : ChangeSpec := { name := "back", fn := fun _ => fun
  | [d1, d2, d3, d4] => { results := [.lit (.bool false)], args := [d1, d2, d3, d4] }
  | _ => none }
def BackWrongFalsely : Prop := backRow.holds Tryd.pinned (OpenSpec.ofChange backWrong)

/-- 'yardkeep.Asked': WHATEVER THE INPUT: true; the input reads as it did. -/
def askedSpec : ChangeSpec := { name := "asked", fn := fun _ => fun
  | [d1, d2] => { results := [.lit (.bool true)], args := [d1, d2] }
  | _ => none }
def askedRow : OpenClaim := { program := "ytnkgpinadgacgabdoor", sum := "24b4a8206290cfe03a14432ee62c88864710a1dacb4e652ff0623edb958c8ecb", func := "yard/yardkeep.Asked", spec := "asked", inPlace := ["internal/abi.NoEscape"], unfollowed := true, recurses := true, named := ["internal/strconv.uint64pow10", "math/bits.deBruijn32tab", "math/bits.deBruijn64tab", "yard/grid.sides"], plainKeys := false, apart := false, laid := [("math/bits.deBruijn32tab", laid_math_bits_deBruijn32tab), ("math/bits.deBruijn64tab", laid_math_bits_deBruijn64tab), ("internal/strconv.uint64pow10", laid_internal_strconv_uint64pow10), ("yard/grid.sides", laid_yard_grid_sides)] }
def AskedSaid : Prop := askedRow.holds Tryd.pinned (OpenSpec.ofChange askedSpec)

/-- ITS FALSE NEIGHBOUR: 'it returns false'. Refute it at one input. -/
def askedWrong : ChangeSpec := { name := "asked", fn := fun _ => fun
  | [d1, d2] => { results := [.lit (.bool false)], args := [d1, d2] }
  | _ => none }
def AskedWrongFalsely : Prop := askedRow.holds Tryd.pinned (OpenSpec.ofChange askedWrong)

/- THE SECOND FORM. 'bulk': how many values and letters a reading holds, each counted each time it is reached (what is shared counts as often as it is met; a slice's spare places count too). A statement '..UptoSaid' is the law's where the arguments, and the package variables that the reading takes, are together of bulk at most 1048576: NARROWER than '..Said'. Prove '..Said' where nothing that the law and all that it calls make is longer than what came in: it says more and counts as full. Else prove '..UptoSaid'. A law counts once. -/
mutual
def uptoBulk {H : Type} : DataW H → Nat
  | .lit (.string bytes) => bytes.length + 1
  | .lit _ => 1
  | .nil => 1
  | .ptr d => uptoBulk d + 1
  | .slice elems spare => uptoBulkAll elems + uptoBulkAll spare + 1
  | .agg parts => uptoBulkAll parts + 1
  | .iface _ d => uptoBulk d + 1
  | .map entries => uptoBulkEntries entries + 1
  | .held _ => 1
def uptoBulkAll {H : Type} : List (DataW H) → Nat
  | [] => 0
  | d :: r => uptoBulk d + uptoBulkAll r
def uptoBulkEntries {H : Type} : List (Lit × DataW H) → Nat
  | [] => 0
  | x :: r => uptoBulkEntry x + uptoBulkEntries r
def uptoBulkEntry {H : Type} : Lit × DataW H → Nat
  | (.string bytes, d) => bytes.length + uptoBulk d + 1
  | (_, d) => uptoBulk d + 1
 end
def uptoSmall : (H : Type) → List (DataW H) → Bool := fun _ ds => decide (uptoBulkAll ds ≤ 1048576)
def OpenSpec.upto (s : _root_.Go.ChangeSpec) : _root_.Go.OpenSpec := { _root_.Go.OpenSpec.ofChange s with cond := some uptoSmall }

/-- 'yardkeep.Made', WHERE WHAT IT READS IS OF BULK AT MOST 1048576: true; the input reads as it did. -/
def madeUptoRow : OpenClaim := { program := "ytnkgpinadgacgabdoor", sum := "24b4a8206290cfe03a14432ee62c88864710a1dacb4e652ff0623edb958c8ecb", func := "yard/yardkeep.Made", spec := "made", unfollowed := true, recurses := true, named := ["yard/grid.sides"], plainKeys := false, apart := false, laid := [("yard/grid.sides", laid_yard_grid_sides)], narrowed := true }
def MadeUptoSaid : Prop := madeUptoRow.holds Tryd.pinned (OpenSpec.upto madeSpec)

/-- 'yardkeep.Mirrored', WHERE WHAT IT READS IS OF BULK AT MOST 1048576: true; the input reads as it did. -/
def mirroredUptoRow : OpenClaim := { program := "ytnkgpinadgacgabdoor", sum := "24b4a8206290cfe03a14432ee62c88864710a1dacb4e652ff0623edb958c8ecb", func := "yard/yardkeep.Mirrored", spec := "mirrored", unfollowed := true, recurses := true, named := ["yard/grid.sides"], plainKeys := false, apart := false, laid := [("yard/grid.sides", laid_yard_grid_sides)], narrowed := true }
def MirroredUptoSaid : Prop := mirroredUptoRow.holds Tryd.pinned (OpenSpec.upto mirroredSpec)

/-- 'yardkeep.Walled', WHERE WHAT IT READS IS OF BULK AT MOST 1048576: true; the input reads as it did. -/
def walledUptoRow : OpenClaim := { program := "ytnkgpinadgacgabdoor", sum := "24b4a8206290cfe03a14432ee62c88864710a1dacb4e652ff0623edb958c8ecb", func := "yard/yardkeep.Walled", spec := "walled", unfollowed := true, recurses := true, named := ["yard/grid.sides"], plainKeys := false, apart := false, laid := [("yard/grid.sides", laid_yard_grid_sides)], narrowed := true }
def WalledUptoSaid : Prop := walledUptoRow.holds Tryd.pinned (OpenSpec.upto walledSpec)

/-- 'yardkeep.Few', WHERE WHAT IT READS IS OF BULK AT MOST 1048576: true; the input reads as it did. -/
def fewUptoRow : OpenClaim := { program := "ytnkgpinadgacgabdoor", sum := "24b4a8206290cfe03a14432ee62c88864710a1dacb4e652ff0623edb958c8ecb", func := "yard/yardkeep.Few", spec := "few", unfollowed := true, recurses := true, named := ["yard/grid.sides"], plainKeys := false, apart := false, laid := [("yard/grid.sides", laid_yard_grid_sides)], narrowed := true }
def FewUptoSaid : Prop := fewUptoRow.holds Tryd.pinned (OpenSpec.upto fewSpec)

/-- 'yardkeep.Judged', WHERE WHAT IT READS IS OF BULK AT MOST 1048576: true; the input reads as it did. -/
def judgedUptoRow : OpenClaim := { program := "ytnkgpinadgacgabdoor", sum := "24b4a8206290cfe03a14432ee62c88864710a1dacb4e652ff0623edb958c8ecb", func := "yard/yardkeep.Judged", spec := "judged", unfollowed := true, recurses := true, named := ["yard/grid.sides"], plainKeys := false, apart := false, laid := [("yard/grid.sides", laid_yard_grid_sides)], narrowed := true }
def JudgedUptoSaid : Prop := judgedUptoRow.holds Tryd.pinned (OpenSpec.upto judgedSpec)

/-- 'yardkeep.Back', WHERE WHAT IT READS IS OF BULK AT MOST 1048576: true; the input reads as it did. -/
def backUptoRow : OpenClaim := { program := "ytnkgpinadgacgabdoor", sum := "24b4a8206290cfe03a14432ee62c88864710a1dacb4e652ff0623edb958c8ecb", func := "yard/yardkeep.Back", spec := "back", inPlace := ["internal/abi.NoEscape"], named := ["internal/strconv.uint64pow10", "math/bits.deBruijn32tab", "math/bits.deBruijn64tab"], plainKeys := false, apart := false, laid := [("math/bits.deBruijn32tab", laid_math_bits_deBruijn32tab), ("math/bits.deBruijn64tab", laid_math_bits_deBruijn64tab), ("internal/strconv.uint64pow10", laid_internal_strconv_uint64pow10)], narrowed := true }
def BackUptoSaid : Prop := backUptoRow.holds Tryd.pinned (OpenSpec.upto backSpec)

/-- 'yardkeep.Asked', WHERE WHAT IT READS IS OF BULK AT MOST 1048576: true; the input reads as it did. -/
def askedUptoRow : OpenClaim := { program := "ytnkgpinadgacgabdoor", sum := "24b4a8206290cfe03a14432ee62c88864710a1dacb4e652ff0623edb958c8ecb", func := "yard/yardkeep.Asked", spec := "asked", inPlace := ["internal/abi.NoEscape"], unfollowed := true, recurses := true, named := ["internal/strconv.uint64pow10", "math/bits.deBruijn32tab", "math/bits.deBruijn64tab", "yard/grid.sides"], plainKeys := false, apart := false, laid := [("math/bits.deBruijn32tab", laid_math_bits_deBruijn32tab), ("math/bits.deBruijn64tab", laid_math_bits_deBruijn64tab), ("internal/strconv.uint64pow10", laid_internal_strconv_uint64pow10), ("yard/grid.sides", laid_yard_grid_sides)], narrowed := true }
def AskedUptoSaid : Prop := askedUptoRow.holds Tryd.pinned (OpenSpec.upto askedSpec)

end Rows
end Go.Proofs.YtnkgpinadgacgabDoor
