/- Walks of ints, same, handedPlan, stillPlan: a list of lists in a list of its own, with spare room; does it read as it did? -/
import Derived.Test.YtnkgpinadgacgabDoorBi
import Derived.Laws.AppendOwnNone
import Derived.Deep.QuietTactic
import Derived.BigQuiet
namespace Go.Proofs.YtnkgpinadgacgabDoor
open Go.RowKit M
theorem Tryd.infoIntList : (Tryd.prog.info? 22).map (fun i => (i.zero, i.size, i.bytes)) = some (some (.slice none 0 0), 1, 24) := by kernel_rfl

def extG (G : Nat → Nat) (k g : Nat) (j : Nat) : Nat := if j = k then g else G j

theorem extG_at (G : Nat → Nat) (k g : Nat) : extG G k g k = g := by unfold extG; rw [if_pos rfl]

theorem extG_old {G : Nat → Nat} {k g j : Nat} (h : j ≠ k) : extG G k g j = G j := by unfold extG; rw [if_neg h]

end Go.Proofs.YtnkgpinadgacgabDoor
