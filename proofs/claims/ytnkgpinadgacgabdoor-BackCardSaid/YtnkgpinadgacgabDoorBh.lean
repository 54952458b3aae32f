/- Walks of the document's goes and stays. -/
import Derived.Test.YtnkgpinadgacgabDoorBg
import Derived.Deep.RegionHeld3
import Derived.Deep.DeepCutAuto
namespace Go.Proofs.YtnkgpinadgacgabDoor
open Go.RowKit M
end Go.Proofs.YtnkgpinadgacgabDoor

/- Walks of the document's RulesRight, given. -/
namespace Go.Proofs.YtnkgpinadgacgabDoor
open Go.RowKit M
end Go.Proofs.YtnkgpinadgacgabDoor

/- Walks of the document's first and ahead. -/
namespace Go.Proofs.YtnkgpinadgacgabDoor
open Go.RowKit M
end Go.Proofs.YtnkgpinadgacgabDoor

/- Walk of the document's ahead: where a cart can be an instant later. -/
namespace Go.Proofs.YtnkgpinadgacgabDoor
open Go.RowKit M
end Go.Proofs.YtnkgpinadgacgabDoor

/- Walk of the document's Least: the least cost of a path that keeps the rules. -/
namespace Go.Proofs.YtnkgpinadgacgabDoor
open Go.RowKit M
end Go.Proofs.YtnkgpinadgacgabDoor

/- Walk of the document's Keeps, at a path that keeps the rules. -/
namespace Go.Proofs.YtnkgpinadgacgabDoor
open Go.RowKit M
def natV (p : Nat → Nat) : Nat → Value := fun i => .int .i64 (p i : Nat)

theorem wrap_mid {x : Int} (h1 : -9223372036854775808 ≤ x) (h2 : x ≤ 9223372036854775807) : IntKind.i64.wrap x = x := by rw [IntKind.wrap_i64]; omega

end Go.Proofs.YtnkgpinadgacgabDoor
