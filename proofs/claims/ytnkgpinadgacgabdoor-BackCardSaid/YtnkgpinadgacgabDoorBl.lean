/- Walk of the program's newTrip. -/
import Derived.Test.YtnkgpinadgacgabDoorBh
import Derived.Test.YtnkgpinadgacgabDoorBe
import Derived.Test.YtnkgpinadgacgabDoorBg
import Derived.Test.YtnkgpinadgacgabDoorBa
import Derived.Carry
import Derived.Deep.RegionHeld3
import Derived.Deep.DeepCutAuto
import Derived.Test.YtnkgpinadgacgabDoorBd
import Derived.Test.YtnkgpinadgacgabDoorBi
import Derived.Deep.LoopGhost
import Derived.Laws.EntriesVeiled
namespace Go.Proofs.YtnkgpinadgacgabDoor
open Go.RowKit M
end Go.Proofs.YtnkgpinadgacgabDoor

/- Walks of the program's mayBegin, nexts: to where one cart may go under rules. -/
namespace Go.Proofs.YtnkgpinadgacgabDoor
open Go.RowKit M
/-- May the cart go there, by the rules? -/
def stepB (n : Nat) (R : Nat → RuleM) (c : Int) (t : Nat) (z : Int) : Bool := !noWayM n R c z t && onM n R z (t + 1 : Nat)

end Go.Proofs.YtnkgpinadgacgabDoor

/- Walk of wayTo: the path back from a spot to the start. -/
namespace Go.Proofs.YtnkgpinadgacgabDoor
open Go.RowKit M
def wayF (p : Nat → Nat) (k : Nat) : Nat → Value := fun i => if k ≤ i then .int .i64 (p i : Nat) else .int .i64 0

end Go.Proofs.YtnkgpinadgacgabDoor

/- What a search for one cart's least path holds in memory; what a push and a pop leave of it. -/
namespace Go.Proofs.YtnkgpinadgacgabDoor
open Go.RowKit M
/-- What a search's answer is in memory. -/
def Told (w w' : World) (v : Value) (x : Option (Nat × (Nat → Nat))) : Prop :=
  (x = none → v = .slice none 0 0) ∧ ∀ T p, x = some (T, p) → ∃ g, v = .slice (some ⟨g, 0, none⟩) (T + 1) (T + 1) ∧ w.heap.size ≤ g ∧ w'.rowIs g 3 (T + 1) (natV p)

end Go.Proofs.YtnkgpinadgacgabDoor
