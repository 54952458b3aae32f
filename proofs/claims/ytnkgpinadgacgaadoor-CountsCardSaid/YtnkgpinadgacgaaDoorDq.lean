/- Lists of numbers, some below zero, that a call makes. -/
import Derived.Test.YtnkgpinadgacgaaDoorDz
import Derived.Test.YtnkgpinadgacgaaDoorDp
namespace Go.Proofs.YtnkgpinadgacgaaDoor
open Go.RowKit M

/-- For each cell below k its number among the free ones, or -1. -/
def ranksTo (f : Nat → Bool) (k : Nat) : List Int := (List.range k).map fun c => if f c then ((rankOf f c : Nat) : Int) else -1

theorem ranksTo_next (f : Nat → Bool) (k : Nat) : ranksTo f (k + 1) = ranksTo f k ++ [if f k then ((rankOf f k : Nat) : Int) else -1] := by
  unfold ranksTo
  rw [List.range_succ, List.map_append]; rfl

theorem ranksTo_at {f : Nat → Bool} {k c : Nat} (h : c < k) : (ranksTo f k).getD c 0 = if f c then ((rankOf f c : Nat) : Int) else -1 := by
  unfold ranksTo
  rw [List.getD_eq_getElem?_getD, List.getElem?_map, List.getElem?_range h]; rfl

theorem ranksTo_len (f : Nat → Bool) (k : Nat) : (ranksTo f k).length = k := by simp [ranksTo]

end Go.Proofs.YtnkgpinadgacgaaDoor
