/- Walks of sameInts, fill, filled. -/
import Derived.Test.YtnkgpinadgacgabDoorBd
namespace Go.Proofs.YtnkgpinadgacgabDoor
open Go.RowKit M
end Go.Proofs.YtnkgpinadgacgabDoor

/- Walk of apart over two lists. -/
namespace Go.Proofs.YtnkgpinadgacgabDoor
open Go.RowKit M
end Go.Proofs.YtnkgpinadgacgabDoor

/- Walks of both Fars: the error, or the table of distances. -/
namespace Go.Proofs.YtnkgpinadgacgabDoor
open Go.RowKit M
set_option maxHeartbeats 400000 in
theorem fault_any (ro co bu : Int) (cs : ByteArray) (a : Option Addr) (n cap : Nat) (fr tt : Nat → Int) (w : World) (hs : cs.size ≤ maxLen) (hn : n ≤ maxLen) (hcap : n ≤ cap)
    (ha : 0 < n → ∃ b off, a = some ⟨b, off, none⟩ ∧ CartsIn w b off n fr tt) :
    Calls Tryd.prog 36 #[.agg #[.int .i64 ro, .int .i64 co, .string cs, .slice a n cap, .int .i64 bu]] w fun e w' =>
      e = .returned (.int .i64 (checkM ro co cs n fr tt bu).1) ∧ Below w.heap.size w w' := by
  go_enter Tryd.func36, Tryd.ntmps36
  go_wp2_with fail
  refine (gcheck_any _ _ _ _ _ _ _ fr tt _ hs hn hcap (by exact opt_below ha ((Below.refl _ _).alloc (Nat.le_refl _) _))).mono ?_
  rintro e w1 ⟨rfl, hb1⟩
  go_wp2
  go_ret
  exact ⟨rfl, ((Below.refl _ _).alloc (Nat.le_refl _) _).trans (hb1.mono (by simp))⟩

end Go.Proofs.YtnkgpinadgacgabDoor

/- Walk of Fars: the law answers true. -/
namespace Go.Proofs.YtnkgpinadgacgabDoor
open Go.RowKit M
end Go.Proofs.YtnkgpinadgacgabDoor
