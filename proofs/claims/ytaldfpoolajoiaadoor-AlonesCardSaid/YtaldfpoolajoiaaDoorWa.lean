/- Walks of the small functions on the roads of Check and Far: within, isSide, num, Free. -/
import Derived.Test.YtaldfpoolajoiaaDoorRows
import Derived.Test.YtaldfpoolajoiaaDoorMa
import Derived.WalkKit
import Derived.WalkSpells
import Derived.WalkLawsBesides
namespace Go.Proofs.YtaldfpoolajoiaaDoor
open Go.RowKit M

set_option maxHeartbeats 400000 in
theorem within_any (n a b : Int) (w : World) :
    Calls Tryd.prog 63 #[.int .i64 n, .int .i64 a, .int .i64 b] w fun e w' => e = .returned (.bool (decide (a ≤ n) && decide (n ≤ b))) ∧ w' = w := by
  go_enter Tryd.func63, Tryd.ntmps63
  by_cases h1 : a ≤ n
  · by_cases h2 : n ≤ b
    · go_wp2
      go_ret
      exact ⟨by simp <;> omega, rfl⟩
    · go_wp2
      go_ret
      exact ⟨by simp <;> omega, rfl⟩
  · go_wp2
    go_ret
    exact ⟨by simp <;> omega, rfl⟩

theorem within_side (n : Int) (w : World) :
    Calls Tryd.prog 63 #[.int .i64 n, .int .i64 1, .int .i64 6] w fun e w' => e = .returned (.bool (sideB n)) ∧ w' = w := within_any n 1 6 w

set_option maxHeartbeats 400000 in
theorem isSide_any (n : Int) (w : World) :
    Calls Tryd.prog 65 #[.int .i64 n] w fun e w' => e = .returned (.bool (sideB n)) ∧ w' = w := by
  go_enter Tryd.func65, Tryd.ntmps65
  by_cases h1 : 1 ≤ n
  · by_cases h2 : n ≤ 6
    · go_wp2
      go_ret
      exact ⟨by simp [sideB] <;> omega, rfl⟩
    · go_wp2
      go_ret
      exact ⟨by simp [sideB] <;> omega, rfl⟩
  · go_wp2
    go_ret
    exact ⟨by simp [sideB] <;> omega, rfl⟩

set_option maxHeartbeats 400000 in
theorem num_any (n : Int) (w : World) :
    Calls Tryd.prog 15 #[.int .i64 n] w fun e w' => e = .returned (.int .i64 n) ∧ w' = w := by
  go_enter Tryd.func15, Tryd.ntmps15
  go_wp2
  go_ret
  exact ⟨rfl, rfl⟩

theorem ret_bool {a b : Bool} (h : a = b) : Ending.returned (.bool a) = .returned (.bool b) := by rw [h]
theorem ret_int {k : IntKind} {a b : Int} (h : a = b) : Ending.returned (.int k a) = .returned (.int k b) := by rw [h]

set_option maxHeartbeats 400000 in
theorem rfree_any (ro co bu c : Int) (cs : ByteArray) (ca : Value) (w : World) (_hs : cs.size ≤ maxLen) :
    Calls Tryd.prog 42 #[.agg #[.int .i64 ro, .int .i64 co, .string cs, ca, .int .i64 bu], .int .i64 c] w fun e w' => e = .returned (.bool (freeB cs c)) ∧ Below w.heap.size w w' := by
  go_enter Tryd.func42, Tryd.ntmps42
  by_cases h1 : 0 ≤ c
  · by_cases h2 : c < cs.size
    · go_wp2
      go_ret
      exact ⟨ret_bool (freeB_in h1 h2).symm, (Below.refl _ _).alloc (Nat.le_refl _) _⟩
    · go_wp2
      go_ret
      exact ⟨ret_bool (freeB_out (by omega)).symm, (Below.refl _ _).alloc (Nat.le_refl _) _⟩
  · go_wp2
    go_ret
    exact ⟨ret_bool (freeB_out (by omega)).symm, (Below.refl _ _).alloc (Nat.le_refl _) _⟩

set_option maxHeartbeats 400000 in
theorem gfree_any (ro co bu c : Int) (cs : ByteArray) (ca : Value) (w : World) (hs : cs.size ≤ maxLen) :
    Calls Tryd.prog 39 #[.agg #[.int .i64 ro, .int .i64 co, .string cs, ca, .int .i64 bu], .int .i64 c] w fun e w' => e = .returned (.bool (freeB cs c)) ∧ Below w.heap.size w w' := by
  unfold maxLen at hs
  go_enter Tryd.func39, Tryd.ntmps39
  by_cases h1 : 0 ≤ c
  · by_cases h2 : c < cs.size
    · go_wp2
      go_ret
      exact ⟨ret_bool (freeB_in h1 h2).symm, (Below.refl _ _).alloc (Nat.le_refl _) _⟩
    · go_wp2
      go_ret
      exact ⟨ret_bool (freeB_out (by omega)).symm, (Below.refl _ _).alloc (Nat.le_refl _) _⟩
  · go_wp2
    go_ret
    exact ⟨ret_bool (freeB_out (by omega)).symm, (Below.refl _ _).alloc (Nat.le_refl _) _⟩

end Go.Proofs.YtaldfpoolajoiaaDoor
