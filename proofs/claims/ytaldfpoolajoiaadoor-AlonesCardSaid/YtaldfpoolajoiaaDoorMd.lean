/- Plain facts on neighbours: rows and columns of cells. No program is named here. -/
import Derived.Test.YtaldfpoolajoiaaDoorMc
namespace Go.Proofs.YtaldfpoolajoiaaDoor.M

/-- Are two cells the same or neighbours? -/
def nearM (co a b : Int) : Bool := decide ((a / co - b / co) * (a / co - b / co) + (a % co - b % co) * (a % co - b % co) ≤ 1)

/-- May a cart go from a to b? -/
def mayM (co : Int) (cs : ByteArray) (a b : Int) : Bool := freeB cs b && (decide (0 ≤ a) && (decide (a < cs.size) && nearM co a b))

theorem divmod_bd {a co : Int} (h0 : 0 ≤ a) (h1 : a ≤ 36) (h2 : 1 ≤ co) (h3 : co ≤ 6) : 0 ≤ a / co ∧ a / co ≤ 36 ∧ 0 ≤ a % co ∧ a % co ≤ 5 := by
  have e : co = 1 ∨ co = 2 ∨ co = 3 ∨ co = 4 ∨ co = 5 ∨ co = 6 := by omega
  rcases e with e | e | e | e | e | e <;> subst e <;> omega

theorem sq_bd {r : Int} (h : -36 ≤ r) (h' : r ≤ 36) : 0 ≤ r * r ∧ r * r ≤ 1296 := by
  have h1 : r.natAbs ≤ 36 := by omega
  have h2 : r * r = ((r.natAbs * r.natAbs : Nat) : Int) := by rw [Int.natCast_mul, Int.natAbs_mul_self' r]
  rw [h2]
  have h3 := Nat.mul_le_mul h1 h1
  omega

theorem sq_small {r : Int} (h : r * r ≤ 1) : -1 ≤ r ∧ r ≤ 1 := by
  have h2 : r * r = ((r.natAbs * r.natAbs : Nat) : Int) := by rw [Int.natCast_mul, Int.natAbs_mul_self' r]
  rw [h2] at h
  by_cases e : 2 ≤ r.natAbs
  · have h3 := Nat.mul_le_mul e e
    omega
  · omega

theorem sq_pos {r : Int} (h : r ≠ 0) : 1 ≤ r * r := by
  have h2 : r * r = ((r.natAbs * r.natAbs : Nat) : Int) := by rw [Int.natCast_mul, Int.natAbs_mul_self' r]
  rw [h2]
  have h3 := Nat.mul_le_mul (show 1 ≤ r.natAbs by omega) (show 1 ≤ r.natAbs by omega)
  omega

theorem sum_sq {r c : Int} : r * r + c * c ≤ 1 ↔ (r = 0 ∧ -1 ≤ c ∧ c ≤ 1) ∨ (c = 0 ∧ -1 ≤ r ∧ r ≤ 1) := by
  constructor
  · intro h
    by_cases hr : r = 0
    · subst hr
      have := sq_small (r := c) (by omega)
      exact Or.inl ⟨rfl, this⟩
    · have h1 := sq_pos hr
      by_cases hc : c = 0
      · subst hc
        have := sq_small (r := r) (by omega)
        exact Or.inr ⟨rfl, this⟩
      · have h2 := sq_pos hc
        omega
  · rintro (⟨h, h1, h2⟩ | ⟨h, h1, h2⟩)
    · subst h
      have e : c = -1 ∨ c = 0 ∨ c = 1 := by omega
      rcases e with e | e | e <;> subst e <;> decide
    · subst h
      have e : r = -1 ∨ r = 0 ∨ r = 1 := by omega
      rcases e with e | e | e <;> subst e <;> decide

theorem near_iff {co a b : Int} : nearM co a b = true ↔ (a / co = b / co ∧ -1 ≤ a % co - b % co ∧ a % co - b % co ≤ 1) ∨ (a % co = b % co ∧ -1 ≤ a / co - b / co ∧ a / co - b / co ≤ 1) := by
  unfold nearM
  rw [decide_eq_true_eq, sum_sq]
  constructor <;> rintro (⟨h, h1, h2⟩ | ⟨h, h1, h2⟩)
  · exact Or.inl ⟨by omega, h1, h2⟩
  · exact Or.inr ⟨by omega, h1, h2⟩
  · exact Or.inl ⟨by omega, h1, h2⟩
  · exact Or.inr ⟨by omega, h1, h2⟩

theorem near_comm (co a b : Int) : nearM co a b = nearM co b a := by
  rw [Bool.eq_iff_iff, near_iff, near_iff]
  constructor <;> rintro (⟨h, h1, h2⟩ | ⟨h, h1, h2⟩)
  · exact Or.inl ⟨by omega, by omega, by omega⟩
  · exact Or.inr ⟨by omega, by omega, by omega⟩
  · exact Or.inl ⟨by omega, by omega, by omega⟩
  · exact Or.inr ⟨by omega, by omega, by omega⟩

end Go.Proofs.YtaldfpoolajoiaaDoor.M
