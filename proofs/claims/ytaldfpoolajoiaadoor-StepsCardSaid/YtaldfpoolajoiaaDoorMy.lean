/- Plain facts on the cells of a raw yard. No program is named here. -/
import Derived.Test.YtaldfpoolajoiaaDoorMx
namespace Go.Proofs.YtaldfpoolajoiaaDoor.M

/-- A cell's byte: a wall, where the raw byte is a multiple of four, but never the first. -/
def wallB (s : ByteArray) (i : Nat) : UInt8 := if h : i < s.size then (if (s[i]).toNat % 4 = 0 ∧ 0 < i then 35 else 46) else 46

def wallL (s : ByteArray) (n : Nat) : List UInt8 := (List.range n).map (wallB s)
def wallS (s : ByteArray) (n : Nat) : ByteArray := ⟨(wallL s n).toArray⟩

theorem wallB_or (s : ByteArray) (i : Nat) : wallB s i = 35 ∨ wallB s i = 46 := by
  unfold wallB
  split
  · split
    · exact Or.inl rfl
    · exact Or.inr rfl
  · exact Or.inr rfl

theorem wallB_zero (s : ByteArray) : wallB s 0 = 46 := by
  unfold wallB
  split
  · rw [if_neg (by omega)]
  · rfl

theorem wallL_len (s : ByteArray) (n : Nat) : (wallL s n).length = n := by simp [wallL]
theorem wallS_size (s : ByteArray) (n : Nat) : (wallS s n).size = n := by
  show (wallL s n).toArray.size = n
  simp [wallL]

theorem wallS_at (s : ByteArray) (n i : Nat) (h : i < (wallS s n).size) : (wallS s n)[i] = wallB s i := by
  show (wallL s n).toArray[i]'_ = _
  simp [wallL]

theorem wall_free_zero (s : ByteArray) {n : Nat} (h : 0 < n) : freeB (wallS s n) 0 = true := by
  have hs := wallS_size s n
  rw [freeB_in (Int.le_refl 0) (by omega)]
  show (((wallS s n)[0]'_).toNat : Int) == 46
  rw [wallS_at, wallB_zero]; rfl

theorem wall_good (s : ByteArray) (n : Nat) : ∀ j, j < (wallS s n).size → badB (wallS s n) j = false := by
  intro j hj
  rw [badB_in hj, wallS_at]
  rcases wallB_or s j with e | e <;> rw [e] <;> rfl

end Go.Proofs.YtaldfpoolajoiaaDoor.M
