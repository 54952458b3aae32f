/- Plain facts: the carts of a good yard stand apart. No program is named here. -/
import Derived.Test.YtnkgpinadgacgabDoorHd
import Derived.Test.YtnkgpinadgacgabDoorDz
import Derived.Test.YtnkgpinadgacgabDoorDk
import Derived.Test.YtnkgpinadgacgabDoorBi
import Derived.Laws.AppendOwnNone
import Derived.Deep.RegionHeld3
import Derived.Deep.DeepCutAuto
import Derived.Deep.QuietTactic
import Derived.BigQuiet
import Derived.Test.YtnkgpinadgacgabDoorDb
import Derived.Test.YtnkgpinadgacgabDoorDi
import Derived.Test.YtnkgpinadgacgabDoorBg
namespace Go.Proofs.YtnkgpinadgacgabDoor
open M SM BM
/-- Carts of a good yard stand apart, and so are their ends. -/
theorem carts_apart {ro co bu : Int} {cs : ByteArray} {m : Nat} {fr tt : Nat → Int} (h : (checkM ro co cs m fr tt bu).1 = 0) : ∀ i k, i < k → k < m → fr i ≠ fr k ∧ tt i ≠ tt k := by
  unfold checkM at h
  by_cases h1 : (sideB ro && sideB co) = false
  · rw [if_pos h1] at h; simp at h
  · rw [if_neg h1] at h
    by_cases h2 : 0 ≤ cellsM ro co cs
    · rw [if_pos h2] at h; simp at h
    · rw [if_neg h2] at h
      by_cases h3 : m < 1 ∨ 4 < m
      · rw [if_pos h3] at h; simp at h
      · rw [if_neg h3] at h
        by_cases h4 : firstOf (fun i => !(cartM cs fr tt i == 0)) m < m
        · rw [if_pos h4] at h
          have := M.firstOf_is (p := fun i => !(cartM cs fr tt i == 0)) m h4
          simp only [] at h this
          rw [h] at this; cases this
        · intro i k hik hk
          have := M.firstOf_none h4 k hk
          have h5 : cartM cs fr tt k = 0 := by simpa using this
          unfold cartM at h5
          by_cases h6 : (freeB cs (fr k) && freeB cs (tt k)) = true
          · rw [if_pos h6] at h5
            by_cases h7 : firstOf (twiceB fr tt k) k < k
            · rw [if_pos h7] at h5; cases h5
            · have h8 := M.firstOf_none h7 i hik
              unfold twiceB at h8
              simp only [Bool.or_eq_false_iff, beq_eq_false_iff_ne] at h8
              exact h8
          · rw [if_neg h6] at h5; cases h5

theorem cells_pos {ro co bu : Int} {cs : ByteArray} {m : Nat} {fr tt : Nat → Int} (h : (checkM ro co cs m fr tt bu).1 = 0) : PosG cs m (cellsOf fr m) ∧ PosG cs m (cellsOf tt m) := by
  obtain ⟨_, hf⟩ := carts_free h
  have ha := carts_apart h
  have good : ∀ f : Nat → Int, (∀ k, k < m → freeB cs (f k) = true) → Good cs m (cellsOf f m) := fun f hf => by
    refine ⟨cellsOf_len _ _, fun k hk => ?_⟩
    obtain ⟨n, e1, e2⟩ := free_nat (hf k hk)
    have h3 := hf k hk
    rw [cellsOf_at hk, e1] at *
    exact ⟨by omega, by simpa using h3⟩
  have dst : ∀ f : Nat → Int, (∀ k, k < m → freeB cs (f k) = true) → (∀ i k, i < k → k < m → f i ≠ f k) → Dst m (cellsOf f m) := fun f hf hd => by
    intro i k hi hk hne e
    rw [cellsOf_at hi, cellsOf_at hk] at e
    obtain ⟨a, e1, _⟩ := free_nat (hf i hi)
    obtain ⟨b, e2, _⟩ := free_nat (hf k hk)
    rcases Nat.lt_or_gt_of_ne hne with h | h
    · exact hd i k h hk (by omega)
    · exact hd k i h hi (by omega)
  exact ⟨⟨good fr fun k hk => (hf k hk).1, dst fr (fun k hk => (hf k hk).1) fun i k h1 h2 => (ha i k h1 h2).1⟩, ⟨good tt fun k hk => (hf k hk).2, dst tt (fun k hk => (hf k hk).2) fun i k h1 h2 => (ha i k h1 h2).2⟩⟩

end Go.Proofs.YtnkgpinadgacgabDoor
