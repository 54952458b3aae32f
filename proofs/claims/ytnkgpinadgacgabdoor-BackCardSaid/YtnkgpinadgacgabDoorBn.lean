/- Walk of lone.Path: a path of the least cost under good rules, or none. -/
import Derived.Test.YtnkgpinadgacgabDoorBl
import Derived.Test.YtnkgpinadgacgabDoorBd
import Derived.Test.YtnkgpinadgacgabDoorBb
import Derived.Test.YtnkgpinadgacgabDoorBg
import Derived.Test.YtnkgpinadgacgabDoorBh
import Derived.Test.YtnkgpinadgacgabDoorBe
import Derived.Test.YtnkgpinadgacgabDoorBa
import Derived.Carry
import Derived.Lib.SliceRun
namespace Go.Proofs.YtnkgpinadgacgabDoor
open Go.RowKit M
theorem Told.from {w w0 w' : World} {v : Value} {x : Option (Nat × (Nat → Nat))} (h : Told w w' v x) (hw : w0.heap.size ≤ w.heap.size) : Told w0 w' v x :=
  ⟨h.1, fun T p e => by
    obtain ⟨g, h1, h2, h3⟩ := h.2 T p e
    exact ⟨g, h1, by omega, h3⟩⟩

end Go.Proofs.YtnkgpinadgacgabDoor

/- Walks of handedRules (rules in a list of their own, with spare room) and of stillRules. -/
namespace Go.Proofs.YtnkgpinadgacgabDoor
open Go.RowKit M
end Go.Proofs.YtnkgpinadgacgabDoor

/- Walks of the program's Alone. -/
namespace Go.Proofs.YtnkgpinadgacgabDoor
open Go.RowKit M
theorem M.firstOf_is {p : Nat → Bool} : ∀ n, firstOf p n < n → p (firstOf p n) = true
  | 0, h => by omega
  | n + 1, h => by
    simp only [firstOf] at h ⊢
    by_cases h1 : firstOf p n < n
    · rw [if_pos h1]; exact firstOf_is n h1
    · rw [if_neg h1] at h ⊢
      by_cases h2 : p n = true
      · rw [if_pos h2]; exact h2
      · rw [if_neg h2] at h; omega

theorem M.firstOf_none {p : Nat → Bool} {n : Nat} (h : ¬ firstOf p n < n) : ∀ j, j < n → p j = false := by
  induction n with
  | zero => intro j hj; omega
  | succ n ih =>
    simp only [firstOf] at h
    by_cases h1 : firstOf p n < n
    · rw [if_pos h1] at h; omega
    · rw [if_neg h1] at h
      by_cases h2 : p n = true
      · rw [if_pos h2] at h; omega
      · intro j hj
        by_cases e : j = n
        · subst e; simpa using h2
        · exact ih h1 j (by omega)

theorem carts_free {ro co bu : Int} {cs : ByteArray} {m : Nat} {fr tt : Nat → Int} (h : (checkM ro co cs m fr tt bu).1 = 0) : m ≤ 4 ∧ ∀ k, k < m → freeB cs (fr k) = true ∧ freeB cs (tt k) = true := by
  unfold checkM at h
  by_cases h1 : (sideB ro && sideB co) = false
  · rw [if_pos h1] at h; simp at h
  · rw [if_neg h1] at h
    by_cases h2 : 0 ≤ cellsM ro co cs
    · rw [if_pos h2] at h; simp at h
    · rw [if_neg h2] at h
      by_cases h3 : m < 1 ∨ 4 < m
      · rw [if_pos h3] at h; simp at h
      · rw [if_neg h3] at h
        refine ⟨by omega, ?_⟩
        by_cases h4 : firstOf (fun i => !(cartM cs fr tt i == 0)) m < m
        · rw [if_pos h4] at h
          have := M.firstOf_is (p := fun i => !(cartM cs fr tt i == 0)) m h4
          simp only [] at h this
          rw [h] at this; cases this
        · intro k hk
          have := M.firstOf_none h4 k hk
          have h5 : cartM cs fr tt k = 0 := by simpa using this
          unfold cartM at h5
          by_cases h6 : (freeB cs (fr k) && freeB cs (tt k)) = true
          · simpa using h6
          · rw [if_neg h6] at h5; omega

theorem Told.form {w w' : World} {v : Value} {x : Option (Nat × (Nat → Nat))} (h : Told w w' v x) :
    ∃ a n, v = .slice a n n ∧ ((x = none ∧ a = none ∧ n = 0) ∨ ∃ T p g, x = some (T, p) ∧ a = some ⟨g, 0, none⟩ ∧ n = T + 1 ∧ w.heap.size ≤ g ∧ w'.rowIs g 3 (T + 1) (natV p)) := by
  match x, h with
  | none, h => exact ⟨none, 0, h.1 rfl, Or.inl ⟨rfl, rfl, rfl⟩⟩
  | some (T, p), h =>
    obtain ⟨g, h1, h2, h3⟩ := h.2 T p rfl
    exact ⟨_, _, h1, Or.inr ⟨T, p, g, rfl, rfl, rfl, h2, h3⟩⟩

end Go.Proofs.YtnkgpinadgacgabDoor
