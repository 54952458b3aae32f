/- Plain facts on a heap in a row: what order it keeps, how one rises, how one sinks, the first is the foremost. No program is named here. -/
import Derived.Test.YtaldfpoolajoiaaDoorMa
namespace Go.Proofs.YtaldfpoolajoiaaDoor.M

abbrev Spot := Nat × Nat

section
variable {key : Spot → Int} {n : Nat} {it : Nat → Spot}

def swapIt (it : Nat → Spot) (a b : Nat) : Nat → Spot := fun i => if i = a then it b else if i = b then it a else it i

def Mem (n : Nat) (it : Nat → Spot) (p : Spot) : Prop := ∃ i, i < n ∧ it i = p

theorem mem_swap {a b : Nat} (ha : a < n) (hb : b < n) {p : Spot} : Mem n (swapIt it a b) p ↔ Mem n it p := by
  constructor
  · rintro ⟨i, hi, h⟩
    unfold swapIt at h
    by_cases e : i = a
    · rw [if_pos e] at h; exact ⟨b, hb, h⟩
    · rw [if_neg e] at h
      by_cases e2 : i = b
      · rw [if_pos e2] at h; exact ⟨a, ha, h⟩
      · rw [if_neg e2] at h; exact ⟨i, hi, h⟩
  · rintro ⟨i, hi, h⟩
    by_cases e : i = a
    · refine ⟨b, hb, ?_⟩
      unfold swapIt
      by_cases e2 : b = a
      · rw [if_pos e2, e2, ← e]; exact h
      · rw [if_neg e2, if_pos rfl, ← e]; exact h
    · by_cases e2 : i = b
      · refine ⟨a, ha, ?_⟩
        unfold swapIt
        rw [if_pos rfl, ← e2]; exact h
      · exact ⟨i, hi, by unfold swapIt; rw [if_neg e, if_neg e2]; exact h⟩

theorem swap_l {a b : Nat} : swapIt it a b a = it b := by unfold swapIt; rw [if_pos rfl]
theorem swap_r {a b : Nat} : swapIt it a b b = it a := by
  unfold swapIt
  by_cases e : b = a
  · rw [if_pos e, e]
  · rw [if_neg e, if_pos rfl]
theorem swap_o {a b i : Nat} (h1 : i ≠ a) (h2 : i ≠ b) : swapIt it a b i = it i := by unfold swapIt; rw [if_neg h1, if_neg h2]

/-- Each is no further back than its parent. -/
def Ord (key : Spot → Int) (n : Nat) (it : Nat → Spot) : Prop := ∀ i, 0 < i → i < n → key (it ((i - 1) / 2)) ≤ key (it i)

/-- .. but for one that may have to rise. -/
structure Up (key : Spot → Int) (n : Nat) (it : Nat → Spot) (at' : Nat) : Prop where
  rest : ∀ i, 0 < i → i < n → i ≠ at' → key (it ((i - 1) / 2)) ≤ key (it i)
  over : ∀ i, 0 < i → i < n → (i - 1) / 2 = at' → 0 < at' → key (it ((at' - 1) / 2)) ≤ key (it i)

/-- .. but for one that may have to sink. -/
structure Down (key : Spot → Int) (n : Nat) (it : Nat → Spot) (at' : Nat) : Prop where
  rest : ∀ i, 0 < i → i < n → (i - 1) / 2 ≠ at' → key (it ((i - 1) / 2)) ≤ key (it i)
  over : ∀ i, 0 < i → i < n → (i - 1) / 2 = at' → 0 < at' → key (it ((at' - 1) / 2)) ≤ key (it i)

theorem up_done {a : Nat} (h : Up key n it a) (hs : a = 0 ∨ ¬ key (it a) < key (it ((a - 1) / 2))) : Ord key n it := by
  intro i h0 hi
  by_cases e : i = a
  · subst e
    rcases hs with e0 | e0
    · omega
    · omega
  · exact h.rest i h0 hi e

theorem up_step {a : Nat} (h : Up key n it a) (ha : 0 < a) (han : a < n) (hlt : key (it a) < key (it ((a - 1) / 2))) : Up key n (swapIt it a ((a - 1) / 2)) ((a - 1) / 2) := by
  obtain ⟨p, hp⟩ : ∃ p, p = (a - 1) / 2 := ⟨_, rfl⟩
  rw [← hp] at hlt ⊢
  have hpa : p < a := by omega
  refine ⟨?_, ?_⟩
  · intro i h0 hi hne
    by_cases e : i = a
    · subst e
      rw [← hp, swap_r, swap_l]; omega
    · rw [swap_o (it := it) e hne]
      by_cases e1 : (i - 1) / 2 = a
      · rw [e1, swap_l]
        have := h.over i h0 hi e1 ha
        rw [← hp] at this; exact this
      · by_cases e2 : (i - 1) / 2 = p
        · rw [e2, swap_r]
          have := h.rest i h0 hi e
          rw [e2] at this; omega
        · rw [swap_o e1 e2]; exact h.rest i h0 hi e
  · intro i h0 hi hpi hp0
    have hq : (p - 1) / 2 ≠ a := by omega
    have hq2 : (p - 1) / 2 ≠ p := by omega
    rw [swap_o hq hq2]
    have h1 := h.rest p hp0 (by omega) (by omega)
    by_cases e : i = a
    · subst e; rw [swap_l]; exact h1
    · rw [swap_o e (by omega)]
      have := h.rest i h0 hi e
      rw [hpi] at this; omega

theorem up_push (h : Ord key n it) : Up key (n + 1) it n := by
  refine ⟨fun i h0 hi hne => h i h0 (by omega), fun i h0 hi hpi hn0 => by omega⟩

theorem down_done {a : Nat} (h : Down key n it a) (hs : ∀ i, 0 < i → i < n → (i - 1) / 2 = a → key (it a) ≤ key (it i)) : Ord key n it := by
  intro i h0 hi
  by_cases e : (i - 1) / 2 = a
  · rw [e]; exact hs i h0 hi e
  · exact h.rest i h0 hi e

theorem down_step {a f : Nat} (h : Down key n it a) (hf0 : 0 < f) (hfn : f < n) (hfp : (f - 1) / 2 = a) (hlt : key (it f) < key (it a)) (hmin : ∀ i, 0 < i → i < n → (i - 1) / 2 = a → key (it f) ≤ key (it i)) : Down key n (swapIt it a f) f := by
  have haf : a < f := by omega
  refine ⟨?_, ?_⟩
  · intro i h0 hi hne
    by_cases e : i = f
    · subst e
      rw [hfp, swap_l, swap_r]; omega
    · by_cases e1 : (i - 1) / 2 = a
      · rw [e1, swap_l, swap_o (by omega) e]; exact hmin i h0 hi e1
      · rw [swap_o (i := (i - 1) / 2) e1 hne]
        by_cases e2 : i = a
        · subst e2
          rw [swap_l]; exact h.over f hf0 hfn hfp h0
        · rw [swap_o e2 e]; exact h.rest i h0 hi e1
  · intro i h0 hi hpi _
    rw [hfp, swap_l, swap_o (by omega) (by omega)]
    have := h.rest i h0 hi (by omega)
    rw [hpi] at this; exact this

/-- The first is the foremost. -/
theorem ord_first (h : Ord key n it) : ∀ i, i < n → key (it 0) ≤ key (it i) := by
  intro i
  induction i using Nat.strongRecOn with
  | ind i ih =>
    intro hi
    by_cases e : i = 0
    · subst e; exact Int.le_refl _
    · have h1 := ih ((i - 1) / 2) (by omega) (by omega)
      have h2 := h i (by omega) hi
      omega

/-- The last in the first's place. -/
def popIt (it : Nat → Spot) (n : Nat) : Nat → Spot := fun i => if i = 0 then it (n - 1) else it i

theorem down_pop (h : Ord key n it) : Down key (n - 1) (popIt it n) 0 := by
  refine ⟨fun i h0 hi hne => ?_, fun i _ _ _ h0 => by omega⟩
  unfold popIt
  rw [if_neg hne, if_neg (by omega)]
  exact h i h0 (by omega)

theorem mem_pop (hn : 0 < n) {p : Spot} : Mem n it p ↔ Mem (n - 1) (popIt it n) p ∨ p = it 0 := by
  constructor
  · rintro ⟨i, hi, h⟩
    by_cases e : i = 0
    · subst e; exact Or.inr h.symm
    · by_cases e2 : i = n - 1
      · by_cases e3 : n - 1 = 0
        · omega
        · exact Or.inl ⟨0, by omega, by unfold popIt; rw [if_pos rfl, ← e2]; exact h⟩
      · exact Or.inl ⟨i, by omega, by unfold popIt; rw [if_neg e]; exact h⟩
  · rintro (⟨i, hi, h⟩ | h)
    · unfold popIt at h
      by_cases e : i = 0
      · rw [if_pos e] at h; exact ⟨n - 1, by omega, h⟩
      · rw [if_neg e] at h; exact ⟨i, by omega, h⟩
    · exact ⟨0, hn, h.symm⟩

def pushIt (it : Nat → Spot) (n : Nat) (p : Spot) : Nat → Spot := fun i => if i = n then p else it i

theorem ord_push (h : Ord key n it) (p : Spot) : Up key (n + 1) (pushIt it n p) n := by
  refine up_push ?_
  intro i h0 hi
  unfold pushIt
  rw [if_neg (by omega), if_neg (by omega)]
  exact h i h0 hi

theorem mem_push {p q : Spot} : Mem (n + 1) (pushIt it n p) q ↔ Mem n it q ∨ q = p := by
  constructor
  · rintro ⟨i, hi, h⟩
    unfold pushIt at h
    by_cases e : i = n
    · rw [if_pos e] at h; exact Or.inr h.symm
    · rw [if_neg e] at h; exact Or.inl ⟨i, by omega, h⟩
  · rintro (⟨i, hi, h⟩ | h)
    · exact ⟨i, by omega, by unfold pushIt; rw [if_neg (by omega)]; exact h⟩
    · exact ⟨n, by omega, by unfold pushIt; rw [if_pos rfl]; exact h.symm⟩

end

end Go.Proofs.YtaldfpoolajoiaaDoor.M
