/- Plain facts on distances: what a table of distances is, that there is one alone; counting; the document's search, row by row; a queue's search. No program is named here. -/
import Derived.Test.YtnkgpinadgacgaaDoorBa
import Derived.Test.YtnkgpinadgacgaaDoorBb
namespace Go.Proofs.YtnkgpinadgacgaaDoor.M

/-- How many numbers below n have p. -/
def cnt (p : Nat → Bool) : Nat → Nat
  | 0 => 0
  | n + 1 => cnt p n + if p n then 1 else 0

theorem cnt_le (p : Nat → Bool) (n : Nat) : cnt p n ≤ n := by
  induction n with
  | zero => exact Nat.le_refl _
  | succ n ih => simp only [cnt]; split <;> omega

theorem cnt_full {p : Nat → Bool} {n : Nat} (h : n ≤ cnt p n) : ∀ i, i < n → p i = true := by
  induction n with
  | zero => intro i hi; omega
  | succ n ih =>
    have h1 := cnt_le p n
    simp only [cnt] at h
    have hp : p n = true := by
      by_cases e : p n = true
      · exact e
      · rw [if_neg e] at h; omega
    rw [if_pos hp] at h
    intro i hi
    by_cases e : i = n
    · subst e; exact hp
    · exact ih (by omega) i (by omega)

theorem cnt_mono {p q : Nat → Bool} {n : Nat} (h : ∀ i, i < n → p i = true → q i = true) : cnt p n ≤ cnt q n := by
  induction n with
  | zero => exact Nat.le_refl _
  | succ n ih =>
    have := ih (fun i hi => h i (by omega))
    simp only [cnt]
    by_cases e : p n = true
    · rw [if_pos e, if_pos (h n (by omega) e)]; omega
    · rw [if_neg e]; omega

theorem cnt_lt {p q : Nat → Bool} {n x : Nat} (h : ∀ i, i < n → p i = true → q i = true) (hx : x < n) (hq : q x = true) (hp : p x = false) : cnt p n + 1 ≤ cnt q n := by
  induction n with
  | zero => omega
  | succ n ih =>
    simp only [cnt]
    by_cases e : x = n
    · subst e
      have := cnt_mono (n := x) (fun i hi => h i (by omega))
      rw [if_pos hq, hp]
      simp; omega
    · have := ih (fun i hi => h i (by omega)) (by omega)
      by_cases e2 : p n = true
      · rw [if_pos e2, if_pos (h n (by omega) e2)]; omega
      · rw [if_neg e2]; omega

theorem cnt_flip {p q : Nat → Bool} {n x : Nat} (hx : x < n) (hp : p x = true) (hq : q x = false) (h : ∀ i, i ≠ x → p i = q i) : cnt q n + 1 = cnt p n := by
  induction n with
  | zero => omega
  | succ n ih =>
    simp only [cnt]
    by_cases e : x = n
    · subst e
      have e1 : ∀ m, m ≤ x → cnt p m = cnt q m := by
        intro m
        induction m with
        | zero => intro _; rfl
        | succ m im => intro hm; simp only [cnt]; rw [im (by omega), h m (by omega)]
      rw [hp, hq, e1 x (Nat.le_refl _)]
      simp
    · have := ih (by omega)
      rw [h n (fun hh => e hh.symm)]
      omega

/-- A table of distances from c, over the ways 'adj b a': from b to a. -/
structure IsFar (N : Nat) (adj : Nat → Nat → Bool) (c : Nat) (d : Nat → Int) : Prop where
  zero : d c = 0
  low : ∀ a, a < N → -1 ≤ d a
  src : ∀ a, a < N → d a = 0 → a = c
  pred : ∀ a, a < N → ∀ k : Nat, d a = (k : Int) + 1 → ∃ b, b < N ∧ adj b a = true ∧ d b = k
  next : ∀ a b, a < N → b < N → adj b a = true → 0 ≤ d b → 0 ≤ d a ∧ d a ≤ d b + 1

theorem IsFar.le {N : Nat} {adj : Nat → Nat → Bool} {c : Nat} {d d' : Nat → Int} (h : IsFar N adj c d) (h' : IsFar N adj c d') : ∀ (k : Nat) (a : Nat), a < N → d a = k → 0 ≤ d' a ∧ d' a ≤ k
  | 0, a, ha, hk => by
    have := h.src a ha (by simpa using hk)
    subst this
    rw [h'.zero]; simp
  | k + 1, a, ha, hk => by
    obtain ⟨b, hb, hab, hdb⟩ := h.pred a ha k (by rw [hk]; simp)
    obtain ⟨g1, g2⟩ := IsFar.le h h' k b hb hdb
    obtain ⟨g3, g4⟩ := h'.next a b ha hb hab g1
    exact ⟨g3, by rw [Int.natCast_add]; simp; omega⟩

theorem IsFar.unique {N : Nat} {adj : Nat → Nat → Bool} {c : Nat} {d d' : Nat → Int} (h : IsFar N adj c d) (h' : IsFar N adj c d') (a : Nat) (ha : a < N) : d a = d' a := by
  have l := h.low a ha
  have l' := h'.low a ha
  by_cases e : 0 ≤ d a
  · obtain ⟨k, hk⟩ := Int.eq_ofNat_of_zero_le e
    obtain ⟨g1, g2⟩ := IsFar.le h h' k a ha hk
    obtain ⟨k', hk'⟩ := Int.eq_ofNat_of_zero_le g1
    obtain ⟨g3, g4⟩ := IsFar.le h' h k' a ha hk'
    omega
  · by_cases e' : 0 ≤ d' a
    · obtain ⟨k', hk'⟩ := Int.eq_ofNat_of_zero_le e'
      obtain ⟨g3, g4⟩ := IsFar.le h' h k' a ha hk'
      omega
    · omega

/-! The document's search: step by step, what is not told yet and is beside something that was told a step ahead. -/

def anyB (p : Nat → Bool) : Nat → Bool
  | 0 => false
  | n + 1 => anyB p n || p n

theorem anyB_true {p : Nat → Bool} : ∀ {n : Nat}, anyB p n = true → ∃ i, i < n ∧ p i = true
  | n + 1, h => by
    simp only [anyB, Bool.or_eq_true] at h
    rcases h with h | h
    · obtain ⟨i, hi, hp⟩ := anyB_true h
      exact ⟨i, by omega, hp⟩
    · exact ⟨n, by omega, h⟩

theorem anyB_of {p : Nat → Bool} {i : Nat} (hp : p i = true) : ∀ {n : Nat}, i < n → anyB p n = true
  | n + 1, h => by
    simp only [anyB, Bool.or_eq_true]
    by_cases e : i = n
    · subst e; exact Or.inr hp
    · exact Or.inl (anyB_of hp (by omega))

/-- A cell's number in step s, when the cells below B were asked. -/
def stp (adj : Nat → Nat → Bool) (o : Nat → Int) (s : Int) (a B : Nat) : Int :=
  if 0 ≤ o a then o a else if anyB (fun b => adj b a && o b == s - 1) B then s else -1

/-- The row in step s, when the cells below A are done, and at A those below B were asked. -/
def stA (N : Nat) (adj : Nat → Nat → Bool) (o : Nat → Int) (s : Int) (A B x : Nat) : Int :=
  if x < A then stp adj o s x N else if x = A then stp adj o s x B else o x

theorem stA_eq {N : Nat} {adj : Nat → Nat → Bool} {o : Nat → Int} {s : Int} (hs : 1 ≤ s) (A B x : Nat) : (stA N adj o s A B x == s - 1) = (o x == s - 1) := by
  have key : ∀ B', (stp adj o s x B' == s - 1) = (o x == s - 1) := by
    intro B'
    unfold stp
    by_cases e : 0 ≤ o x
    · rw [if_pos e]
    · rw [if_neg e, Bool.eq_iff_iff]
      simp only [beq_iff_eq]
      split <;> constructor <;> intro h <;> omega
  unfold stA
  by_cases h1 : x < A
  · rw [if_pos h1]; exact key N
  · rw [if_neg h1]
    by_cases h2 : x = A
    · rw [if_pos h2]; exact key B
    · rw [if_neg h2]

theorem stA_at {N : Nat} {adj : Nat → Nat → Bool} {o : Nat → Int} {s : Int} (A B : Nat) : stA N adj o s A B A = stp adj o s A B := by
  unfold stA; rw [if_neg (by omega), if_pos rfl]

/-- The test holds: the cell is told. -/
theorem stA_hit {N : Nat} {adj : Nat → Nat → Bool} {o : Nat → Int} {s : Int} {A B : Nat} (hm : adj B A = true) (hl : stA N adj o s A B A < 0) (he : o B = s - 1) (x : Nat) :
    (if x = A then s else stA N adj o s A B x) = stA N adj o s A (B + 1) x := by
  by_cases e : x = A
  · subst e
    rw [if_pos rfl, stA_at]
    rw [stA_at] at hl
    unfold stp at hl ⊢
    have h0 : ¬ 0 ≤ o x := by intro h; rw [if_pos h] at hl; omega
    rw [if_neg h0, if_pos (anyB_of (i := B) (by simp [hm, he]) (by omega))]
  · rw [if_neg e]
    unfold stA
    rw [if_neg e, if_neg e]

/-- The test does not hold: nothing turns. -/
theorem stA_miss {N : Nat} {adj : Nat → Nat → Bool} {o : Nat → Int} {s : Int} {A B : Nat} (h : adj B A = false ∨ 0 ≤ stA N adj o s A B A ∨ ¬ o B = s - 1) (x : Nat) :
    stA N adj o s A B x = stA N adj o s A (B + 1) x := by
  unfold stA
  by_cases e : x = A
  · subst e
    rw [if_neg (by omega), if_pos rfl, if_neg (by omega), if_pos rfl]
    rw [stA_at] at h
    unfold stp at h ⊢
    by_cases h0 : 0 ≤ o x
    · rw [if_pos h0, if_pos h0]
    · rw [if_neg h0] at h
      rw [if_neg h0, if_neg h0]
      have e3 : anyB (fun b => adj b x && o b == s - 1) (B + 1) = anyB (fun b => adj b x && o b == s - 1) B := by
        rcases h with h | h | h
        · simp [anyB, h]
        · by_cases ha : anyB (fun b => adj b x && o b == s - 1) B = true
          · simp [anyB, ha]
          · rw [if_neg ha] at h; omega
        · have h' : (o B == s - 1) = false := by simpa using h
          simp [anyB, h']
      rw [e3]
  · rw [if_neg e, if_neg e]

theorem stA_zero {N : Nat} {adj : Nat → Nat → Bool} {o : Nat → Int} {s : Int} (hl : ∀ x, x < N → -1 ≤ o x) (x : Nat) (hx : x < N) : o x = stA N adj o s 0 0 x := by
  unfold stA
  rw [if_neg (by omega)]
  by_cases e : x = 0
  · rw [if_pos e]; unfold stp
    have := hl x hx
    by_cases h0 : 0 ≤ o x
    · rw [if_pos h0]
    · rw [if_neg h0]; simp [anyB]; omega
  · rw [if_neg e]

theorem stA_next {N : Nat} {adj : Nat → Nat → Bool} {o : Nat → Int} {s : Int} (hl : ∀ x, x < N → -1 ≤ o x) (A x : Nat) (hx : x < N) : stA N adj o s A N x = stA N adj o s (A + 1) 0 x := by
  unfold stA
  by_cases h1 : x < A
  · rw [if_pos h1, if_pos (by omega)]
  · rw [if_neg h1]
    by_cases h2 : x = A
    · rw [if_pos h2, if_pos (by omega)]
    · rw [if_neg h2, if_neg (by omega)]
      by_cases h3 : x = A + 1
      · rw [if_pos h3]; unfold stp
        have := hl x hx
        by_cases h0 : 0 ≤ o x
        · rw [if_pos h0]
        · rw [if_neg h0]; simp [anyB]; omega
      · rw [if_neg h3]

theorem stA_last {N : Nat} {adj : Nat → Nat → Bool} {o : Nat → Int} {s : Int} (x : Nat) (hx : x < N) : stA N adj o s N 0 x = stp adj o s x N := by
  unfold stA; rw [if_pos hx]

/-- The row behind k steps. -/
def orow (N : Nat) (adj : Nat → Nat → Bool) (c : Nat) : Nat → Nat → Int
  | 0, x => if x = c then 0 else -1
  | k + 1, x => stp adj (orow N adj c k) (k + 1) x N

structure Part (N : Nat) (adj : Nat → Nat → Bool) (c k : Nat) (d : Nat → Int) : Prop where
  zero : d c = 0
  low : ∀ a, a < N → -1 ≤ d a
  high : ∀ a, a < N → d a ≤ k
  src : ∀ a, a < N → d a = 0 → a = c
  pred : ∀ a, a < N → ∀ k : Nat, d a = (k : Int) + 1 → ∃ b, b < N ∧ adj b a = true ∧ d b = k
  next : ∀ a b, a < N → b < N → adj b a = true → 0 ≤ d b → d b < k → 0 ≤ d a ∧ d a ≤ d b + 1

theorem part_zero (N : Nat) (adj : Nat → Nat → Bool) (c : Nat) : Part N adj c 0 (orow N adj c 0) where
  zero := by simp [orow]
  low := fun a _ => by simp only [orow]; split <;> omega
  high := fun a _ => by simp only [orow]; split <;> simp
  src := fun a _ h => by
    simp only [orow] at h
    by_cases e : a = c
    · exact e
    · rw [if_neg e] at h; omega
  pred := fun a _ k h => by
    simp only [orow] at h
    split at h <;> omega
  next := fun a b _ _ _ h0 h1 => by simp at h1; omega

theorem stp_old {adj : Nat → Nat → Bool} {o : Nat → Int} {s : Int} {a B : Nat} (h : 0 ≤ o a) : stp adj o s a B = o a := by unfold stp; rw [if_pos h]

theorem part_step {N : Nat} {adj : Nat → Nat → Bool} {c k : Nat} (hc : c < N) (h : Part N adj c k (orow N adj c k)) : Part N adj c (k + 1) (orow N adj c (k + 1)) := by
  have hcase : ∀ a, a < N → (0 ≤ orow N adj c k a ∧ orow N adj c (k + 1) a = orow N adj c k a) ∨
      (orow N adj c k a = -1 ∧ ((orow N adj c (k + 1) a = (k : Int) + 1 ∧ ∃ b, b < N ∧ adj b a = true ∧ orow N adj c k b = k) ∨ (orow N adj c (k + 1) a = -1 ∧ ∀ b, b < N → adj b a = true → ¬ orow N adj c k b = k))) := by
    intro a ha
    have hl := h.low a ha
    by_cases e : 0 ≤ orow N adj c k a
    · exact Or.inl ⟨e, stp_old e⟩
    · refine Or.inr ⟨by omega, ?_⟩
      have e1 : orow N adj c (k + 1) a = if anyB (fun b => adj b a && orow N adj c k b == (k : Int) + 1 - 1) N then (k : Int) + 1 else -1 := by
        show stp adj (orow N adj c k) (k + 1) a N = _
        unfold stp; rw [if_neg e]
      by_cases e2 : anyB (fun b => adj b a && orow N adj c k b == (k : Int) + 1 - 1) N = true
      · rw [if_pos e2] at e1
        obtain ⟨b, hb, hp⟩ := anyB_true e2
        simp only [Bool.and_eq_true, beq_iff_eq] at hp
        exact Or.inl ⟨e1, b, hb, hp.1, by omega⟩
      · rw [if_neg e2] at e1
        refine Or.inr ⟨e1, fun b hb hab heq => e2 ?_⟩
        exact anyB_of (i := b) (by simp [hab, heq]) hb
  have kep : ∀ a, a < N → ∀ v : Int, v < (k : Int) + 1 → 0 ≤ v → (orow N adj c (k + 1) a = v ↔ orow N adj c k a = v) := by
    intro a ha v hv h0
    rcases hcase a ha with ⟨h1, h2⟩ | ⟨h1, ⟨h2, _⟩ | ⟨h2, _⟩⟩ <;> rw [h2] <;> constructor <;> intro h3 <;> omega
  refine ⟨?_, ?_, ?_, ?_, ?_, ?_⟩
  · exact (kep c hc 0 (by omega) (Int.le_refl 0)).2 h.zero
  · intro a ha
    rcases hcase a ha with ⟨h1, h2⟩ | ⟨h1, ⟨h2, _⟩ | ⟨h2, _⟩⟩ <;> rw [h2] <;> omega
  · intro a ha
    have := h.high a ha
    rcases hcase a ha with ⟨h1, h2⟩ | ⟨h1, ⟨h2, _⟩ | ⟨h2, _⟩⟩ <;> rw [h2] <;> rw [Int.natCast_add] <;> simp <;> omega
  · intro a ha hz
    exact h.src a ha ((kep a ha 0 (by omega) (Int.le_refl 0)).1 hz)
  · intro a ha j hj
    have hh := h.high a ha
    rcases hcase a ha with ⟨h1, h2⟩ | ⟨h1, ⟨h2, b, hb, hab, hob⟩ | ⟨h2, _⟩⟩
    · obtain ⟨b, hb, hab, hd⟩ := h.pred a ha j (by omega)
      exact ⟨b, hb, hab, (kep b hb j (by omega) (by omega)).2 hd⟩
    · exact ⟨b, hb, hab, (kep b hb j (by omega) (by omega)).2 (by omega)⟩
    · omega
  · intro a b ha hb hab h0 h1
    have h1' : orow N adj c (k + 1) b < (k : Int) + 1 := by rw [Int.natCast_add] at h1; simpa using h1
    obtain ⟨v, hv⟩ : ∃ v, orow N adj c (k + 1) b = v := ⟨_, rfl⟩
    have hob := (kep b hb v (by omega) (by omega)).1 hv
    by_cases hbk : v < k
    · obtain ⟨g1, g2⟩ := h.next a b ha hb hab (by omega) (by omega)
      rcases hcase a ha with ⟨h3, h4⟩ | ⟨h3, _⟩
      · omega
      · omega
    · rcases hcase a ha with ⟨h3, h4⟩ | ⟨h3, ⟨h4, _⟩ | ⟨h4, h5⟩⟩
      · have := h.high a ha; omega
      · omega
      · exact absurd (by omega) (h5 b hb hab)

theorem part_all {N : Nat} {adj : Nat → Nat → Bool} {c : Nat} (hc : c < N) : ∀ k, Part N adj c k (orow N adj c k)
  | 0 => part_zero N adj c
  | k + 1 => part_step hc (part_all hc k)

theorem part_cnt {N : Nat} {adj : Nat → Nat → Bool} {c k : Nat} {d : Nat → Int} (h : Part N adj c k d) : ∀ (j a : Nat), a < N → d a = j → j + 1 ≤ cnt (fun x => decide (0 ≤ d x ∧ d x ≤ j)) N
  | 0, a, ha, hd => by
    have := cnt_lt (p := fun _ => false) (q := fun x => decide (0 ≤ d x ∧ d x ≤ (0 : Nat))) (n := N) (x := a) (fun _ _ h => by cases h) ha (by simp [hd]) rfl
    omega
  | j + 1, a, ha, hd => by
    obtain ⟨b, hb, _, hdb⟩ := h.pred a ha j (by rw [hd]; simp)
    have ih := part_cnt h j b hb hdb
    have := cnt_lt (p := fun x => decide (0 ≤ d x ∧ d x ≤ j)) (q := fun x => decide (0 ≤ d x ∧ d x ≤ ((j + 1 : Nat) : Int))) (n := N) (x := a)
      (fun i _ hp => by simp only [decide_eq_true_eq] at hp ⊢; omega) ha (by simp only [decide_eq_true_eq]; omega) (by simp only [decide_eq_false_iff_not]; omega)
    omega

/-- Behind as many steps as there are cells but one the row is the table of distances. -/
theorem orow_isFar {N : Nat} {adj : Nat → Nat → Bool} {c : Nat} (hc : c < N) : IsFar N adj c (orow N adj c (N - 1)) := by
  have h := part_all (adj := adj) hc (N - 1)
  refine ⟨h.zero, h.low, h.src, h.pred, fun a b ha hb hab h0 => ?_⟩
  by_cases e : orow N adj c (N - 1) b < ((N - 1 : Nat) : Int)
  · exact h.next a b ha hb hab h0 e
  · have hbv : orow N adj c (N - 1) b = ((N - 1 : Nat) : Int) := by have := h.high b hb; omega
    have hcn := part_cnt h (N - 1) b hb hbv
    have hcn' : N ≤ cnt (fun x => decide (0 ≤ orow N adj c (N - 1) x ∧ orow N adj c (N - 1) x ≤ ((N - 1 : Nat) : Int))) N := by omega
    have hfull := cnt_full hcn' a ha
    simp only [decide_eq_true_eq] at hfull
    omega

end Go.Proofs.YtnkgpinadgacgaaDoor.M

/- Plain facts on a queue's search: what holds while it runs, and that its table is the table of distances when the queue is through. No program is named here. -/
namespace Go.Proofs.YtnkgpinadgacgaaDoor.M

/-- What holds of the table st and the queue q, whose cells below i are done. -/
structure Bfs (N : Nat) (adj : Nat → Nat → Bool) (c : Nat) (st : Nat → Int) (q : List Nat) (i : Nat) : Prop where
  inN : ∀ j, j < q.length → q.getD j 0 < N
  len : q.length + cnt (fun x => decide (st x < 0)) N = N
  zero : st c = 0
  low : ∀ x, x < N → -1 ≤ st x
  src : ∀ x, x < N → st x = 0 → x = c
  pred : ∀ a, a < N → ∀ k : Nat, st a = (k : Int) + 1 → ∃ b, b < N ∧ adj b a = true ∧ st b = k
  mem : ∀ x, x < N → 0 ≤ st x → ∃ j, j < q.length ∧ q.getD j 0 = x
  told : ∀ j, j < q.length → 0 ≤ st (q.getD j 0)
  mono : ∀ j k, j ≤ k → k < q.length → st (q.getD j 0) ≤ st (q.getD k 0)
  near : i < q.length → ∀ j, j < q.length → st (q.getD j 0) ≤ st (q.getD i 0) + 1
  le : ∀ j, j < q.length → st (q.getD j 0) ≤ j
  past : ∀ j, j < i → j < q.length → ∀ a, a < N → adj (q.getD j 0) a = true → 0 ≤ st a ∧ st a ≤ st (q.getD j 0) + 1

theorem Bfs.lenN {N : Nat} {adj : Nat → Nat → Bool} {c : Nat} {st : Nat → Int} {q : List Nat} {i : Nat} (h : Bfs N adj c st q i) : q.length ≤ N := by
  have := h.len; omega

theorem bfs_start {N : Nat} {adj : Nat → Nat → Bool} {c : Nat} (hc : c < N) : Bfs N adj c (fun x => if x = c then 0 else -1) [c] 0 := by
  have hcnt : cnt (fun x => decide ((if x = c then (0 : Int) else -1) < 0)) N + 1 = cnt (fun _ => true) N := by
    refine cnt_flip hc rfl (by simp) fun i hi => ?_
    simp [hi]
  have hall : ∀ n, cnt (fun _ => true) n = n := by
    intro n
    induction n with
    | zero => rfl
    | succ n ih => simp [cnt, ih]
  refine ⟨?_, ?_, ?_, ?_, ?_, ?_, ?_, ?_, ?_, ?_, ?_, ?_⟩
  · intro j hj
    have : j = 0 := by simp at hj; omega
    subst this; simpa using hc
  · rw [hall N] at hcnt
    simp only [List.length_cons, List.length_nil]; omega
  · simp
  · intro x _; show -1 ≤ (if x = c then (0 : Int) else -1); split <;> omega
  · intro x _ hx
    by_cases e : x = c
    · exact e
    · simp only [if_neg e] at hx; omega
  · intro a _ k hk
    have hk' : (if a = c then (0 : Int) else -1) = (k : Int) + 1 := hk
    split at hk' <;> omega
  · intro x _ hx
    by_cases e : x = c
    · exact ⟨0, by simp, by simp [e]⟩
    · simp only [if_neg e] at hx; omega
  · intro j hj
    have : j = 0 := by simp at hj; omega
    subst this; simp
  · intro j k hjk hk
    have : k = 0 := by simp at hk; omega
    subst this
    have : j = 0 := by omega
    subst this; simp
  · intro _ j hj
    have : j = 0 := by simp at hj; omega
    subst this; simp
  · intro j hj
    have : j = 0 := by simp at hj; omega
    subst this; simp
  · intro j hj; omega

def upd (st : Nat → Int) (x : Nat) (v : Int) (y : Nat) : Int := if y = x then v else st y

theorem getD_old {q : List Nat} {x j : Nat} (hj : j < q.length) : (q ++ [x]).getD j 0 = q.getD j 0 := by
  simp [List.getD, List.getElem?_append_left hj]

theorem getD_new {q : List Nat} {x : Nat} : (q ++ [x]).getD q.length 0 = x := by
  simp [List.getD]

/-- A cell that is not told yet and lies beside the queue's i-th comes behind. -/
theorem bfs_push {N : Nat} {adj : Nat → Nat → Bool} {c : Nat} {st : Nat → Int} {q : List Nat} {i x : Nat} (h : Bfs N adj c st q i) (hi : i < q.length) (hx : x < N) (hn : st x = -1) (ha : adj (q.getD i 0) x = true) :
    Bfs N adj c (upd st x (st (q.getD i 0) + 1)) (q ++ [x]) i := by
  have hqi := h.told i hi
  have hne : ∀ y, 0 ≤ st y → y ≠ x := fun y hy e => by subst e; omega
  have hold : ∀ y, 0 ≤ st y → upd st x (st (q.getD i 0) + 1) y = st y := fun y hy => by unfold upd; rw [if_neg (hne y hy)]
  have hnew : upd st x (st (q.getD i 0) + 1) x = st (q.getD i 0) + 1 := by unfold upd; rw [if_pos rfl]
  have hcase : ∀ j, j < (q ++ [x]).length → (j < q.length ∧ (q ++ [x]).getD j 0 = q.getD j 0 ∧ upd st x (st (q.getD i 0) + 1) ((q ++ [x]).getD j 0) = st (q.getD j 0)) ∨
      (j = q.length ∧ (q ++ [x]).getD j 0 = x ∧ upd st x (st (q.getD i 0) + 1) ((q ++ [x]).getD j 0) = st (q.getD i 0) + 1) := by
    intro j hj
    rw [List.length_append] at hj
    simp only [List.length_cons, List.length_nil] at hj
    by_cases e : j < q.length
    · refine Or.inl ⟨e, getD_old e, ?_⟩
      rw [getD_old e]; exact hold _ (h.told j e)
    · have e2 : j = q.length := by omega
      subst e2
      refine Or.inr ⟨rfl, getD_new, ?_⟩
      rw [getD_new]; exact hnew
  have hsmall : ∀ a (v : Int), upd st x (st (q.getD i 0) + 1) a = v → a ≠ x → st a = v := fun a v hv e => by unfold upd at hv; rw [if_neg e] at hv; exact hv
  refine ⟨?_, ?_, ?_, ?_, ?_, ?_, ?_, ?_, ?_, ?_, ?_, ?_⟩
  · intro j hj
    rcases hcase j hj with ⟨e, e1, _⟩ | ⟨_, e1, _⟩ <;> rw [e1]
    · exact h.inN j e
    · exact hx
  · have := cnt_flip (p := fun y => decide (st y < 0)) (q := fun y => decide (upd st x (st (q.getD i 0) + 1) y < 0)) hx (by simp [hn]) (by simp only [hnew, decide_eq_false_iff_not]; omega)
      (fun j hj => by unfold upd; rw [if_neg hj])
    have hl := h.len
    rw [List.length_append]
    simp only [List.length_cons, List.length_nil]
    omega
  · rw [hold c (by rw [h.zero]; omega)]; exact h.zero
  · intro y hy
    unfold upd
    split
    · omega
    · exact h.low y hy
  · intro y hy hz
    by_cases e : y = x
    · subst e; rw [hnew] at hz; omega
    · exact h.src y hy (hsmall y 0 hz e)
  · intro a haN k hk
    by_cases e : a = x
    · subst e
      rw [hnew] at hk
      exact ⟨q.getD i 0, h.inN i hi, ha, by rw [hold _ hqi]; omega⟩
    · obtain ⟨b, hb, hab, hd⟩ := h.pred a haN k (hsmall a _ hk e)
      exact ⟨b, hb, hab, by rw [hold b (by omega)]; exact hd⟩
  · intro y hy hy0
    by_cases e : y = x
    · subst e; exact ⟨q.length, by simp, getD_new⟩
    · obtain ⟨j, hj, hjy⟩ := h.mem y hy (by unfold upd at hy0; rw [if_neg e] at hy0; exact hy0)
      exact ⟨j, by simp; omega, by rw [getD_old hj]; exact hjy⟩
  · intro j hj
    rcases hcase j hj with ⟨e, _, e2⟩ | ⟨_, _, e2⟩ <;> rw [e2]
    · exact h.told j e
    · omega
  · intro j k hjk hk
    rcases hcase k hk with ⟨e, _, e2⟩ | ⟨e, _, e2⟩
    · rcases hcase j (by omega) with ⟨f, _, f2⟩ | ⟨f, _, f2⟩
      · rw [e2, f2]; exact h.mono j k hjk e
      · omega
    · rcases hcase j (by omega) with ⟨f, _, f2⟩ | ⟨f, _, f2⟩
      · rw [e2, f2]; exact h.near hi j f
      · rw [e2, f2]; omega
  · intro _ j hj
    have ei : upd st x (st (q.getD i 0) + 1) ((q ++ [x]).getD i 0) = st (q.getD i 0) := by rw [getD_old hi]; exact hold _ hqi
    rw [ei]
    rcases hcase j hj with ⟨e, _, e2⟩ | ⟨_, _, e2⟩ <;> rw [e2]
    · exact h.near hi j e
    · omega
  · intro j hj
    rcases hcase j hj with ⟨e, _, e2⟩ | ⟨e, _, e2⟩ <;> rw [e2]
    · exact h.le j e
    · have := h.le i hi
      omega
  · intro j hj hjl a haN haj
    have e : j < q.length := by omega
    rw [getD_old e] at haj ⊢
    obtain ⟨g1, g2⟩ := h.past j hj e a haN haj
    rw [hold a g1, hold _ (h.told j e)]
    exact ⟨g1, g2⟩

/-- The i-th cell is done. -/
theorem bfs_next {N : Nat} {adj : Nat → Nat → Bool} {c : Nat} {st : Nat → Int} {q : List Nat} {i : Nat} (h : Bfs N adj c st q i) (hi : i < q.length)
    (hd : ∀ a, a < N → adj (q.getD i 0) a = true → 0 ≤ st a ∧ st a ≤ st (q.getD i 0) + 1) : Bfs N adj c st q (i + 1) := by
  refine ⟨h.inN, h.len, h.zero, h.low, h.src, h.pred, h.mem, h.told, h.mono, ?_, h.le, ?_⟩
  · intro hl j hj
    have := h.near hi j hj
    have := h.mono i (i + 1) (by omega) hl
    omega
  · intro j hj hjl a haN haj
    by_cases e : j = i
    · subst e; exact hd a haN haj
    · exact h.past j (by omega) hjl a haN haj

/-- The queue is through. -/
theorem bfs_isFar {N : Nat} {adj : Nat → Nat → Bool} {c : Nat} {st : Nat → Int} {q : List Nat} {i : Nat} (h : Bfs N adj c st q i) (hi : ¬ i < q.length) : IsFar N adj c st := by
  refine ⟨h.zero, h.low, h.src, h.pred, fun a b ha hb hab h0 => ?_⟩
  obtain ⟨j, hj, hjb⟩ := h.mem b hb h0
  subst hjb
  exact h.past j (by omega) hj a ha hab

/-- A cell that is told already lies within one. -/
theorem bfs_told {N : Nat} {adj : Nat → Nat → Bool} {c : Nat} {st : Nat → Int} {q : List Nat} {i x : Nat} (h : Bfs N adj c st q i) (hi : i < q.length) (hx : x < N) (h0 : 0 ≤ st x) : st x ≤ st (q.getD i 0) + 1 := by
  obtain ⟨j, hj, hjx⟩ := h.mem x hx h0
  subst hjx
  exact h.near hi j hj

end Go.Proofs.YtnkgpinadgacgaaDoor.M

/- Plain facts on neighbours: rows and columns of cells. No program is named here. -/
namespace Go.Proofs.YtnkgpinadgacgaaDoor.M

/-- Are two cells the same or neighbours? -/
def nearM (co a b : Int) : Bool := decide ((a / co - b / co) * (a / co - b / co) + (a % co - b % co) * (a % co - b % co) ≤ 1)

/-- May a cart go from a to b? -/
def mayM (co : Int) (cs : ByteArray) (a b : Int) : Bool := freeB cs b && (decide (0 ≤ a) && (decide (a < cs.size) && nearM co a b))

theorem divmod_bd {a co : Int} (h0 : 0 ≤ a) (h1 : a ≤ 36) (h2 : 1 ≤ co) (h3 : co ≤ 6) : 0 ≤ a / co ∧ a / co ≤ 36 ∧ 0 ≤ a % co ∧ a % co ≤ 5 := by
  have e : co = 1 ∨ co = 2 ∨ co = 3 ∨ co = 4 ∨ co = 5 ∨ co = 6 := by omega
  rcases e with e | e | e | e | e | e <;> subst e <;> omega

theorem sq_bd {r : Int} (h : -36 ≤ r) (h' : r ≤ 36) : 0 ≤ r * r ∧ r * r ≤ 1296 := by
  have h1 : r.natAbs ≤ 36 := by omega
  have h2 : r * r = ((r.natAbs * r.natAbs : Nat) : Int) := by rw [Int.natCast_mul, Int.natAbs_mul_self' r]
  rw [h2]
  have h3 := Nat.mul_le_mul h1 h1
  omega

theorem sq_small {r : Int} (h : r * r ≤ 1) : -1 ≤ r ∧ r ≤ 1 := by
  have h2 : r * r = ((r.natAbs * r.natAbs : Nat) : Int) := by rw [Int.natCast_mul, Int.natAbs_mul_self' r]
  rw [h2] at h
  by_cases e : 2 ≤ r.natAbs
  · have h3 := Nat.mul_le_mul e e
    omega
  · omega

theorem sq_pos {r : Int} (h : r ≠ 0) : 1 ≤ r * r := by
  have h2 : r * r = ((r.natAbs * r.natAbs : Nat) : Int) := by rw [Int.natCast_mul, Int.natAbs_mul_self' r]
  rw [h2]
  have h3 := Nat.mul_le_mul (show 1 ≤ r.natAbs by omega) (show 1 ≤ r.natAbs by omega)
  omega

theorem sum_sq {r c : Int} : r * r + c * c ≤ 1 ↔ (r = 0 ∧ -1 ≤ c ∧ c ≤ 1) ∨ (c = 0 ∧ -1 ≤ r ∧ r ≤ 1) := by
  constructor
  · intro h
    by_cases hr : r = 0
    · subst hr
      have := sq_small (r := c) (by omega)
      exact Or.inl ⟨rfl, this⟩
    · have h1 := sq_pos hr
      by_cases hc : c = 0
      · subst hc
        have := sq_small (r := r) (by omega)
        exact Or.inr ⟨rfl, this⟩
      · have h2 := sq_pos hc
        omega
  · rintro (⟨h, h1, h2⟩ | ⟨h, h1, h2⟩)
    · subst h
      have e : c = -1 ∨ c = 0 ∨ c = 1 := by omega
      rcases e with e | e | e <;> subst e <;> decide
    · subst h
      have e : r = -1 ∨ r = 0 ∨ r = 1 := by omega
      rcases e with e | e | e <;> subst e <;> decide

theorem near_iff {co a b : Int} : nearM co a b = true ↔ (a / co = b / co ∧ -1 ≤ a % co - b % co ∧ a % co - b % co ≤ 1) ∨ (a % co = b % co ∧ -1 ≤ a / co - b / co ∧ a / co - b / co ≤ 1) := by
  unfold nearM
  rw [decide_eq_true_eq, sum_sq]
  constructor <;> rintro (⟨h, h1, h2⟩ | ⟨h, h1, h2⟩)
  · exact Or.inl ⟨by omega, h1, h2⟩
  · exact Or.inr ⟨by omega, h1, h2⟩
  · exact Or.inl ⟨by omega, h1, h2⟩
  · exact Or.inr ⟨by omega, h1, h2⟩

theorem near_comm (co a b : Int) : nearM co a b = nearM co b a := by
  rw [Bool.eq_iff_iff, near_iff, near_iff]
  constructor <;> rintro (⟨h, h1, h2⟩ | ⟨h, h1, h2⟩)
  · exact Or.inl ⟨by omega, by omega, by omega⟩
  · exact Or.inr ⟨by omega, by omega, by omega⟩
  · exact Or.inl ⟨by omega, by omega, by omega⟩
  · exact Or.inr ⟨by omega, by omega, by omega⟩

end Go.Proofs.YtnkgpinadgacgaaDoor.M

/- Walks of Near and May. -/
namespace Go.Proofs.YtnkgpinadgacgaaDoor
open Go.RowKit M

set_option maxHeartbeats 400000 in
theorem near_any (ro co bu a b : Int) (cs : ByteArray) (ca : Value) (w : World) (h1 : 1 ≤ co) (h2 : co ≤ 6) (ha0 : 0 ≤ a) (ha1 : a ≤ 36) (hb0 : 0 ≤ b) (hb1 : b ≤ 36) :
    Calls Tryd.prog 113 #[.agg #[.int .i64 ro, .int .i64 co, .string cs, ca, .int .i64 bu], .int .i64 a, .int .i64 b] w fun e w' => e = .returned (.bool (nearM co a b)) ∧ Below w.heap.size w w' := by
  obtain ⟨p1, p2, p3, p4⟩ := divmod_bd ha0 ha1 h1 h2
  obtain ⟨q1, q2, q3, q4⟩ := divmod_bd hb0 hb1 h1 h2
  obtain ⟨s1, s2⟩ := sq_bd (r := a / co - b / co) (by omega) (by omega)
  obtain ⟨t1, t2⟩ := sq_bd (r := a % co - b % co) (by omega) (by omega)
  have hco : (co == 0) = false := by simp; omega
  go_enter Tryd.func113, Tryd.ntmps113
  go_wp2
  go_quiet (fail)
  go_wp2
  go_quiet (fail)
  go_wp2
  go_ret
  exact ⟨ret_bool rfl, below_drewN ((Below.refl _ _).alloc (Nat.le_refl _) _) _⟩

theorem mayM_in {co a b : Int} {cs : ByteArray} (hf : freeB cs b = true) (h0 : 0 ≤ a) (h1 : a < cs.size) : mayM co cs a b = nearM co a b := by
  unfold mayM; simp [hf, h0, h1]

theorem mayM_out {co a b : Int} {cs : ByteArray} (h : freeB cs b = false ∨ ¬ (0 ≤ a ∧ a < cs.size)) : mayM co cs a b = false := by
  unfold mayM
  rcases h with h | h
  · simp [h]
  · by_cases h0 : 0 ≤ a
    · have h1 : ¬ a < cs.size := fun hh => h ⟨h0, hh⟩
      simp [h1]
    · simp [h0]

set_option maxHeartbeats 400000 in
theorem may_any (ro co bu a b : Int) (cs : ByteArray) (ca : Value) (w : World) (hs : cs.size ≤ 36) (h1 : 1 ≤ co) (h2 : co ≤ 6) (hb0 : 0 ≤ b) (hb1 : b ≤ 36) :
    Calls Tryd.prog 65 #[.agg #[.int .i64 ro, .int .i64 co, .string cs, ca, .int .i64 bu], .int .i64 a, .int .i64 b] w fun e w' => e = .returned (.bool (mayM co cs a b)) ∧ Below w.heap.size w w' := by
  have hsm : cs.size ≤ maxLen := by unfold maxLen; omega
  go_enter Tryd.func65, Tryd.ntmps65
  go_wp2_with fail
  refine (rfree_any _ _ _ _ _ _ _ hsm).mono ?_
  rintro e w1 ⟨rfl, hb⟩
  obtain ⟨hc1, hf1⟩ := bcell hb
  have hB := Hid.mk (((Below.refl _ w).alloc (Nat.le_refl _) _).trans (hb.mono (by simp)) : Below w.heap.size w w1)
  have hz1 : w.heap.size < w1.heap.size := by have := hb.size; simp at this; omega
  clear hb hsm
  by_cases e1 : freeB cs b = true
  · by_cases e2 : 0 ≤ a
    · by_cases e3 : a < cs.size
      · go_wp2_with fail
        refine (near_any _ _ _ _ _ _ _ _ h1 h2 e2 (by omega) hb0 hb1).mono ?_
        rintro e w2 ⟨rfl, hb2⟩
        go_wp2
        go_ret
        exact ⟨ret_bool (mayM_in e1 e2 e3).symm, hB.out.trans (hb2.mono (by omega))⟩
      · go_wp2
        go_ret
        exact ⟨ret_bool (mayM_out (Or.inr (by omega))).symm, hB.out⟩
    · go_wp2
      go_ret
      exact ⟨ret_bool (mayM_out (Or.inr (by omega))).symm, hB.out⟩
  · have e1' : freeB cs b = false := by simpa using e1
    go_wp2
    go_ret
    exact ⟨ret_bool (mayM_out (Or.inl e1')).symm, hB.out⟩

end Go.Proofs.YtnkgpinadgacgaaDoor

/- Walk of the document's Far. -/
namespace Go.Proofs.YtnkgpinadgacgaaDoor
open Go.RowKit M

theorem Tryd.infoInt : (Tryd.prog.info? 3).map (fun i => (i.zero, i.size, i.bytes)) = some (some (.int .i64 0), 1, 8) := by kernel_rfl

theorem checkM_good {ro co bu : Int} {cs : ByteArray} {n : Nat} {fr tt : Nat → Int} (h : (checkM ro co cs n fr tt bu).1 = 0) : sideB ro = true ∧ sideB co = true ∧ (cs.size : Int) = ro * co := by
  unfold checkM at h
  by_cases h1 : (sideB ro && sideB co) = false
  · rw [if_pos h1] at h; simp at h
  · rw [if_neg h1] at h
    by_cases h2 : 0 ≤ cellsM ro co cs
    · rw [if_pos h2] at h; simp at h
    · have h3 : sideB ro = true ∧ sideB co = true := by simpa using h1
      refine ⟨h3.1, h3.2, ?_⟩
      by_cases h4 : (cs.size : Int) = ro * co
      · exact h4
      · rw [cellsM_size h4] at h2; omega

def intV (f : Nat → Int) (i : Nat) : Value := .int .i64 (f i)
def fillF (k : Nat) (i : Nat) : Int := if i < k then -1 else 0
def adjM (co : Int) (cs : ByteArray) (b a : Nat) : Bool := mayM co cs b a

theorem row_zero (N : Nat) (w : World) (t : TypeId) (k : Nat) (hk : k = w.heap.size) : (w.alloc (.cells (madeCells #[.int .i64 0] N) t)).rowIs k t N (intV (fillF 0)) := by
  subst hk
  refine rowIs_made _ _ _ _ fun i _ => ?_
  simp [Nat.mod_one, intV, fillF]

theorem row_store {w : World} {g N : Nat} {t : TypeId} {f f' : Nat → Int} (h : w.rowIs g t N (intV f)) (i : Nat) (v : Int) (he : ∀ j, j < N → (if j = i then v else f j) = f' j) : (w.setCell ⟨g, i, none⟩ (.int .i64 v)).rowIs g t N (intV f') := by
  refine (h.set i _).congr fun j hj => ?_
  unfold intV
  rw [← he j hj]
  split <;> rfl

theorem row_same {w : World} {g N : Nat} {t : TypeId} {f f' : Nat → Int} (h : w.rowIs g t N (intV f)) (he : ∀ j, j < N → f j = f' j) : w.rowIs g t N (intV f') :=
  h.congr fun j hj => by unfold intV; rw [he j hj]

set_option maxRecDepth 100000 in
set_option maxHeartbeats 1000000 in
theorem rfar_ok (ro co bu : Int) (cs : ByteArray) (a : Option Addr) (n cap : Nat) (fr tt : Nat → Int) (c : Nat) (w : World) (hs : cs.size ≤ maxLen) (hn : n ≤ maxLen)
    (ha : 0 < n → ∃ b off, a = some ⟨b, off, none⟩ ∧ CartsIn w b off n fr tt) (hck : (checkM ro co cs n fr tt bu).1 = 0) (hfr : freeB cs c = true) :
    Calls Tryd.prog 16 #[.agg #[.int .i64 ro, .int .i64 co, .string cs, .slice a n cap, .int .i64 bu], .int .i64 c] w fun e w' =>
      ∃ g, e = .returned (.tuple #[.slice (some ⟨g, 0, none⟩) cs.size cs.size, .int .i64 0]) ∧ w.heap.size ≤ g ∧ w'.rowIs g 3 cs.size (intV (orow cs.size (adjM co cs) c (cs.size - 1))) ∧ Below w.heap.size w w' := by
  obtain ⟨sd1, sd2, hsz⟩ := checkM_good hck
  obtain ⟨r1, r2⟩ := side_bd sd1
  obtain ⟨r3, r4⟩ := side_bd sd2
  obtain ⟨hp1, hp2⟩ := mul_bd r1 r2 r3 r4
  have hN1 : 1 ≤ cs.size := by omega
  have hN2 : cs.size ≤ 36 := by omega
  have hcN : c < cs.size := by
    by_cases e : c < cs.size
    · exact e
    · rw [freeB_out (by omega)] at hfr; cases hfr
  have Hsz := Hid.mk hsz
  have hck' : ((checkM ro co cs n fr tt bu).1 != 0) = false := by rw [hck]; rfl
  clear hsz sd1 sd2 hp1 hp2 hck
  go_enter Tryd.func16, Tryd.ntmps16
  go_wp2_with fail
  refine (rcheck_any _ _ _ _ _ _ _ fr tt _ hs hn (by exact fun h => by obtain ⟨b, off, hab, hc⟩ := ha h; exact ⟨b, off, hab, hc.below ((Below.refl _ _).alloc (Nat.le_refl _) _)⟩)).mono ?_
  rintro e w1 ⟨rfl, hb1⟩
  have y1 : ∀ o, w1.cell? ⟨w.heap.size, o, none⟩ = #[Value.int .i64 ro, .int .i64 co, .string cs, .slice a n cap, .int .i64 bu][o]? := by
    intro o
    rw [hb1.cell (p := ⟨w.heap.size, o, none⟩) (by show w.heap.size < _; simp)]; go_simp
  have hB1 := Hid.mk (((Below.refl _ w).alloc (Nat.le_refl _) _).trans (hb1.mono (by simp)) : Below w.heap.size w w1)
  have hz1 : w.heap.size < w1.heap.size := by have := hb1.size; simp at this; omega
  clear hb1 ha
  go_wp2_with fail
  refine (rfree_any _ _ _ _ _ _ _ hs).mono ?_
  rintro e w2 ⟨rfl, hb2⟩
  have y2 : ∀ o, w2.cell? ⟨w.heap.size, o, none⟩ = #[Value.int .i64 ro, .int .i64 co, .string cs, .slice a n cap, .int .i64 bu][o]? := fun o => (hb2.cell (p := ⟨w.heap.size, o, none⟩) hz1).trans (y1 o)
  have hz2 : w1.heap.size ≤ w2.heap.size := hb2.size
  have hB2 := Hid.mk (hB1.out.trans (hb2.mono (by omega)) : Below w.heap.size w w2)
  clear y1 hb2 hck'
  go_wp2_with (at_make; go_must (refine wpList_make_all _ rfl _ _ 26 rfl 3 _ _ _ Tryd.underlying26 Tryd.infoInt _ _ _ _ cs.size rfl rfl rfl rfl (by omega) (by omega) ?_))
  have hrow0 := Hid.mk (row_zero cs.size w2 3 w2.heap.size rfl)
  generalize hw3 : w2.alloc (Obj.cells (madeCells #[Value.int IntKind.i64 0] cs.size) 3) = w3 at *
  have y3 : ∀ o, w3.cell? ⟨w.heap.size, o, none⟩ = #[Value.int .i64 ro, .int .i64 co, .string cs, .slice a n cap, .int .i64 bu][o]? := by
    intro o; rw [← hw3, World.cell?_alloc_lt _ _ _ (by show w.heap.size < _; omega)]; exact y2 o
  have hB3 : Hid (Below w.heap.size w w3) := by rw [← hw3]; exact hB2.out.alloc (by omega) _
  have hg0 : w.heap.size < w2.heap.size := by omega
  clear y2 hw3 hB1 hB2 hz1 hz2
  generalize w2.heap.size = g at *
  go_loopw [11] (fun s wr => ∃ k : Nat, k ≤ cs.size ∧ s = .int .i64 k ∧ wr.rowIs g 3 cs.size (intV (fillF k)) ∧ Below g w3 wr) (fun s _ => cs.size - (intOf s).toNat)
  case atStart => exact ⟨0, Nat.zero_le _, rfl, hrow0.out, Below.refl _ _⟩
  case round =>
    obtain ⟨k, hk, rfl, hrw, hbr⟩ := hrel
    have HW := Hid.mk hrw
    have hsz := hrw.lt
    by_cases hlt : k < cs.size
    · have x1 := hrw.cell (i := k) hlt
      have x3 := hrw.frozen
      clear hrw
      go_wp2
      go_roundw
      case rel => exact ⟨k + 1, by omega, by go_num, row_store HW.out k (-1) (fun j _ => by unfold fillF; by_cases e : j = k <;> simp [e] <;> split <;> split <;> omega), hbr.setCell (by simp) _⟩
      case measure => simp [intOf]; omega
    · have hd : k = cs.size := by omega
      have x1 := hrw.cell (i := c) hcN
      have x3 := hrw.frozen
      have HW2 : Hid ((wr.setCell ⟨g, c, none⟩ (.int .i64 0)).rowIs g 3 cs.size (intV (orow cs.size (adjM co cs) c 0))) :=
        row_store HW.out c 0 (fun j hj => by unfold fillF orow; by_cases e : j = c <;> simp [e]; omega)
      clear hrw hd
      go_wp2
      have y4 : ∀ o, (wr.setCell ⟨g, c, none⟩ (.int .i64 0)).cell? ⟨w.heap.size, o, none⟩ = #[Value.int .i64 ro, .int .i64 co, .string cs, .slice a n cap, .int .i64 bu][o]? := by
        intro o
        exact ((hbr.setCell (Nat.le_refl _) (.int .i64 0) : Below g w3 (wr.setCell ⟨g, c, none⟩ (.int .i64 0))).cell (p := ⟨w.heap.size, o, none⟩) (by show w.heap.size < g; omega)).trans (y3 o)
      have hB4 : Hid (Below w.heap.size w (wr.setCell ⟨g, c, none⟩ (.int .i64 0))) := (hB3.out.trans (hbr.mono (by omega))).setCell (by show w.heap.size ≤ g; omega) _
      clear x1 x3 hbr y3 hB3 HW hrow0
      generalize wr.setCell ⟨g, c, none⟩ (.int .i64 0) = w4 at *
      go_loopw [12] (fun s wr => ∃ k : Nat, k + 1 ≤ cs.size ∧ s = .int .i64 ((k : Int) + 1) ∧ wr.rowIs g 3 cs.size (intV (orow cs.size (adjM co cs) c k)) ∧ Below g w4 wr) (fun s _ => cs.size - (intOf s).toNat)
      case atStart => exact ⟨0, by omega, rfl, HW2.out, Below.refl _ _⟩
      case round =>
        obtain ⟨wo, rfl⟩ : ∃ x, x = wr := ⟨_, rfl⟩
        obtain ⟨k, hk, rfl, hrw, hbr⟩ := hrel
        have HW := Hid.mk hrw
        clear hrw
        by_cases hlt : k + 1 < cs.size
        · have hlb : decide ((k : Int) + 1 < (cs.size : Int)) = true := by simp; omega
          have hlow := Hid.mk (part_all (adj := adjM co cs) hcN k).low
          have HM : Hid (wo.rowIs g 3 cs.size (intV (stA cs.size (adjM co cs) (orow cs.size (adjM co cs) c k) ((k : Int) + 1) 0 0))) :=
            row_same HW.out (fun x hx => stA_zero hlow.out x hx)
          have y5 : ∀ o, wo.cell? ⟨w.heap.size, o, none⟩ = #[Value.int .i64 ro, .int .i64 co, .string cs, .slice a n cap, .int .i64 bu][o]? := fun o => (hbr.cell (p := ⟨w.heap.size, o, none⟩) (by show w.heap.size < g; omega)).trans (y4 o)
          have HBR := Hid.mk hbr
          have Y4 := Hid.mk y4
          clear y4 HW hbr
          go_wp2
          go_loopw [13] (fun s wm => ∃ A : Nat, A ≤ cs.size ∧ s = .int .i64 A ∧ wm.rowIs g 3 cs.size (intV (stA cs.size (adjM co cs) (orow cs.size (adjM co cs) c k) ((k : Int) + 1) A 0)) ∧ Below g wo wm) (fun s _ => cs.size - (intOf s).toNat)
          case atStart => exact ⟨0, Nat.zero_le _, rfl, HM.out, Below.refl _ _⟩
          case round =>
            obtain ⟨wm, rfl⟩ : ∃ x, x = wr := ⟨_, rfl⟩
            obtain ⟨A, hA, rfl, hrm, hbm⟩ := hrel
            have HMM := Hid.mk hrm
            clear hrm HM
            by_cases hltA : A < cs.size
            · have hlbA : decide ((A : Int) < (cs.size : Int)) = true := by simp; omega
              have y6 : ∀ o, wm.cell? ⟨w.heap.size, o, none⟩ = #[Value.int .i64 ro, .int .i64 co, .string cs, .slice a n cap, .int .i64 bu][o]? := fun o => (hbm.cell (p := ⟨w.heap.size, o, none⟩) (by show w.heap.size < g; omega)).trans (y5 o)
              have HBM := Hid.mk hbm
              have Y5 := Hid.mk y5
              clear y5 hbm
              go_wp2
              go_loopw [14] (fun s wi => ∃ B : Nat, B ≤ cs.size ∧ s = .int .i64 B ∧ wi.rowIs g 3 cs.size (intV (stA cs.size (adjM co cs) (orow cs.size (adjM co cs) c k) ((k : Int) + 1) A B)) ∧ Below g wm wi) (fun s _ => cs.size - (intOf s).toNat)
              case atStart => exact ⟨0, Nat.zero_le _, rfl, HMM.out, Below.refl _ _⟩
              case round =>
                obtain ⟨wi, rfl⟩ : ∃ x, x = wr := ⟨_, rfl⟩
                obtain ⟨B, hBn, rfl, hri, hbi⟩ := hrel
                by_cases hltB : B < cs.size
                · have y7 : ∀ o, wi.cell? ⟨w.heap.size, o, none⟩ = #[Value.int .i64 ro, .int .i64 co, .string cs, .slice a n cap, .int .i64 bu][o]? := fun o => (hbi.cell (p := ⟨w.heap.size, o, none⟩) (by show w.heap.size < g; omega)).trans (y6 o)
                  have HRI := Hid.mk hri
                  have HBI := Hid.mk hbi
                  have Y6 := Hid.mk y6
                  clear hri hbi y6
                  go_wp2_with fail
                  refine (may_any _ _ _ _ _ _ _ _ hN2 r3 r4 (by omega) (by omega)).mono ?_
                  rintro e w5 ⟨rfl, hb5⟩
                  have HR5 := Hid.mk (HRI.out.of_block (hb5.block g HRI.out.lt))
                  have HB5 := Hid.mk (HBI.out.trans (hb5.mono (by have := HRI.out.lt; omega)) : Below g wm w5)
                  have x1 := HR5.out.cell (i := A) hltA
                  have x2 := HR5.out.cell (i := B) hltB
                  have x3 := HR5.out.frozen
                  rw [show intV (stA cs.size (adjM co cs) (orow cs.size (adjM co cs) c k) ((k : Int) + 1) A B) A = Value.int .i64 (stA cs.size (adjM co cs) (orow cs.size (adjM co cs) c k) ((k : Int) + 1) A B A) from rfl] at x1
                  rw [show intV (stA cs.size (adjM co cs) (orow cs.size (adjM co cs) c k) ((k : Int) + 1) A B) B = Value.int .i64 (stA cs.size (adjM co cs) (orow cs.size (adjM co cs) c k) ((k : Int) + 1) A B B) from rfl] at x2
                  clear y7 hb5
                  generalize hvA : stA cs.size (adjM co cs) (orow cs.size (adjM co cs) c k) ((k : Int) + 1) A B A = vA at x1
                  generalize hvB : stA cs.size (adjM co cs) (orow cs.size (adjM co cs) c k) ((k : Int) + 1) A B B = vB at x2
                  have HA := Hid.mk hvA
                  have HB := Hid.mk hvB
                  clear hvA hvB
                  by_cases m1 : mayM co cs (B : Int) (A : Int) = true
                  · by_cases m2 : vA < 0
                    · by_cases m3 : vB = k
                      · have m3' : (vB == (k : Int)) = true := by simpa using m3
                        have M3 := Hid.mk m3
                        clear m3
                        go_wp2
                        go_roundw
                        case rel =>
                          refine ⟨B + 1, by omega, by go_num, row_store HR5.out A ((k : Int) + 1) (fun x hx => ?_), HB5.out.setCell (Nat.le_refl _) _⟩
                          exact stA_hit m1 (by rw [HA.out]; exact m2) (by have h1 := HB.out; have h2 := stA_eq (N := cs.size) (adj := adjM co cs) (o := orow cs.size (adjM co cs) c k) (s := (k : Int) + 1) (by omega) A B B; rw [h1, M3.out] at h2; simp at h2; omega) x
                        case measure => simp [intOf]; omega
                      · have m3' : (vB == (k : Int)) = false := by simpa using m3
                        have M3 := Hid.mk m3
                        clear m3
                        go_wp2
                        go_roundw
                        case rel =>
                          refine ⟨B + 1, by omega, by go_num, row_same HR5.out (fun x hx => ?_), HB5.out⟩
                          exact stA_miss (Or.inr (Or.inr (by intro h0; have h1 := HB.out; have h2 := stA_eq (N := cs.size) (adj := adjM co cs) (o := orow cs.size (adjM co cs) c k) (s := (k : Int) + 1) (by omega) A B B; rw [h1, h0] at h2; simp at h2; exact M3.out (by omega)))) x
                        case measure => simp [intOf]; omega
                    · have m2' : decide (vA < 0) = false := by simpa using m2
                      have M2 : Hid (0 ≤ vA) := by show 0 ≤ vA; omega
                      clear m2
                      go_wp2
                      go_roundw
                      case rel =>
                        refine ⟨B + 1, by omega, by go_num, row_same HR5.out (fun x hx => ?_), HB5.out⟩
                        exact stA_miss (Or.inr (Or.inl (by rw [HA.out]; exact M2.out))) x
                      case measure => simp [intOf]; omega
                  · have m1' : mayM co cs (B : Int) (A : Int) = false := by simpa using m1
                    go_wp2
                    go_roundw
                    case rel =>
                      refine ⟨B + 1, by omega, by go_num, row_same HR5.out (fun x hx => ?_), HB5.out⟩
                      exact stA_miss (Or.inl m1') x
                    case measure => simp [intOf]; omega
                · have hdB : B = cs.size := by omega
                  have HRI := Hid.mk hri
                  have HBI := Hid.mk hbi
                  clear hri hbi
                  go_wp2
                  go_roundw
                  case rel =>
                    refine ⟨A + 1, by omega, by go_num, row_same HRI.out (fun x hx => ?_), HBM.out.trans HBI.out⟩
                    rw [hdB]; exact stA_next hlow.out A x hx
                  case measure => simp [intOf]; omega
            · have hdA : A = cs.size := by omega
              have HBM := Hid.mk hbm
              clear hbm
              go_wp2
              go_roundw
              case rel =>
                refine ⟨k + 1, by omega, by go_num, row_same HMM.out (fun x hx => ?_), HBR.out.trans HBM.out⟩
                rw [hdA]; exact stA_last x hx
              case measure => simp [intOf]; omega
        · have hd : k = cs.size - 1 := by omega
          go_wp2
          go_ret2
          subst hd
          exact ⟨g, rfl, by omega, HW.out, hB4.out.trans (hbr.mono (by omega))⟩

end Go.Proofs.YtnkgpinadgacgaaDoor
