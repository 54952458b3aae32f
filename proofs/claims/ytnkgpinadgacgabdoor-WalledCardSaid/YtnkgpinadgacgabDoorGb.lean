/- Plain facts: a search that looks at what may come to least first, and looks again at what is come to at less: what it comes to first costs the least. No program is named here. -/
namespace Go.Proofs.YtnkgpinadgacgabDoor.BM
section
variable {α : Type} {E : α → α → Nat → Prop} {goal : α → Prop} {h : α → Nat} {s0 : α}
/-- A way of so many steps, and what it costs. -/
def Way (E : α → α → Nat → Prop) : Nat → α → α → Nat → Prop
  | 0, a, b, k => a = b ∧ k = 0
  | m + 1, a, b, k => ∃ c k1 d, Way E m a c k1 ∧ E c b d ∧ k = k1 + d

/-- What is known in the search's course: seen tells at what cost a state was come to, nx from where, op what is still to be looked at; hx: what is being looked at. -/
structure Best (E : α → α → Nat → Prop) (goal : α → Prop) (s0 : α) (seen : α → Option Nat) (nx : α → α) (op hx : α → Nat → Prop) : Prop where
  start : seen s0 = some 0
  way : ∀ s g, seen s = some g → ∃ m, Way E m s0 s g
  spread : ∀ s g, seen s = some g → op s g ∨ hx s g ∨ (¬ goal s ∧ ∀ b d, E s b d → ∃ g', seen b = some g' ∧ g' ≤ g + d)
  lead : ∀ s g, op s g → ∃ g0, seen s = some g0 ∧ g0 ≤ g
  back : ∀ s g, seen s = some g → g = 0 ∨ ∃ g0 d, seen (nx s) = some g0 ∧ E (nx s) s d ∧ 0 < d ∧ g0 + d ≤ g
  zero : ∀ s, seen s = some 0 → s = s0

/-- Ahead of the end of each way something is to be looked at that may come to no more. -/
theorem best_front {seen : α → Option Nat} {nx : α → α} {op : α → Nat → Prop} (B : Best E goal s0 seen nx op (fun _ _ => False)) (hc : ∀ a b d, E a b d → h a ≤ h b + d) (hg : ∀ b, goal b → h b = 0) {m : Nat} {b : α} {K : Nat} (W : Way E m s0 b K) (hb : goal b) : ∃ s g, op s g ∧ g + h s ≤ K := by
  have key : ∀ m a k, Way E m s0 a k → (∃ g, seen a = some g ∧ g ≤ k) ∨ ∃ s g, op s g ∧ g + h s ≤ k + h a := by
    intro m
    induction m with
    | zero =>
      rintro a k ⟨rfl, rfl⟩
      exact .inl ⟨0, B.start, Nat.le_refl _⟩
    | succ m ih =>
      rintro a k ⟨c, k1, d, hw, he, rfl⟩
      have h1 := hc c a d he
      rcases ih c k1 hw with ⟨g, hs, hgk⟩ | ⟨s, g, ho, hk⟩
      · rcases B.spread c g hs with ho | hf | ⟨_, hall⟩
        · exact .inr ⟨c, g, ho, by omega⟩
        · exact hf.elim
        · obtain ⟨g', h2, h3⟩ := hall a d he
          exact .inl ⟨g', h2, by omega⟩
      · exact .inr ⟨s, g, ho, by omega⟩
  rcases key m b K W with ⟨g, hs, hgk⟩ | ⟨s, g, ho, hk⟩
  · rcases B.spread b g hs with ho | hf | ⟨hn, _⟩
    · exact ⟨b, g, ho, by rw [hg b hb]; omega⟩
    · exact hf.elim
    · exact absurd hb hn
  · exact ⟨s, g, ho, by rw [hg b hb] at hk; omega⟩

/-- On each way to a state: it was come to at no more, or something is to be looked at that may come to no more. -/
theorem best_key {seen : α → Option Nat} {nx : α → α} {op : α → Nat → Prop} (B : Best E goal s0 seen nx op (fun _ _ => False)) (hc : ∀ a b d, E a b d → h a ≤ h b + d) : ∀ m a k, Way E m s0 a k → (∃ g, seen a = some g ∧ g ≤ k) ∨ ∃ s g, op s g ∧ g + h s ≤ k + h a := by
  intro m
  induction m with
  | zero =>
    rintro a k ⟨rfl, rfl⟩
    exact .inl ⟨0, B.start, Nat.le_refl _⟩
  | succ m ih =>
    rintro a k ⟨c, k1, d, hw, he, rfl⟩
    have h1 := hc c a d he
    rcases ih c k1 hw with ⟨g, hs, hgk⟩ | ⟨s, g, ho, hk⟩
    · rcases B.spread c g hs with ho | hf | ⟨_, hall⟩
      · exact .inr ⟨c, g, ho, by omega⟩
      · exact hf.elim
      · obtain ⟨g', h2, h3⟩ := hall a d he
        exact .inl ⟨g', h2, by omega⟩
    · exact .inr ⟨s, g, ho, by omega⟩

/-- What is looked at first was come to at the least cost. -/
theorem best_least {seen : α → Option Nat} {nx : α → α} {op : α → Nat → Prop} (B : Best E goal s0 seen nx op (fun _ _ => False)) (hc : ∀ a b d, E a b d → h a ≤ h b + d) {s : α} {g : Nat} (hs : seen s = some g) (hmin : ∀ s' g', op s' g' → g + h s ≤ g' + h s') : ∀ m K, Way E m s0 s K → g ≤ K := by
  intro m K W
  rcases best_key B hc m s K W with ⟨g', h1, h2⟩ | ⟨s', g', h1, h2⟩
  · rw [hs] at h1
    cases h1
    exact h2
  · have := hmin s' g' h1
    omega

/-- What is looked at first and is at the goal costs no more than any way there. -/
theorem best_first {seen : α → Option Nat} {nx : α → α} {op : α → Nat → Prop} (B : Best E goal s0 seen nx op (fun _ _ => False)) (hc : ∀ a b d, E a b d → h a ≤ h b + d) (hg : ∀ b, goal b → h b = 0) {s : α} {g : Nat} (ho : op s g) (hmin : ∀ s' g', op s' g' → g + h s ≤ g' + h s') :
    ∃ g0, seen s = some g0 ∧ (∃ m, Way E m s0 s g0) ∧ ∀ m b K, Way E m s0 b K → goal b → g0 ≤ K := by
  obtain ⟨g0, h0, hle⟩ := B.lead s g ho
  refine ⟨g0, h0, B.way s g0 h0, fun m b K W hb => ?_⟩
  obtain ⟨s', g', ho', hk⟩ := best_front B hc hg W hb
  have := hmin s' g' ho'
  omega

/-- What is to be looked at and was come to at less since is passed over. -/
theorem best_stale {seen : α → Option Nat} {nx : α → α} {op op' : α → Nat → Prop} (B : Best E goal s0 seen nx op (fun _ _ => False)) {s1 : α} {g1 : Nat} (hop : ∀ s g, op s g → op' s g ∨ (s = s1 ∧ g = g1)) (hop2 : ∀ s g, op' s g → op s g) (hst : seen s1 ≠ some g1) : Best E goal s0 seen nx op' (fun _ _ => False) := by
  refine ⟨B.start, B.way, fun s g hs => ?_, fun s g ho => B.lead s g (hop2 s g ho), B.back, B.zero⟩
  rcases B.spread s g hs with ho | hf | hcl
  · rcases hop s g ho with h1 | ⟨rfl, rfl⟩
    · exact .inl h1
    · exact absurd hs hst
  · exact hf.elim
  · exact .inr (.inr hcl)

/-- It is taken out to be looked at. -/
theorem best_pop {seen : α → Option Nat} {nx : α → α} {op op' : α → Nat → Prop} (B : Best E goal s0 seen nx op (fun _ _ => False)) {s1 : α} {g1 : Nat} (hop : ∀ s g, op s g → op' s g ∨ (s = s1 ∧ g = g1)) (hop2 : ∀ s g, op' s g → op s g) : Best E goal s0 seen nx op' (fun s g => s = s1 ∧ g = g1) := by
  refine ⟨B.start, B.way, fun s g hs => ?_, fun s g ho => B.lead s g (hop2 s g ho), B.back, B.zero⟩
  rcases B.spread s g hs with ho | hf | hcl
  · rcases hop s g ho with h1 | h1
    · exact .inl h1
    · exact .inr (.inl h1)
  · exact hf.elim
  · exact .inr (.inr hcl)

/-- All its steps were seen. -/
theorem best_done {seen : α → Option Nat} {nx : α → α} {op : α → Nat → Prop} {s1 : α} {g1 : Nat} (B : Best E goal s0 seen nx op (fun s g => s = s1 ∧ g = g1)) (hn : ¬ goal s1) (hall : ∀ b d, E s1 b d → ∃ g', seen b = some g' ∧ g' ≤ g1 + d) : Best E goal s0 seen nx op (fun _ _ => False) := by
  refine ⟨B.start, B.way, fun s g hs => ?_, B.lead, B.back, B.zero⟩
  rcases B.spread s g hs with ho | ⟨rfl, rfl⟩ | hcl
  · exact .inl ho
  · exact .inr (.inr ⟨hn, hall⟩)
  · exact .inr (.inr hcl)

/-- A step is seen at less than was known, or for the first time. -/
theorem best_see {seen seen' : α → Option Nat} {nx nx' : α → α} {op op' : α → Nat → Prop} {s1 b : α} {g1 d : Nat} (B : Best E goal s0 seen nx op (fun s g => s = s1 ∧ g = g1)) (h1 : seen s1 = some g1) (he : E s1 b d) (hd : 0 < d) (hless : ∀ k, seen b = some k → g1 + d < k)
    (hb : seen' b = some (g1 + d)) (ho : ∀ s, s ≠ b → seen' s = seen s) (nb : nx' b = s1) (no : ∀ s, s ≠ b → nx' s = nx s) (hop : ∀ s g, op' s g ↔ op s g ∨ (s = b ∧ g = g1 + d)) : Best E goal s0 seen' nx' op' (fun s g => s = s1 ∧ g = g1) := by
  have hb0 : s0 ≠ b := fun e => by
    have := hless 0 (e ▸ B.start)
    omega
  have hb1 : s1 ≠ b := fun e => by
    have := hless g1 (e ▸ h1)
    omega
  have low : ∀ s g, seen s = some g → ∃ g', seen' s = some g' ∧ g' ≤ g := fun s g hs => by
    by_cases e : s = b
    · subst e
      exact ⟨_, hb, Nat.le_of_lt (hless g hs)⟩
    · exact ⟨g, by rw [ho s e]; exact hs, Nat.le_refl _⟩
  refine ⟨by rw [ho s0 hb0]; exact B.start, fun s g hs => ?_, fun s g hs => ?_, fun s g hs => ?_, fun s g hs => ?_, fun s hs => ?_⟩
  · by_cases e : s = b
    · subst e
      rw [hb] at hs
      cases hs
      obtain ⟨m, hm⟩ := B.way s1 g1 h1
      exact ⟨m + 1, s1, g1, d, hm, he, rfl⟩
    · rw [ho s e] at hs
      exact B.way s g hs
  · by_cases e : s = b
    · subst e
      rw [hb] at hs
      cases hs
      exact .inl ((hop s _).2 (.inr ⟨rfl, rfl⟩))
    · rw [ho s e] at hs
      rcases B.spread s g hs with h2 | h2 | ⟨hn, hall⟩
      · exact .inl ((hop s g).2 (.inl h2))
      · exact .inr (.inl h2)
      · refine .inr (.inr ⟨hn, fun c dd hE => ?_⟩)
        obtain ⟨g', h3, h4⟩ := hall c dd hE
        obtain ⟨g2, h5, h6⟩ := low c g' h3
        exact ⟨g2, h5, by omega⟩
  · rcases (hop s g).1 hs with h2 | ⟨rfl, rfl⟩
    · obtain ⟨g0, h3, h4⟩ := B.lead s g h2
      obtain ⟨g2, h5, h6⟩ := low s g0 h3
      exact ⟨g2, h5, by omega⟩
    · exact ⟨_, hb, Nat.le_refl _⟩
  · by_cases e : s = b
    · subst e
      rw [hb] at hs
      cases hs
      refine .inr ⟨g1, d, ?_, ?_, hd, Nat.le_refl _⟩
      · rw [nb, ho s1 hb1]; exact h1
      · rw [nb]; exact he
    · rw [ho s e] at hs
      rcases B.back s g hs with h2 | ⟨g0, dd, h2, h3, h4, h5⟩
      · exact .inl h2
      · obtain ⟨g2, h6, h7⟩ := low (nx s) g0 h2
        exact .inr ⟨g2, dd, by rw [no s e]; exact h6, by rw [no s e]; exact h3, h4, by omega⟩
  · by_cases e : s = b
    · subst e
      rw [hb] at hs
      have : g1 + d = 0 := Option.some.inj hs
      omega
    · rw [ho s e] at hs
      exact B.zero s hs

end
end Go.Proofs.YtnkgpinadgacgabDoor.BM
