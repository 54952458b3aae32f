/- Several texts in one: Gb, Da. -/
import Derived.Test.YtnkgpinadgacgabDoorMje
namespace Go.Proofs.YtnkgpinadgacgabDoor.BM
section
variable {α : Type} {E : α → α → Nat → Prop} {goal : α → Prop} {h : α → Nat} {s0 : α}
/-- A way of so many steps, and what it costs. -/
def Way (E : α → α → Nat → Prop) : Nat → α → α → Nat → Prop
  | 0, a, b, k => a = b ∧ k = 0
  | m + 1, a, b, k => ∃ c k1 d, Way E m a c k1 ∧ E c b d ∧ k = k1 + d

/-- What is known in the search's course: seen tells at what cost a state was come to, nx from where, op what is still to be looked at; hx: what is being looked at. -/
structure Best (E : α → α → Nat → Prop) (goal : α → Prop) (s0 : α) (seen : α → Option Nat) (nx : α → α) (op hx : α → Nat → Prop) : Prop where
  start : seen s0 = some 0
  way : ∀ s g, seen s = some g → ∃ m, Way E m s0 s g
  spread : ∀ s g, seen s = some g → op s g ∨ hx s g ∨ (¬ goal s ∧ ∀ b d, E s b d → ∃ g', seen b = some g' ∧ g' ≤ g + d)
  lead : ∀ s g, op s g → ∃ g0, seen s = some g0 ∧ g0 ≤ g
  back : ∀ s g, seen s = some g → g = 0 ∨ ∃ g0 d, seen (nx s) = some g0 ∧ E (nx s) s d ∧ 0 < d ∧ g0 + d ≤ g
  zero : ∀ s, seen s = some 0 → s = s0

/-- Ahead of the end of each way something is to be looked at that may come to no more. -/
theorem best_front {seen : α → Option Nat} {nx : α → α} {op : α → Nat → Prop} (B : Best E goal s0 seen nx op (fun _ _ => False)) (hc : ∀ a b d, E a b d → h a ≤ h b + d) (hg : ∀ b, goal b → h b = 0) {m : Nat} {b : α} {K : Nat} (W : Way E m s0 b K) (hb : goal b) : ∃ s g, op s g ∧ g + h s ≤ K := by
  have key : ∀ m a k, Way E m s0 a k → (∃ g, seen a = some g ∧ g ≤ k) ∨ ∃ s g, op s g ∧ g + h s ≤ k + h a := by
    intro m
    induction m with
    | zero =>
      rintro a k ⟨rfl, rfl⟩
      exact .inl ⟨0, B.start, Nat.le_refl _⟩
    | succ m ih =>
      rintro a k ⟨c, k1, d, hw, he, rfl⟩
      have h1 := hc c a d he
      rcases ih c k1 hw with ⟨g, hs, hgk⟩ | ⟨s, g, ho, hk⟩
      · rcases B.spread c g hs with ho | hf | ⟨_, hall⟩
        · exact .inr ⟨c, g, ho, by omega⟩
        · exact hf.elim
        · obtain ⟨g', h2, h3⟩ := hall a d he
          exact .inl ⟨g', h2, by omega⟩
      · exact .inr ⟨s, g, ho, by omega⟩
  rcases key m b K W with ⟨g, hs, hgk⟩ | ⟨s, g, ho, hk⟩
  · rcases B.spread b g hs with ho | hf | ⟨hn, _⟩
    · exact ⟨b, g, ho, by rw [hg b hb]; omega⟩
    · exact hf.elim
    · exact absurd hb hn
  · exact ⟨s, g, ho, by rw [hg b hb] at hk; omega⟩

/-- On each way to a state: it was come to at no more, or something is to be looked at that may come to no more. -/
theorem best_key {seen : α → Option Nat} {nx : α → α} {op : α → Nat → Prop} (B : Best E goal s0 seen nx op (fun _ _ => False)) (hc : ∀ a b d, E a b d → h a ≤ h b + d) : ∀ m a k, Way E m s0 a k → (∃ g, seen a = some g ∧ g ≤ k) ∨ ∃ s g, op s g ∧ g + h s ≤ k + h a := by
  intro m
  induction m with
  | zero =>
    rintro a k ⟨rfl, rfl⟩
    exact .inl ⟨0, B.start, Nat.le_refl _⟩
  | succ m ih =>
    rintro a k ⟨c, k1, d, hw, he, rfl⟩
    have h1 := hc c a d he
    rcases ih c k1 hw with ⟨g, hs, hgk⟩ | ⟨s, g, ho, hk⟩
    · rcases B.spread c g hs with ho | hf | ⟨_, hall⟩
      · exact .inr ⟨c, g, ho, by omega⟩
      · exact hf.elim
      · obtain ⟨g', h2, h3⟩ := hall a d he
        exact .inl ⟨g', h2, by omega⟩
    · exact .inr ⟨s, g, ho, by omega⟩

/-- What is looked at first was come to at the least cost. -/
theorem best_least {seen : α → Option Nat} {nx : α → α} {op : α → Nat → Prop} (B : Best E goal s0 seen nx op (fun _ _ => False)) (hc : ∀ a b d, E a b d → h a ≤ h b + d) {s : α} {g : Nat} (hs : seen s = some g) (hmin : ∀ s' g', op s' g' → g + h s ≤ g' + h s') : ∀ m K, Way E m s0 s K → g ≤ K := by
  intro m K W
  rcases best_key B hc m s K W with ⟨g', h1, h2⟩ | ⟨s', g', h1, h2⟩
  · rw [hs] at h1
    cases h1
    exact h2
  · have := hmin s' g' h1
    omega

/-- What is looked at first and is at the goal costs no more than any way there. -/
theorem best_first {seen : α → Option Nat} {nx : α → α} {op : α → Nat → Prop} (B : Best E goal s0 seen nx op (fun _ _ => False)) (hc : ∀ a b d, E a b d → h a ≤ h b + d) (hg : ∀ b, goal b → h b = 0) {s : α} {g : Nat} (ho : op s g) (hmin : ∀ s' g', op s' g' → g + h s ≤ g' + h s') :
    ∃ g0, seen s = some g0 ∧ (∃ m, Way E m s0 s g0) ∧ ∀ m b K, Way E m s0 b K → goal b → g0 ≤ K := by
  obtain ⟨g0, h0, hle⟩ := B.lead s g ho
  refine ⟨g0, h0, B.way s g0 h0, fun m b K W hb => ?_⟩
  obtain ⟨s', g', ho', hk⟩ := best_front B hc hg W hb
  have := hmin s' g' ho'
  omega

/-- What is to be looked at and was come to at less since is passed over. -/
theorem best_stale {seen : α → Option Nat} {nx : α → α} {op op' : α → Nat → Prop} (B : Best E goal s0 seen nx op (fun _ _ => False)) {s1 : α} {g1 : Nat} (hop : ∀ s g, op s g → op' s g ∨ (s = s1 ∧ g = g1)) (hop2 : ∀ s g, op' s g → op s g) (hst : seen s1 ≠ some g1) : Best E goal s0 seen nx op' (fun _ _ => False) := by
  refine ⟨B.start, B.way, fun s g hs => ?_, fun s g ho => B.lead s g (hop2 s g ho), B.back, B.zero⟩
  rcases B.spread s g hs with ho | hf | hcl
  · rcases hop s g ho with h1 | ⟨rfl, rfl⟩
    · exact .inl h1
    · exact absurd hs hst
  · exact hf.elim
  · exact .inr (.inr hcl)

/-- It is taken out to be looked at. -/
theorem best_pop {seen : α → Option Nat} {nx : α → α} {op op' : α → Nat → Prop} (B : Best E goal s0 seen nx op (fun _ _ => False)) {s1 : α} {g1 : Nat} (hop : ∀ s g, op s g → op' s g ∨ (s = s1 ∧ g = g1)) (hop2 : ∀ s g, op' s g → op s g) : Best E goal s0 seen nx op' (fun s g => s = s1 ∧ g = g1) := by
  refine ⟨B.start, B.way, fun s g hs => ?_, fun s g ho => B.lead s g (hop2 s g ho), B.back, B.zero⟩
  rcases B.spread s g hs with ho | hf | hcl
  · rcases hop s g ho with h1 | h1
    · exact .inl h1
    · exact .inr (.inl h1)
  · exact hf.elim
  · exact .inr (.inr hcl)

/-- All its steps were seen. -/
theorem best_done {seen : α → Option Nat} {nx : α → α} {op : α → Nat → Prop} {s1 : α} {g1 : Nat} (B : Best E goal s0 seen nx op (fun s g => s = s1 ∧ g = g1)) (hn : ¬ goal s1) (hall : ∀ b d, E s1 b d → ∃ g', seen b = some g' ∧ g' ≤ g1 + d) : Best E goal s0 seen nx op (fun _ _ => False) := by
  refine ⟨B.start, B.way, fun s g hs => ?_, B.lead, B.back, B.zero⟩
  rcases B.spread s g hs with ho | ⟨rfl, rfl⟩ | hcl
  · exact .inl ho
  · exact .inr (.inr ⟨hn, hall⟩)
  · exact .inr (.inr hcl)

/-- A step is seen at less than was known, or for the first time. -/
theorem best_see {seen seen' : α → Option Nat} {nx nx' : α → α} {op op' : α → Nat → Prop} {s1 b : α} {g1 d : Nat} (B : Best E goal s0 seen nx op (fun s g => s = s1 ∧ g = g1)) (h1 : seen s1 = some g1) (he : E s1 b d) (hd : 0 < d) (hless : ∀ k, seen b = some k → g1 + d < k)
    (hb : seen' b = some (g1 + d)) (ho : ∀ s, s ≠ b → seen' s = seen s) (nb : nx' b = s1) (no : ∀ s, s ≠ b → nx' s = nx s) (hop : ∀ s g, op' s g ↔ op s g ∨ (s = b ∧ g = g1 + d)) : Best E goal s0 seen' nx' op' (fun s g => s = s1 ∧ g = g1) := by
  have hb0 : s0 ≠ b := fun e => by
    have := hless 0 (e ▸ B.start)
    omega
  have hb1 : s1 ≠ b := fun e => by
    have := hless g1 (e ▸ h1)
    omega
  have low : ∀ s g, seen s = some g → ∃ g', seen' s = some g' ∧ g' ≤ g := fun s g hs => by
    by_cases e : s = b
    · subst e
      exact ⟨_, hb, Nat.le_of_lt (hless g hs)⟩
    · exact ⟨g, by rw [ho s e]; exact hs, Nat.le_refl _⟩
  refine ⟨by rw [ho s0 hb0]; exact B.start, fun s g hs => ?_, fun s g hs => ?_, fun s g hs => ?_, fun s g hs => ?_, fun s hs => ?_⟩
  · by_cases e : s = b
    · subst e
      rw [hb] at hs
      cases hs
      obtain ⟨m, hm⟩ := B.way s1 g1 h1
      exact ⟨m + 1, s1, g1, d, hm, he, rfl⟩
    · rw [ho s e] at hs
      exact B.way s g hs
  · by_cases e : s = b
    · subst e
      rw [hb] at hs
      cases hs
      exact .inl ((hop s _).2 (.inr ⟨rfl, rfl⟩))
    · rw [ho s e] at hs
      rcases B.spread s g hs with h2 | h2 | ⟨hn, hall⟩
      · exact .inl ((hop s g).2 (.inl h2))
      · exact .inr (.inl h2)
      · refine .inr (.inr ⟨hn, fun c dd hE => ?_⟩)
        obtain ⟨g', h3, h4⟩ := hall c dd hE
        obtain ⟨g2, h5, h6⟩ := low c g' h3
        exact ⟨g2, h5, by omega⟩
  · rcases (hop s g).1 hs with h2 | ⟨rfl, rfl⟩
    · obtain ⟨g0, h3, h4⟩ := B.lead s g h2
      obtain ⟨g2, h5, h6⟩ := low s g0 h3
      exact ⟨g2, h5, by omega⟩
    · exact ⟨_, hb, Nat.le_refl _⟩
  · by_cases e : s = b
    · subst e
      rw [hb] at hs
      cases hs
      refine .inr ⟨g1, d, ?_, ?_, hd, Nat.le_refl _⟩
      · rw [nb, ho s1 hb1]; exact h1
      · rw [nb]; exact he
    · rw [ho s e] at hs
      rcases B.back s g hs with h2 | ⟨g0, dd, h2, h3, h4, h5⟩
      · exact .inl h2
      · obtain ⟨g2, h6, h7⟩ := low (nx s) g0 h2
        exact .inr ⟨g2, dd, by rw [no s e]; exact h6, by rw [no s e]; exact h3, h4, by omega⟩
  · by_cases e : s = b
    · subst e
      rw [hb] at hs
      have : g1 + d = 0 := Option.some.inj hs
      omega
    · rw [ho s e] at hs
      exact B.zero s hs

end
end Go.Proofs.YtnkgpinadgacgabDoor.BM

namespace Go.Proofs.YtnkgpinadgacgabDoor.M
/-- Does cart i meet or swap with cart j? -/
def clashB (p q : List Nat) (i j : Nat) : Bool := (q.getD i 0 == q.getD j 0) || (q.getD i 0 == p.getD j 0 && q.getD j 0 == p.getD i 0)

/-- Does cart i neither meet nor swap with one ahead of it? -/
def fitB (p q : List Nat) (i : Nat) : Bool := !anyB (fun k => clashB p q i k) i

/-- The positions, cart by cart, to which one may go. -/
def growL (step : Nat → List Nat) (p : List Nat) : Nat → List (List Nat)
  | 0 => [[]]
  | i + 1 => (growL step p i).flatMap fun q => ((step (p.getD i 0)).filter fun c => fitB p (q ++ [c]) i).map fun c => q ++ [c]

theorem getD_app_old {q r : List Nat} {k : Nat} (h : k < q.length) : (q ++ r).getD k 0 = q.getD k 0 := by
  simp only [List.getD_eq_getElem?_getD]
  rw [List.getElem?_append_left h]

theorem getD_app_new {q : List Nat} {c : Nat} : (q ++ [c]).getD q.length 0 = c := by
  simp only [List.getD_eq_getElem?_getD]
  simp

theorem fitB_app {p q r : List Nat} {k : Nat} (h : k < q.length) : fitB p (q ++ r) k = fitB p q k := by
  unfold fitB
  congr 1
  have e : ∀ j, j < k → clashB p (q ++ r) k j = clashB p q k j := fun j hj => by
    unfold clashB
    rw [getD_app_old h, getD_app_old (show j < q.length by omega)]
  rw [Bool.eq_iff_iff, anyB_iff, anyB_iff]
  constructor
  · rintro ⟨j, hj, hc⟩; exact ⟨j, hj, by rw [← e j hj]; exact hc⟩
  · rintro ⟨j, hj, hc⟩; exact ⟨j, hj, by rw [e j hj]; exact hc⟩

theorem growL_mem {step : Nat → List Nat} {p : List Nat} : ∀ {i : Nat} {q : List Nat}, q ∈ growL step p i ↔ q.length = i ∧ ∀ k, k < i → q.getD k 0 ∈ step (p.getD k 0) ∧ fitB p q k = true
  | 0, q => by
    simp only [growL, List.mem_singleton]
    constructor
    · intro h; subst h; exact ⟨rfl, fun k hk => absurd hk (Nat.not_lt_zero k)⟩
    · intro h; exact List.eq_nil_of_length_eq_zero h.1
  | i + 1, q => by
    simp only [growL, List.mem_flatMap, List.mem_map, List.mem_filter]
    constructor
    · rintro ⟨q0, h0, c, ⟨hc, hf⟩, rfl⟩
      obtain ⟨hl, hk⟩ := growL_mem.1 h0
      refine ⟨by simp [hl], fun k hki => ?_⟩
      by_cases e : k = i
      · subst e
        rw [← hl, getD_app_new, hl]
        exact ⟨hc, hf⟩
      · have h1 : k < q0.length := by omega
        rw [getD_app_old h1, fitB_app h1]
        exact hk k (by omega)
    · rintro ⟨hl, hk⟩
      have hne : q ≠ [] := fun e => by rw [e] at hl; simp at hl
      refine ⟨q.dropLast, growL_mem.2 ⟨by rw [List.length_dropLast]; omega, fun k hki => ?_⟩, q.getLast hne, ⟨?_, ?_⟩, List.dropLast_concat_getLast hne⟩
      · have h1 : k < q.dropLast.length := by rw [List.length_dropLast]; omega
        have h2 := hk k (by omega)
        rw [← List.dropLast_concat_getLast hne, getD_app_old h1, fitB_app h1] at h2
        exact h2
      · have h2 := (hk i (by omega)).1
        rw [← List.dropLast_concat_getLast hne] at h2
        have e : i = q.dropLast.length := by rw [List.length_dropLast]; omega
        rw [e, getD_app_new, ← e] at h2
        exact h2
      · rw [List.dropLast_concat_getLast hne]
        exact (hk i (by omega)).2

theorem growL_len {step : Nat → List Nat} {p : List Nat} {B : Nat} (h : ∀ c, (step c).length ≤ B) : ∀ i, (growL step p i).length ≤ B ^ i
  | 0 => by simp [growL]
  | i + 1 => by
    have ih := growL_len (p := p) h i
    simp only [growL, List.length_flatMap]
    have : ∀ L : List (List Nat), ((L.map fun q => (((step (p.getD i 0)).filter fun c => fitB p (q ++ [c]) i).map fun c => q ++ [c]).length).sum) ≤ L.length * B := by
      intro L
      induction L with
      | nil => simp
      | cons q L ihL =>
        simp only [List.map_cons, List.sum_cons, List.length_cons, List.length_map] at ihL ⊢
        have h1 := List.length_filter_le (fun c => fitB p (q ++ [c]) i) (step (p.getD i 0))
        have h2 := h (p.getD i 0)
        rw [Nat.succ_mul]
        omega
    have h3 := this (growL step p i)
    have h4 : (growL step p i).length * B ≤ B ^ i * B := Nat.mul_le_mul ih (Nat.le_refl _)
    rw [Nat.pow_succ]
    omega

/-- What one comes to in n steps. -/
def reachN (S : List Nat → List Nat → Prop) (s : List Nat) : Nat → List Nat → Prop
  | 0, q => q = s
  | n + 1, q => ∃ p, reachN S s n p ∧ S p q

def Come (S : List Nat → List Nat → Prop) (s q : List Nat) : Prop := ∃ n, reachN S s n q

theorem Come.start {S : List Nat → List Nat → Prop} {s : List Nat} : Come S s s := ⟨0, rfl⟩

theorem Come.next {S : List Nat → List Nat → Prop} {s p q : List Nat} (h : Come S s p) (h2 : S p q) : Come S s q := by
  obtain ⟨n, hn⟩ := h
  exact ⟨n + 1, p, hn, h2⟩

/-- A list of what was come to: nothing twice; what comes behind its first i ones is in it. -/
structure Work (S : List Nat → List Nat → Prop) (s : List Nat) (L : List (List Nat)) (i : Nat) : Prop where
  nodup : L.Nodup
  come : ∀ q, q ∈ L → Come S s q
  start : s ∈ L
  le : i ≤ L.length
  done : ∀ j, (h : j < i) → ∀ q, S (L[j]'(by omega)) q → q ∈ L

theorem Work.one {S : List Nat → List Nat → Prop} {s : List Nat} : Work S s [s] 0 :=
  ⟨by simp, fun q hq => by simp at hq; subst hq; exact Come.start, by simp, Nat.zero_le _, fun j hj => absurd hj (Nat.not_lt_zero j)⟩

/-- One more is found. -/
theorem Work.add {S : List Nat → List Nat → Prop} {s : List Nat} {L : List (List Nat)} {i : Nat} (h : Work S s L i) (hi : i < L.length) {q : List Nat} (hq : S L[i] q) (hn : q ∉ L) : Work S s (L ++ [q]) i := by
  refine ⟨?_, fun x hx => ?_, List.mem_append_left _ h.start, by rw [List.length_append]; have := h.le; omega, fun j hj x hx => ?_⟩
  · rw [List.nodup_append]
    refine ⟨h.nodup, by simp, fun a ha b hb e => ?_⟩
    simp at hb
    subst hb
    subst e
    exact hn ha
  · rcases List.mem_append.1 hx with hx | hx
    · exact h.come x hx
    · simp at hx
      subst hx
      exact (h.come _ (List.getElem_mem hi)).next hq
  · have hj2 : j < L.length := by have := h.le; omega
    rw [List.getElem_append_left hj2] at hx
    exact List.mem_append_left _ (h.done j hj x hx)

/-- All that comes behind one is in it. -/
theorem Work.next {S : List Nat → List Nat → Prop} {s : List Nat} {L : List (List Nat)} {i : Nat} (h : Work S s L i) (hi : i < L.length) (hall : ∀ q, S L[i] q → q ∈ L) : Work S s L (i + 1) :=
  ⟨h.nodup, h.come, h.start, hi, fun j hj q hq => by
    by_cases e : j = i
    · subst e; exact hall q hq
    · exact h.done j (by omega) q hq⟩

/-- At its end all is in it. -/
theorem Work.all {S : List Nat → List Nat → Prop} {s : List Nat} {L : List (List Nat)} {i : Nat} (h : Work S s L i) (hi : i = L.length) : ∀ q, Come S s q → q ∈ L := by
  have go : ∀ n q, reachN S s n q → q ∈ L := by
    intro n
    induction n with
    | zero => intro q hq; rw [show q = s from hq]; exact h.start
    | succ n ih =>
      rintro q ⟨p, hp, hs⟩
      obtain ⟨j, hj, rfl⟩ := List.mem_iff_getElem.1 (ih p hp)
      exact h.done j (by omega) q hs
  rintro q ⟨n, hn⟩
  exact go n q hn

theorem nodup_len : ∀ {L L' : List (List Nat)}, L.Nodup → (∀ q, q ∈ L → q ∈ L') → L.length ≤ L'.length
  | [], _, _, _ => by simp
  | x :: L, L', hn, hs => by
    have hx : x ∈ L' := hs x (by simp)
    have hn2 := List.nodup_cons.1 hn
    have h := nodup_len (L' := L'.erase x) hn2.2 (fun q hq => by
      have hne : q ≠ x := fun e => hn2.1 (by rw [← e]; exact hq)
      exact (List.mem_erase_of_ne hne).2 (hs q (by simp [hq])))
    have h2 := List.length_erase_of_mem hx
    have h3 : 0 < L'.length := List.length_pos_of_mem hx
    simp only [List.length_cons]
    omega

/-- How many there are; or more than the budget. -/
def Told (S : List Nat → List Nat → Prop) (s g : List Nat) (bu : Int) (n : Nat) (b : Bool) : Prop :=
  (∃ L, Work S s L L.length ∧ n = L.length ∧ b = decide (g ∈ L)) ∨ (∃ L i, Work S s L i ∧ n = L.length ∧ bu < n)

theorem Told.all {S : List Nat → List Nat → Prop} {s g : List Nat} {bu : Int} {n n' : Nat} {b b' : Bool} (h : Told S s g bu n b) (h' : Told S s g bu n' b') : (bu < n ↔ bu < n') ∧ (¬ bu < n → n = n' ∧ b = b') := by
  have key : ∀ {L L' : List (List Nat)} {i : Nat}, Work S s L L.length → Work S s L' i → L'.length ≤ L.length := fun {L L' i} h1 h2 => nodup_len h2.nodup fun q hq => h1.all rfl q (h2.come q hq)
  rcases h with ⟨L, hL, hn, hb⟩ | ⟨L, i, hL, hn, hb⟩
  · rcases h' with ⟨L', hL', hn', hb'⟩ | ⟨L', i', hL', hn', hb'⟩
    · have e : n = n' := by have := key hL hL'; have := key hL' hL; omega
      subst e
      refine ⟨Iff.rfl, fun _ => ⟨rfl, ?_⟩⟩
      rw [hb, hb', Bool.eq_iff_iff, decide_eq_true_eq, decide_eq_true_eq]
      exact ⟨fun h => hL'.all rfl _ (hL.come _ h), fun h => hL.all rfl _ (hL'.come _ h)⟩
    · have := key hL hL'
      exact ⟨⟨fun _ => hb', fun _ => by omega⟩, fun hh => absurd (show bu < n by omega) hh⟩
  · rcases h' with ⟨L', hL', hn', hb'⟩ | ⟨L', i', hL', hn', hb'⟩
    · have := key hL' hL
      exact ⟨⟨fun _ => by omega, fun _ => hb⟩, fun hh => absurd hb hh⟩
    · exact ⟨⟨fun _ => hb', fun _ => hb⟩, fun hh => absurd hb hh⟩

end Go.Proofs.YtnkgpinadgacgabDoor.M
