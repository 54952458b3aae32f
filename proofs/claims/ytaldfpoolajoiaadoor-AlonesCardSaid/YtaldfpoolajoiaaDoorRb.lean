/- Plain facts on a search by the least cost that a path can have: what holds while it runs, that it finds the least, that it ends. No program is named here. -/
import Derived.Test.YtaldfpoolajoiaaDoorMbMcMd
namespace Go.Proofs.YtaldfpoolajoiaaDoor.M

/-- What a search is held against: who can be where (rch), who can go (goes), where the cart may come to stay (from S on, at to), how far it is at least (st). -/
structure Trip (N : Nat) (rch : Nat → Nat → Bool) (goes : Nat → Nat → Nat → Bool) (fr to : Nat) (S : Int) (st : Nat → Int) : Prop where
  npos : 0 < N
  toN : to < N
  start : ∀ c, rch 0 c = true → c = fr
  begins : rch 0 fr = true
  step : ∀ t c, rch (t + 1) c = true ↔ ∃ a, a < N ∧ rch t a = true ∧ goes a c t = true
  inN : ∀ t c, rch t c = true → c < N
  zero : st to = 0
  told : ∀ t c, rch t c = true → 0 ≤ st c
  near : ∀ a b t, rch t a = true → goes a b t = true → 0 ≤ st b → 0 ≤ st a ∧ st a ≤ st b + 1
  sbd : S ≤ 61
  down : ∀ t c, rch t c = true → 61 ≤ t → ∀ k : Nat, st c = (k : Int) + 1 → ∃ b, goes c b t = true ∧ st b = k
  src : ∀ t c, rch t c = true → st c = 0 → c = to
  high : ∀ t c, rch t c = true → st c ≤ N - 1

section
variable {N : Nat} {rch : Nat → Nat → Bool} {goes : Nat → Nat → Nat → Bool} {fr to : Nat} {S : Int} {st : Nat → Int}

def Goal (to : Nat) (S : Int) (c t : Nat) : Prop := c = to ∧ S ≤ t

/-- In k steps the cart comes to stay. -/
def Lead (rch : Nat → Nat → Bool) (goes : Nat → Nat → Nat → Bool) (to : Nat) (S : Int) : Nat → Nat → Nat → Prop
  | 0, c, t => Goal to S c t ∧ rch t c = true
  | k + 1, c, t => rch t c = true ∧ ∃ b, goes c b t = true ∧ Lead rch goes to S k b (t + 1)

theorem lead_st (T : Trip N rch goes fr to S st) : ∀ {k c t : Nat}, Lead rch goes to S k c t → 0 ≤ st c ∧ st c ≤ k
  | 0, c, t, h => by rw [h.1.1, T.zero]; simp
  | k + 1, c, t, h => by
    obtain ⟨hc, b, hg, hl⟩ := h
    obtain ⟨g1, g2⟩ := lead_st T hl
    obtain ⟨g3, g4⟩ := T.near c b t hc hg g1
    exact ⟨g3, by rw [Int.natCast_add]; simp; omega⟩

theorem lead_back (T : Trip N rch goes fr to S st) : ∀ {t c k : Nat}, rch t c = true → Lead rch goes to S k c t → Lead rch goes to S (t + k) fr 0
  | 0, c, k, h, hl => by rw [T.start c h] at hl; rw [Nat.zero_add]; exact hl
  | t + 1, c, k, h, hl => by
    obtain ⟨a, ha, hr, hg⟩ := (T.step t c).1 h
    have := lead_back T hr (show Lead rch goes to S (k + 1) a t from ⟨hr, c, hg, hl⟩)
    rw [show t + 1 + k = t + (k + 1) by omega]; exact this

theorem rch_before (T : Trip N rch goes fr to S st) : ∀ {t c s : Nat}, rch t c = true → s ≤ t → ∃ a, rch s a = true
  | 0, c, s, h, hs => ⟨c, by rw [show s = 0 by omega]; exact h⟩
  | t + 1, c, s, h, hs => by
    by_cases e : s = t + 1
    · subst e; exact ⟨c, h⟩
    · obtain ⟨a, _, hr, _⟩ := (T.step t c).1 h
      exact rch_before T hr (by omega)

/-- Behind the last rule each cell leads to To. -/
theorem rch_late (T : Trip N rch goes fr to S st) : ∀ {k t c : Nat}, rch t c = true → 61 ≤ t → st c = k → rch (t + k) to = true
  | 0, t, c, h, _, hk => by rw [Nat.add_zero, ← T.src t c h (by simpa using hk)]; exact h
  | k + 1, t, c, h, ht, hk => by
    obtain ⟨b, hg, hb⟩ := T.down t c h ht k (by rw [hk]; simp)
    have h2 : rch (t + 1) b = true := (T.step t b).2 ⟨c, T.inN t c h, h, hg⟩
    have := rch_late T h2 (by omega) hb
    rw [show t + (k + 1) = t + 1 + k by omega]; exact this

theorem goal_late (T : Trip N rch goes fr to S st) {t c : Nat} (h : rch t c = true) (ht : 61 ≤ t) : ∃ g, g ≤ 60 + N ∧ rch g to = true ∧ S ≤ (g : Int) := by
  obtain ⟨a, ha⟩ := rch_before T h ht
  obtain ⟨k, hk⟩ := Int.eq_ofNat_of_zero_le (T.told 61 a ha)
  have h1 := rch_late T ha (Nat.le_refl _) hk
  have h2 := T.high 61 a ha
  have h3 := T.sbd
  exact ⟨61 + k, by omega, h1, by omega⟩

/-- What holds of what was seen and of what is open. hx: what is just being gone on from. -/
structure Star (N : Nat) (rch : Nat → Nat → Bool) (goes : Nat → Nat → Nat → Bool) (fr to : Nat) (S : Int) (seen : Nat → Nat → Option Nat) (op : Nat → Nat → Prop) (hx : Nat → Nat → Prop) : Prop where
  start : seen fr 0 = some fr
  sub : ∀ c t, op c t → seen c t ≠ none
  rch : ∀ c t, seen c t ≠ none → rch t c = true
  pre0 : ∀ c p, seen c 0 = some p → c = fr ∧ p = fr
  pre : ∀ c t p, seen c (t + 1) = some p → goes p c t = true ∧ seen p t ≠ none ∧ ¬ Goal to S p t
  exp : ∀ c t, seen c t ≠ none → ¬ op c t → ¬ hx c t → ∀ b, goes c b t = true → seen b (t + 1) ≠ none
  ng : ∀ c t, seen c t ≠ none → ¬ op c t → ¬ Goal to S c t
  bd : ∀ c t, seen c t ≠ none → t ≤ 61 + N

theorem star_start (T : Trip N rch goes fr to S st) : Star N rch goes fr to S (fun c t => if c = fr ∧ t = 0 then some fr else none) (fun c t => c = fr ∧ t = 0) (fun _ _ => False) := by
  have key : ∀ c t, (if c = fr ∧ t = 0 then some fr else none) ≠ none → c = fr ∧ t = 0 := by
    intro c t h
    by_cases e : c = fr ∧ t = 0
    · exact e
    · rw [if_neg e] at h; exact absurd rfl h
  refine ⟨by simp, ?_, ?_, ?_, ?_, ?_, ?_, ?_⟩
  · intro c t h; simp [h.1, h.2]
  · intro c t h; obtain ⟨e1, e2⟩ := key c t h; subst e1 e2; exact T.begins
  · intro c p h
    obtain ⟨e1, _⟩ := key c 0 (by rw [h]; simp)
    refine ⟨e1, ?_⟩
    simp [e1] at h; exact h.symm
  · intro c t p h
    obtain ⟨_, e2⟩ := key c (t + 1) (by rw [h]; simp)
    omega
  · intro c t h hn; exact absurd (key c t h) hn
  · intro c t h hn; exact absurd (key c t h) hn
  · intro c t h; obtain ⟨_, e2⟩ := key c t h; omega

/-- One is taken out and is no goal. -/
theorem star_pop {seen : Nat → Nat → Option Nat} {op op' : Nat → Nat → Prop} (h : Star N rch goes fr to S seen op (fun _ _ => False)) {c0 t0 : Nat} (h1 : ∀ c t, op' c t → op c t) (h2 : ∀ c t, op c t → op' c t ∨ (c = c0 ∧ t = t0)) (hg : ¬ Goal to S c0 t0) :
    Star N rch goes fr to S seen op' (fun c t => c = c0 ∧ t = t0) := by
  refine ⟨h.start, fun c t ho => h.sub c t (h1 c t ho), h.rch, h.pre0, h.pre, ?_, ?_, h.bd⟩
  · intro c t hs ho hx b hgo
    refine h.exp c t hs (fun ho' => ?_) (fun hf => hf) b hgo
    rcases h2 c t ho' with e | e
    · exact ho e
    · exact hx e
  · intro c t hs ho
    by_cases e : c = c0 ∧ t = t0
    · rw [e.1, e.2]; exact hg
    · exact h.ng c t hs (fun ho' => by
        rcases h2 c t ho' with e2 | e2
        · exact ho e2
        · exact e e2)

def seenPut (seen : Nat → Nat → Option Nat) (b t p : Nat) : Nat → Nat → Option Nat := fun c s => if c = b ∧ s = t then some p else seen c s

theorem seenPut_some {seen : Nat → Nat → Option Nat} {b t p c s : Nat} (h : seen c s ≠ none) : seenPut seen b t p c s ≠ none := by
  unfold seenPut; split
  · simp
  · exact h

/-- One that was not seen is put in. -/
theorem star_push (T : Trip N rch goes fr to S st) {seen : Nat → Nat → Option Nat} {op op' hx : Nat → Nat → Prop} (h : Star N rch goes fr to S seen op hx) {c0 t0 b : Nat} (hs : seen c0 t0 ≠ none) (hgo : goes c0 b t0 = true) (hng : ¬ Goal to S c0 t0) (ht : t0 ≤ 60 + N)
    (h1 : ∀ c t, op' c t ↔ op c t ∨ (c = b ∧ t = t0 + 1)) : Star N rch goes fr to S (seenPut seen b (t0 + 1) c0) op' hx := by
  have hin : ∀ c t, seenPut seen b (t0 + 1) c0 c t ≠ none → seen c t ≠ none ∨ (c = b ∧ t = t0 + 1) := by
    intro c t hh
    by_cases e : c = b ∧ t = t0 + 1
    · exact Or.inr e
    · unfold seenPut at hh; rw [if_neg e] at hh; exact Or.inl hh
  have hr : rch (t0 + 1) b = true := (T.step t0 b).2 ⟨c0, T.inN _ _ (h.rch c0 t0 hs), h.rch c0 t0 hs, hgo⟩
  refine ⟨?_, ?_, ?_, ?_, ?_, ?_, ?_, ?_⟩
  · unfold seenPut; rw [if_neg (by omega)]; exact h.start
  · intro c t ho
    rcases (h1 c t).1 ho with e | e
    · exact seenPut_some (h.sub c t e)
    · unfold seenPut; rw [if_pos e]; simp
  · intro c t hh
    rcases hin c t hh with e | ⟨e1, e2⟩
    · exact h.rch c t e
    · rw [e1, e2]; exact hr
  · intro c p hh
    unfold seenPut at hh; rw [if_neg (by omega)] at hh; exact h.pre0 c p hh
  · intro c t p hh
    by_cases e : c = b ∧ t + 1 = t0 + 1
    · unfold seenPut at hh; rw [if_pos e] at hh
      have e3 : t = t0 := by omega
      cases hh
      rw [e.1, e3]
      exact ⟨hgo, seenPut_some hs, hng⟩
    · unfold seenPut at hh; rw [if_neg e] at hh
      obtain ⟨g1, g2, g3⟩ := h.pre c t p hh
      exact ⟨g1, seenPut_some g2, g3⟩
  · intro c t hh ho hx' a hga
    rcases hin c t hh with e | e
    · exact seenPut_some (h.exp c t e (fun ho' => ho ((h1 c t).2 (Or.inl ho'))) hx' a hga)
    · exact absurd ((h1 c t).2 (Or.inr e)) ho
  · intro c t hh ho
    rcases hin c t hh with e | e
    · exact h.ng c t e (fun ho' => ho ((h1 c t).2 (Or.inl ho')))
    · exact absurd ((h1 c t).2 (Or.inr e)) ho
  · intro c t hh
    rcases hin c t hh with e | e
    · exact h.bd c t e
    · omega

/-- All to which the cart may go from the one that was taken out are seen. -/
theorem star_next {seen : Nat → Nat → Option Nat} {op : Nat → Nat → Prop} {c0 t0 : Nat} (h : Star N rch goes fr to S seen op (fun c t => c = c0 ∧ t = t0)) (hall : ∀ b, goes c0 b t0 = true → seen b (t0 + 1) ≠ none) : Star N rch goes fr to S seen op (fun _ _ => False) := by
  refine ⟨h.start, h.sub, h.rch, h.pre0, h.pre, ?_, h.ng, h.bd⟩
  intro c t hs ho _ b hgo
  by_cases e : c = c0 ∧ t = t0
  · obtain ⟨e1, e2⟩ := e; subst e1 e2; exact hall b hgo
  · exact h.exp c t hs ho e b hgo

theorem star_lead {seen : Nat → Nat → Option Nat} {op : Nat → Nat → Prop} (h : Star N rch goes fr to S seen op (fun _ _ => False)) : ∀ {k c t : Nat}, Lead rch goes to S k c t → seen c t ≠ none → ∃ k' c' t', op c' t' ∧ Lead rch goes to S k' c' t' ∧ t' + k' = t + k
  | 0, c, t, hl, hs => by
    refine ⟨0, c, t, ?_, hl, rfl⟩
    by_cases e : op c t
    · exact e
    · exact absurd hl.1 (h.ng c t hs e)
  | k + 1, c, t, hl, hs => by
    by_cases e : op c t
    · exact ⟨k + 1, c, t, e, hl, rfl⟩
    · obtain ⟨_, b, hg, hl2⟩ := hl
      obtain ⟨k', c', t', h1, h2, h3⟩ := star_lead h hl2 (h.exp c t hs e (fun hf => hf) b hg)
      exact ⟨k', c', t', h1, h2, by omega⟩

/-- Where the cart can come to stay, something is open that costs no more. -/
theorem star_min (T : Trip N rch goes fr to S st) {seen : Nat → Nat → Option Nat} {op : Nat → Nat → Prop} (h : Star N rch goes fr to S seen op (fun _ _ => False)) {g : Nat} (hr : rch g to = true) (hS : S ≤ g) : ∃ c t, op c t ∧ (t : Int) + st c ≤ g := by
  have hl := lead_back T hr (show Lead rch goes to S 0 to g from ⟨⟨rfl, hS⟩, hr⟩)
  obtain ⟨k', c', t', h1, h2, h3⟩ := star_lead h hl (by rw [h.start]; simp)
  have := (lead_st T h2).2
  exact ⟨c', t', h1, by omega⟩

/-- The foremost is not late. -/
theorem star_bound (T : Trip N rch goes fr to S st) {seen : Nat → Nat → Option Nat} {op : Nat → Nat → Prop} (h : Star N rch goes fr to S seen op (fun _ _ => False)) {c0 t0 : Nat} (ho : op c0 t0) (hm : ∀ c t, op c t → (t0 : Int) + st c0 ≤ t + st c) : t0 ≤ 60 + N := by
  have hr := h.rch c0 t0 (h.sub c0 t0 ho)
  by_cases e : t0 ≤ 60
  · omega
  · obtain ⟨g, hg, hgr, hS⟩ := goal_late T hr (by omega)
    obtain ⟨c, t, ho', hle⟩ := star_min T h hgr hS
    have := hm c t ho'
    have := T.told t0 c0 hr
    omega

/-- The foremost is a goal: it is the least. -/
theorem star_least (T : Trip N rch goes fr to S st) {seen : Nat → Nat → Option Nat} {op : Nat → Nat → Prop} (h : Star N rch goes fr to S seen op (fun _ _ => False)) {t0 : Nat} (hm : ∀ c t, op c t → (t0 : Int) + st to ≤ t + st c) {g : Nat} (hr : rch g to = true) (hS : S ≤ g) : t0 ≤ g := by
  obtain ⟨c, t, ho', hle⟩ := star_min T h hr hS
  have h1 := hm c t ho'
  rw [T.zero] at h1
  omega

/-- The way back. -/
theorem star_way {seen : Nat → Nat → Option Nat} {op hx : Nat → Nat → Prop} (h : Star N rch goes fr to S seen op hx) : ∀ {t c : Nat}, seen c t ≠ none → ∃ p : Nat → Nat, p t = c ∧ p 0 = fr ∧ (∀ s, s ≤ t → seen (p s) s ≠ none) ∧ (∀ s, s < t → seen (p (s + 1)) (s + 1) = some (p s))
  | 0, c, hs => by
    obtain ⟨q, hq⟩ := Option.ne_none_iff_exists'.1 hs
    obtain ⟨e1, _⟩ := h.pre0 c q hq
    exact ⟨fun _ => c, rfl, e1, fun s hs' => by rw [show s = 0 by omega]; exact hs, fun s hs' => by omega⟩
  | t + 1, c, hs => by
    obtain ⟨q, hq⟩ := Option.ne_none_iff_exists'.1 hs
    obtain ⟨_, g2, _⟩ := h.pre c t q hq
    obtain ⟨p, p1, p2, p3, p4⟩ := star_way h g2
    refine ⟨fun s => if s = t + 1 then c else p s, by simp, by simp [p2], ?_, ?_⟩
    · intro s hs'
      by_cases e : s = t + 1
      · subst e; simpa using hs
      · simp only [if_neg e]; exact p3 s (by omega)
    · intro s hs'
      by_cases e : s = t
      · subst e
        simp only [if_true]
        rw [if_neg (by omega), p1]; exact hq
      · have e1 : ¬ s + 1 = t + 1 := by omega
        have e2 : ¬ s = t + 1 := by omega
        simp only [if_neg e1, if_neg e2]
        exact p4 s (by omega)

/-! How much there is left to see. -/

/-- How many spots up to the last instant were not seen. -/
def unseen (N : Nat) (seen : Nat → Nat → Option Nat) : Nat := cnt (fun i => (seen (i % N) (i / N)).isNone) (N * (62 + N))

theorem unseen_put (hN : 0 < N) {seen : Nat → Nat → Option Nat} {b t p : Nat} (hb : b < N) (ht : t ≤ 61 + N) (hn : seen b t = none) : unseen N (seenPut seen b t p) + 1 = unseen N seen := by
  have hx : t * N + b < N * (62 + N) := by
    have h1 : (t + 1) * N ≤ (62 + N) * N := Nat.mul_le_mul_right N (by omega)
    rw [Nat.add_mul, Nat.one_mul] at h1
    rw [Nat.mul_comm N (62 + N)]; omega
  have e1 : (t * N + b) % N = b := by rw [Nat.add_comm, Nat.add_mul_mod_self_right]; exact Nat.mod_eq_of_lt hb
  have e2 : (t * N + b) / N = t := by rw [Nat.add_comm, Nat.add_mul_div_right _ _ hN, Nat.div_eq_of_lt hb]; omega
  unfold unseen
  refine cnt_flip (x := t * N + b) hx (by simp only [e1, e2, hn]; rfl) (by simp only [e1, e2]; simp [seenPut]) ?_
  intro i hi
  have : ¬ (i % N = b ∧ i / N = t) := by
    rintro ⟨g1, g2⟩
    have := Nat.div_add_mod i N
    rw [g1, g2, Nat.mul_comm] at this
    omega
  unfold seenPut
  rw [if_neg this]

end

end Go.Proofs.YtaldfpoolajoiaaDoor.M
