/- Plain facts on a search by the least cost that a path can have: what holds while it runs, that it finds the least, that it ends. No program is named here. -/
import Derived.Test.YtnkgpinadgacgaaDoorBc
import Derived.Test.YtnkgpinadgacgaaDoorBa
import Derived.Test.YtnkgpinadgacgaaDoorBg
import Derived.Test.YtnkgpinadgacgaaDoorBh
import Derived.Test.YtnkgpinadgacgaaDoorBd
import Derived.Deep.RegionLaw
import Derived.Deep.AppendLies
import Derived.Deep.QuietTactic
import Derived.BigQuiet
import Derived.BigRegion
import Derived.Deep.DeepCutAuto
import Derived.Deep.RegionHeld3
namespace Go.Proofs.YtnkgpinadgacgaaDoor.M

/-- What a search is held against: who can be where (rch), who can go (goes), where the cart may come to stay (from S on, at to), how far it is at least (st). -/
structure Trip (N : Nat) (rch : Nat → Nat → Bool) (goes : Nat → Nat → Nat → Bool) (fr tt : Nat) (S : Int) (st : Nat → Int) : Prop where
  npos : 0 < N
  toN : tt < N
  start : ∀ c, rch 0 c = true → c = fr
  begins : rch 0 fr = true
  step : ∀ t c, rch (t + 1) c = true ↔ ∃ a, a < N ∧ rch t a = true ∧ goes a c t = true
  inN : ∀ t c, rch t c = true → c < N
  zero : st tt = 0
  told : ∀ t c, rch t c = true → 0 ≤ st c
  near : ∀ a b t, rch t a = true → goes a b t = true → 0 ≤ st b → 0 ≤ st a ∧ st a ≤ st b + 1
  sbd : S ≤ 61
  down : ∀ t c, rch t c = true → 61 ≤ t → ∀ k : Nat, st c = (k : Int) + 1 → ∃ b, goes c b t = true ∧ st b = k
  src : ∀ t c, rch t c = true → st c = 0 → c = tt
  high : ∀ t c, rch t c = true → st c ≤ N - 1

section
variable {N : Nat} {rch : Nat → Nat → Bool} {goes : Nat → Nat → Nat → Bool} {fr tt : Nat} {S : Int} {st : Nat → Int}

def Goal (tt : Nat) (S : Int) (c t : Nat) : Prop := c = tt ∧ S ≤ t

/-- In k steps the cart comes to stay. -/
def Lead (rch : Nat → Nat → Bool) (goes : Nat → Nat → Nat → Bool) (tt : Nat) (S : Int) : Nat → Nat → Nat → Prop
  | 0, c, t => Goal tt S c t ∧ rch t c = true
  | k + 1, c, t => rch t c = true ∧ ∃ b, goes c b t = true ∧ Lead rch goes tt S k b (t + 1)

theorem lead_st (T : Trip N rch goes fr tt S st) : ∀ {k c t : Nat}, Lead rch goes tt S k c t → 0 ≤ st c ∧ st c ≤ k
  | 0, c, t, h => by rw [h.1.1, T.zero]; simp
  | k + 1, c, t, h => by
    obtain ⟨hc, b, hg, hl⟩ := h
    obtain ⟨g1, g2⟩ := lead_st T hl
    obtain ⟨g3, g4⟩ := T.near c b t hc hg g1
    exact ⟨g3, by rw [Int.natCast_add]; simp; omega⟩

theorem lead_back (T : Trip N rch goes fr tt S st) : ∀ {t c k : Nat}, rch t c = true → Lead rch goes tt S k c t → Lead rch goes tt S (t + k) fr 0
  | 0, c, k, h, hl => by rw [T.start c h] at hl; rw [Nat.zero_add]; exact hl
  | t + 1, c, k, h, hl => by
    obtain ⟨a, ha, hr, hg⟩ := (T.step t c).1 h
    have := lead_back T hr (show Lead rch goes tt S (k + 1) a t from ⟨hr, c, hg, hl⟩)
    rw [show t + 1 + k = t + (k + 1) by omega]; exact this

theorem rch_before (T : Trip N rch goes fr tt S st) : ∀ {t c s : Nat}, rch t c = true → s ≤ t → ∃ a, rch s a = true
  | 0, c, s, h, hs => ⟨c, by rw [show s = 0 by omega]; exact h⟩
  | t + 1, c, s, h, hs => by
    by_cases e : s = t + 1
    · subst e; exact ⟨c, h⟩
    · obtain ⟨a, _, hr, _⟩ := (T.step t c).1 h
      exact rch_before T hr (by omega)

/-- Behind the last rule each cell leads to To. -/
theorem rch_late (T : Trip N rch goes fr tt S st) : ∀ {k t c : Nat}, rch t c = true → 61 ≤ t → st c = k → rch (t + k) tt = true
  | 0, t, c, h, _, hk => by rw [Nat.add_zero, ← T.src t c h (by simpa using hk)]; exact h
  | k + 1, t, c, h, ht, hk => by
    obtain ⟨b, hg, hb⟩ := T.down t c h ht k (by rw [hk]; simp)
    have h2 : rch (t + 1) b = true := (T.step t b).2 ⟨c, T.inN t c h, h, hg⟩
    have := rch_late T h2 (by omega) hb
    rw [show t + (k + 1) = t + 1 + k by omega]; exact this

theorem goal_late (T : Trip N rch goes fr tt S st) {t c : Nat} (h : rch t c = true) (ht : 61 ≤ t) : ∃ g, g ≤ 60 + N ∧ rch g tt = true ∧ S ≤ (g : Int) := by
  obtain ⟨a, ha⟩ := rch_before T h ht
  obtain ⟨k, hk⟩ := Int.eq_ofNat_of_zero_le (T.told 61 a ha)
  have h1 := rch_late T ha (Nat.le_refl _) hk
  have h2 := T.high 61 a ha
  have h3 := T.sbd
  exact ⟨61 + k, by omega, h1, by omega⟩

/-- What holds of what was seen and of what is open. hx: what is just being gone on from. -/
structure Star (N : Nat) (rch : Nat → Nat → Bool) (goes : Nat → Nat → Nat → Bool) (fr tt : Nat) (S : Int) (seen : Nat → Nat → Option Nat) (op : Nat → Nat → Prop) (hx : Nat → Nat → Prop) : Prop where
  start : seen fr 0 = some fr
  sub : ∀ c t, op c t → seen c t ≠ none
  rch : ∀ c t, seen c t ≠ none → rch t c = true
  pre0 : ∀ c p, seen c 0 = some p → c = fr ∧ p = fr
  pre : ∀ c t p, seen c (t + 1) = some p → goes p c t = true ∧ seen p t ≠ none ∧ ¬ Goal tt S p t
  exp : ∀ c t, seen c t ≠ none → ¬ op c t → ¬ hx c t → ∀ b, goes c b t = true → seen b (t + 1) ≠ none
  ng : ∀ c t, seen c t ≠ none → ¬ op c t → ¬ Goal tt S c t
  bd : ∀ c t, seen c t ≠ none → t ≤ 61 + N

theorem star_start (T : Trip N rch goes fr tt S st) : Star N rch goes fr tt S (fun c t => if c = fr ∧ t = 0 then some fr else none) (fun c t => c = fr ∧ t = 0) (fun _ _ => False) := by
  have key : ∀ c t, (if c = fr ∧ t = 0 then some fr else none) ≠ none → c = fr ∧ t = 0 := by
    intro c t h
    by_cases e : c = fr ∧ t = 0
    · exact e
    · rw [if_neg e] at h; exact absurd rfl h
  refine ⟨by simp, ?_, ?_, ?_, ?_, ?_, ?_, ?_⟩
  · intro c t h; simp [h.1, h.2]
  · intro c t h; obtain ⟨e1, e2⟩ := key c t h; subst e1 e2; exact T.begins
  · intro c p h
    obtain ⟨e1, _⟩ := key c 0 (by rw [h]; simp)
    refine ⟨e1, ?_⟩
    simp [e1] at h; exact h.symm
  · intro c t p h
    obtain ⟨_, e2⟩ := key c (t + 1) (by rw [h]; simp)
    omega
  · intro c t h hn; exact absurd (key c t h) hn
  · intro c t h hn; exact absurd (key c t h) hn
  · intro c t h; obtain ⟨_, e2⟩ := key c t h; omega

/-- One is taken out and is no goal. -/
theorem star_pop {seen : Nat → Nat → Option Nat} {op op' : Nat → Nat → Prop} (h : Star N rch goes fr tt S seen op (fun _ _ => False)) {c0 t0 : Nat} (h1 : ∀ c t, op' c t → op c t) (h2 : ∀ c t, op c t → op' c t ∨ (c = c0 ∧ t = t0)) (hg : ¬ Goal tt S c0 t0) :
    Star N rch goes fr tt S seen op' (fun c t => c = c0 ∧ t = t0) := by
  refine ⟨h.start, fun c t ho => h.sub c t (h1 c t ho), h.rch, h.pre0, h.pre, ?_, ?_, h.bd⟩
  · intro c t hs ho hx b hgo
    refine h.exp c t hs (fun ho' => ?_) (fun hf => hf) b hgo
    rcases h2 c t ho' with e | e
    · exact ho e
    · exact hx e
  · intro c t hs ho
    by_cases e : c = c0 ∧ t = t0
    · rw [e.1, e.2]; exact hg
    · exact h.ng c t hs (fun ho' => by
        rcases h2 c t ho' with e2 | e2
        · exact ho e2
        · exact e e2)

def seenPut (seen : Nat → Nat → Option Nat) (b t p : Nat) : Nat → Nat → Option Nat := fun c s => if c = b ∧ s = t then some p else seen c s

theorem seenPut_some {seen : Nat → Nat → Option Nat} {b t p c s : Nat} (h : seen c s ≠ none) : seenPut seen b t p c s ≠ none := by
  unfold seenPut; split
  · simp
  · exact h

/-- One that was not seen is put in. -/
theorem star_push (T : Trip N rch goes fr tt S st) {seen : Nat → Nat → Option Nat} {op op' hx : Nat → Nat → Prop} (h : Star N rch goes fr tt S seen op hx) {c0 t0 b : Nat} (hs : seen c0 t0 ≠ none) (hgo : goes c0 b t0 = true) (hng : ¬ Goal tt S c0 t0) (ht : t0 ≤ 60 + N)
    (h1 : ∀ c t, op' c t ↔ op c t ∨ (c = b ∧ t = t0 + 1)) : Star N rch goes fr tt S (seenPut seen b (t0 + 1) c0) op' hx := by
  have hin : ∀ c t, seenPut seen b (t0 + 1) c0 c t ≠ none → seen c t ≠ none ∨ (c = b ∧ t = t0 + 1) := by
    intro c t hh
    by_cases e : c = b ∧ t = t0 + 1
    · exact Or.inr e
    · unfold seenPut at hh; rw [if_neg e] at hh; exact Or.inl hh
  have hr : rch (t0 + 1) b = true := (T.step t0 b).2 ⟨c0, T.inN _ _ (h.rch c0 t0 hs), h.rch c0 t0 hs, hgo⟩
  refine ⟨?_, ?_, ?_, ?_, ?_, ?_, ?_, ?_⟩
  · unfold seenPut; rw [if_neg (by omega)]; exact h.start
  · intro c t ho
    rcases (h1 c t).1 ho with e | e
    · exact seenPut_some (h.sub c t e)
    · unfold seenPut; rw [if_pos e]; simp
  · intro c t hh
    rcases hin c t hh with e | ⟨e1, e2⟩
    · exact h.rch c t e
    · rw [e1, e2]; exact hr
  · intro c p hh
    unfold seenPut at hh; rw [if_neg (by omega)] at hh; exact h.pre0 c p hh
  · intro c t p hh
    by_cases e : c = b ∧ t + 1 = t0 + 1
    · unfold seenPut at hh; rw [if_pos e] at hh
      have e3 : t = t0 := by omega
      cases hh
      rw [e.1, e3]
      exact ⟨hgo, seenPut_some hs, hng⟩
    · unfold seenPut at hh; rw [if_neg e] at hh
      obtain ⟨g1, g2, g3⟩ := h.pre c t p hh
      exact ⟨g1, seenPut_some g2, g3⟩
  · intro c t hh ho hx' a hga
    rcases hin c t hh with e | e
    · exact seenPut_some (h.exp c t e (fun ho' => ho ((h1 c t).2 (Or.inl ho'))) hx' a hga)
    · exact absurd ((h1 c t).2 (Or.inr e)) ho
  · intro c t hh ho
    rcases hin c t hh with e | e
    · exact h.ng c t e (fun ho' => ho ((h1 c t).2 (Or.inl ho')))
    · exact absurd ((h1 c t).2 (Or.inr e)) ho
  · intro c t hh
    rcases hin c t hh with e | e
    · exact h.bd c t e
    · omega

/-- All to which the cart may go from the one that was taken out are seen. -/
theorem star_next {seen : Nat → Nat → Option Nat} {op : Nat → Nat → Prop} {c0 t0 : Nat} (h : Star N rch goes fr tt S seen op (fun c t => c = c0 ∧ t = t0)) (hall : ∀ b, goes c0 b t0 = true → seen b (t0 + 1) ≠ none) : Star N rch goes fr tt S seen op (fun _ _ => False) := by
  refine ⟨h.start, h.sub, h.rch, h.pre0, h.pre, ?_, h.ng, h.bd⟩
  intro c t hs ho _ b hgo
  by_cases e : c = c0 ∧ t = t0
  · obtain ⟨e1, e2⟩ := e; subst e1 e2; exact hall b hgo
  · exact h.exp c t hs ho e b hgo

theorem star_lead {seen : Nat → Nat → Option Nat} {op : Nat → Nat → Prop} (h : Star N rch goes fr tt S seen op (fun _ _ => False)) : ∀ {k c t : Nat}, Lead rch goes tt S k c t → seen c t ≠ none → ∃ k' c' t', op c' t' ∧ Lead rch goes tt S k' c' t' ∧ t' + k' = t + k
  | 0, c, t, hl, hs => by
    refine ⟨0, c, t, ?_, hl, rfl⟩
    by_cases e : op c t
    · exact e
    · exact absurd hl.1 (h.ng c t hs e)
  | k + 1, c, t, hl, hs => by
    by_cases e : op c t
    · exact ⟨k + 1, c, t, e, hl, rfl⟩
    · obtain ⟨_, b, hg, hl2⟩ := hl
      obtain ⟨k', c', t', h1, h2, h3⟩ := star_lead h hl2 (h.exp c t hs e (fun hf => hf) b hg)
      exact ⟨k', c', t', h1, h2, by omega⟩

/-- Where the cart can come to stay, something is open that costs no more. -/
theorem star_min (T : Trip N rch goes fr tt S st) {seen : Nat → Nat → Option Nat} {op : Nat → Nat → Prop} (h : Star N rch goes fr tt S seen op (fun _ _ => False)) {g : Nat} (hr : rch g tt = true) (hS : S ≤ g) : ∃ c t, op c t ∧ (t : Int) + st c ≤ g := by
  have hl := lead_back T hr (show Lead rch goes tt S 0 tt g from ⟨⟨rfl, hS⟩, hr⟩)
  obtain ⟨k', c', t', h1, h2, h3⟩ := star_lead h hl (by rw [h.start]; simp)
  have := (lead_st T h2).2
  exact ⟨c', t', h1, by omega⟩

/-- The foremost is not late. -/
theorem star_bound (T : Trip N rch goes fr tt S st) {seen : Nat → Nat → Option Nat} {op : Nat → Nat → Prop} (h : Star N rch goes fr tt S seen op (fun _ _ => False)) {c0 t0 : Nat} (ho : op c0 t0) (hm : ∀ c t, op c t → (t0 : Int) + st c0 ≤ t + st c) : t0 ≤ 60 + N := by
  have hr := h.rch c0 t0 (h.sub c0 t0 ho)
  by_cases e : t0 ≤ 60
  · omega
  · obtain ⟨g, hg, hgr, hS⟩ := goal_late T hr (by omega)
    obtain ⟨c, t, ho', hle⟩ := star_min T h hgr hS
    have := hm c t ho'
    have := T.told t0 c0 hr
    omega

/-- The foremost is a goal: it is the least. -/
theorem star_least (T : Trip N rch goes fr tt S st) {seen : Nat → Nat → Option Nat} {op : Nat → Nat → Prop} (h : Star N rch goes fr tt S seen op (fun _ _ => False)) {t0 : Nat} (hm : ∀ c t, op c t → (t0 : Int) + st tt ≤ t + st c) {g : Nat} (hr : rch g tt = true) (hS : S ≤ g) : t0 ≤ g := by
  obtain ⟨c, t, ho', hle⟩ := star_min T h hr hS
  have h1 := hm c t ho'
  rw [T.zero] at h1
  omega

/-- The way back. -/
theorem star_way {seen : Nat → Nat → Option Nat} {op hx : Nat → Nat → Prop} (h : Star N rch goes fr tt S seen op hx) : ∀ {t c : Nat}, seen c t ≠ none → ∃ p : Nat → Nat, p t = c ∧ p 0 = fr ∧ (∀ s, s ≤ t → seen (p s) s ≠ none) ∧ (∀ s, s < t → seen (p (s + 1)) (s + 1) = some (p s))
  | 0, c, hs => by
    obtain ⟨q, hq⟩ := Option.ne_none_iff_exists'.1 hs
    obtain ⟨e1, _⟩ := h.pre0 c q hq
    exact ⟨fun _ => c, rfl, e1, fun s hs' => by rw [show s = 0 by omega]; exact hs, fun s hs' => by omega⟩
  | t + 1, c, hs => by
    obtain ⟨q, hq⟩ := Option.ne_none_iff_exists'.1 hs
    obtain ⟨_, g2, _⟩ := h.pre c t q hq
    obtain ⟨p, p1, p2, p3, p4⟩ := star_way h g2
    refine ⟨fun s => if s = t + 1 then c else p s, by simp, by simp [p2], ?_, ?_⟩
    · intro s hs'
      by_cases e : s = t + 1
      · subst e; simpa using hs
      · simp only [if_neg e]; exact p3 s (by omega)
    · intro s hs'
      by_cases e : s = t
      · subst e
        simp only [if_true]
        rw [if_neg (by omega), p1]; exact hq
      · have e1 : ¬ s + 1 = t + 1 := by omega
        have e2 : ¬ s = t + 1 := by omega
        simp only [if_neg e1, if_neg e2]
        exact p4 s (by omega)

/-! How much there is left to see. -/

/-- How many spots up to the last instant were not seen. -/
def unseen (N : Nat) (seen : Nat → Nat → Option Nat) : Nat := cnt (fun i => (seen (i % N) (i / N)).isNone) (N * (62 + N))

theorem unseen_put (hN : 0 < N) {seen : Nat → Nat → Option Nat} {b t p : Nat} (hb : b < N) (ht : t ≤ 61 + N) (hn : seen b t = none) : unseen N (seenPut seen b t p) + 1 = unseen N seen := by
  have hx : t * N + b < N * (62 + N) := by
    have h1 : (t + 1) * N ≤ (62 + N) * N := Nat.mul_le_mul_right N (by omega)
    rw [Nat.add_mul, Nat.one_mul] at h1
    rw [Nat.mul_comm N (62 + N)]; omega
  have e1 : (t * N + b) % N = b := by rw [Nat.add_comm, Nat.add_mul_mod_self_right]; exact Nat.mod_eq_of_lt hb
  have e2 : (t * N + b) / N = t := by rw [Nat.add_comm, Nat.add_mul_div_right _ _ hN, Nat.div_eq_of_lt hb]; omega
  unfold unseen
  refine cnt_flip (x := t * N + b) hx (by simp only [e1, e2, hn]; rfl) (by simp only [e1, e2]; simp [seenPut]) ?_
  intro i hi
  have : ¬ (i % N = b ∧ i / N = t) := by
    rintro ⟨g1, g2⟩
    have := Nat.div_add_mod i N
    rw [g1, g2, Nat.mul_comm] at this
    omega
  unfold seenPut
  rw [if_neg this]

end

end Go.Proofs.YtnkgpinadgacgaaDoor.M

/- Plain facts on a heap in a row: what order it keeps, how one rises, how one sinks, the first is the foremost. No program is named here. -/
namespace Go.Proofs.YtnkgpinadgacgaaDoor.M

abbrev Spot := Nat × Nat

section
variable {key : Spot → Int} {n : Nat} {it : Nat → Spot}

def swapIt (it : Nat → Spot) (a b : Nat) : Nat → Spot := fun i => if i = a then it b else if i = b then it a else it i

def Mem (n : Nat) (it : Nat → Spot) (p : Spot) : Prop := ∃ i, i < n ∧ it i = p

theorem mem_swap {a b : Nat} (ha : a < n) (hb : b < n) {p : Spot} : Mem n (swapIt it a b) p ↔ Mem n it p := by
  constructor
  · rintro ⟨i, hi, h⟩
    unfold swapIt at h
    by_cases e : i = a
    · rw [if_pos e] at h; exact ⟨b, hb, h⟩
    · rw [if_neg e] at h
      by_cases e2 : i = b
      · rw [if_pos e2] at h; exact ⟨a, ha, h⟩
      · rw [if_neg e2] at h; exact ⟨i, hi, h⟩
  · rintro ⟨i, hi, h⟩
    by_cases e : i = a
    · refine ⟨b, hb, ?_⟩
      unfold swapIt
      by_cases e2 : b = a
      · rw [if_pos e2, e2, ← e]; exact h
      · rw [if_neg e2, if_pos rfl, ← e]; exact h
    · by_cases e2 : i = b
      · refine ⟨a, ha, ?_⟩
        unfold swapIt
        rw [if_pos rfl, ← e2]; exact h
      · exact ⟨i, hi, by unfold swapIt; rw [if_neg e, if_neg e2]; exact h⟩

theorem swap_l {a b : Nat} : swapIt it a b a = it b := by unfold swapIt; rw [if_pos rfl]
theorem swap_r {a b : Nat} : swapIt it a b b = it a := by
  unfold swapIt
  by_cases e : b = a
  · rw [if_pos e, e]
  · rw [if_neg e, if_pos rfl]
theorem swap_o {a b i : Nat} (h1 : i ≠ a) (h2 : i ≠ b) : swapIt it a b i = it i := by unfold swapIt; rw [if_neg h1, if_neg h2]

/-- Each is no further back than its parent. -/
def Ord (key : Spot → Int) (n : Nat) (it : Nat → Spot) : Prop := ∀ i, 0 < i → i < n → key (it ((i - 1) / 2)) ≤ key (it i)

/-- .. but for one that may have to rise. -/
structure Up (key : Spot → Int) (n : Nat) (it : Nat → Spot) (at' : Nat) : Prop where
  rest : ∀ i, 0 < i → i < n → i ≠ at' → key (it ((i - 1) / 2)) ≤ key (it i)
  over : ∀ i, 0 < i → i < n → (i - 1) / 2 = at' → 0 < at' → key (it ((at' - 1) / 2)) ≤ key (it i)

/-- .. but for one that may have to sink. -/
structure Down (key : Spot → Int) (n : Nat) (it : Nat → Spot) (at' : Nat) : Prop where
  rest : ∀ i, 0 < i → i < n → (i - 1) / 2 ≠ at' → key (it ((i - 1) / 2)) ≤ key (it i)
  over : ∀ i, 0 < i → i < n → (i - 1) / 2 = at' → 0 < at' → key (it ((at' - 1) / 2)) ≤ key (it i)

theorem up_done {a : Nat} (h : Up key n it a) (hs : a = 0 ∨ ¬ key (it a) < key (it ((a - 1) / 2))) : Ord key n it := by
  intro i h0 hi
  by_cases e : i = a
  · subst e
    rcases hs with e0 | e0
    · omega
    · omega
  · exact h.rest i h0 hi e

theorem up_step {a : Nat} (h : Up key n it a) (ha : 0 < a) (han : a < n) (hlt : key (it a) < key (it ((a - 1) / 2))) : Up key n (swapIt it a ((a - 1) / 2)) ((a - 1) / 2) := by
  obtain ⟨p, hp⟩ : ∃ p, p = (a - 1) / 2 := ⟨_, rfl⟩
  rw [← hp] at hlt ⊢
  have hpa : p < a := by omega
  refine ⟨?_, ?_⟩
  · intro i h0 hi hne
    by_cases e : i = a
    · subst e
      rw [← hp, swap_r, swap_l]; omega
    · rw [swap_o (it := it) e hne]
      by_cases e1 : (i - 1) / 2 = a
      · rw [e1, swap_l]
        have := h.over i h0 hi e1 ha
        rw [← hp] at this; exact this
      · by_cases e2 : (i - 1) / 2 = p
        · rw [e2, swap_r]
          have := h.rest i h0 hi e
          rw [e2] at this; omega
        · rw [swap_o e1 e2]; exact h.rest i h0 hi e
  · intro i h0 hi hpi hp0
    have hq : (p - 1) / 2 ≠ a := by omega
    have hq2 : (p - 1) / 2 ≠ p := by omega
    rw [swap_o hq hq2]
    have h1 := h.rest p hp0 (by omega) (by omega)
    by_cases e : i = a
    · subst e; rw [swap_l]; exact h1
    · rw [swap_o e (by omega)]
      have := h.rest i h0 hi e
      rw [hpi] at this; omega

theorem up_push (h : Ord key n it) : Up key (n + 1) it n := by
  refine ⟨fun i h0 hi hne => h i h0 (by omega), fun i h0 hi hpi hn0 => by omega⟩

theorem down_done {a : Nat} (h : Down key n it a) (hs : ∀ i, 0 < i → i < n → (i - 1) / 2 = a → key (it a) ≤ key (it i)) : Ord key n it := by
  intro i h0 hi
  by_cases e : (i - 1) / 2 = a
  · rw [e]; exact hs i h0 hi e
  · exact h.rest i h0 hi e

theorem down_step {a f : Nat} (h : Down key n it a) (hf0 : 0 < f) (hfn : f < n) (hfp : (f - 1) / 2 = a) (hlt : key (it f) < key (it a)) (hmin : ∀ i, 0 < i → i < n → (i - 1) / 2 = a → key (it f) ≤ key (it i)) : Down key n (swapIt it a f) f := by
  have haf : a < f := by omega
  refine ⟨?_, ?_⟩
  · intro i h0 hi hne
    by_cases e : i = f
    · subst e
      rw [hfp, swap_l, swap_r]; omega
    · by_cases e1 : (i - 1) / 2 = a
      · rw [e1, swap_l, swap_o (by omega) e]; exact hmin i h0 hi e1
      · rw [swap_o (i := (i - 1) / 2) e1 hne]
        by_cases e2 : i = a
        · subst e2
          rw [swap_l]; exact h.over f hf0 hfn hfp h0
        · rw [swap_o e2 e]; exact h.rest i h0 hi e1
  · intro i h0 hi hpi _
    rw [hfp, swap_l, swap_o (by omega) (by omega)]
    have := h.rest i h0 hi (by omega)
    rw [hpi] at this; exact this

/-- The first is the foremost. -/
theorem ord_first (h : Ord key n it) : ∀ i, i < n → key (it 0) ≤ key (it i) := by
  intro i
  induction i using Nat.strongRecOn with
  | ind i ih =>
    intro hi
    by_cases e : i = 0
    · subst e; exact Int.le_refl _
    · have h1 := ih ((i - 1) / 2) (by omega) (by omega)
      have h2 := h i (by omega) hi
      omega

/-- The last in the first's place. -/
def popIt (it : Nat → Spot) (n : Nat) : Nat → Spot := fun i => if i = 0 then it (n - 1) else it i

theorem down_pop (h : Ord key n it) : Down key (n - 1) (popIt it n) 0 := by
  refine ⟨fun i h0 hi hne => ?_, fun i _ _ _ h0 => by omega⟩
  unfold popIt
  rw [if_neg hne, if_neg (by omega)]
  exact h i h0 (by omega)

theorem mem_pop (hn : 0 < n) {p : Spot} : Mem n it p ↔ Mem (n - 1) (popIt it n) p ∨ p = it 0 := by
  constructor
  · rintro ⟨i, hi, h⟩
    by_cases e : i = 0
    · subst e; exact Or.inr h.symm
    · by_cases e2 : i = n - 1
      · by_cases e3 : n - 1 = 0
        · omega
        · exact Or.inl ⟨0, by omega, by unfold popIt; rw [if_pos rfl, ← e2]; exact h⟩
      · exact Or.inl ⟨i, by omega, by unfold popIt; rw [if_neg e]; exact h⟩
  · rintro (⟨i, hi, h⟩ | h)
    · unfold popIt at h
      by_cases e : i = 0
      · rw [if_pos e] at h; exact ⟨n - 1, by omega, h⟩
      · rw [if_neg e] at h; exact ⟨i, by omega, h⟩
    · exact ⟨0, hn, h.symm⟩

def pushIt (it : Nat → Spot) (n : Nat) (p : Spot) : Nat → Spot := fun i => if i = n then p else it i

theorem ord_push (h : Ord key n it) (p : Spot) : Up key (n + 1) (pushIt it n p) n := by
  refine up_push ?_
  intro i h0 hi
  unfold pushIt
  rw [if_neg (by omega), if_neg (by omega)]
  exact h i h0 hi

theorem mem_push {p q : Spot} : Mem (n + 1) (pushIt it n p) q ↔ Mem n it q ∨ q = p := by
  constructor
  · rintro ⟨i, hi, h⟩
    unfold pushIt at h
    by_cases e : i = n
    · rw [if_pos e] at h; exact Or.inr h.symm
    · rw [if_neg e] at h; exact Or.inl ⟨i, by omega, h⟩
  · rintro (⟨i, hi, h⟩ | h)
    · exact ⟨i, by omega, by unfold pushIt; rw [if_neg (by omega)]; exact h⟩
    · exact ⟨n, by omega, by unfold pushIt; rw [if_pos rfl]; exact h.symm⟩

end

end Go.Proofs.YtnkgpinadgacgaaDoor.M

/- Plain facts: one cart's search over a yard under rules is such a search; what the map of what was seen tells; what the search's answer says. -/
namespace Go.Proofs.YtnkgpinadgacgaaDoor
open M Go.RowKit

theorem reach_in {co : Int} {cs : ByteArray} {n : Nat} {R : Nat → RuleM} {fr : Nat} (hfr : freeB cs fr = true) : ∀ {t c : Nat}, reachM co cs n R fr t c = true → freeB cs c = true
  | 0, c, h => by
    simp only [reachM, Bool.and_eq_true, beq_iff_eq] at h
    rw [h.1]; exact hfr
  | t + 1, c, h => by
    simp only [reachM] at h
    obtain ⟨a, _, ha⟩ := anyB_true h
    simp only [Bool.and_eq_true] at ha
    exact adj_free (goes_adj ha.2)

theorem free_lt {cs : ByteArray} {c : Nat} (h : freeB cs c = true) : c < cs.size := by
  by_cases e : c < cs.size
  · exact e
  · rw [freeB_out (by omega)] at h; cases h

/-- One cart under rules. -/
theorem trip_mk {co : Int} {cs : ByteArray} {n : Nat} {R : Nat → RuleM} {fr tt : Nat} {st : Nat → Int} (hr : rulesB cs.size n R = true) (hf : freeB cs fr = true) (ht : freeB cs tt = true) (hst : IsFar cs.size (adjM co cs) tt st) (h0 : 0 ≤ st fr) (hon : onM n R fr 0 = true) :
    Trip cs.size (reachM co cs n R fr) (goesM co cs n R) fr tt (settledM tt R n) st := by
  have told : ∀ t c, reachM co cs n R fr t c = true → 0 ≤ st c := by
    intro t
    induction t with
    | zero =>
      intro c h
      simp only [reachM, Bool.and_eq_true, beq_iff_eq] at h
      rw [h.1]; exact h0
    | succ t ih =>
      intro c h
      have hc := free_lt (reach_in hf h)
      simp only [reachM] at h
      obtain ⟨a, haN, ha⟩ := anyB_true h
      simp only [Bool.and_eq_true] at ha
      exact (hst.next c a hc haN (goes_adj ha.2) (ih a ha.1)).1
  refine ⟨by have := free_lt hf; omega, free_lt ht, ?_, ?_, ?_, ?_, hst.zero, told, ?_, (settled_bd hr).2, ?_, ?_, ?_⟩
  · intro c h
    simp only [reachM, Bool.and_eq_true, beq_iff_eq] at h
    exact h.1
  · simp [reachM, hon]
  · intro t c
    simp only [reachM]
    rw [anyB_iff]
    simp only [Bool.and_eq_true]
  · intro t c h; exact free_lt (reach_in hf h)
  · intro a b t hra hg hb
    have fa := reach_in hf hra
    have fb := adj_free (goes_adj hg)
    exact hst.next a b (free_lt fa) (free_lt fb) (adj_comm fb (goes_adj hg) fa) hb
  · intro t c hrc h61 k hk
    obtain ⟨b, hb, hab, hd⟩ := hst.pred c (free_lt (reach_in hf hrc)) k hk
    refine ⟨b, ?_, hd⟩
    rw [goes_late hr h61]
    exact adj_comm (adj_free hab) hab (far_free hst ht hb (by omega))
  · intro t c hrc hz
    exact hst.src c (free_lt (reach_in hf hrc)) hz
  · intro t c hrc
    exact far_lt (free_lt ht) hst (free_lt (reach_in hf hrc))

/-- What was seen, as a map of numbers. -/
def mapOf (seen : Nat → Nat → Option Nat) : Int → Int → Option Int := fun c t => if 0 ≤ c ∧ 0 ≤ t then (seen c.toNat t.toNat).map (fun (x : Nat) => (x : Int)) else none

theorem mapOf_nat (seen : Nat → Nat → Option Nat) (c t : Nat) : mapOf seen (c : Int) (t : Int) = (seen c t).map (fun (x : Nat) => (x : Int)) := by
  unfold mapOf; rw [if_pos ⟨by omega, by omega⟩]; simp

theorem mapOf_put (seen : Nat → Nat → Option Nat) (b t p : Nat) (c s : Int) : mapPut (mapOf seen) (b : Int) (t : Int) (p : Int) c s = mapOf (seenPut seen b t p) c s := by
  unfold mapPut mapOf seenPut
  by_cases h : c = b ∧ s = t
  · rw [if_pos h, h.1, h.2, if_pos ⟨by omega, by omega⟩]
    simp
  · rw [if_neg h]
    by_cases h2 : 0 ≤ c ∧ 0 ≤ s
    · rw [if_pos h2, if_pos h2, if_neg]
      intro hh
      exact h ⟨by omega, by omega⟩
    · rw [if_neg h2, if_neg h2]

theorem mapOf_start (fr : Nat) (c s : Int) : mapPut (fun _ _ => none) (fr : Int) 0 (fr : Int) c s = mapOf (fun c t => if c = fr ∧ t = 0 then some fr else none) c s := by
  unfold mapPut mapOf
  by_cases h : c = fr ∧ s = 0
  · rw [if_pos h, h.1, h.2, if_pos ⟨by omega, by omega⟩]
    simp
  · rw [if_neg h]
    by_cases h2 : 0 ≤ c ∧ 0 ≤ s
    · rw [if_pos h2]
      show none = Option.map _ (if c.toNat = fr ∧ s.toNat = 0 then some fr else none)
      rw [if_neg (fun hh => h ⟨by omega, by omega⟩)]
      rfl
    · rw [if_neg h2]

/-- What the search tells. -/
def Found (co : Int) (cs : ByteArray) (n : Nat) (R : Nat → RuleM) (f c : Nat) (x : Option (Nat × (Nat → Nat))) : Prop :=
  (x = Option.none ∧ ∀ t, hitM co cs n R f c t = false) ∨
    ∃ T p, x = some (T, p) ∧ T ≤ 60 + cs.size ∧ hitM co cs n R f c T = true ∧ PathOK co cs n R f c T p ∧ ∀ t, hitM co cs n R f c t = true → T ≤ t

theorem Found.none {co : Int} {cs : ByteArray} {n : Nat} {R : Nat → RuleM} {f c : Nat} (h : ∀ t, hitM co cs n R f c t = false) : Found co cs n R f c Option.none := Or.inl ⟨rfl, h⟩

theorem Found.path {co : Int} {cs : ByteArray} {n : Nat} {R : Nat → RuleM} {f c : Nat} (T : Nat) (p : Nat → Nat) (hT : T ≤ 60 + cs.size) (hhit : hitM co cs n R f c T = true) (hok : PathOK co cs n R f c T p) (hleast : ∀ t, hitM co cs n R f c t = true → T ≤ t) : Found co cs n R f c (some (T, p)) :=
  Or.inr ⟨T, p, rfl, hT, hhit, hok, hleast⟩

theorem Found.miss {co : Int} {cs : ByteArray} {n : Nat} {R : Nat → RuleM} {f c : Nat} (h : Found co cs n R f c Option.none) : ∀ t, hitM co cs n R f c t = false := by
  rcases h with h | ⟨T, p, e, _⟩
  · exact h.2
  · cases e

theorem Found.hit {co : Int} {cs : ByteArray} {n : Nat} {R : Nat → RuleM} {f c T : Nat} {p : Nat → Nat} (h : Found co cs n R f c (some (T, p))) : T ≤ 60 + cs.size ∧ hitM co cs n R f c T = true ∧ PathOK co cs n R f c T p ∧ ∀ t, hitM co cs n R f c t = true → T ≤ t := by
  rcases h with h | ⟨T', p', e, h⟩
  · cases h.1
  · cases e; exact h

theorem hit_goal {co : Int} {cs : ByteArray} {n : Nat} {R : Nat → RuleM} {f c t : Nat} (hr : rulesB cs.size n R = true) (hc : freeB cs c = true) : hitM co cs n R f c t = true ↔ reachM co cs n R f t c = true ∧ settledM c R n ≤ t := by
  unfold hitM
  rw [Bool.and_eq_true]
  constructor
  · rintro ⟨h1, h2⟩
    rw [stays_settled hr (by unfold adjM; rw [mayM_in hc (by omega) (by have := free_lt hc; omega)]; exact near_self _ _) (reach_on h1), decide_eq_true_eq] at h2
    exact ⟨h1, h2⟩
  · rintro ⟨h1, h2⟩
    refine ⟨h1, ?_⟩
    rw [stays_settled hr (by unfold adjM; rw [mayM_in hc (by omega) (by have := free_lt hc; omega)]; exact near_self _ _) (reach_on h1), decide_eq_true_eq]
    exact h2

/-- The heap is empty: there is no path. -/
theorem found_none {co : Int} {cs : ByteArray} {n : Nat} {R : Nat → RuleM} {f c : Nat} {st : Nat → Int} {seen : Nat → Nat → Option Nat} {op : Nat → Nat → Prop} (hr : rulesB cs.size n R = true) (hc : freeB cs c = true) (T : Trip cs.size (reachM co cs n R f) (goesM co cs n R) f c (settledM c R n) st)
    (S : Star cs.size (reachM co cs n R f) (goesM co cs n R) f c (settledM c R n) seen op (fun _ _ => False)) (he : ∀ a b, ¬ op a b) : Found co cs n R f c none := by
  refine .none fun t => ?_
  cases e : hitM co cs n R f c t with
  | false => rfl
  | true =>
    obtain ⟨h1, h2⟩ := (hit_goal hr hc).1 e
    obtain ⟨a, b, ho, _⟩ := star_min T S h1 h2
    exact absurd ho (he a b)

/-- The foremost is a goal: the way back to the start is a path of the least cost. -/
theorem found_path {co : Int} {cs : ByteArray} {n : Nat} {R : Nat → RuleM} {f c t : Nat} {st : Nat → Int} {seen : Nat → Nat → Option Nat} {op : Nat → Nat → Prop} (hr : rulesB cs.size n R = true) (_hN : cs.size ≤ 36) (hc : freeB cs c = true) (T : Trip cs.size (reachM co cs n R f) (goesM co cs n R) f c (settledM c R n) st)
    (S : Star cs.size (reachM co cs n R f) (goesM co cs n R) f c (settledM c R n) seen op (fun _ _ => False)) (ho : op c t) (hm : ∀ a b, op a b → (t : Int) + st c ≤ b + st a) (hS : settledM c R n ≤ t) :
    ∃ p : Nat → Nat, p t = c ∧ (∀ s, s ≤ t → p s < cs.size) ∧ seen (p 0) 0 = some f ∧ (∀ s, s < t → seen (p (s + 1)) (s + 1) = some (p s)) ∧ Found co cs n R f c (some (t, p)) := by
  have hs := S.sub c t ho
  obtain ⟨p, p1, p2, p3, p4⟩ := star_way S hs
  have hle := star_bound T S ho hm
  have hreach := S.rch c t hs
  have hin : ∀ s, s ≤ t → p s < cs.size := fun s h => T.inN s _ (S.rch _ _ (p3 s h))
  have hhit : hitM co cs n R f c t = true := (hit_goal hr hc).2 ⟨hreach, hS⟩
  have hstay : staysM co cs n R c t = true := by
    unfold hitM at hhit
    rw [Bool.and_eq_true] at hhit
    exact hhit.2
  refine ⟨p, p1, hin, by rw [p2]; exact S.start, p4, .path t p hle hhit ⟨p2, p1, ?_, ?_, ?_, hstay, hin⟩ ?_⟩
  · -- the last step is no waiting
    intro s hst hps
    subst hst
    obtain ⟨g1, g2, g3⟩ := S.pre (p (s + 1)) s (p s) (p4 s (by omega))
    rw [p1, hps] at g1
    have hr2 := S.rch _ _ g2
    rw [hps] at hr2 g2 g3
    have hon := reach_on hr2
    -- staying from s on would break no rule
    refine g3 ⟨rfl, ?_⟩
    have hst2 : staysM co cs n R c s = true := stays_iff.2 fun u h1 h2 => by
      by_cases e : u = s
      · subst e; exact g1
      · exact stays_iff.1 hstay u (by omega) h2
    rw [stays_settled hr (goes_adj g1) hon, decide_eq_true_eq] at hst2
    exact hst2
  · have := reach_on (S.rch _ _ (p3 0 (Nat.zero_le _)))
    rw [p2] at this; exact this
  · intro s hs'
    exact (S.pre (p (s + 1)) s (p s) (p4 s hs')).1
  · intro u hu
    obtain ⟨h1, h2⟩ := (hit_goal hr hc).1 hu
    exact star_least T S hm h1 h2

/-- There is no way, or the cart may not begin. -/
theorem found_not {co : Int} {cs : ByteArray} {n : Nat} {R : Nat → RuleM} {f c : Nat} {st : Nat → Int} (hf : freeB cs f = true) (hst : IsFar cs.size (adjM co cs) c st) (h : st f < 0 ∨ onM n R f 0 = false) : Found co cs n R f c none := by
  refine .none fun t => ?_
  cases e : hitM co cs n R f c t with
  | false => rfl
  | true =>
    exfalso
    unfold hitM at e
    rw [Bool.and_eq_true] at e
    have hre := e.1
    rcases h with h | h
    · have back : ∀ t x, reachM co cs n R f t x = true → 0 ≤ st x → 0 ≤ st f := by
        intro t
        induction t with
        | zero =>
          intro x hx h0
          simp only [reachM, Bool.and_eq_true, beq_iff_eq] at hx
          rw [← hx.1]; exact h0
        | succ t ih =>
          intro x hx h0
          have fx := reach_in hf hx
          simp only [reachM] at hx
          obtain ⟨a, haN, ha⟩ := anyB_true hx
          simp only [Bool.and_eq_true] at ha
          have fa := reach_in hf ha.1
          exact ih a ha.1 (hst.next a x haN (free_lt fx) (adj_comm fx (goes_adj ha.2) fa) h0).1
      have := back t c hre (by rw [hst.zero]; exact Int.le_refl 0)
      omega
    · have none0 : ∀ t x, reachM co cs n R f t x = false := by
        intro t
        induction t with
        | zero =>
          intro x
          simp only [reachM]
          by_cases ex : x = f
          · subst ex
            have h' : onM n R (x : Int) 0 = false := h
            simp [h']
          · simp [ex]
        | succ t ih =>
          intro x
          simp only [reachM]
          exact anyB_false.2 fun a _ => by rw [ih a]; rfl
      rw [none0 t c] at hre
      cases hre

end Go.Proofs.YtnkgpinadgacgaaDoor

/- Laws on lists of whatever elements that the call itself made: what keeps them; what an append leaves. -/
namespace Go.Proofs.YtnkgpinadgacgaaDoor
open Go.RowKit

/-- A block of cells that is known, behind a store into one. -/
theorem box_set {w : World} {b i : Nat} {cells cells' : Array Value} {v : Value} (h : ∀ o, w.cell? ⟨b, o, none⟩ = cells[o]?) (hi : i < cells.size) (he : cells' = cells.setIfInBounds i v) : ∀ o, (w.setCell ⟨b, i, none⟩ v).cell? ⟨b, o, none⟩ = cells'[o]? := by
  subst he
  intro o
  by_cases e : o = i
  · subst e
    rw [World.cell?_setCell_same' _ _ _ (by rw [h]; simp [hi])]
    simp [hi]
  · rw [World.cell?_setCell_other _ _ _ _ (by intro hh; cases hh; exact e rfl), h o, Array.getElem?_setIfInBounds, if_neg (fun hh => e hh.symm)]

theorem own_form {w : World} {base n : Nat} {e : TypeId} {size : Nat} {v : Value} {xs : List Value} (h : w.ownsRow base e size v n xs) : ∃ a cap, v = .slice a n cap ∧ (0 < n → ∃ g, a = some ⟨g, 0, none⟩) ∧ n ≤ cap := by
  rcases h.2 with ⟨e1, e2⟩ | ⟨g, cap', cur, e1, e2, _, h4, _⟩
  · subst e2; exact ⟨none, 0, e1, fun h0 => absurd h0 (Nat.lt_irrefl 0), Nat.le_refl 0⟩
  · exact ⟨_, cap', e1, fun _ => ⟨g, rfl⟩, h4⟩

theorem own_keep {w w' : World} {base n : Nat} {e : TypeId} {size : Nat} {v : Value} {xs : List Value} (h : w.ownsRow base e size v n xs) (hk : ∀ g, base ≤ g → g < w.heap.size → v.ownBlock = some g → w'.heap[g]? = w.heap[g]?) : w'.ownsRow base e size v n xs := by
  refine ⟨h.1, ?_⟩
  rcases h.2 with h0 | ⟨g, cap, cur, hv, hg, hh, r⟩
  · exact .inl h0
  · refine .inr ⟨g, cap, cur, hv, hg, ?_, r⟩
    rw [hk g hg (h.lt g (by rw [hv]; rfl)).2 (by rw [hv]; rfl)]; exact hh

theorem own_later {w w' : World} {base n : Nat} {e : TypeId} {size : Nat} {v : Value} {xs : List Value} (h : w.ownsRow base e size v n xs) (hb : Below w.heap.size w w') : w'.ownsRow base e size v n xs := own_keep h fun g _ hg _ => hb.block g hg

theorem own_le {w : World} {base base' n : Nat} {e : TypeId} {size : Nat} {v : Value} {xs : List Value} (h : w.ownsRow base e size v n xs) (hb : base' ≤ base) : w.ownsRow base' e size v n xs :=
  ⟨h.1, h.2.elim Or.inl (fun ⟨g, cap, cur, hv, hg, r⟩ => Or.inr ⟨g, cap, cur, hv, Nat.le_trans hb hg, r⟩)⟩

theorem grow_cell {w pre w1 : World} {row : Option Nat} {b o : Nat} {v : Value} (h : w.cell? ⟨b, o, none⟩ = some v) (hp : Below w.heap.size w pre) (hg : pre.grownBy w1 row) (n : ∀ k, row = some k → b ≠ k) : w1.cell? ⟨b, o, none⟩ = some v := by
  have h2 := cell_later hp h
  rw [World.cell?_of_block (w := pre) (a := ⟨b, o, none⟩) (hg.block _ (World.block_lt_of_cell? _ _ h2) (fun e => n _ e.symm rfl))]; exact h2

theorem grow_frozen {w pre w1 : World} {row : Option Nat} {b o : Nat} (h : w.frozen? ⟨b, o, none⟩ = false) (hb : b < w.heap.size) (hp : Below w.heap.size w pre) (hg : pre.grownBy w1 row) (n : ∀ k, row = some k → b ≠ k) : w1.frozen? ⟨b, o, none⟩ = false := by
  rw [World.frozen?_of_block (w := pre) (a := ⟨b, o, none⟩) (hg.block _ (Nat.lt_of_lt_of_le hb hp.size) (fun e => n _ e.symm rfl)), hp.frozen (p := ⟨b, o, none⟩) hb]; exact h

theorem two_oneCell (u v : Int) : ∀ x ∈ [Value.int .i64 u, Value.int .i64 v], x.oneCell' = true := by
  intro x hx
  simp at hx
  rcases hx with rfl | rfl <;> rfl

theorem own2_cap {w : World} {base m cc : Nat} {e : TypeId} {size : Nat} {ac : Option Addr} {xs : List Value} (h : w.ownsRow base e size (.slice ac m cc) m xs) : m ≤ cc := by
  rcases h.2 with ⟨e1, e2⟩ | ⟨g, cap', cur, hv, _, _, h4, _⟩
  · omega
  · cases hv; exact h4

theorem grown_pre {w pre w1 : World} {row : Option Nat} (_ : pre.grownBy w1 row) (hp : Below w.heap.size w pre) : Below w.heap.size w pre ∧ True := ⟨hp, trivial⟩

end Go.Proofs.YtnkgpinadgacgaaDoor

/- A heap of spots in memory; walks of the function that orders it, and of swap. -/
namespace Go.Proofs.YtnkgpinadgacgaaDoor
open Go.RowKit M

/-- The first n places of a row of spots. -/
def ItemsIn (w : World) (G cap n : Nat) (it : Nat → Spot) : Prop :=
  ∃ cur : Array Value, w.heap[G]? = some (.cells cur 225 (0, 0)) ∧ n ≤ cap ∧ cap ≤ maxLen ∧ cur.size = cap * 2 ∧ ∀ i, i < n → cur[i * 2]? = some (.int .i64 ((it i).1 : Nat)) ∧ cur[i * 2 + 1]? = some (.int .i64 ((it i).2 : Nat))

theorem ItemsIn.block {w w' : World} {G cap n : Nat} {it : Nat → Spot} (h : ItemsIn w G cap n it) (e : w'.heap[G]? = w.heap[G]?) : ItemsIn w' G cap n it := by
  obtain ⟨cur, h1, r⟩ := h; exact ⟨cur, e.trans h1, r⟩

theorem ItemsIn.lt {w : World} {G cap n : Nat} {it : Nat → Spot} (h : ItemsIn w G cap n it) : G < w.heap.size := by
  obtain ⟨cur, h1, _⟩ := h; exact (Array.getElem?_eq_some_iff.1 h1).1

theorem ItemsIn.c0 {w : World} {G cap n : Nat} {it : Nat → Spot} (h : ItemsIn w G cap n it) {i : Nat} (hi : i < n) : w.cell? ⟨G, i * 2, none⟩ = some (.int .i64 ((it i).1 : Nat)) := by
  obtain ⟨cur, h1, _, _, _, h5⟩ := h
  simp [World.cell?, h1, (h5 i hi).1]

theorem ItemsIn.c1 {w : World} {G cap n : Nat} {it : Nat → Spot} (h : ItemsIn w G cap n it) {i : Nat} (hi : i < n) : w.cell? ⟨G, i * 2 + 1, none⟩ = some (.int .i64 ((it i).2 : Nat)) := by
  obtain ⟨cur, h1, _, _, _, h5⟩ := h
  simp [World.cell?, h1, (h5 i hi).2]

theorem ItemsIn.fz {w : World} {G cap n : Nat} {it : Nat → Spot} (h : ItemsIn w G cap n it) (o : Nat) : w.frozen? ⟨G, o, none⟩ = false := by
  obtain ⟨cur, h1, _⟩ := h
  simp [World.frozen?, h1]

theorem ItemsIn.room {w : World} {G cap n : Nat} {it : Nat → Spot} (h : ItemsIn w G cap n it) : n ≤ cap ∧ cap ≤ maxLen := by
  obtain ⟨cur, h1, h2, h3, _⟩ := h; exact ⟨h2, h3⟩

theorem ItemsIn.same {w : World} {G cap n : Nat} {it it' : Nat → Spot} (h : ItemsIn w G cap n it) (e : ∀ i, i < n → it i = it' i) : ItemsIn w G cap n it' := by
  obtain ⟨cur, h1, h2, h3, h4, h5⟩ := h
  exact ⟨cur, h1, h2, h3, h4, fun i hi => by rw [← e i hi]; exact h5 i hi⟩

theorem ItemsIn.drew {w : World} {G cap n : Nat} {it : Nat → Spot} (h : ItemsIn w G cap n it) : ItemsIn w.drew G cap n it := by
  obtain ⟨cur, h1, r⟩ := h; exact ⟨cur, h1, r⟩

theorem ItemsIn.less {w : World} {G cap n n' : Nat} {it : Nat → Spot} (h : ItemsIn w G cap n it) (e : n' ≤ n) : ItemsIn w G cap n' it := by
  obtain ⟨cur, h1, h2, h3, h4, h5⟩ := h
  exact ⟨cur, h1, by omega, h3, h4, fun i hi => h5 i (by omega)⟩

/-- One place is written. -/
theorem ItemsIn.put {w : World} {G cap n : Nat} {it : Nat → Spot} (h : ItemsIn w G cap n it) (i : Nat) (p : Spot) : ItemsIn ((w.setCell ⟨G, i * 2, none⟩ (.int .i64 (p.1 : Nat))).setCell ⟨G, i * 2 + 1, none⟩ (.int .i64 (p.2 : Nat))) G cap n (fun j => if j = i then p else it j) := by
  obtain ⟨cur, h1, h2, h3, h4, h5⟩ := h
  refine ⟨(cur.setIfInBounds (i * 2) (.int .i64 (p.1 : Nat))).setIfInBounds (i * 2 + 1) (.int .i64 (p.2 : Nat)), ?_, h2, h3, by simpa using h4, fun j hj => ?_⟩
  · simp [World.setCell, Array.getElem?_modify, h1]
  · obtain ⟨g1, g2⟩ := h5 j hj
    by_cases e : j = i
    · subst e
      simp only [if_true]
      refine ⟨?_, ?_⟩
      · rw [Array.getElem?_setIfInBounds, if_neg (by omega), Array.getElem?_setIfInBounds, if_pos rfl, if_pos (by omega)]
      · rw [Array.getElem?_setIfInBounds, if_pos rfl, if_pos (by simp; omega)]
    · simp only [if_neg e]
      refine ⟨?_, ?_⟩
      · rw [Array.getElem?_setIfInBounds, if_neg (by omega), Array.getElem?_setIfInBounds, if_neg (by omega)]; exact g1
      · rw [Array.getElem?_setIfInBounds, if_neg (by omega), Array.getElem?_setIfInBounds, if_neg (by omega)]; exact g2

/-- The function that orders the heap. -/
def lessV (F : Nat) : Value := .func (.func 154) #[] #[.pointer (some ⟨F, 0, none⟩)]

/-- What the order is reckoned from lies in memory. -/
def FarAt (w : World) (F gf N : Nat) (st : Nat → Int) : Prop := w.cell? ⟨F, 0, none⟩ = some (.slice (some ⟨gf, 0, none⟩) N N) ∧ w.rowIs gf 3 N (intV st)

/-- By the least cost that a path through a spot can have. -/
def keyM (st : Nat → Int) (p : Spot) : Int := (p.2 : Int) + st p.1

set_option maxRecDepth 100000 in
set_option maxHeartbeats 2000000 in
theorem less_any (F gf N : Nat) (st : Nat → Int) (p q : Spot) (w : World) (hf : FarAt w F gf N st) (hst : ∀ x, x < N → -1 ≤ st x ∧ st x ≤ 1000) (hp : p.1 < N) (hq : q.1 < N) (hp2 : p.2 ≤ 100000) (hq2 : q.2 ≤ 100000) :
    Calls Tryd.prog 154 #[.agg #[.int .i64 (p.1 : Nat), .int .i64 (p.2 : Nat)], .agg #[.int .i64 (q.1 : Nat), .int .i64 (q.2 : Nat)], .pointer (some ⟨F, 0, none⟩)] w fun e w' =>
      e = .returned (.bool (decide (keyM st p < keyM st q))) ∧ Below w.heap.size w w' := by
  obtain ⟨hF, hR⟩ := hf
  obtain ⟨c1, t1⟩ := p
  obtain ⟨c2, t2⟩ := q
  dsimp only at hp hq hp2 hq2 ⊢
  have x1 := hR.cell (i := c1) hp
  have x2 := hR.cell (i := c2) hq
  have hFl : F < w.heap.size := World.block_lt_of_cell? _ _ hF
  have hgl := hR.lt
  obtain ⟨s1, hs1⟩ : ∃ x, x = st c1 := ⟨_, rfl⟩
  obtain ⟨s2, hs2⟩ : ∃ x, x = st c2 := ⟨_, rfl⟩
  have b1 := hst c1 hp
  have b2 := hst c2 hq
  rw [show intV st c1 = Value.int .i64 (st c1) from rfl, ← hs1] at x1
  rw [show intV st c2 = Value.int .i64 (st c2) from rfl, ← hs2] at x2
  rw [← hs1] at b1
  rw [← hs2] at b2
  have KEY : Hid (decide (keyM st (c1, t1) < keyM st (c2, t2)) = decide ((t1 : Int) + s1 < (t2 : Int) + s2)) := by unfold Hid keyM; rw [hs1, hs2]
  clear hs1 hs2 hR hst
  have i1 : (c1 : Int) < (N : Int) := by omega
  have i2 : (c2 : Int) < (N : Int) := by omega
  have v1 : IntKind.i64.wrap ((t1 : Int) + s1) = (t1 : Int) + s1 := by rw [IntKind.wrap_i64]; omega
  have v2 : IntKind.i64.wrap ((t2 : Int) + s2) = (t2 : Int) + s2 := by rw [IntKind.wrap_i64]; omega
  go_enter Tryd.func154, Tryd.ntmps154
  go_wp2
  go_quiet (fail)
  go_wp2
  go_ret
  exact ⟨ret_bool KEY.out.symm, below_drewN (((Below.refl _ _).alloc (Nat.le_refl _) _).alloc (by simp) _) _⟩

end Go.Proofs.YtnkgpinadgacgaaDoor

/- Walk of swap: two places of a heap's row change their spots. -/
namespace Go.Proofs.YtnkgpinadgacgaaDoor
open Go.RowKit M

/-- The heap's own two cells. -/
def HeapAt (w : World) (H F : Nat) (v : Value) : Prop := w.heap[H]? = some (.cells #[lessV F, v] 229 (0, 0))

theorem HeapAt.block {w w' : World} {H F : Nat} {v : Value} (h : HeapAt w H F v) (e : w'.heap[H]? = w.heap[H]?) : HeapAt w' H F v := e.trans h
theorem HeapAt.lt {w : World} {H F : Nat} {v : Value} (h : HeapAt w H F v) : H < w.heap.size := (Array.getElem?_eq_some_iff.1 h).1
theorem HeapAt.c0 {w : World} {H F : Nat} {v : Value} (h : HeapAt w H F v) : w.cell? ⟨H, 0, none⟩ = some (lessV F) := by
  unfold HeapAt at h; simp [World.cell?, h]
theorem HeapAt.c1 {w : World} {H F : Nat} {v : Value} (h : HeapAt w H F v) : w.cell? ⟨H, 1, none⟩ = some v := by
  unfold HeapAt at h; simp [World.cell?, h]
theorem HeapAt.fz {w : World} {H F : Nat} {v : Value} (h : HeapAt w H F v) (o : Nat) : w.frozen? ⟨H, o, none⟩ = false := by
  unfold HeapAt at h; simp [World.frozen?, h]

theorem heap_apart {w : World} {H F G cap n : Nat} {v : Value} {it : Nat → Spot} (h : HeapAt w H F v) (h' : ItemsIn w G cap n it) : H ≠ G := by
  intro e; subst e
  unfold HeapAt at h
  obtain ⟨cur, h1, _⟩ := h'
  rw [h1] at h
  simp at h

set_option maxRecDepth 1000000 in
set_option maxHeartbeats 8000000 in
theorem swap_any (H F G cap n i j : Nat) (it : Nat → Spot) (w : World) (hh : HeapAt w H F (.slice (some ⟨G, 0, none⟩) n cap)) (hit : ItemsIn w G cap n it) (hi : i < n) (hj : j < n) (hij : i ≠ j) :
    Calls Tryd.prog 212 #[.pointer (some ⟨H, 0, none⟩), .int .i64 i, .int .i64 j] w fun e w' =>
      e = .returned (.tuple #[]) ∧ ItemsIn w' G cap n (swapIt it i j) ∧ Only (fun k => k = G) w w' := by
  have x1 := hh.c1
  have hHl := hh.lt
  have hGl := hit.lt
  have HG := heap_apart hh hit
  have a0 := hit.c0 hi
  have a1 := hit.c1 hi
  have b0 := hit.c0 hj
  have b1 := hit.c1 hj
  have fz := hit.fz
  have HIT := Hid.mk hit
  obtain ⟨ic, hic⟩ : ∃ x, x = (it i).1 := ⟨_, rfl⟩
  obtain ⟨ia, hia⟩ : ∃ x, x = (it i).2 := ⟨_, rfl⟩
  obtain ⟨jc, hjc⟩ : ∃ x, x = (it j).1 := ⟨_, rfl⟩
  obtain ⟨ja, hja⟩ : ∃ x, x = (it j).2 := ⟨_, rfl⟩
  rw [← hic] at a0
  rw [← hia] at a1
  rw [← hjc] at b0
  rw [← hja] at b1
  have FI : Hid (it i = (ic, ia)) := by unfold Hid; rw [hic, hia]
  have FJ : Hid (it j = (jc, ja)) := by unfold Hid; rw [hjc, hja]
  have i1 : (i : Int) < (n : Int) := by omega
  have j1 : (j : Int) < (n : Int) := by omega
  have e1 : ¬ i * 2 = j * 2 := by omega
  have e2 : ¬ i * 2 + 1 = j * 2 := by omega
  have e3 : ¬ i * 2 = j * 2 + 1 := by omega
  have e4 : ¬ i * 2 + 1 = j * 2 + 1 := by omega
  have e5 : ¬ j * 2 = i * 2 := by omega
  have e6 : ¬ j * 2 = i * 2 + 1 := by omega
  have e7 : ¬ j * 2 + 1 = i * 2 := by omega
  have W0 : ItemsIn ((((w.setCell ⟨G, i * 2, none⟩ (.int .i64 (jc : Int))).setCell ⟨G, i * 2 + 1, none⟩ (.int .i64 (ja : Int))).setCell ⟨G, j * 2, none⟩ (.int .i64 (ic : Int))).setCell ⟨G, j * 2 + 1, none⟩ (.int .i64 (ia : Int))) G cap n (fun k => if k = j then (ic, ia) else if k = i then (jc, ja) else it k) :=
    (hit.put i (jc, ja)).put j (ic, ia)
  have W1 : Hid (ItemsIn (((((w.setCell ⟨G, i * 2, none⟩ (.int .i64 (jc : Int))).setCell ⟨G, i * 2 + 1, none⟩ (.int .i64 (ja : Int))).setCell ⟨G, j * 2, none⟩ (.int .i64 (ic : Int))).setCell ⟨G, j * 2 + 1, none⟩ (.int .i64 (ia : Int))).drew) G cap n (swapIt it i j)) := by
    refine (W0.same fun k _ => ?_).drew
    unfold swapIt
    by_cases k1 : k = i
    · have k3 : ¬ k = j := by omega
      rw [if_neg k3, if_pos k1, if_pos k1, FJ.out]
    · rw [if_neg k1, if_neg k1]
      by_cases k2 : k = j
      · rw [if_pos k2, if_pos k2, FI.out]
      · rw [if_neg k2, if_neg k2]
  have W2 : Hid (Only (fun k => k = G) w (((((w.setCell ⟨G, i * 2, none⟩ (.int .i64 (jc : Int))).setCell ⟨G, i * 2 + 1, none⟩ (.int .i64 (ja : Int))).setCell ⟨G, j * 2, none⟩ (.int .i64 (ic : Int))).setCell ⟨G, j * 2 + 1, none⟩ (.int .i64 (ia : Int))).drew)) := by
    have O0 : Only (fun k => k = G) w w := Only.refl _ w
    exact ((((O0.setCell (p := ⟨G, i * 2, none⟩) (fun _ => rfl) _).setCell (p := ⟨G, i * 2 + 1, none⟩) (fun _ => rfl) _).setCell (p := ⟨G, j * 2, none⟩) (fun _ => rfl) _).setCell (p := ⟨G, j * 2 + 1, none⟩) (fun _ => rfl) _).drew
  clear W0
  clear hh hit hic hia hjc hja
  go_enter Tryd.func212, Tryd.ntmps212
  go_wp2
  go_region
  go_end0
  exact ⟨rfl, W1.out, W2.out⟩

end Go.Proofs.YtnkgpinadgacgaaDoor

/- Walk of rise: one rises in the heap till its parent is no further back. -/
namespace Go.Proofs.YtnkgpinadgacgaaDoor
open Go.RowKit M

theorem far_apart {w : World} {F gf N G cap n : Nat} {st : Nat → Int} {it : Nat → Spot} (h : FarAt w F gf N st) (h' : ItemsIn w G cap n it) (hn : 0 < n) : F ≠ G ∧ gf ≠ G := by
  obtain ⟨hF, hR⟩ := h
  refine ⟨fun e => ?_, fun e => ?_⟩
  · subst e
    have := h'.c0 hn
    rw [Nat.zero_mul, hF] at this
    cases this
  · subst e
    obtain ⟨c, h1, _⟩ := hR
    obtain ⟨cur, h2, _⟩ := h'
    rw [h1] at h2
    simp at h2

theorem FarAt.only {w w' : World} {F gf N : Nat} {st : Nat → Int} {S : Nat → Prop} (h : FarAt w F gf N st) (ho : Only S w w') (h1 : ¬ S F) (h2 : ¬ S gf) : FarAt w' F gf N st := by
  obtain ⟨hF, hR⟩ := h
  exact ⟨(ho.cell (p := ⟨F, 0, none⟩) (World.block_lt_of_cell? _ _ hF) h1).trans hF, hR.of_block (ho.block _ hR.lt h2)⟩

theorem FarAt.lt {w : World} {F gf N : Nat} {st : Nat → Int} (h : FarAt w F gf N st) : F < w.heap.size ∧ gf < w.heap.size := ⟨World.block_lt_of_cell? _ _ h.1, h.2.lt⟩

/-- What a heap's spots are. -/
def Fine (N n : Nat) (it : Nat → Spot) : Prop := ∀ p, Mem n it p → p.1 < N ∧ p.2 ≤ 100000

set_option maxRecDepth 1000000 in
set_option maxHeartbeats 8000000 in
theorem rise_any (H F gf G cap n N a : Nat) (it : Nat → Spot) (st : Nat → Int) (w : World) (hh : HeapAt w H F (.slice (some ⟨G, 0, none⟩) n cap)) (hit : ItemsIn w G cap n it) (hf : FarAt w F gf N st) (hst : ∀ x, x < N → -1 ≤ st x ∧ st x ≤ 1000) (hfine : Fine N n it) (han : a < n) (hn : n ≤ 1000000) (hup : Up (keyM st) n it a) :
    Calls Tryd.prog 195 #[.pointer (some ⟨H, 0, none⟩), .int .i64 a] w fun e w' =>
      e = .returned (.tuple #[]) ∧ ∃ it', Ord (keyM st) n it' ∧ (∀ p, Mem n it' p ↔ Mem n it p) ∧ ItemsIn w' G cap n it' ∧ Only (fun k => k = G) w w' := by
  have HH := Hid.mk hh
  have HF := Hid.mk hf
  have HST := Hid.mk hst
  have HFN := Hid.mk hfine
  have NE := Hid.mk (heap_apart hh hit)
  have NF := Hid.mk (far_apart hf hit (by omega))
  have hHl := hh.lt
  have IT := Hid.mk hit
  have UP := Hid.mk hup
  clear hh hf hst hfine hit hup
  go_enter Tryd.func195, Tryd.ntmps195
  go_wp2
  go_loopw [1] (fun s wr => ∃ (b : Nat) (it' : Nat → Spot), s = .int .i64 b ∧ b < n ∧ Up (keyM st) n it' b ∧ (∀ p, Mem n it' p ↔ Mem n it p) ∧ ItemsIn wr G cap n it' ∧ Only (fun k => k = G) w wr) (fun s _ => (intOf s).toNat)
  case atStart => exact ⟨a, it, rfl, han, UP.out, fun _ => Iff.rfl, IT.out, Only.refl _ _⟩
  case round =>
    obtain ⟨b, it', rfl, hb, hup, hmem, hit, honly⟩ := hrel
    have UP' := Hid.mk hup
    have ME := Hid.mk hmem
    have IT' := Hid.mk hit
    have HO := Hid.mk honly
    have hz := honly.size
    have HHr := Hid.mk (HH.out.block (honly.block _ hHl NE.out))
    have HFr := Hid.mk (HF.out.only honly NF.out.1 NF.out.2)
    clear hup hmem hit honly
    by_cases h0 : 0 < b
    · obtain ⟨p, hp⟩ : ∃ p, p = (b - 1) / 2 := ⟨_, rfl⟩
      have hpb : p < b := by omega
      have d0 : ((b : Int) - 1) / 2 = (p : Int) := by omega
      have HP := Hid.mk hp
      have x0 := HHr.out.c0
      have x1 := HHr.out.c1
      have a0 := IT'.out.c0 hb
      have a1 := IT'.out.c1 hb
      have p0 := IT'.out.c0 (i := p) (by omega)
      have p1 := IT'.out.c1 (i := p) (by omega)
      have f1 := HFN.out _ ((ME.out _).1 ⟨b, hb, rfl⟩)
      have f2 := HFN.out _ ((ME.out _).1 ⟨p, by omega, rfl⟩)
      have b1 : (b : Int) < (n : Int) := by omega
      have p2 : (p : Int) < (n : Int) := by omega
      have hzH : H < wr.heap.size := by omega
      have hzG : G < wr.heap.size := IT'.out.lt
      unfold lessV at x0
      clear hp
      go_wp2_with fail
      go_region_held3 (fun w' => w'.cell? ⟨H, 0, none⟩ = some (.func (.func 154) #[] #[.pointer (some ⟨F, 0, none⟩)]) ∧ w'.cell? ⟨H, 1, none⟩ = some (.slice (some ⟨G, 0, none⟩) n cap) ∧ w'.cell? ⟨G, b * 2, none⟩ = some (.int .i64 ((it' b).1 : Nat)) ∧ w'.cell? ⟨G, b * 2 + 1, none⟩ = some (.int .i64 ((it' b).2 : Nat)) ∧ w'.cell? ⟨G, p * 2, none⟩ = some (.int .i64 ((it' p).1 : Nat)) ∧ w'.cell? ⟨G, p * 2 + 1, none⟩ = some (.int .i64 ((it' p).2 : Nat))) (go_keep)
        (first
          | (go_at_call 154; refine (less_any F gf N st (it' b) (it' p) _ (by exact HFr.out) HST.out f1.1 f2.1 f1.2 f2.2).mono ?_; rintro e w4 ⟨rfl, hb4⟩; have q0 : w4.cell? ⟨H, 0, none⟩ = some (.func (.func 154) #[] #[.pointer (some ⟨F, 0, none⟩)]) := (hb4.cell (p := ⟨H, 0, none⟩) hzH).trans x0; have q1 : w4.cell? ⟨H, 1, none⟩ = some (.slice (some ⟨G, 0, none⟩) n cap) := (hb4.cell (p := ⟨H, 1, none⟩) hzH).trans x1; have q2 : w4.cell? ⟨G, b * 2, none⟩ = some (.int .i64 ((it' b).1 : Nat)) := (hb4.cell (p := ⟨G, b * 2, none⟩) hzG).trans a0; have q3 : w4.cell? ⟨G, b * 2 + 1, none⟩ = some (.int .i64 ((it' b).2 : Nat)) := (hb4.cell (p := ⟨G, b * 2 + 1, none⟩) hzG).trans a1; have q4 : w4.cell? ⟨G, p * 2, none⟩ = some (.int .i64 ((it' p).1 : Nat)) := (hb4.cell (p := ⟨G, p * 2, none⟩) hzG).trans p0; have q5 : w4.cell? ⟨G, p * 2 + 1, none⟩ = some (.int .i64 ((it' p).2 : Nat)) := (hb4.cell (p := ⟨G, p * 2 + 1, none⟩) hzG).trans p1))
      have HO4 : Hid (Only (fun k => k = G) w w4) := HO.out.drew.trans (Only.of_below hb4 : Only (fun _ => False) wr.drew w4) (fun _ _ e => e.elim)
      have IT4 := Hid.mk (IT'.out.drew.block (hb4.block _ hzG))
      have HH4 := Hid.mk (HH.out.block (HO4.out.block _ hHl NE.out))
      obtain ⟨g, hg⟩ : ∃ g, g = decide (keyM st (it' b) < keyM st (it' p)) := ⟨_, rfl⟩
      rw [← hg]
      have HG := Hid.mk hg
      clear hb4 q0 q1 q2 q3 q4 q5 x0 x1 a0 a1 p0 p1 hg
      cases g
      · go_wp2
        refine bodyPost_ret (results_none Tryd.results195 _ _ _) rfl ?_
        refine ⟨rfl, it', up_done UP'.out (Or.inr ?_), ME.out, IT4.out, HO4.out⟩
        rw [← HP.out]
        have := HG.out
        simpa using this
      · go_wp2_with fail
        refine (swap_any H F G cap n b p it' _ HH4.out IT4.out hb (by omega) (by omega)).mono ?_
        rintro e w5 ⟨rfl, hi5, ho5⟩
        have IT5 := Hid.mk hi5
        have HO5 : Hid (Only (fun k => k = G) w w5) := HO4.out.trans ho5 (fun _ _ e => e)
        clear hi5 ho5
        go_wp2
        go_roundw
        case rel =>
          refine ⟨p, swapIt it' b p, rfl, by omega, ?_, fun q => (mem_swap hb (by omega)).trans (ME.out q), IT5.out, HO5.out⟩
          have := HG.out
          rw [HP.out]
          refine up_step UP'.out h0 hb ?_
          rw [← HP.out]
          simpa using this.symm
        case measure => simp [intOf]; omega
    · have e0 : b = 0 := by omega
      subst e0
      go_wp2
      go_end0
      exact ⟨rfl, it', up_done UP'.out (Or.inl rfl), ME.out, IT'.out, HO.out⟩

end Go.Proofs.YtnkgpinadgacgaaDoor

/- Walk of sink: one sinks in the heap till no child is ahead of it. -/
namespace Go.Proofs.YtnkgpinadgacgaaDoor
open Go.RowKit M

set_option maxRecDepth 1000000 in
set_option maxHeartbeats 8000000 in
theorem sink_any (H F gf G cap n N a : Nat) (it : Nat → Spot) (st : Nat → Int) (w : World) (hh : HeapAt w H F (.slice (some ⟨G, 0, none⟩) n cap)) (hit : ItemsIn w G cap n it) (hf : FarAt w F gf N st) (hst : ∀ x, x < N → -1 ≤ st x ∧ st x ≤ 1000) (hfine : Fine N n it) (han : a ≤ n) (hn : n ≤ 1000000) (hdn : Down (keyM st) n it a) :
    Calls Tryd.prog 196 #[.pointer (some ⟨H, 0, none⟩), .int .i64 a] w fun e w' =>
      e = .returned (.tuple #[]) ∧ ∃ it', Ord (keyM st) n it' ∧ (∀ p, Mem n it' p ↔ Mem n it p) ∧ ItemsIn w' G cap n it' ∧ Only (fun k => k = G) w w' := by
  have HH := Hid.mk hh
  have HF := Hid.mk hf
  have HST := Hid.mk hst
  have HFN := Hid.mk hfine
  have NE := Hid.mk (heap_apart hh hit)
  have NF : Hid (0 < n → F ≠ G ∧ gf ≠ G) := fun h => far_apart hf hit h
  have hHl := hh.lt
  have IT := Hid.mk hit
  have DN := Hid.mk hdn
  clear hh hf hst hfine hit hdn
  go_enter Tryd.func196, Tryd.ntmps196
  go_wp2
  go_loopw [1] (fun s wr => ∃ (b : Nat) (it' : Nat → Spot), s = .int .i64 b ∧ b ≤ n ∧ Down (keyM st) n it' b ∧ (∀ p, Mem n it' p ↔ Mem n it p) ∧ ItemsIn wr G cap n it' ∧ Only (fun k => k = G) w wr) (fun s _ => n - (intOf s).toNat)
  case atStart => exact ⟨a, it, rfl, han, DN.out, fun _ => Iff.rfl, IT.out, Only.refl _ _⟩
  case round =>
    obtain ⟨wo, rfl⟩ : ∃ x, x = wr := ⟨_, rfl⟩
    obtain ⟨b, it', rfl, hb, hdn, hmem, hit, honly⟩ := hrel
    have DN' := Hid.mk hdn
    have ME := Hid.mk hmem
    have IT' := Hid.mk hit
    have HO := Hid.mk honly
    have hz := honly.size
    have HHr := Hid.mk (HH.out.block (honly.block _ hHl NE.out))
    have hzH : H < wo.heap.size := by omega
    have hzG : G < wo.heap.size := IT'.out.lt
    clear hdn hmem hit honly
    go_wp2
    go_loopw [4, 5] (fun v s wr => ∃ f ch : Nat, v = .int .i64 f ∧ s = .int .i64 ch ∧ 2 * b + 1 ≤ ch ∧ ch ≤ 2 * b + 3 ∧ (f = b ∨ (2 * b + 1 ≤ f ∧ f < ch ∧ f < n ∧ keyM st (it' f) < keyM st (it' b))) ∧ (∀ i, 2 * b + 1 ≤ i → i < ch → i < n → keyM st (it' f) ≤ keyM st (it' i)) ∧ Below wo.heap.size wo wr) (fun _ s _ => 2 * b + 3 - (intOf s).toNat)
    case atStart => exact ⟨b, 2 * b + 1, rfl, by go_num, by omega, by omega, Or.inl rfl, fun i h1 h2 => by omega, Below.refl _ _⟩
    case round =>
      obtain ⟨f, ch, rfl, rfl, hc1, hc2, hf0, hmin, hbr⟩ := hrel
      have HFC := Hid.mk hf0
      have MIN := Hid.mk hmin
      have HB := Hid.mk hbr
      have x1 := (HHr.out.block (hbr.block _ hzH)).c1
      have hzr := hbr.size
      clear hf0 hmin hbr
      by_cases t1 : ch ≤ 2 * b + 2
      · by_cases t2 : ch < n
        · have hfn : f < n := by rcases HFC.out with e | e <;> omega
          have ITr := Hid.mk (IT'.out.block (HB.out.block _ hzG))
          have HFr := Hid.mk ((HF.out.only HO.out (NF.out (by omega)).1 (NF.out (by omega)).2).only (Only.of_below HB.out : Only (fun _ => False) wo wr) (fun e => e) (fun e => e))
          have x0 := (HHr.out.block (HB.out.block _ hzH)).c0
          unfold lessV at x0
          have a0 := ITr.out.c0 t2
          have a1 := ITr.out.c1 t2
          have p0 := ITr.out.c0 hfn
          have p1 := ITr.out.c1 hfn
          have f1 := HFN.out _ ((ME.out _).1 ⟨ch, t2, rfl⟩)
          have f2 := HFN.out _ ((ME.out _).1 ⟨f, hfn, rfl⟩)
          have b1 : (ch : Int) < (n : Int) := by omega
          have b2 : (f : Int) < (n : Int) := by omega
          have b3 : (ch : Int) ≤ 2 * (b : Int) + 2 := by omega
          have hzH2 : H < wr.heap.size := by omega
          have hzG2 : G < wr.heap.size := by omega
          go_wp2_with fail
          go_region_held3 (fun w' => w'.cell? ⟨H, 0, none⟩ = some (.func (.func 154) #[] #[.pointer (some ⟨F, 0, none⟩)]) ∧ w'.cell? ⟨H, 1, none⟩ = some (.slice (some ⟨G, 0, none⟩) n cap) ∧ w'.cell? ⟨G, ch * 2, none⟩ = some (.int .i64 ((it' ch).1 : Nat)) ∧ w'.cell? ⟨G, ch * 2 + 1, none⟩ = some (.int .i64 ((it' ch).2 : Nat)) ∧ w'.cell? ⟨G, f * 2, none⟩ = some (.int .i64 ((it' f).1 : Nat)) ∧ w'.cell? ⟨G, f * 2 + 1, none⟩ = some (.int .i64 ((it' f).2 : Nat))) (go_keep)
            (first
              | (go_at_call 154; refine (less_any F gf N st (it' ch) (it' f) _ (by exact HFr.out) HST.out f1.1 f2.1 f1.2 f2.2).mono ?_; rintro e w4 ⟨rfl, hb4⟩; have q0 : w4.cell? ⟨H, 0, none⟩ = some (.func (.func 154) #[] #[.pointer (some ⟨F, 0, none⟩)]) := (hb4.cell (p := ⟨H, 0, none⟩) hzH2).trans x0; have q1 : w4.cell? ⟨H, 1, none⟩ = some (.slice (some ⟨G, 0, none⟩) n cap) := (hb4.cell (p := ⟨H, 1, none⟩) hzH2).trans x1; have q2 : w4.cell? ⟨G, ch * 2, none⟩ = some (.int .i64 ((it' ch).1 : Nat)) := (hb4.cell (p := ⟨G, ch * 2, none⟩) hzG2).trans a0; have q3 : w4.cell? ⟨G, ch * 2 + 1, none⟩ = some (.int .i64 ((it' ch).2 : Nat)) := (hb4.cell (p := ⟨G, ch * 2 + 1, none⟩) hzG2).trans a1; have q4 : w4.cell? ⟨G, f * 2, none⟩ = some (.int .i64 ((it' f).1 : Nat)) := (hb4.cell (p := ⟨G, f * 2, none⟩) hzG2).trans p0; have q5 : w4.cell? ⟨G, f * 2 + 1, none⟩ = some (.int .i64 ((it' f).2 : Nat)) := (hb4.cell (p := ⟨G, f * 2 + 1, none⟩) hzG2).trans p1))
          have HB4 : Hid (Below wo.heap.size wo w4) := HB.out.drew.trans (hb4.mono (by show wo.heap.size ≤ wr.heap.size; omega))
          obtain ⟨g, hg⟩ : ∃ g, g = decide (keyM st (it' ch) < keyM st (it' f)) := ⟨_, rfl⟩
          rw [← hg]
          have HG := Hid.mk hg
          clear hb4 q0 q1 q2 q3 q4 q5 x0 x1 a0 a1 p0 p1 hg
          cases g
          · go_wp2
            go_roundw
            case rel =>
              have hge : ¬ keyM st (it' ch) < keyM st (it' f) := by have := HG.out; simpa using this
              refine ⟨f, ch + 1, rfl, by go_num, by omega, by omega, ?_, fun i h1 h2 h3 => ?_, HB4.out⟩
              · rcases HFC.out with e | ⟨e1, e2, e3, e4⟩
                · exact Or.inl e
                · exact Or.inr ⟨e1, by omega, e3, e4⟩
              · by_cases e : i = ch
                · subst e; omega
                · exact MIN.out i h1 (by omega) h3
            case measure => simp [intOf]; omega
          · go_wp2
            go_roundw
            case rel =>
              have hlt : keyM st (it' ch) < keyM st (it' f) := by have := HG.out; simpa using this.symm
              refine ⟨ch, ch + 1, rfl, by go_num, by omega, by omega, Or.inr ⟨hc1, by omega, t2, ?_⟩, fun i h1 h2 h3 => ?_, HB4.out⟩
              · rcases HFC.out with e | ⟨e1, e2, e3, e4⟩
                · rw [e] at hlt; exact hlt
                · omega
              · by_cases e : i = ch
                · subst e; exact Int.le_refl _
                · have := MIN.out i h1 (by omega) h3
                  omega
            case measure => simp [intOf]; omega
        · have KIDS : Hid (∀ i, 0 < i → i < n → (i - 1) / 2 = b → keyM st (it' f) ≤ keyM st (it' i)) := fun i h1 h2 h3 => MIN.out i (by omega) (by omega) h2
          have ITr := Hid.mk (IT'.out.block (HB.out.block _ hzG))
          have HHf := Hid.mk (HHr.out.block (HB.out.block _ hzH))
          have HOr : Hid (Only (fun k => k = G) w wr) := HO.out.trans (Only.of_below HB.out : Only (fun _ => False) wo wr) (fun _ _ e => e.elim)
          by_cases q : ((f : Int) == (b : Int)) = true
          · have Q : Hid (f = b) := by have : (f : Int) = b := by simpa using q
                                       unfold Hid; omega
            go_wp2
            refine bodyPost_ret (results_none Tryd.results196 _ _ _) rfl ?_
            refine ⟨rfl, it', down_done DN'.out (fun i h1 h2 h3 => ?_), (by first | exact ME.out | exact fun a b => ME.out (a, b)), ITr.out, HOr.out⟩
            have := KIDS.out i h1 h2 h3
            rw [Q.out] at this; exact this
          · have q' : ((f : Int) == (b : Int)) = false := by simpa using q
            have Q : Hid (f ≠ b) := by have : ¬ (f : Int) = b := by simpa using q
                                       unfold Hid; omega
            clear q
            have hfx : 2 * b + 1 ≤ f ∧ f < ch ∧ f < n ∧ keyM st (it' f) < keyM st (it' b) := by
              rcases HFC.out with e | e
              · exact absurd e Q.out
              · exact e
            obtain ⟨y1, y2, y3, y4⟩ := hfx
            have Y4 := Hid.mk y4
            clear y4
            go_wp2_with fail
            refine (swap_any H F G cap n b f it' _ HHf.out ITr.out (by omega) y3 (by omega)).mono ?_
            rintro e w5 ⟨rfl, hi5, ho5⟩
            have IT5 := Hid.mk hi5
            have HO5 : Hid (Only (fun k => k = G) w w5) := HOr.out.trans ho5 (fun _ _ e => e)
            clear hi5 ho5 x1
            go_wp2
            go_roundw
            case rel => exact ⟨f, swapIt it' b f, rfl, by omega, down_step DN'.out (by omega) y3 (by omega) Y4.out KIDS.out, fun p => (mem_swap (by omega) y3).trans (ME.out p), IT5.out, HO5.out⟩
            case measure => simp [intOf]; omega
      · have t2 : ¬ ch ≤ 2 * b + 2 := t1
        have KIDS : Hid (∀ i, 0 < i → i < n → (i - 1) / 2 = b → keyM st (it' f) ≤ keyM st (it' i)) := fun i h1 h2 h3 => MIN.out i (by omega) (by omega) h2
        have ITr := Hid.mk (IT'.out.block (HB.out.block _ hzG))
        have HHf := Hid.mk (HHr.out.block (HB.out.block _ hzH))
        have HOr : Hid (Only (fun k => k = G) w wr) := HO.out.trans (Only.of_below HB.out : Only (fun _ => False) wo wr) (fun _ _ e => e.elim)
        by_cases q : ((f : Int) == (b : Int)) = true
        · have Q : Hid (f = b) := by have : (f : Int) = b := by simpa using q
                                     unfold Hid; omega
          go_wp2
          refine bodyPost_ret (results_none Tryd.results196 _ _ _) rfl ?_
          refine ⟨rfl, it', down_done DN'.out (fun i h1 h2 h3 => ?_), (by first | exact ME.out | exact fun a b => ME.out (a, b)), ITr.out, HOr.out⟩
          have := KIDS.out i h1 h2 h3
          rw [Q.out] at this; exact this
        · have q' : ((f : Int) == (b : Int)) = false := by simpa using q
          have Q : Hid (f ≠ b) := by have : ¬ (f : Int) = b := by simpa using q
                                     unfold Hid; omega
          clear q
          have hfx : 2 * b + 1 ≤ f ∧ f < ch ∧ f < n ∧ keyM st (it' f) < keyM st (it' b) := by
            rcases HFC.out with e | e
            · exact absurd e Q.out
            · exact e
          obtain ⟨y1, y2, y3, y4⟩ := hfx
          have Y4 := Hid.mk y4
          clear y4
          go_wp2_with fail
          refine (swap_any H F G cap n b f it' _ HHf.out ITr.out (by omega) y3 (by omega)).mono ?_
          rintro e w5 ⟨rfl, hi5, ho5⟩
          have IT5 := Hid.mk hi5
          have HO5 : Hid (Only (fun k => k = G) w w5) := HOr.out.trans ho5 (fun _ _ e => e)
          clear hi5 ho5 x1
          go_wp2
          go_roundw
          case rel => exact ⟨f, swapIt it' b f, rfl, by omega, down_step DN'.out (by omega) y3 (by omega) Y4.out KIDS.out, fun p => (mem_swap (by omega) y3).trans (ME.out p), IT5.out, HO5.out⟩
          case measure => simp [intOf]; omega

end Go.Proofs.YtnkgpinadgacgaaDoor
