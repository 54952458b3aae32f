/- Positions as numbers: digits by the base of how many free cells there are. Plain facts: no program is named here. -/
import Derived.Test.YtnkgpinadgacgaaDoorDa
namespace Go.Proofs.YtnkgpinadgacgaaDoor.M

/-- The number that has these digits, the first one the highest. -/
def horn (F : Nat) (D : List Nat) : Nat := D.foldl (fun n d => n * F + d) 0

theorem horn_nil (F : Nat) : horn F [] = 0 := rfl

theorem horn_snoc (F : Nat) (D : List Nat) (d : Nat) : horn F (D ++ [d]) = horn F D * F + d := by
  unfold horn
  rw [List.foldl_append]; rfl

/-- Each list of digits is empty, or has a last one. -/
theorem snoc_cases (D : List Nat) : D = [] ∨ ∃ E d, D = E ++ [d] := by
  by_cases h : D = []
  · exact .inl h
  · exact .inr ⟨D.dropLast, D.getLast h, (List.dropLast_concat_getLast h).symm⟩

theorem horn_lt {F : Nat} : ∀ (n : Nat) (D : List Nat), D.length = n → (∀ d, d ∈ D → d < F) → horn F D < F ^ n
  | 0, D, hn, _ => by
    have : D = [] := List.length_eq_zero_iff.1 hn
    subst this
    simp [horn]
  | n + 1, D, hn, h => by
    rcases snoc_cases D with rfl | ⟨E, d, rfl⟩
    · simp at hn
    · have ih := horn_lt n E (by simpa using hn) (fun x hx => h x (List.mem_append_left _ hx))
      have hd := h d (by simp)
      rw [horn_snoc, Nat.pow_succ]
      have h2 : (horn F E + 1) * F ≤ F ^ n * F := Nat.mul_le_mul ih (Nat.le_refl _)
      rw [Nat.add_mul, Nat.one_mul] at h2
      omega

theorem horn_mod {F : Nat} {D : List Nat} {d : Nat} (h : d < F) : horn F (D ++ [d]) % F = d ∧ horn F (D ++ [d]) / F = horn F D := by
  rw [horn_snoc]
  have hF : 0 < F := by omega
  refine ⟨?_, ?_⟩
  · rw [Nat.add_comm, Nat.add_mul_mod_self_right, Nat.mod_eq_of_lt h]
  · rw [Nat.add_comm, Nat.add_mul_div_right _ _ hF, Nat.div_eq_of_lt h, Nat.zero_add]

theorem horn_inj {F : Nat} : ∀ (n : Nat) (D E : List Nat), D.length = n → E.length = n → (∀ d, d ∈ D → d < F) → (∀ d, d ∈ E → d < F) → horn F D = horn F E → D = E
  | 0, D, E, hD, hE, _, _, _ => by
    rw [List.length_eq_zero_iff.1 hD, List.length_eq_zero_iff.1 hE]
  | n + 1, D, E, hD, hE, h1, h2, h => by
    rcases snoc_cases D with rfl | ⟨D', d, rfl⟩
    · simp at hD
    · rcases snoc_cases E with rfl | ⟨E', e, rfl⟩
      · simp at hE
      · have hd := h1 d (by simp)
        have he := h2 e (by simp)
        have m1 := horn_mod (D := D') hd
        have m2 := horn_mod (D := E') he
        rw [h] at m1
        have e1 : d = e := by rw [← m1.1, m2.1]
        have e2 : horn F D' = horn F E' := by rw [← m1.2, m2.2]
        rw [e1, horn_inj n D' E' (by simpa using hD) (by simpa using hE) (fun x hx => h1 x (List.mem_append_left _ hx)) (fun x hx => h2 x (List.mem_append_left _ hx)) e2]

/-! The free cells in order, and the number of each among them -/

/-- The free cells below k, in order. -/
def frees (f : Nat → Bool) (k : Nat) : List Nat := (List.range k).filter f

/-- How many free cells lie below one. -/
def rankOf (f : Nat → Bool) (c : Nat) : Nat := (frees f c).length

theorem frees_succ_in {f : Nat → Bool} {k : Nat} (h : f k = true) : frees f (k + 1) = frees f k ++ [k] := by
  unfold frees
  rw [List.range_succ, List.filter_append]
  simp [h]

theorem frees_succ_out {f : Nat → Bool} {k : Nat} (h : f k = false) : frees f (k + 1) = frees f k := by
  unfold frees
  rw [List.range_succ, List.filter_append]
  simp [h]

/-- The free cells below a greater number begin with those below a smaller one. -/
theorem frees_pre {f : Nat → Bool} {c : Nat} : ∀ (d : Nat), ∃ r, frees f (c + d) = frees f c ++ r
  | 0 => ⟨[], by simp⟩
  | d + 1 => by
    obtain ⟨r, hr⟩ := frees_pre (f := f) (c := c) d
    by_cases h : f (c + d) = true
    · exact ⟨r ++ [c + d], by rw [← Nat.add_assoc, frees_succ_in h, hr, List.append_assoc]⟩
    · exact ⟨r, by rw [← Nat.add_assoc, frees_succ_out (by simpa using h), hr]⟩

theorem rank_at {f : Nat → Bool} {c N : Nat} (hf : f c = true) (hc : c < N) : rankOf f c < (frees f N).length ∧ (frees f N)[rankOf f c]? = some c := by
  obtain ⟨r, hr⟩ := frees_pre (f := f) (c := c + 1) (N - (c + 1))
  rw [show c + 1 + (N - (c + 1)) = N by omega, frees_succ_in hf, List.append_assoc] at hr
  rw [hr]
  unfold rankOf
  refine ⟨by simp, ?_⟩
  rw [List.getElem?_append_right (Nat.le_refl _), Nat.sub_self]; rfl

theorem rank_inj {f : Nat → Bool} {a b N : Nat} (ha : f a = true) (hb : f b = true) (haN : a < N) (hbN : b < N) (h : rankOf f a = rankOf f b) : a = b := by
  have h1 := (rank_at ha haN).2
  have h2 := (rank_at hb hbN).2
  rw [h, h2] at h1
  exact (Option.some.inj h1).symm

theorem frees_mem {f : Nat → Bool} {N c : Nat} : c ∈ frees f N ↔ c < N ∧ f c = true := by
  unfold frees
  rw [List.mem_filter, List.mem_range]

/-- The number of a position. -/
def numOf (f : Nat → Bool) (N : Nat) (q : List Nat) : Nat := horn (frees f N).length (q.map (rankOf f))

theorem numOf_lt {f : Nat → Bool} {N : Nat} {q : List Nat} (h : ∀ c, c ∈ q → c < N ∧ f c = true) : numOf f N q < (frees f N).length ^ q.length := by
  refine horn_lt q.length _ (by simp) fun d hd => ?_
  obtain ⟨c, hc, rfl⟩ := List.mem_map.1 hd
  exact (rank_at (h c hc).2 (h c hc).1).1

theorem numOf_inj {f : Nat → Bool} {N : Nat} {p q : List Nat} (hl : p.length = q.length) (hp : ∀ c, c ∈ p → c < N ∧ f c = true) (hq : ∀ c, c ∈ q → c < N ∧ f c = true) (h : numOf f N p = numOf f N q) : p = q := by
  have e := horn_inj q.length _ _ (by simpa using hl) (by simp) (fun d hd => by
    obtain ⟨c, hc, rfl⟩ := List.mem_map.1 hd
    exact (rank_at (hp c hc).2 (hp c hc).1).1) (fun d hd => by
    obtain ⟨c, hc, rfl⟩ := List.mem_map.1 hd
    exact (rank_at (hq c hc).2 (hq c hc).1).1) h
  have hm : ∀ k : Nat, (p.map (rankOf f))[k]? = (q.map (rankOf f))[k]? := fun k => by rw [e]
  refine List.ext_getElem hl fun k h1 h2 => ?_
  have h3 := hm k
  rw [List.getElem?_map, List.getElem?_map, List.getElem?_eq_getElem h1, List.getElem?_eq_getElem h2] at h3
  simp at h3
  have a1 := hp _ (List.getElem_mem h1)
  have a2 := hq _ (List.getElem_mem h2)
  exact rank_inj a1.2 a2.2 a1.1 a2.1 h3

end Go.Proofs.YtnkgpinadgacgaaDoor.M
