/- Plain facts: how many positions there may be, by how many free cells there are. No program is named here. -/
import Derived.Test.YtnkgpinadgacgabDoorDg
namespace Go.Proofs.YtnkgpinadgacgabDoor.M
/-- f (f - 1) .. : k factors. -/
def fallF (f : Nat) : Nat → Nat
  | 0 => 1
  | k + 1 => fallF f k * (f - k)

/-- All lists of m different ones of A. -/
def injL (A : List Nat) : Nat → List (List Nat)
  | 0 => [[]]
  | m + 1 => (injL A m).flatMap fun q => (A.filter fun c => !q.contains c).map fun c => q ++ [c]

theorem injL_mem {A : List Nat} : ∀ {m : Nat} {q : List Nat}, q ∈ injL A m ↔ q.length = m ∧ q.Nodup ∧ ∀ c, c ∈ q → c ∈ A
  | 0, q => by
    simp only [injL, List.mem_singleton]
    constructor
    · intro h; subst h; exact ⟨rfl, List.nodup_nil, fun c hc => by cases hc⟩
    · intro h; exact List.eq_nil_of_length_eq_zero h.1
  | m + 1, q => by
    simp only [injL, List.mem_flatMap, List.mem_map, List.mem_filter]
    constructor
    · rintro ⟨q0, h0, c, ⟨hc, hn⟩, rfl⟩
      obtain ⟨h1, h2, h3⟩ := injL_mem.1 h0
      have hn : c ∉ q0 := by simpa using hn
      refine ⟨by simp [h1], List.nodup_append.2 ⟨h2, by simp, fun a ha b hb e => ?_⟩, fun z hz => ?_⟩
      · simp at hb; subst hb e; exact hn ha
      · rcases List.mem_append.1 hz with h | h
        · exact h3 z h
        · simp at h; subst h; exact hc
    · rintro ⟨h1, h2, h3⟩
      have hne : q ≠ [] := fun e => by rw [e] at h1; simp at h1
      have e := List.dropLast_concat_getLast hne
      have h4 := h2
      rw [← e] at h4
      obtain ⟨h5, _, h6⟩ := List.nodup_append.1 h4
      refine ⟨q.dropLast, injL_mem.2 ⟨by rw [List.length_dropLast]; omega, h5, fun c hc => h3 c (by rw [← e]; exact List.mem_append_left _ hc)⟩, q.getLast hne, ⟨h3 _ (List.getLast_mem hne), ?_⟩, e⟩
      have : q.getLast hne ∉ q.dropLast := fun hh => h6 _ hh _ (List.mem_singleton.2 rfl) rfl
      simpa using this

theorem filter_both (A : List Nat) (f : Nat → Bool) : (A.filter f).length + (A.filter fun c => !f c).length = A.length := by
  induction A with
  | nil => rfl
  | cons a A ih =>
    cases h : f a
    · rw [List.filter_cons_of_neg (by simp [h]), List.filter_cons_of_pos (by simp [h])]; simp only [List.length_cons]; omega
    · rw [List.filter_cons_of_pos h, List.filter_cons_of_neg (by simp [h])]; simp only [List.length_cons]; omega

theorem injL_len {A : List Nat} : ∀ m, (injL A m).length ≤ fallF A.length m
  | 0 => by simp [injL, fallF]
  | m + 1 => by
    have ih := injL_len (A := A) m
    have key : ∀ Q : List (List Nat), (∀ q, q ∈ Q → q.length = m ∧ q.Nodup ∧ ∀ c, c ∈ q → c ∈ A) → (Q.flatMap fun q => (A.filter fun c => !q.contains c).map fun c => q ++ [c]).length ≤ Q.length * (A.length - m) := by
      intro Q
      induction Q with
      | nil => intro _; simp
      | cons q Q ihQ =>
        intro h
        obtain ⟨h1, h2, h3⟩ := h q (by simp)
        have h4 := ihQ fun q' hq' => h q' (by simp [hq'])
        have h5 := filter_both A fun c => q.contains c
        have h6 : q.length ≤ (A.filter fun c => q.contains c).length := List.Nodup.length_le_of_subset h2 fun c hc => List.mem_filter.2 ⟨h3 c hc, by simpa using hc⟩
        simp only [List.flatMap_cons, List.length_append, List.length_map, List.length_cons]
        rw [Nat.add_mul, Nat.one_mul]
        omega
    have h2 := key (injL A m) fun q hq => injL_mem.1 hq
    show ((injL A m).flatMap fun q => (A.filter fun c => !q.contains c).map fun c => q ++ [c]).length ≤ fallF A.length m * (A.length - m)
    exact Nat.le_trans h2 (Nat.mul_le_mul ih (Nat.le_refl _))

theorem inj_few {A : List Nat} {m : Nat} {L : List (List Nat)} (hL : L.Nodup) (h : ∀ q, q ∈ L → q.length = m ∧ (∀ i, i < m → q.getD i 0 ∈ A) ∧ ∀ i k, i < m → k < m → i ≠ k → q.getD i 0 ≠ q.getD k 0) : L.length ≤ fallF A.length m := by
  refine Nat.le_trans (List.Nodup.length_le_of_subset hL fun q hq => ?_) (injL_len m)
  obtain ⟨h1, h2, h3⟩ := h q hq
  refine injL_mem.2 ⟨h1, ?_, fun c hc => ?_⟩
  · show List.Pairwise _ q
    rw [List.pairwise_iff_getElem]
    intro i k hi hk hik e
    have hne := h3 i k (by omega) (by omega) (by omega)
    rw [List.getD_eq_getElem?_getD, List.getD_eq_getElem?_getD, List.getElem?_eq_getElem hi, List.getElem?_eq_getElem hk] at hne
    exact hne e
  · obtain ⟨i, hi, rfl⟩ := List.mem_iff_getElem.1 hc
    have := h2 i (by omega)
    rw [List.getD_eq_getElem?_getD, List.getElem?_eq_getElem hi] at this
    exact this

end Go.Proofs.YtnkgpinadgacgabDoor.M
