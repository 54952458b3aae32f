/- Plain facts on the list of neighbours: each lies beside the cell, and each free cell beside it is listed. -/
import Derived.Test.YtaldfpoolajoiaaDoorWj
namespace Go.Proofs.YtaldfpoolajoiaaDoor
open M

theorem nbAt_mem {ro co c z : Int} : ∀ {j : Nat}, z ∈ nbAt ro co c j ↔ ∃ i, i < j ∧ rngB (c / co + drow i) 0 (ro - 1) = true ∧ rngB (c % co + dcol i) 0 (co - 1) = true ∧ z = (c / co + drow i) * co + (c % co + dcol i)
  | 0 => by simp [nbAt]
  | j + 1 => by
    simp only [nbAt, List.mem_append]
    rw [nbAt_mem (j := j)]
    constructor
    · rintro (⟨i, hi, h⟩ | h)
      · exact ⟨i, by omega, h⟩
      · by_cases e : (rngB (c / co + drow j) 0 (ro - 1) && rngB (c % co + dcol j) 0 (co - 1)) = true
        · rw [if_pos e] at h
          simp only [Bool.and_eq_true] at e
          exact ⟨j, by omega, e.1, e.2, by simpa using h⟩
        · rw [if_neg e] at h; cases h
    · rintro ⟨i, hi, h1, h2, h3⟩
      by_cases e : i = j
      · subst e
        exact Or.inr (by rw [if_pos (by simp [h1, h2])]; simp [h3])
      · exact Or.inl ⟨i, by omega, h1, h2, h3⟩

theorem divmod_of {co r k : Int} (h1 : 1 ≤ co) (h2 : co ≤ 6) (hk0 : 0 ≤ k) (hk1 : k ≤ co - 1) : (r * co + k) / co = r ∧ (r * co + k) % co = k := by
  have e : co = 1 ∨ co = 2 ∨ co = 3 ∨ co = 4 ∨ co = 5 ∨ co = 6 := by omega
  rcases e with e | e | e | e | e | e <;> subst e <;> omega

theorem row_lt {co ro a : Int} (h1 : 1 ≤ co) (h2 : co ≤ 6) (h0 : 0 ≤ a) (h3 : a < ro * co) : 0 ≤ a / co ∧ a / co ≤ ro - 1 ∧ 0 ≤ a % co ∧ a % co ≤ co - 1 ∧ a = (a / co) * co + a % co := by
  have e : co = 1 ∨ co = 2 ∨ co = 3 ∨ co = 4 ∨ co = 5 ∨ co = 6 := by omega
  rcases e with e | e | e | e | e | e <;> subst e <;> omega

/-- What is listed lies beside the cell. -/
theorem nb_near {ro co c z : Int} (h1 : 1 ≤ co) (h2 : co ≤ 6) (h : z ∈ nbAt ro co c 4) : nearM co c z = true := by
  obtain ⟨i, hi, hr, hk, rfl⟩ := nbAt_mem.1 h
  obtain ⟨k0, k1⟩ := rng_bd hk
  obtain ⟨d1, d2⟩ := divmod_of (r := c / co + drow i) h1 h2 k0 k1
  rw [near_iff, d1, d2]
  have e : i = 0 ∨ i = 1 ∨ i = 2 ∨ i = 3 := by omega
  rcases e with e | e | e | e <;> subst e <;> simp [drow, dcol] <;> omega

/-- What lies beside the cell is listed, but for the cell itself. -/
theorem nb_all {ro co c a : Int} (h1 : 1 ≤ co) (h2 : co ≤ 6) (hc0 : 0 ≤ c) (hc : c < ro * co) (h0 : 0 ≤ a) (h3 : a < ro * co) (hn : nearM co c a = true) (hne : a ≠ c) : a ∈ nbAt ro co c 4 := by
  obtain ⟨p1, p2, p3, p4, p5⟩ := row_lt h1 h2 h0 h3
  obtain ⟨q1, q2, q3, q4, q5⟩ := row_lt h1 h2 hc0 hc
  rw [nbAt_mem]
  rw [near_iff] at hn
  have go : ∀ i : Nat, i < 4 → c / co + drow i = a / co → c % co + dcol i = a % co → ∃ i, i < 4 ∧ rngB (c / co + drow i) 0 (ro - 1) = true ∧ rngB (c % co + dcol i) 0 (co - 1) = true ∧ a = (c / co + drow i) * co + (c % co + dcol i) := by
    intro i hi e1 e2
    exact ⟨i, hi, by rw [e1]; exact rng_in p1 p2, by rw [e2]; exact rng_in p3 p4, by rw [e1, e2]; exact p5⟩
  rcases hn with ⟨e1, e2, e3⟩ | ⟨e1, e2, e3⟩
  · have e4 : c % co - a % co = -1 ∨ c % co - a % co = 0 ∨ c % co - a % co = 1 := by omega
    rcases e4 with e4 | e4 | e4
    · exact go 3 (by omega) (by simp [drow]; omega) (by simp [dcol]; omega)
    · exact absurd (by rw [p5, q5, e1, show c % co = a % co by omega]) hne
    · exact go 2 (by omega) (by simp [drow]; omega) (by simp [dcol]; omega)
  · have e4 : c / co - a / co = -1 ∨ c / co - a / co = 0 ∨ c / co - a / co = 1 := by omega
    rcases e4 with e4 | e4 | e4
    · exact go 1 (by omega) (by simp [drow]; omega) (by simp [dcol]; omega)
    · exact absurd (by rw [p5, q5, e1, show c / co = a / co by omega]) hne
    · exact go 0 (by omega) (by simp [drow]; omega) (by simp [dcol]; omega)

theorem mem_at {L : List Int} {z : Int} (h : z ∈ L) : ∃ m, m < L.length ∧ L.getD m 0 = z := by
  obtain ⟨m, hm, he⟩ := List.mem_iff_getElem.1 h
  exact ⟨m, hm, by simp [List.getD, hm, he]⟩

theorem at_mem {L : List Int} {m : Nat} (h : m < L.length) : L.getD m 0 ∈ L := by
  simp [List.getD, h]

theorem ints_at' {L : List Int} {m : Nat} (h : m < L.length) : (ints L)[m]? = some (.int .i64 (L.getD m 0)) := by
  simp [ints, List.getD, h]

theorem ints_len (L : List Int) : (ints L).length = L.length := by simp [ints]

/-- A queue's cells as numbers. -/
def qi (q : List Nat) : List Int := q.map fun (x : Nat) => (x : Int)

theorem qi_at {q : List Nat} {m : Nat} (h : m < q.length) : (ints (qi q))[m]? = some (.int .i64 (q.getD m 0 : Nat)) := by
  simp [ints, qi, List.getD, h]

theorem qi_push (q : List Nat) (x : Nat) : ints (qi q) ++ [.int .i64 (x : Int)] = ints (qi (q ++ [x])) := by simp [ints, qi]

end Go.Proofs.YtaldfpoolajoiaaDoor
