/- Plain facts on lists of numbers in which none stands twice: the free cells; a list without its i-th. No program is named here. -/
import Derived.Test.YtaldfpoolajoiaaDoorMa
namespace Go.Proofs.YtaldfpoolajoiaaDoor.M

/-- No number stands twice. -/
def Inj (L : List Int) : Prop := ∀ j k, j < L.length → k < L.length → L.getD j 0 = L.getD k 0 → j = k

theorem inj_nil : Inj [] := fun _ _ h => absurd h (Nat.not_lt_zero _)

theorem getD_append_old {L : List Int} {x : Int} {j : Nat} (h : j < L.length) : (L ++ [x]).getD j 0 = L.getD j 0 := by
  simp [List.getD, List.getElem?_append_left h]

theorem getD_append_new {L : List Int} {x : Int} : (L ++ [x]).getD L.length 0 = x := by simp [List.getD]

theorem inj_push {L : List Int} {x : Int} (h : Inj L) (hx : ∀ j, j < L.length → L.getD j 0 ≠ x) : Inj (L ++ [x]) := by
  intro j k hj hk he
  simp only [List.length_append, List.length_cons, List.length_nil] at hj hk
  by_cases ej : j < L.length
  · by_cases ek : k < L.length
    · rw [getD_append_old ej, getD_append_old ek] at he
      exact h j k ej ek he
    · have : k = L.length := by omega
      subst this
      rw [getD_append_old ej, getD_append_new] at he
      exact absurd he (hx j ej)
  · have e1 : j = L.length := by omega
    subst e1
    by_cases ek : k < L.length
    · rw [getD_append_old ek, getD_append_new] at he
      exact absurd he.symm (hx k ek)
    · omega

/-- The free cells below k. -/
def freeTo (cs : ByteArray) : Nat → List Int
  | 0 => []
  | k + 1 => if freeB cs k then freeTo cs k ++ [(k : Int)] else freeTo cs k

theorem freeTo_at {cs : ByteArray} : ∀ {k j : Nat}, j < (freeTo cs k).length → ∃ c : Nat, c < k ∧ (freeTo cs k).getD j 0 = c ∧ freeB cs c = true
  | 0, j, h => by simp [freeTo] at h
  | k + 1, j, h => by
    by_cases e : freeB cs k = true
    · simp only [freeTo, if_pos e] at h ⊢
      simp only [List.length_append, List.length_cons, List.length_nil] at h
      by_cases ej : j < (freeTo cs k).length
      · obtain ⟨c, h1, h2, h3⟩ := freeTo_at (k := k) ej
        exact ⟨c, by omega, by rw [getD_append_old ej]; exact h2, h3⟩
      · have : j = (freeTo cs k).length := by omega
        subst this
        exact ⟨k, by omega, getD_append_new, e⟩
    · simp only [freeTo, if_neg e] at h ⊢
      obtain ⟨c, h1, h2, h3⟩ := freeTo_at (k := k) h
      exact ⟨c, by omega, h2, h3⟩

theorem freeTo_inj (cs : ByteArray) : ∀ k, Inj (freeTo cs k)
  | 0 => inj_nil
  | k + 1 => by
    by_cases e : freeB cs k = true
    · simp only [freeTo, if_pos e]
      refine inj_push (freeTo_inj cs k) fun j hj he => ?_
      obtain ⟨c, h1, h2, _⟩ := freeTo_at hj
      rw [h2] at he; omega
    · simp only [freeTo, if_neg e]; exact freeTo_inj cs k

theorem freeTo_len (cs : ByteArray) : ∀ k, (freeTo cs k).length ≤ k
  | 0 => Nat.le_refl 0
  | k + 1 => by
    have := freeTo_len cs k
    simp only [freeTo]
    split <;> simp <;> omega

theorem freeTo_pos {cs : ByteArray} (h : freeB cs 0 = true) : ∀ k, 0 < (freeTo cs (k + 1)).length
  | 0 => by simp [freeTo, h]
  | k + 1 => by
    have := freeTo_pos h k
    rw [freeTo]
    split
    · simp
    · exact this

/-- A list without its i-th, as far as k. -/
def woTo (L : List Int) (i : Nat) : Nat → List Int
  | 0 => []
  | k + 1 => if k = i then woTo L i k else woTo L i k ++ [L.getD k 0]

theorem woTo_at {L : List Int} {i : Nat} : ∀ {k j : Nat}, j < (woTo L i k).length → ∃ c : Nat, c < k ∧ c ≠ i ∧ (woTo L i k).getD j 0 = L.getD c 0
  | 0, j, h => by simp [woTo] at h
  | k + 1, j, h => by
    by_cases e : k = i
    · simp only [woTo, if_pos e] at h ⊢
      obtain ⟨c, h1, h2, h3⟩ := woTo_at (k := k) h
      exact ⟨c, by omega, h2, h3⟩
    · simp only [woTo, if_neg e] at h ⊢
      simp only [List.length_append, List.length_cons, List.length_nil] at h
      by_cases ej : j < (woTo L i k).length
      · obtain ⟨c, h1, h2, h3⟩ := woTo_at (k := k) ej
        exact ⟨c, by omega, h2, by rw [getD_append_old ej]; exact h3⟩
      · have : j = (woTo L i k).length := by omega
        subst this
        exact ⟨k, by omega, e, getD_append_new⟩

theorem woTo_inj {L : List Int} (h : Inj L) (i : Nat) : ∀ k, k ≤ L.length → Inj (woTo L i k)
  | 0, _ => inj_nil
  | k + 1, hk => by
    by_cases e : k = i
    · simp only [woTo, if_pos e]; exact woTo_inj h i k (by omega)
    · simp only [woTo, if_neg e]
      refine inj_push (woTo_inj h i k (by omega)) fun j hj he => ?_
      obtain ⟨c, h1, _, h3⟩ := woTo_at hj
      rw [h3] at he
      have := h c k (by omega) (by omega) he
      omega

theorem woTo_len (L : List Int) (i : Nat) : ∀ k, (woTo L i k).length = if i < k then k - 1 else k
  | 0 => by simp [woTo]
  | k + 1 => by
    have := woTo_len L i k
    simp only [woTo]
    by_cases e : k = i
    · rw [if_pos e, this]; subst e; simp
    · rw [if_neg e, List.length_append, this]
      by_cases e2 : i < k
      · rw [if_pos e2, if_pos (by omega)]; simp; omega
      · rw [if_neg e2, if_neg (by omega)]; simp

end Go.Proofs.YtaldfpoolajoiaaDoor.M
