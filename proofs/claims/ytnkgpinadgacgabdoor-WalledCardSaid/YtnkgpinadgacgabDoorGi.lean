/- Plain facts: a way of the search is a good plan; a good plan is a way of the search; where the last position is come to there is a way. No program is named here. -/
import Derived.Test.YtnkgpinadgacgabDoorGh
namespace Go.Proofs.YtnkgpinadgacgabDoor.SM
open HM BM M
section
variable {step : Nat → List Nat} {h : List Nat → Nat} {m : Nat} {fr tt : List Nat} {L : List (List Nat)} {adj : Nat → Nat → Prop}
theorem fit_apart {p q : List Nat} {k j : Nat} (h : fitB p q k = true) (hj : j < k) : q.getD k 0 ≠ q.getD j 0 ∧ ¬ (q.getD k 0 = p.getD j 0 ∧ q.getD j 0 = p.getD k 0) := by
  unfold fitB at h
  have h1 : anyB (fun j => clashB p q k j) k = false := by simpa using h
  have h2 : clashB p q k j = false := by
    cases e : clashB p q k j with
    | false => rfl
    | true =>
      rw [anyB_iff.2 ⟨j, hj, e⟩] at h1
      cases h1
  unfold clashB at h2
  simp only [Bool.or_eq_false_iff, Bool.and_eq_false_iff, beq_eq_false_iff_ne] at h2
  exact ⟨h2.1, fun hh => h2.2.elim (fun e => e hh.1) (fun e => e hh.2)⟩

theorem fit_of {p q : List Nat} {k : Nat} (h : ∀ j, j < k → q.getD k 0 ≠ q.getD j 0 ∧ ¬ (q.getD k 0 = p.getD j 0 ∧ q.getD j 0 = p.getD k 0)) : fitB p q k = true := by
  unfold fitB
  have h1 : anyB (fun j => clashB p q k j) k = false := by
    cases e : anyB (fun j => clashB p q k j) k with
    | false => rfl
    | true =>
      obtain ⟨j, hj, hc⟩ := anyB_iff.1 e
      obtain ⟨h2, h3⟩ := h j hj
      unfold clashB at hc
      simp only [Bool.or_eq_true, Bool.and_eq_true, beq_iff_eq] at hc
      rcases hc with hc | hc
      · exact absurd hc h2
      · exact absurd hc h3
  rw [h1]; rfl

theorem list_ext {α : Type} {d : α} {n : Nat} {a b : List α} (ha : a.length = n) (hb : b.length = n) (h : ∀ i, i < n → a.getD i d = b.getD i d) : a = b := by
  apply List.ext_getElem (by omega)
  intro i h1 h2
  have h3 := h i (by omega)
  simpa [List.getD_eq_getElem?_getD, h1, h2] using h3

/-- Where the last position is come to there is a way. -/
theorem come_way {nx : List Nat → List (List Nat)} (G : Gnd nx h m fr tt L) {S : List Nat → List Nat → Prop} (hS : ∀ p q, S p q → p ∈ nx q) : ∀ (n : Nat) (q : List Nat) (u : List Bool) (j K : Nat), q ∈ L → u.length = m → reachN S fr n q → BM.Way (E nx m L) j (s0 m tt) (q, u) K → ∃ j b K, BM.Way (E nx m L) j (s0 m tt) b K ∧ b.1 = fr
  | 0, q, u, j, K, _, _, hr, W => ⟨j, (q, u), K, W, hr⟩
  | n + 1, q, u, j, K, hq, hu, ⟨p, hp, hs⟩, W => by
    have h1 := hS p q hs
    have hpL := G.shut _ hq _ h1
    rcases Nat.eq_zero_or_pos (cntU (backU m q u p)) with e | e
    · obtain ⟨e1, e2⟩ := back_none (G.len _ hq) (G.len _ hpL) hu e
      rw [e1] at hp
      exact come_way G hS n q u j K hq hu hp W
    · exact come_way G hS n p (backU m q u p) (j + 1) (K + cntU (backU m q u p)) hpL (backU_len _ _ _ _) hp ⟨(q, u), K, _, W, ⟨⟨hq, hu⟩, h1, rfl, rfl, e⟩, rfl⟩

end
end Go.Proofs.YtnkgpinadgacgabDoor.SM
