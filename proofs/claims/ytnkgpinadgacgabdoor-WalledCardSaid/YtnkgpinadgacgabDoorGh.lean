/- Plain facts: the plan that the search's way tells is good and costs what the way costs; each good plan is such a way. No program is named here. -/
import Derived.Test.YtnkgpinadgacgabDoorGg
namespace Go.Proofs.YtnkgpinadgacgabDoor.SM
open HM BM M
def sumN (f : Nat → Nat) : Nat → Nat
  | 0 => 0
  | n + 1 => sumN f n + f n

theorem sumN_shift (f : Nat → Nat) : ∀ n : Nat, sumN f (n + 1) = f 0 + sumN (fun i => f (i + 1)) n
  | 0 => by simp [sumN]
  | n + 1 => by
    have := sumN_shift f n
    show sumN f (n + 1) + f (n + 1) = f 0 + (sumN (fun i => f (i + 1)) n + f (n + 1))
    omega

theorem cntU_sum : ∀ {m : Nat} {u : List Bool}, u.length = m → cntU u = sumN (fun i => if u.getD i false = true then 1 else 0) m
  | 0, u, h => by rw [List.eq_nil_of_length_eq_zero h]; rfl
  | m + 1, [], h => by simp at h
  | m + 1, b :: u, h => by
    have ih := cntU_sum (m := m) (u := u) (by simpa using h)
    rw [sumN_shift]
    unfold cntU at ih ⊢
    rw [List.count_cons, ih]
    cases b <;> simp [Nat.add_comm]

theorem cntU_rep (m : Nat) : cntU (List.replicate m false) = 0 := by
  unfold cntU
  rw [List.count_eq_zero]
  intro h
  have := List.eq_of_mem_replicate h
  cases this

/-- The way that the search keeps from a state to the end. -/
def wayF (seen : St → Option (Nat × St)) : Nat → St → List St
  | 0, x => [x]
  | f + 1, x => if 0 < costO (seen x) then x :: wayF seen f (nextO x (seen x)) else [x]

/-- Each state an instant ahead of the one behind it; the last is the end. -/
def Chain (nx : List Nat → List (List Nat)) (m : Nat) (tt : List Nat) : List St → Prop
  | [] => False
  | [y] => y = s0 m tt
  | y :: z :: r => z.1.length = m ∧ y.1 ∈ nx z.1 ∧ y.2 = backU m z.1 z.2 y.1 ∧ Chain nx m tt (z :: r)

def costW : List St → Nat
  | [] => 0
  | y :: r => cntU y.2 + costW r

/-- The cells of a cart along a way, until it has come to stay. -/
def pathL (i : Nat) : List St → List Nat
  | [] => []
  | y :: r => y.1.getD i 0 :: if y.2.getD i false = true then pathL i r else []

def planL (m : Nat) (W : List St) : List (List Nat) := (List.range m).map fun i => pathL i W

section
variable {nx : List Nat → List (List Nat)} {h : List Nat → Nat} {m : Nat} {fr tt : List Nat} {L : List (List Nat)}
/-- The search's way hangs together and costs no more than what the search tells. -/
theorem way_chain {s : Srch} {X : List St} (G : Gnd nx h m fr tt L) (R : Run nx h m fr tt L s X (fun _ _ => False)) : ∀ (f : Nat) (x : St) (g : Nat), (s.seen x).map (·.1) = some g → g ≤ f →
    Chain nx m tt (wayF s.seen f x) ∧ costW (wayF s.seen f x) ≤ g ∧ (∃ j, BM.Way (E nx m L) j (s0 m tt) x (costW (wayF s.seen f x))) ∧ (wayF s.seen f x).head? = some x ∧ (wayF s.seen f x).length ≤ f + 1
  | 0, x, g, hx, hf => by
    have e0 : g = 0 := by omega
    subst e0
    have e := R.best.zero x hx
    refine ⟨e, ?_, ⟨0, ?_⟩, rfl, Nat.le_refl _⟩
    · simp [wayF, costW, e, s0, cntU_rep]
    · show BM.Way _ 0 _ x (cntU x.2 + 0)
      rw [e]
      exact ⟨rfl, by simp [s0, cntU_rep]⟩
  | f + 1, x, g, hx, hf => by
    have hc : costO (s.seen x) = g := by
      cases e : s.seen x with
      | none => rw [e] at hx; cases hx
      | some v => rw [e] at hx; simp at hx; exact hx
    simp only [wayF]
    by_cases e : 0 < costO (s.seen x)
    · rw [if_pos e]
      rcases R.best.back x g hx with e0 | ⟨g0, d, h1, h2, h3, h4⟩
      · omega
      · obtain ⟨y, hy⟩ : ∃ y, y = nextO x (s.seen x) := ⟨_, rfl⟩
        rw [← hy] at h1 h2 ⊢
        obtain ⟨c1, c2, ⟨j, c3⟩, c4, c5⟩ := way_chain G R f y g0 h1 (by omega)
        obtain ⟨W, hW⟩ : ∃ W, W = wayF s.seen f y := ⟨_, rfl⟩
        rw [← hW] at c1 c2 c3 c4 c5 ⊢
        obtain ⟨q1, q2, q3, q4, q5⟩ := h2
        match W, c4 with
        | z :: r, c4 =>
          simp only [List.head?_cons, Option.some.injEq] at c4
          subst c4
          refine ⟨⟨G.len _ q1.1, q2, q3, c1⟩, ?_, ⟨j + 1, z, _, d, c3, ⟨q1, q2, q3, q4, q5⟩, ?_⟩, rfl, ?_⟩
          · show cntU x.2 + costW (z :: r) ≤ g
            omega
          · show cntU x.2 + costW (z :: r) = _
            omega
          · simp only [List.length_cons] at c5 ⊢
            omega
    · rw [if_neg e]
      have e0 : g = 0 := by omega
      subst e0
      have e := R.best.zero x hx
      refine ⟨e, ?_, ⟨0, ?_⟩, rfl, by simp⟩
      · simp [costW, e, s0, cntU_rep]
      · show BM.Way _ 0 _ x (cntU x.2 + 0)
        rw [e]
        exact ⟨rfl, by simp [s0, cntU_rep]⟩

end
end Go.Proofs.YtnkgpinadgacgabDoor.SM
