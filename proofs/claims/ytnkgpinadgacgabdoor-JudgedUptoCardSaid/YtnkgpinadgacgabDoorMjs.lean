/- Several texts in one: Gh. -/
import Derived.Test.YtnkgpinadgacgabDoorMjr
namespace Go.Proofs.YtnkgpinadgacgabDoor.SM
open HM BM M
def sumN (f : Nat → Nat) : Nat → Nat
  | 0 => 0
  | n + 1 => sumN f n + f n

theorem sumN_same {f g : Nat → Nat} : ∀ {n : Nat}, (∀ i, i < n → f i = g i) → sumN f n = sumN g n
  | 0, _ => rfl
  | n + 1, h => by
    show sumN f n + f n = sumN g n + g n
    rw [sumN_same (fun i hi => h i (by omega)), h n (by omega)]

theorem sumN_add (f g : Nat → Nat) : ∀ n : Nat, sumN (fun i => f i + g i) n = sumN f n + sumN g n
  | 0 => rfl
  | n + 1 => by
    have := sumN_add f g n
    simp only [sumN]
    omega

theorem sumN_zero {f : Nat → Nat} {n : Nat} (h : ∀ i, i < n → f i = 0) : sumN f n = 0 := by
  induction n with
  | zero => rfl
  | succ n ih => simp only [sumN]; rw [ih (fun i hi => h i (by omega)), h n (by omega)]

theorem sumN_shift (f : Nat → Nat) : ∀ n : Nat, sumN f (n + 1) = f 0 + sumN (fun i => f (i + 1)) n
  | 0 => by simp [sumN]
  | n + 1 => by
    have := sumN_shift f n
    show sumN f (n + 1) + f (n + 1) = f 0 + (sumN (fun i => f (i + 1)) n + f (n + 1))
    omega

theorem cntU_sum : ∀ {m : Nat} {u : List Bool}, u.length = m → cntU u = sumN (fun i => if u.getD i false = true then 1 else 0) m
  | 0, u, h => by rw [List.eq_nil_of_length_eq_zero h]; rfl
  | m + 1, [], h => by simp at h
  | m + 1, b :: u, h => by
    have ih := cntU_sum (m := m) (u := u) (by simpa using h)
    rw [sumN_shift]
    unfold cntU at ih ⊢
    rw [List.count_cons, ih]
    cases b <;> simp [Nat.add_comm]

theorem cntU_rep (m : Nat) : cntU (List.replicate m false) = 0 := by
  unfold cntU
  rw [List.count_eq_zero]
  intro h
  have := List.eq_of_mem_replicate h
  cases this

/-- The way that the search keeps from a state to the end. -/
def wayF (seen : St → Option (Nat × St)) : Nat → St → List St
  | 0, x => [x]
  | f + 1, x => if 0 < costO (seen x) then x :: wayF seen f (nextO x (seen x)) else [x]

/-- Each state an instant ahead of the one behind it; the last is the end. -/
def Chain (nx : List Nat → List (List Nat)) (m : Nat) (tt : List Nat) : List St → Prop
  | [] => False
  | [y] => y = s0 m tt
  | y :: z :: r => z.1.length = m ∧ y.1 ∈ nx z.1 ∧ y.2 = backU m z.1 z.2 y.1 ∧ Chain nx m tt (z :: r)

def costW : List St → Nat
  | [] => 0
  | y :: r => cntU y.2 + costW r

/-- The cells of a cart along a way, until it has come to stay. -/
def pathL (i : Nat) : List St → List Nat
  | [] => []
  | y :: r => y.1.getD i 0 :: if y.2.getD i false = true then pathL i r else []

def planL (m : Nat) (W : List St) : List (List Nat) := (List.range m).map fun i => pathL i W

/-- Where a cart is at an instant, by its path. -/
def atT (ln : Nat → Nat) (pt : Nat → Nat → Nat) (i t : Nat) : Nat := pt i (if t < ln i then t else ln i - 1)

/-- A good plan: how long each path is, and its cells. -/
structure GoodP (m : Nat) (adj : Nat → Nat → Prop) (fr tt : Nat → Nat) (ln : Nat → Nat) (pt : Nat → Nat → Nat) : Prop where
  pos : ∀ i, i < m → 0 < ln i
  first : ∀ i, i < m → pt i 0 = fr i
  last : ∀ i, i < m → pt i (ln i - 1) = tt i
  wait : ∀ i, i < m → 1 < ln i → pt i (ln i - 2) ≠ tt i
  step : ∀ i, i < m → ∀ j, j + 1 < ln i → adj (pt i j) (pt i (j + 1))
  meet : ∀ i k, i < m → k < m → i ≠ k → ∀ t, atT ln pt i t ≠ atT ln pt k t
  swap : ∀ i k, i < m → k < m → i ≠ k → ∀ t, ¬ (atT ln pt i t = atT ln pt k (t + 1) ∧ atT ln pt k t = atT ln pt i (t + 1))

section
variable {nx : List Nat → List (List Nat)} {h : List Nat → Nat} {m : Nat} {fr tt : List Nat} {L : List (List Nat)}
/-- The search's way hangs together and costs no more than what the search tells. -/
theorem way_chain {s : Srch} {X : List St} (G : Gnd nx h m fr tt L) (R : Run nx h m fr tt L s X (fun _ _ => False)) : ∀ (f : Nat) (x : St) (g : Nat), (s.seen x).map (·.1) = some g → g ≤ f →
    Chain nx m tt (wayF s.seen f x) ∧ costW (wayF s.seen f x) ≤ g ∧ (∃ j, BM.Way (E nx m L) j (s0 m tt) x (costW (wayF s.seen f x))) ∧ (wayF s.seen f x).head? = some x ∧ (wayF s.seen f x).length ≤ f + 1
  | 0, x, g, hx, hf => by
    have e0 : g = 0 := by omega
    subst e0
    have e := R.best.zero x hx
    refine ⟨e, ?_, ⟨0, ?_⟩, rfl, Nat.le_refl _⟩
    · simp [wayF, costW, e, s0, cntU_rep]
    · show BM.Way _ 0 _ x (cntU x.2 + 0)
      rw [e]
      exact ⟨rfl, by simp [s0, cntU_rep]⟩
  | f + 1, x, g, hx, hf => by
    have hc : costO (s.seen x) = g := by
      cases e : s.seen x with
      | none => rw [e] at hx; cases hx
      | some v => rw [e] at hx; simp at hx; exact hx
    simp only [wayF]
    by_cases e : 0 < costO (s.seen x)
    · rw [if_pos e]
      rcases R.best.back x g hx with e0 | ⟨g0, d, h1, h2, h3, h4⟩
      · omega
      · obtain ⟨y, hy⟩ : ∃ y, y = nextO x (s.seen x) := ⟨_, rfl⟩
        rw [← hy] at h1 h2 ⊢
        obtain ⟨c1, c2, ⟨j, c3⟩, c4, c5⟩ := way_chain G R f y g0 h1 (by omega)
        obtain ⟨W, hW⟩ : ∃ W, W = wayF s.seen f y := ⟨_, rfl⟩
        rw [← hW] at c1 c2 c3 c4 c5 ⊢
        obtain ⟨q1, q2, q3, q4, q5⟩ := h2
        match W, c4 with
        | z :: r, c4 =>
          simp only [List.head?_cons, Option.some.injEq] at c4
          subst c4
          refine ⟨⟨G.len _ q1.1, q2, q3, c1⟩, ?_, ⟨j + 1, z, _, d, c3, ⟨q1, q2, q3, q4, q5⟩, ?_⟩, rfl, ?_⟩
          · show cntU x.2 + costW (z :: r) ≤ g
            omega
          · show cntU x.2 + costW (z :: r) = _
            omega
          · simp only [List.length_cons] at c5 ⊢
            omega
    · rw [if_neg e]
      have e0 : g = 0 := by omega
      subst e0
      have e := R.best.zero x hx
      refine ⟨e, ?_, ⟨0, ?_⟩, rfl, by simp⟩
      · simp [costW, e, s0, cntU_rep]
      · show BM.Way _ 0 _ x (cntU x.2 + 0)
        rw [e]
        exact ⟨rfl, by simp [s0, cntU_rep]⟩

theorem pathL_pos {i : Nat} {y : St} {r : List St} : 0 < (pathL i (y :: r)).length := by simp [pathL]

/-- A cart that has come to stay stays. -/
theorem chain_stay : ∀ {W : List St} {y : St} {i : Nat}, Chain nx m tt (y :: W) → i < m → y.2.getD i false = false → y.1.getD i 0 = tt.getD i 0
  | [], y, i, hc, _, _ => by
    have e : y = s0 m tt := hc
    rw [e]; rfl
  | z :: r, y, i, hc, hi, hu => by
    obtain ⟨_, _, h2, h3⟩ := hc
    rw [h2, backU_at hi, Bool.or_eq_false_iff] at hu
    have := chain_stay h3 hi hu.1
    have e : y.1.getD i 0 = z.1.getD i 0 := by simpa using hu.2
    rw [e]; exact this

theorem chain_len : ∀ {W : List St}, (∀ p q, q ∈ nx p → q.length = m) → tt.length = m → Chain nx m tt W → ∀ y, y ∈ W → y.1.length = m ∧ y.2.length = m
  | [y], _, ht, hc, z, hz => by
    have e : y = s0 m tt := hc
    simp only [List.mem_singleton] at hz
    rw [hz, e]
    exact ⟨ht, by simp [s0]⟩
  | y :: z :: r, hn, ht, hc, x, hx => by
    obtain ⟨_, h1, h2, h3⟩ := hc
    rcases List.mem_cons.1 hx with e | e
    · rw [e]; exact ⟨hn _ _ h1, by rw [h2, backU_len]⟩
    · exact chain_len hn ht h3 x e

/-- The path of a cart is where the cart is along the way. -/
theorem path_at : ∀ {W : List St} {i : Nat}, Chain nx m tt W → i < m → ∀ t, (pathL i W).getD (if t < (pathL i W).length then t else (pathL i W).length - 1) 0 = (W.getD t (s0 m tt)).1.getD i 0
  | [y], i, hc, hi, t => by
    have e : y = s0 m tt := hc
    subst e
    have hl : pathL i [s0 m tt] = [tt.getD i 0] := by
      unfold pathL
      by_cases e : (s0 m tt).2.getD i false = true
      · rw [if_pos e]; rfl
      · rw [if_neg e]; rfl
    rw [hl]
    match t with
    | 0 => rfl
    | t + 1 => simp [s0]
  | y :: z :: r, i, hc, hi, t => by
    have hc' := hc
    obtain ⟨h0, h1, h2, h3⟩ := hc
    by_cases e : y.2.getD i false = true
    · have hl : pathL i (y :: z :: r) = y.1.getD i 0 :: pathL i (z :: r) := by
        rw [show pathL i (y :: z :: r) = y.1.getD i 0 :: (if y.2.getD i false = true then pathL i (z :: r) else []) from rfl, if_pos e]
      have hp := pathL_pos (i := i) (y := z) (r := r)
      rw [hl]
      match t with
      | 0 => simp
      | t + 1 =>
        have ih := path_at h3 hi t
        rw [List.getD_cons_succ, ← ih]
        by_cases e2 : t < (pathL i (z :: r)).length
        · rw [if_pos e2, if_pos (by simp; omega), List.getD_cons_succ]
        · rw [if_neg e2, if_neg (by simp; omega)]
          rw [show (y.1.getD i 0 :: pathL i (z :: r)).length - 1 = ((pathL i (z :: r)).length - 1) + 1 by simp; omega, List.getD_cons_succ]
    · have e : y.2.getD i false = false := by simpa using e
      have hl : pathL i (y :: z :: r) = [y.1.getD i 0] := by
        rw [show pathL i (y :: z :: r) = y.1.getD i 0 :: (if y.2.getD i false = true then pathL i (z :: r) else []) from rfl, if_neg (by rw [e]; simp)]
      have hs := chain_stay hc' hi e
      rw [hl]
      match t with
      | 0 => simp
      | t + 1 =>
        have hz : z.2.getD i false = false := by
          rw [h2, backU_at hi, Bool.or_eq_false_iff] at e
          exact e.1
        have ih := path_at h3 hi t
        have hlz : pathL i (z :: r) = [z.1.getD i 0] := by
          rw [show pathL i (z :: r) = z.1.getD i 0 :: (if z.2.getD i false = true then pathL i r else []) from rfl, if_neg (by rw [hz]; simp)]
        rw [List.getD_cons_succ, ← ih, hlz]
        have hs2 := chain_stay h3 hi hz
        simp only [List.length_singleton]
        rw [show (if t + 1 < 1 then t + 1 else 1 - 1) = 0 by rw [if_neg (by omega)], show (if t < 1 then t else 1 - 1) = 0 by by_cases e3 : t < 1 <;> simp [e3] <;> omega]
        show y.1.getD i 0 = z.1.getD i 0
        rw [hs, hs2]

theorem path_len : ∀ {W : List St} {i : Nat}, (pathL i W).length ≤ W.length
  | [], _ => Nat.le_refl _
  | y :: r, i => by
    have := path_len (W := r) (i := i)
    simp only [pathL, List.length_cons]
    by_cases e : y.2.getD i false = true
    · rw [if_pos e]; omega
    · rw [if_neg e]; simp

/-- Under way till it has come to stay. -/
theorem path_under : ∀ {W : List St} {i : Nat}, Chain nx m tt W → i < m → ∀ t, (W.getD t (s0 m tt)).2.getD i false = decide (t + 1 < (pathL i W).length)
  | [y], i, hc, hi, t => by
    have e : y = s0 m tt := hc
    subst e
    have h1 : ∀ t, ([s0 m tt].getD t (s0 m tt)) = s0 m tt := fun t => by cases t <;> simp
    have h2 : (s0 m tt).2.getD i false = false := by
      simp only [s0, List.getD_eq_getElem?_getD, List.getElem?_replicate]
      rw [if_pos hi]; rfl
    have hl : (pathL i [s0 m tt]).length = 1 := by
      show (_ :: _ : List Nat).length = 1
      rw [if_neg (by rw [h2]; simp)]; rfl
    rw [h1, h2, hl]
    simp
  | y :: z :: r, i, hc, hi, t => by
    have hc' := hc
    obtain ⟨h0, h1, h2, h3⟩ := hc
    have hp := pathL_pos (i := i) (y := z) (r := r)
    have ih := fun t => path_under h3 hi t
    by_cases e : y.2.getD i false = true
    · have hl : (pathL i (y :: z :: r)).length = (pathL i (z :: r)).length + 1 := by
        rw [show pathL i (y :: z :: r) = y.1.getD i 0 :: (if y.2.getD i false = true then pathL i (z :: r) else []) from rfl, if_pos e]; rfl
      match t with
      | 0 => rw [hl]; simp only [List.getD_cons_zero]; rw [e]; symm; simp; omega
      | t + 1 => rw [hl, List.getD_cons_succ, ih t]; congr 1; simp only [eq_iff_iff]; omega
    · have e : y.2.getD i false = false := by simpa using e
      have hl : (pathL i (y :: z :: r)).length = 1 := by
        rw [show pathL i (y :: z :: r) = y.1.getD i 0 :: (if y.2.getD i false = true then pathL i (z :: r) else []) from rfl, if_neg (by rw [e]; simp)]; rfl
      have hz : z.2.getD i false = false := by
        rw [h2, backU_at hi, Bool.or_eq_false_iff] at e
        exact e.1
      have hlz : (pathL i (z :: r)).length = 1 := by
        rw [show pathL i (z :: r) = z.1.getD i 0 :: (if z.2.getD i false = true then pathL i r else []) from rfl, if_neg (by rw [hz]; simp)]; rfl
      match t with
      | 0 => rw [hl]; simp only [List.getD_cons_zero]; rw [e]; simp
      | t + 1 => rw [hl, List.getD_cons_succ, ih t, hlz]; simp

/-- What the paths cost together is what the way costs. -/
theorem path_cost : ∀ {W : List St}, (∀ p q, q ∈ nx p → q.length = m) → tt.length = m → Chain nx m tt W → costW W = sumN (fun i => (pathL i W).length - 1) m
  | [y], _, _, hc => by
    have e : y = s0 m tt := hc
    subst e
    rw [sumN_zero]
    · simp [costW, s0, cntU_rep]
    · intro i hi
      have := path_len (W := [s0 m tt]) (i := i)
      simp at this
      omega
  | y :: z :: r, hn, ht, hc => by
    have hc' := hc
    obtain ⟨h0, h1, h2, h3⟩ := hc
    have ih := path_cost hn ht h3
    have hl := chain_len hn ht hc' y (by simp)
    show cntU y.2 + costW (z :: r) = _
    rw [ih, cntU_sum hl.2, ← sumN_add]
    refine sumN_same fun i hi => ?_
    have hp := pathL_pos (i := i) (y := z) (r := r)
    have u0 := path_under hc' hi 0
    have u1 := path_under h3 hi 0
    simp only [List.getD_cons_zero] at u0 u1
    by_cases e : y.2.getD i false = true
    · rw [if_pos e]
      rw [show pathL i (y :: z :: r) = y.1.getD i 0 :: (if y.2.getD i false = true then pathL i (z :: r) else []) from rfl, if_pos e]
      simp; omega
    · rw [if_neg e]
      have e : y.2.getD i false = false := by simpa using e
      have hz : z.2.getD i false = false := by
        rw [h2, backU_at hi, Bool.or_eq_false_iff] at e
        exact e.1
      rw [hz] at u1
      rw [e] at u0
      have u0 := u0.symm
      have u1 := u1.symm
      simp at u0 u1
      omega

end
end Go.Proofs.YtnkgpinadgacgabDoor.SM
