/- Several texts in one: Gh, Gi. -/
import Derived.Test.YtnkgpinadgacgabDoorMkw
namespace Go.Proofs.YtnkgpinadgacgabDoor.SM
open HM BM M
def sumN (f : Nat → Nat) : Nat → Nat
  | 0 => 0
  | n + 1 => sumN f n + f n

theorem sumN_same {f g : Nat → Nat} : ∀ {n : Nat}, (∀ i, i < n → f i = g i) → sumN f n = sumN g n
  | 0, _ => rfl
  | n + 1, h => by
    show sumN f n + f n = sumN g n + g n
    rw [sumN_same (fun i hi => h i (by omega)), h n (by omega)]

theorem sumN_add (f g : Nat → Nat) : ∀ n : Nat, sumN (fun i => f i + g i) n = sumN f n + sumN g n
  | 0 => rfl
  | n + 1 => by
    have := sumN_add f g n
    simp only [sumN]
    omega

theorem sumN_zero {f : Nat → Nat} {n : Nat} (h : ∀ i, i < n → f i = 0) : sumN f n = 0 := by
  induction n with
  | zero => rfl
  | succ n ih => simp only [sumN]; rw [ih (fun i hi => h i (by omega)), h n (by omega)]

theorem sumN_shift (f : Nat → Nat) : ∀ n : Nat, sumN f (n + 1) = f 0 + sumN (fun i => f (i + 1)) n
  | 0 => by simp [sumN]
  | n + 1 => by
    have := sumN_shift f n
    show sumN f (n + 1) + f (n + 1) = f 0 + (sumN (fun i => f (i + 1)) n + f (n + 1))
    omega

theorem cntU_sum : ∀ {m : Nat} {u : List Bool}, u.length = m → cntU u = sumN (fun i => if u.getD i false = true then 1 else 0) m
  | 0, u, h => by rw [List.eq_nil_of_length_eq_zero h]; rfl
  | m + 1, [], h => by simp at h
  | m + 1, b :: u, h => by
    have ih := cntU_sum (m := m) (u := u) (by simpa using h)
    rw [sumN_shift]
    unfold cntU at ih ⊢
    rw [List.count_cons, ih]
    cases b <;> simp [Nat.add_comm]

theorem cntU_rep (m : Nat) : cntU (List.replicate m false) = 0 := by
  unfold cntU
  rw [List.count_eq_zero]
  intro h
  have := List.eq_of_mem_replicate h
  cases this

/-- The way that the search keeps from a state to the end. -/
def wayF (seen : St → Option (Nat × St)) : Nat → St → List St
  | 0, x => [x]
  | f + 1, x => if 0 < costO (seen x) then x :: wayF seen f (nextO x (seen x)) else [x]

/-- Each state an instant ahead of the one behind it; the last is the end. -/
def Chain (nx : List Nat → List (List Nat)) (m : Nat) (tt : List Nat) : List St → Prop
  | [] => False
  | [y] => y = s0 m tt
  | y :: z :: r => z.1.length = m ∧ y.1 ∈ nx z.1 ∧ y.2 = backU m z.1 z.2 y.1 ∧ Chain nx m tt (z :: r)

def costW : List St → Nat
  | [] => 0
  | y :: r => cntU y.2 + costW r

/-- The cells of a cart along a way, until it has come to stay. -/
def pathL (i : Nat) : List St → List Nat
  | [] => []
  | y :: r => y.1.getD i 0 :: if y.2.getD i false = true then pathL i r else []

def planL (m : Nat) (W : List St) : List (List Nat) := (List.range m).map fun i => pathL i W

/-- Where a cart is at an instant, by its path. -/
def atT (ln : Nat → Nat) (pt : Nat → Nat → Nat) (i t : Nat) : Nat := pt i (if t < ln i then t else ln i - 1)

/-- A good plan: how long each path is, and its cells. -/
structure GoodP (m : Nat) (adj : Nat → Nat → Prop) (fr tt : Nat → Nat) (ln : Nat → Nat) (pt : Nat → Nat → Nat) : Prop where
  pos : ∀ i, i < m → 0 < ln i
  first : ∀ i, i < m → pt i 0 = fr i
  last : ∀ i, i < m → pt i (ln i - 1) = tt i
  wait : ∀ i, i < m → 1 < ln i → pt i (ln i - 2) ≠ tt i
  step : ∀ i, i < m → ∀ j, j + 1 < ln i → adj (pt i j) (pt i (j + 1))
  meet : ∀ i k, i < m → k < m → i ≠ k → ∀ t, atT ln pt i t ≠ atT ln pt k t
  swap : ∀ i k, i < m → k < m → i ≠ k → ∀ t, ¬ (atT ln pt i t = atT ln pt k (t + 1) ∧ atT ln pt k t = atT ln pt i (t + 1))

section
variable {nx : List Nat → List (List Nat)} {h : List Nat → Nat} {m : Nat} {fr tt : List Nat} {L : List (List Nat)}
/-- The search's way hangs together and costs no more than what the search tells. -/
theorem way_chain {s : Srch} {X : List St} (G : Gnd nx h m fr tt L) (R : Run nx h m fr tt L s X (fun _ _ => False)) : ∀ (f : Nat) (x : St) (g : Nat), (s.seen x).map (·.1) = some g → g ≤ f →
    Chain nx m tt (wayF s.seen f x) ∧ costW (wayF s.seen f x) ≤ g ∧ (∃ j, BM.Way (E nx m L) j (s0 m tt) x (costW (wayF s.seen f x))) ∧ (wayF s.seen f x).head? = some x ∧ (wayF s.seen f x).length ≤ f + 1
  | 0, x, g, hx, hf => by
    have e0 : g = 0 := by omega
    subst e0
    have e := R.best.zero x hx
    refine ⟨e, ?_, ⟨0, ?_⟩, rfl, Nat.le_refl _⟩
    · simp [wayF, costW, e, s0, cntU_rep]
    · show BM.Way _ 0 _ x (cntU x.2 + 0)
      rw [e]
      exact ⟨rfl, by simp [s0, cntU_rep]⟩
  | f + 1, x, g, hx, hf => by
    have hc : costO (s.seen x) = g := by
      cases e : s.seen x with
      | none => rw [e] at hx; cases hx
      | some v => rw [e] at hx; simp at hx; exact hx
    simp only [wayF]
    by_cases e : 0 < costO (s.seen x)
    · rw [if_pos e]
      rcases R.best.back x g hx with e0 | ⟨g0, d, h1, h2, h3, h4⟩
      · omega
      · obtain ⟨y, hy⟩ : ∃ y, y = nextO x (s.seen x) := ⟨_, rfl⟩
        rw [← hy] at h1 h2 ⊢
        obtain ⟨c1, c2, ⟨j, c3⟩, c4, c5⟩ := way_chain G R f y g0 h1 (by omega)
        obtain ⟨W, hW⟩ : ∃ W, W = wayF s.seen f y := ⟨_, rfl⟩
        rw [← hW] at c1 c2 c3 c4 c5 ⊢
        obtain ⟨q1, q2, q3, q4, q5⟩ := h2
        match W, c4 with
        | z :: r, c4 =>
          simp only [List.head?_cons, Option.some.injEq] at c4
          subst c4
          refine ⟨⟨G.len _ q1.1, q2, q3, c1⟩, ?_, ⟨j + 1, z, _, d, c3, ⟨q1, q2, q3, q4, q5⟩, ?_⟩, rfl, ?_⟩
          · show cntU x.2 + costW (z :: r) ≤ g
            omega
          · show cntU x.2 + costW (z :: r) = _
            omega
          · simp only [List.length_cons] at c5 ⊢
            omega
    · rw [if_neg e]
      have e0 : g = 0 := by omega
      subst e0
      have e := R.best.zero x hx
      refine ⟨e, ?_, ⟨0, ?_⟩, rfl, by simp⟩
      · simp [costW, e, s0, cntU_rep]
      · show BM.Way _ 0 _ x (cntU x.2 + 0)
        rw [e]
        exact ⟨rfl, by simp [s0, cntU_rep]⟩

theorem pathL_pos {i : Nat} {y : St} {r : List St} : 0 < (pathL i (y :: r)).length := by simp [pathL]

/-- A cart that has come to stay stays. -/
theorem chain_stay : ∀ {W : List St} {y : St} {i : Nat}, Chain nx m tt (y :: W) → i < m → y.2.getD i false = false → y.1.getD i 0 = tt.getD i 0
  | [], y, i, hc, _, _ => by
    have e : y = s0 m tt := hc
    rw [e]; rfl
  | z :: r, y, i, hc, hi, hu => by
    obtain ⟨_, _, h2, h3⟩ := hc
    rw [h2, backU_at hi, Bool.or_eq_false_iff] at hu
    have := chain_stay h3 hi hu.1
    have e : y.1.getD i 0 = z.1.getD i 0 := by simpa using hu.2
    rw [e]; exact this

theorem chain_len : ∀ {W : List St}, (∀ p q, q ∈ nx p → q.length = m) → tt.length = m → Chain nx m tt W → ∀ y, y ∈ W → y.1.length = m ∧ y.2.length = m
  | [y], _, ht, hc, z, hz => by
    have e : y = s0 m tt := hc
    simp only [List.mem_singleton] at hz
    rw [hz, e]
    exact ⟨ht, by simp [s0]⟩
  | y :: z :: r, hn, ht, hc, x, hx => by
    obtain ⟨_, h1, h2, h3⟩ := hc
    rcases List.mem_cons.1 hx with e | e
    · rw [e]; exact ⟨hn _ _ h1, by rw [h2, backU_len]⟩
    · exact chain_len hn ht h3 x e

/-- The path of a cart is where the cart is along the way. -/
theorem path_at : ∀ {W : List St} {i : Nat}, Chain nx m tt W → i < m → ∀ t, (pathL i W).getD (if t < (pathL i W).length then t else (pathL i W).length - 1) 0 = (W.getD t (s0 m tt)).1.getD i 0
  | [y], i, hc, hi, t => by
    have e : y = s0 m tt := hc
    subst e
    have hl : pathL i [s0 m tt] = [tt.getD i 0] := by
      unfold pathL
      by_cases e : (s0 m tt).2.getD i false = true
      · rw [if_pos e]; rfl
      · rw [if_neg e]; rfl
    rw [hl]
    match t with
    | 0 => rfl
    | t + 1 => simp [s0]
  | y :: z :: r, i, hc, hi, t => by
    have hc' := hc
    obtain ⟨h0, h1, h2, h3⟩ := hc
    by_cases e : y.2.getD i false = true
    · have hl : pathL i (y :: z :: r) = y.1.getD i 0 :: pathL i (z :: r) := by
        rw [show pathL i (y :: z :: r) = y.1.getD i 0 :: (if y.2.getD i false = true then pathL i (z :: r) else []) from rfl, if_pos e]
      have hp := pathL_pos (i := i) (y := z) (r := r)
      rw [hl]
      match t with
      | 0 => simp
      | t + 1 =>
        have ih := path_at h3 hi t
        rw [List.getD_cons_succ, ← ih]
        by_cases e2 : t < (pathL i (z :: r)).length
        · rw [if_pos e2, if_pos (by simp; omega), List.getD_cons_succ]
        · rw [if_neg e2, if_neg (by simp; omega)]
          rw [show (y.1.getD i 0 :: pathL i (z :: r)).length - 1 = ((pathL i (z :: r)).length - 1) + 1 by simp; omega, List.getD_cons_succ]
    · have e : y.2.getD i false = false := by simpa using e
      have hl : pathL i (y :: z :: r) = [y.1.getD i 0] := by
        rw [show pathL i (y :: z :: r) = y.1.getD i 0 :: (if y.2.getD i false = true then pathL i (z :: r) else []) from rfl, if_neg (by rw [e]; simp)]
      have hs := chain_stay hc' hi e
      rw [hl]
      match t with
      | 0 => simp
      | t + 1 =>
        have hz : z.2.getD i false = false := by
          rw [h2, backU_at hi, Bool.or_eq_false_iff] at e
          exact e.1
        have ih := path_at h3 hi t
        have hlz : pathL i (z :: r) = [z.1.getD i 0] := by
          rw [show pathL i (z :: r) = z.1.getD i 0 :: (if z.2.getD i false = true then pathL i r else []) from rfl, if_neg (by rw [hz]; simp)]
        rw [List.getD_cons_succ, ← ih, hlz]
        have hs2 := chain_stay h3 hi hz
        simp only [List.length_singleton]
        rw [show (if t + 1 < 1 then t + 1 else 1 - 1) = 0 by rw [if_neg (by omega)], show (if t < 1 then t else 1 - 1) = 0 by by_cases e3 : t < 1 <;> simp [e3] <;> omega]
        show y.1.getD i 0 = z.1.getD i 0
        rw [hs, hs2]

theorem path_len : ∀ {W : List St} {i : Nat}, (pathL i W).length ≤ W.length
  | [], _ => Nat.le_refl _
  | y :: r, i => by
    have := path_len (W := r) (i := i)
    simp only [pathL, List.length_cons]
    by_cases e : y.2.getD i false = true
    · rw [if_pos e]; omega
    · rw [if_neg e]; simp

/-- Under way till it has come to stay. -/
theorem path_under : ∀ {W : List St} {i : Nat}, Chain nx m tt W → i < m → ∀ t, (W.getD t (s0 m tt)).2.getD i false = decide (t + 1 < (pathL i W).length)
  | [y], i, hc, hi, t => by
    have e : y = s0 m tt := hc
    subst e
    have h1 : ∀ t, ([s0 m tt].getD t (s0 m tt)) = s0 m tt := fun t => by cases t <;> simp
    have h2 : (s0 m tt).2.getD i false = false := by
      simp only [s0, List.getD_eq_getElem?_getD, List.getElem?_replicate]
      rw [if_pos hi]; rfl
    have hl : (pathL i [s0 m tt]).length = 1 := by
      show (_ :: _ : List Nat).length = 1
      rw [if_neg (by rw [h2]; simp)]; rfl
    rw [h1, h2, hl]
    simp
  | y :: z :: r, i, hc, hi, t => by
    have hc' := hc
    obtain ⟨h0, h1, h2, h3⟩ := hc
    have hp := pathL_pos (i := i) (y := z) (r := r)
    have ih := fun t => path_under h3 hi t
    by_cases e : y.2.getD i false = true
    · have hl : (pathL i (y :: z :: r)).length = (pathL i (z :: r)).length + 1 := by
        rw [show pathL i (y :: z :: r) = y.1.getD i 0 :: (if y.2.getD i false = true then pathL i (z :: r) else []) from rfl, if_pos e]; rfl
      match t with
      | 0 => rw [hl]; simp only [List.getD_cons_zero]; rw [e]; symm; simp; omega
      | t + 1 => rw [hl, List.getD_cons_succ, ih t]; congr 1; simp only [eq_iff_iff]; omega
    · have e : y.2.getD i false = false := by simpa using e
      have hl : (pathL i (y :: z :: r)).length = 1 := by
        rw [show pathL i (y :: z :: r) = y.1.getD i 0 :: (if y.2.getD i false = true then pathL i (z :: r) else []) from rfl, if_neg (by rw [e]; simp)]; rfl
      have hz : z.2.getD i false = false := by
        rw [h2, backU_at hi, Bool.or_eq_false_iff] at e
        exact e.1
      have hlz : (pathL i (z :: r)).length = 1 := by
        rw [show pathL i (z :: r) = z.1.getD i 0 :: (if z.2.getD i false = true then pathL i r else []) from rfl, if_neg (by rw [hz]; simp)]; rfl
      match t with
      | 0 => rw [hl]; simp only [List.getD_cons_zero]; rw [e]; simp
      | t + 1 => rw [hl, List.getD_cons_succ, ih t, hlz]; simp

/-- What the paths cost together is what the way costs. -/
theorem path_cost : ∀ {W : List St}, (∀ p q, q ∈ nx p → q.length = m) → tt.length = m → Chain nx m tt W → costW W = sumN (fun i => (pathL i W).length - 1) m
  | [y], _, _, hc => by
    have e : y = s0 m tt := hc
    subst e
    rw [sumN_zero]
    · simp [costW, s0, cntU_rep]
    · intro i hi
      have := path_len (W := [s0 m tt]) (i := i)
      simp at this
      omega
  | y :: z :: r, hn, ht, hc => by
    have hc' := hc
    obtain ⟨h0, h1, h2, h3⟩ := hc
    have ih := path_cost hn ht h3
    have hl := chain_len hn ht hc' y (by simp)
    show cntU y.2 + costW (z :: r) = _
    rw [ih, cntU_sum hl.2, ← sumN_add]
    refine sumN_same fun i hi => ?_
    have hp := pathL_pos (i := i) (y := z) (r := r)
    have u0 := path_under hc' hi 0
    have u1 := path_under h3 hi 0
    simp only [List.getD_cons_zero] at u0 u1
    by_cases e : y.2.getD i false = true
    · rw [if_pos e]
      rw [show pathL i (y :: z :: r) = y.1.getD i 0 :: (if y.2.getD i false = true then pathL i (z :: r) else []) from rfl, if_pos e]
      simp; omega
    · rw [if_neg e]
      have e : y.2.getD i false = false := by simpa using e
      have hz : z.2.getD i false = false := by
        rw [h2, backU_at hi, Bool.or_eq_false_iff] at e
        exact e.1
      rw [hz] at u1
      rw [e] at u0
      have u0 := u0.symm
      have u1 := u1.symm
      simp at u0 u1
      omega

end
end Go.Proofs.YtnkgpinadgacgabDoor.SM

namespace Go.Proofs.YtnkgpinadgacgabDoor.SM
open HM BM M
section
variable {step : Nat → List Nat} {h : List Nat → Nat} {m : Nat} {fr tt : List Nat} {L : List (List Nat)} {adj : Nat → Nat → Prop}
theorem stay_at {nx : List Nat → List (List Nat)} : ∀ {W : List St} {i : Nat} (t : Nat), Chain nx m tt W → i < m → (W.getD t (s0 m tt)).2.getD i false = false → (W.getD t (s0 m tt)).1.getD i 0 = tt.getD i 0
  | y :: r, i, 0, hc, hi, hu => by
    simp only [List.getD_cons_zero] at hu ⊢
    exact chain_stay hc hi hu
  | [y], i, t + 1, _, _, _ => by simp [s0]
  | y :: z :: r, i, t + 1, hc, hi, hu => by
    rw [List.getD_cons_succ] at hu ⊢
    exact stay_at t hc.2.2.2 hi hu

theorem chain_at {nx : List Nat → List (List Nat)} : ∀ {W : List St} (t : Nat), Chain nx m tt W → t + 1 < W.length →
    (W.getD t (s0 m tt)).1 ∈ nx (W.getD (t + 1) (s0 m tt)).1 ∧ (W.getD t (s0 m tt)).2 = backU m (W.getD (t + 1) (s0 m tt)).1 (W.getD (t + 1) (s0 m tt)).2 (W.getD t (s0 m tt)).1
  | [y], t, _, hl => by simp at hl
  | y :: z :: r, 0, hc, _ => ⟨hc.2.1, hc.2.2.1⟩
  | y :: z :: r, t + 1, hc, hl => by
    rw [List.getD_cons_succ, List.getD_cons_succ]
    exact chain_at t hc.2.2.2 (by simpa using hl)

theorem chain_end {nx : List Nat → List (List Nat)} : ∀ {W : List St} (t : Nat), Chain nx m tt W → W.length ≤ t + 1 → W.getD t (s0 m tt) = s0 m tt
  | [y], 0, hc, _ => by
    have e : y = s0 m tt := hc
    rw [e]; rfl
  | [y], t + 1, _, _ => by simp
  | y :: z :: r, 0, _, hl => by simp at hl
  | y :: z :: r, t + 1, hc, hl => by
    rw [List.getD_cons_succ]
    exact chain_end t hc.2.2.2 (by simpa using hl)

theorem fit_apart {p q : List Nat} {k j : Nat} (h : fitB p q k = true) (hj : j < k) : q.getD k 0 ≠ q.getD j 0 ∧ ¬ (q.getD k 0 = p.getD j 0 ∧ q.getD j 0 = p.getD k 0) := by
  unfold fitB at h
  have h1 : anyB (fun j => clashB p q k j) k = false := by simpa using h
  have h2 : clashB p q k j = false := by
    cases e : clashB p q k j with
    | false => rfl
    | true =>
      rw [anyB_iff.2 ⟨j, hj, e⟩] at h1
      cases h1
  unfold clashB at h2
  simp only [Bool.or_eq_false_iff, Bool.and_eq_false_iff, beq_eq_false_iff_ne] at h2
  exact ⟨h2.1, fun hh => h2.2.elim (fun e => e hh.1) (fun e => e hh.2)⟩

theorem fit_of {p q : List Nat} {k : Nat} (h : ∀ j, j < k → q.getD k 0 ≠ q.getD j 0 ∧ ¬ (q.getD k 0 = p.getD j 0 ∧ q.getD j 0 = p.getD k 0)) : fitB p q k = true := by
  unfold fitB
  have h1 : anyB (fun j => clashB p q k j) k = false := by
    cases e : anyB (fun j => clashB p q k j) k with
    | false => rfl
    | true =>
      obtain ⟨j, hj, hc⟩ := anyB_iff.1 e
      obtain ⟨h2, h3⟩ := h j hj
      unfold clashB at hc
      simp only [Bool.or_eq_true, Bool.and_eq_true, beq_iff_eq] at hc
      rcases hc with hc | hc
      · exact absurd hc h2
      · exact absurd hc h3
  rw [h1]; rfl

/-- No two of a way meet or swap. -/
theorem chain_apart {W : List St} (hc : Chain (fun p => growL step p m) m tt W) (hd : ∀ i k, i < m → k < m → i ≠ k → tt.getD i 0 ≠ tt.getD k 0) (t : Nat) : ∀ i k, i < m → k < m → i ≠ k →
    (W.getD t (s0 m tt)).1.getD i 0 ≠ (W.getD t (s0 m tt)).1.getD k 0 ∧ ¬ ((W.getD t (s0 m tt)).1.getD i 0 = (W.getD (t + 1) (s0 m tt)).1.getD k 0 ∧ (W.getD t (s0 m tt)).1.getD k 0 = (W.getD (t + 1) (s0 m tt)).1.getD i 0) := by
  by_cases hl : t + 1 < W.length
  · obtain ⟨h1, _⟩ := chain_at t hc hl
    obtain ⟨_, h2⟩ := growL_mem.1 h1
    intro i k hi hk hik
    by_cases e : i < k
    · obtain ⟨g1, g2⟩ := fit_apart (h2 k hk).2 e
      exact ⟨fun e => g1 e.symm, fun e => g2 ⟨e.2, e.1⟩⟩
    · obtain ⟨g1, g2⟩ := fit_apart (h2 i hi).2 (show k < i by omega)
      exact ⟨g1, fun e => g2 ⟨e.1, e.2⟩⟩
  · intro i k hi hk hik
    rw [chain_end t hc (by omega), chain_end (t + 1) hc (by omega)]
    exact ⟨hd i k hi hk hik, fun e => hd i k hi hk hik e.1⟩

/-- A way of the search is a good plan. -/
theorem chain_good {W : List St} {x : St} (hc : Chain (fun p => growL step p m) m tt W) (hx : W.head? = some x) (hfr : x.1 = fr) (hd : ∀ i k, i < m → k < m → i ≠ k → tt.getD i 0 ≠ tt.getD k 0) (hadj : ∀ a b, a ∈ step b → adj a b) :
    GoodP m adj (fun i => fr.getD i 0) (fun i => tt.getD i 0) (fun i => (pathL i W).length) (fun i j => (pathL i W).getD j 0) := by
  obtain ⟨r, hr⟩ : ∃ r, W = x :: r := by
    match W, hx with
    | y :: r, hx => simp at hx; exact ⟨r, by rw [hx]⟩
  have hpos : ∀ i, 0 < (pathL i W).length := fun i => by rw [hr]; exact pathL_pos
  have hat : ∀ i, i < m → ∀ t, t < (pathL i W).length → (pathL i W).getD t 0 = (W.getD t (s0 m tt)).1.getD i 0 := fun i hi t ht => by
    have h1 := path_at hc hi t
    rw [if_pos ht] at h1
    exact h1
  have hlast : ∀ i, i < m → (W.getD ((pathL i W).length - 1) (s0 m tt)).2.getD i false = false := fun i hi => by
    rw [path_under hc hi]
    have := hpos i
    simp; omega
  have hend : ∀ i, i < m → (pathL i W).getD ((pathL i W).length - 1) 0 = tt.getD i 0 := fun i hi => by
    rw [hat i hi _ (by have := hpos i; omega)]
    exact stay_at _ hc hi (hlast i hi)
  refine ⟨fun i _ => hpos i, fun i hi => ?_, hend, fun i hi h1 => ?_, fun i hi j hj => ?_, fun i k hi hk hik t => ?_, fun i k hi hk hik t => ?_⟩
  · rw [hat i hi 0 (hpos i), hr, List.getD_cons_zero, hfr]
  · rw [hat i hi _ (by omega)]
    have hwl := path_len (W := W) (i := i)
    have hu := path_under hc hi ((pathL i W).length - 2)
    have h2 := hlast i hi
    obtain ⟨_, h3⟩ := chain_at ((pathL i W).length - 2) hc (by omega)
    rw [show (pathL i W).length - 2 + 1 = (pathL i W).length - 1 by omega] at h3
    have e3 : (W.getD ((pathL i W).length - 1) (s0 m tt)).1.getD i 0 = tt.getD i 0 := stay_at _ hc hi h2
    intro e
    have h4 : (W.getD ((pathL i W).length - 2) (s0 m tt)).2.getD i false = false := by
      rw [h3, backU_at hi, h2, e, e3]; simp
    rw [h4] at hu
    have := hu.symm
    simp at this
    omega
  · have hwl := path_len (W := W) (i := i)
    show adj ((pathL i W).getD j 0) ((pathL i W).getD (j + 1) 0)
    rw [hat i hi j (by omega), hat i hi (j + 1) hj]
    obtain ⟨h1, _⟩ := chain_at j hc (by omega)
    exact hadj _ _ ((growL_mem.1 h1).2 i hi).1
  · show (pathL i W).getD _ 0 ≠ (pathL k W).getD _ 0
    rw [path_at hc hi t, path_at hc hk t]
    exact (chain_apart hc hd t i k hi hk hik).1
  · show ¬ ((pathL i W).getD _ 0 = (pathL k W).getD _ 0 ∧ (pathL k W).getD _ 0 = (pathL i W).getD _ 0)
    rw [path_at hc hi t, path_at hc hk t, path_at hc hi (t + 1), path_at hc hk (t + 1)]
    exact (chain_apart hc hd t i k hi hk hik).2

/-- Where the carts are at an instant of a plan, and which are under way. -/
def posT (m : Nat) (ln : Nat → Nat) (pt : Nat → Nat → Nat) (t : Nat) : List Nat := (List.range m).map fun i => atT ln pt i t

def undT (m : Nat) (ln : Nat → Nat) (t : Nat) : List Bool := (List.range m).map fun i => decide (t + 1 < ln i)

theorem posT_at {ln : Nat → Nat} {pt : Nat → Nat → Nat} {t i : Nat} (hi : i < m) : (posT m ln pt t).getD i 0 = atT ln pt i t := by
  unfold posT
  rw [List.getD_eq_getElem?_getD, List.getElem?_map, List.getElem?_range hi]
  rfl

theorem undT_at {ln : Nat → Nat} {t i : Nat} (hi : i < m) : (undT m ln t).getD i false = decide (t + 1 < ln i) := by
  unfold undT
  rw [List.getD_eq_getElem?_getD, List.getElem?_map, List.getElem?_range hi]
  rfl

theorem list_ext {α : Type} {d : α} {n : Nat} {a b : List α} (ha : a.length = n) (hb : b.length = n) (h : ∀ i, i < n → a.getD i d = b.getD i d) : a = b := by
  apply List.ext_getElem (by omega)
  intro i h1 h2
  have h3 := h i (by omega)
  simpa [List.getD_eq_getElem?_getD, h1, h2] using h3

theorem good_next {ln : Nat → Nat} {pt : Nat → Nat → Nat} {fr' tt' : Nat → Nat} (P : GoodP m adj fr' tt' ln pt) (hadj : ∀ a b, adj a b → a ∈ step b) (hself : ∀ i, i < m → tt' i ∈ step (tt' i)) (t : Nat) :
    posT m ln pt t ∈ growL step (posT m ln pt (t + 1)) m ∧ undT m ln t = backU m (posT m ln pt (t + 1)) (undT m ln (t + 1)) (posT m ln pt t) := by
  constructor
  · refine growL_mem.2 ⟨by simp [posT], fun k hk => ⟨?_, fit_of fun j hj => ?_⟩⟩
    · rw [posT_at hk, posT_at hk]
      unfold atT
      by_cases e : t + 1 < ln k
      · rw [if_pos e, if_pos (show t < ln k by omega)]
        exact hadj _ _ (P.step k hk t e)
      · have h0 := P.pos k hk
        have e1 : (if t < ln k then t else ln k - 1) = ln k - 1 := by
          by_cases e2 : t < ln k
          · rw [if_pos e2]; omega
          · rw [if_neg e2]
        rw [if_neg e, e1, P.last k hk]
        exact hself k hk
    · rw [posT_at hk, posT_at hk, posT_at (show j < m by omega), posT_at (show j < m by omega)]
      exact ⟨P.meet k j hk (by omega) (by omega) t, P.swap k j hk (by omega) (by omega) t⟩
  · refine list_ext (d := false) (n := m) (by simp [undT]) (backU_len _ _ _ _) fun i hi => ?_
    rw [undT_at hi, backU_at hi, undT_at hi, posT_at hi, posT_at hi]
    have h0 := P.pos i hi
    unfold atT
    by_cases e1 : t + 2 < ln i
    · simp [show t + 1 < ln i by omega, show t + 1 + 1 < ln i by omega]
    · by_cases e2 : t + 2 = ln i
      · have hw := P.wait i hi (by omega)
        rw [← P.last i hi] at hw
        rw [if_pos (show t < ln i by omega), if_pos (show t + 1 < ln i by omega)]
        rw [show ln i - 2 = t by omega, show ln i - 1 = t + 1 by omega] at hw
        simp [show t + 1 < ln i by omega, show ¬ (t + 1 + 1 < ln i) by omega, hw]
      · have e3 : (if t < ln i then t else ln i - 1) = ln i - 1 := by
          by_cases e : t < ln i
          · rw [if_pos e]; omega
          · rw [if_neg e]
        rw [e3, if_neg (show ¬ (t + 1 < ln i) by omega)]
        simp [show ¬ (t + 1 < ln i) by omega, show ¬ (t + 1 + 1 < ln i) by omega]

/-- How long the longest is. -/
def topN (f : Nat → Nat) : Nat → Nat
  | 0 => 0
  | n + 1 => max (topN f n) (f n)

theorem topN_le {f : Nat → Nat} : ∀ {n i : Nat}, i < n → f i ≤ topN f n
  | n + 1, i, hi => by
    simp only [topN]
    by_cases e : i = n
    · subst e; exact Nat.le_max_right _ _
    · exact Nat.le_trans (topN_le (show i < n by omega)) (Nat.le_max_left _ _)

theorem posT_end {ln : Nat → Nat} {pt : Nat → Nat → Nat} {fr' : Nat → Nat} (P : GoodP m adj fr' (fun i => tt.getD i 0) ln pt) (htl : tt.length = m) {t : Nat} (ht : ∀ i, i < m → ln i ≤ t + 1) : posT m ln pt t = tt := by
  refine list_ext (d := 0) (n := m) (by simp [posT]) htl fun i hi => ?_
  rw [posT_at hi]
  unfold atT
  have h0 := P.pos i hi
  have h1 := ht i hi
  have e3 : (if t < ln i then t else ln i - 1) = ln i - 1 := by
    by_cases e : t < ln i
    · rw [if_pos e]; omega
    · rw [if_neg e]
  rw [e3]
  exact P.last i hi

/-- A good plan is a way of the search, and costs as much. -/
theorem good_way (G : Gnd (fun p => growL step p m) h m fr tt L) {ln : Nat → Nat} {pt : Nat → Nat → Nat} (P : GoodP m adj (fun i => fr.getD i 0) (fun i => tt.getD i 0) ln pt) (hadj : ∀ a b, adj a b → a ∈ step b) (hself : ∀ i, i < m → tt.getD i 0 ∈ step (tt.getD i 0)) (hfl : fr.length = m) :
    ∃ j b, BM.Way (E (fun p => growL step p m) m L) j (s0 m tt) b (sumN (fun i => ln i - 1) m) ∧ b.1 = fr := by
  have htl := G.len _ G.goal
  have key : ∀ k t, topN ln m ≤ t + k → (∃ n, BM.Way (E (fun p => growL step p m) m L) n (s0 m tt) (posT m ln pt t, undT m ln t) (sumN (fun i => ln i - 1 - t) m)) ∧ posT m ln pt t ∈ L := by
    intro k
    induction k with
    | zero =>
      intro t ht
      have hb : ∀ i, i < m → ln i ≤ t := fun i hi => Nat.le_trans (topN_le hi) (by omega)
      have e1 : posT m ln pt t = tt := posT_end P htl (fun i hi => Nat.le_succ_of_le (hb i hi))
      have e2 : undT m ln t = List.replicate m false := list_ext (d := false) (n := m) (by simp [undT]) (by simp) fun i hi => by
        rw [undT_at hi]
        have := hb i hi
        rw [List.getD_eq_getElem?_getD, List.getElem?_replicate, if_pos hi]
        simp; omega
      rw [e1, e2, sumN_zero (fun i hi => by have := hb i hi; omega)]
      exact ⟨⟨0, rfl, rfl⟩, G.goal⟩
    | succ k ih =>
      intro t ht
      obtain ⟨⟨n, W⟩, hL⟩ := ih (t + 1) (by omega)
      obtain ⟨h1, h2⟩ := good_next P hadj hself t
      have hL2 := G.shut _ hL _ h1
      have hf : Fine m L (posT m ln pt (t + 1), undT m ln (t + 1)) := ⟨hL, by simp [undT]⟩
      refine ⟨?_, hL2⟩
      have hs : sumN (fun i => ln i - 1 - t) m = sumN (fun i => ln i - 1 - (t + 1)) m + cntU (undT m ln t) := by
        rw [cntU_sum (m := m) (by simp [undT]), ← sumN_add]
        refine sumN_same fun i hi => ?_
        rw [undT_at hi]
        by_cases e : t + 1 < ln i
        · rw [if_pos (by simpa using e)]; omega
        · rw [if_neg (by simpa using e)]; omega
      rw [hs]
      rcases Nat.eq_zero_or_pos (cntU (undT m ln t)) with e | e
      · have e' := e
        rw [h2] at e'
        obtain ⟨e1, e2⟩ := back_none (by simp [posT]) (by simp [posT]) (by simp [undT]) e'
        rw [e, h2, e2, e1]
        exact ⟨n, W⟩
      · exact ⟨n + 1, _, _, _, W, ⟨hf, h1, h2, rfl, e⟩, rfl⟩
  obtain ⟨⟨n, W⟩, _⟩ := key (topN ln m) 0 (by omega)
  refine ⟨n, _, W, ?_⟩
  refine list_ext (d := 0) (n := m) (by simp [posT]) hfl fun i hi => ?_
  show (posT m ln pt 0).getD i 0 = _
  rw [posT_at hi]
  unfold atT
  rw [if_pos (P.pos i hi)]
  exact P.first i hi

/-- Where the last position is come to there is a way. -/
theorem come_way {nx : List Nat → List (List Nat)} (G : Gnd nx h m fr tt L) {S : List Nat → List Nat → Prop} (hS : ∀ p q, S p q → p ∈ nx q) : ∀ (n : Nat) (q : List Nat) (u : List Bool) (j K : Nat), q ∈ L → u.length = m → reachN S fr n q → BM.Way (E nx m L) j (s0 m tt) (q, u) K → ∃ j b K, BM.Way (E nx m L) j (s0 m tt) b K ∧ b.1 = fr
  | 0, q, u, j, K, _, _, hr, W => ⟨j, (q, u), K, W, hr⟩
  | n + 1, q, u, j, K, hq, hu, ⟨p, hp, hs⟩, W => by
    have h1 := hS p q hs
    have hpL := G.shut _ hq _ h1
    rcases Nat.eq_zero_or_pos (cntU (backU m q u p)) with e | e
    · obtain ⟨e1, e2⟩ := back_none (G.len _ hq) (G.len _ hpL) hu e
      rw [e1] at hp
      exact come_way G hS n q u j K hq hu hp W
    · exact come_way G hS n p (backU m q u p) (j + 1) (K + cntU (backU m q u p)) hpL (backU_len _ _ _ _) hp ⟨(q, u), K, _, W, ⟨⟨hq, hu⟩, h1, rfl, rfl, e⟩, rfl⟩

end
end Go.Proofs.YtnkgpinadgacgabDoor.SM
