/- Gh, Gi, Gj. -/
import Derived.Test.YtnkgpinadgacgaaGreatDoorQs
set_option maxRecDepth 1000000
namespace Go.Proofs.YtnkgpinadgacgaaGreatDoor
namespace SM
open HM BM M
def sumN (f : Nat -> Nat) : Nat -> Nat
 | 0 => 0
 | n + 1 => sumN f n + f n
theorem sumN_same {f g : Nat -> Nat} : ∀ {n : Nat}, (∀ i, i < n -> f i = g i) -> sumN f n = sumN g n
 | 0, _ => rfl
 | n + 1, h => by
   show sumN f n + f n = sumN g n + g n; rw [sumN_same (fun i hi => h i (by omega)), h n (by omega)]
theorem sumN_add (f g : Nat -> Nat) : ∀ n : Nat, sumN (fun i => f i + g i) n = sumN f n + sumN g n
 | 0 => rfl
 | n + 1 => by
   have := sumN_add f g n; simp only [sumN]; omega
theorem sumN_le {f g : Nat -> Nat} : ∀ {n : Nat}, (∀ i, i < n -> f i <= g i) -> sumN f n <= sumN g n
 | 0, _ => zl
 | n + 1, h => by
   have h1 := sumN_le (n := n) (fun i hi => h i (by omega)); have h2 := h n (by omega); simp only [sumN]; omega
theorem sumN_zero {f : Nat -> Nat} {n : Nat} (h : ∀ i, i < n -> f i = 0) : sumN f n = 0 := by
 induction n with
 | zero => rfl
 | succ n ih => simp only [sumN]; rw [ih (fun i hi => h i (by omega)), h n (by omega)]
theorem sumN_shift (f : Nat -> Nat) : ∀ n : Nat, sumN f (n + 1) = f 0 + sumN (fun i => f (i + 1)) n
 | 0 => by simp [sumN]
 | n + 1 => by
   have := sumN_shift f n; show sumN f (n + 1) + f (n + 1) = f 0 + (sumN (fun i => f (i + 1)) n + f (n + 1)); omega
theorem cntU_sum : ∀ {m : Nat} {u : List Bool}, u.length = m -> cntU u = sumN (fun i => if u.getD i false = true then 1 else 0) m
 | 0, u, h => by rw [List.eq_nil_of_length_eq_zero h]; rfl
 | m + 1, [], h => by simp at h
 | m + 1, b :: u, h => by
   have ih := cntU_sum (m := m) (u := u) (by simpa using h); rw [sumN_shift]; unfold cntU at ih ⊢; rw [List.count_cons, ih]; cases b <;> simp [Nat.add_comm]
theorem cntU_rep (m : Nat) : cntU (List.replicate m false) = 0 := by
 unfold cntU; rw [List.count_eq_zero]; intro h; have := List.eq_of_mem_replicate h; cases this
def wayF (seen : St -> Option (Nat × St)) : Nat -> St -> List St
 | 0, x => [x]
 | f + 1, x => if 0 < costO (seen x) then x :: wayF seen f (nextO x (seen x)) else [x]
def Chain (nx : List Nat -> List (List Nat)) (m : Nat) (tt : List Nat) : List St -> Prop
 | [] => False
 | [y] => y = s0 m tt
 | y :: z :: r => z.1.length = m ∧ y.1 ∈ nx z.1 ∧ y.2 = backU m z.1 z.2 y.1 ∧ Chain nx m tt (z :: r)
def costW : List St -> Nat
 | [] => 0
 | y :: r => cntU y.2 + costW r
def pathL (i : Nat) : List St -> List Nat
 | [] => []
 | y :: r => y.1.getD i 0 :: if y.2.getD i false = true then pathL i r else []
def planL (m : Nat) (W : List St) : List (List Nat) := (List.range m).map fun i => pathL i W
def atT (ln : Nat -> Nat) (pt : Nat -> Nat -> Nat) (i t : Nat) : Nat := pt i (if t < ln i then t else ln i - 1)
structure GoodP (m : Nat) (adj : Nat -> Nat -> Prop) (fr tt : Nat -> Nat) (ln : Nat -> Nat) (pt : Nat -> Nat -> Nat) : Prop where
 pos : ∀ i, i < m -> 0 < ln i
 first : ∀ i, i < m -> pt i 0 = fr i
 last : ∀ i, i < m -> pt i (ln i - 1) = tt i
 wait : ∀ i, i < m -> 1 < ln i -> pt i (ln i - 2) ≠ tt i
 step : ∀ i, i < m -> ∀ j, j + 1 < ln i -> adj (pt i j) (pt i (j + 1))
 meet : ∀ i k, i < m -> k < m -> i ≠ k -> ∀ t, atT ln pt i t ≠ atT ln pt k t
 swap : ∀ i k, i < m -> k < m -> i ≠ k -> ∀ t, ¬ (atT ln pt i t = atT ln pt k (t + 1) ∧ atT ln pt k t = atT ln pt i (t + 1))
section
variable {nx : List Nat → List (List Nat)} {h : List Nat → Nat} {m : Nat} {fr tt : List Nat} {L : List (List Nat)}
theorem way_chain {s : Srch} {X : List St} (G : Gnd nx h m fr tt L) (R : Run nx h m fr tt L s X (fun _ _ => False)) : ∀ (f : Nat) (x : St) (g : Nat), (s.seen x).map (·.1) = some g -> g <= f ->
 Chain nx m tt (wayF s.seen f x) ∧ costW (wayF s.seen f x) <= g ∧ (∃ j, BM.Way (E nx m L) j (s0 m tt) x (costW (wayF s.seen f x))) ∧ (wayF s.seen f x).head? = some x ∧ (wayF s.seen f x).length <= f + 1
 | 0, x, g, hx, hf => by
   have e0 : g = 0 := by omega
   subst e0; have e := R.best.zero x hx; refine ⟨e, ?_, ⟨0, ?_⟩, rfl, zl⟩
   . simp [wayF, costW, e, s0, cntU_rep]
   . show BM.Way _ 0 _ x (cntU x.2 + 0); rw [e]; exact ⟨rfl, by simp [s0, cntU_rep]⟩
 | f + 1, x, g, hx, hf => by
   have hc : costO (s.seen x) = g := by
    cases e : s.seen x with
    | none => rw [e] at hx; cases hx
    | some v => rw [e] at hx; simp at hx; exact hx
   simp only [wayF]; by_cases e : 0 < costO (s.seen x)
   . rw [if_pos e]; rcases R.best.back x g hx with e0 | ⟨g0, d, h1, h2, h3, h4⟩
     . omega
     . obtain ⟨y, hy⟩ : ∃ y, y = nextO x (s.seen x) := ⟨_, rfl⟩
       rw [<- hy] at h1 h2 ⊢; obtain ⟨c1, c2, ⟨j, c3⟩, c4, c5⟩ := way_chain G R f y g0 h1 (by omega); obtain ⟨W, hW⟩ : ∃ W, W = wayF s.seen f y := ⟨_, rfl⟩
       rw [<- hW] at c1 c2 c3 c4 c5 ⊢; obtain ⟨q1, q2, q3, q4, q5⟩ := h2; match W, c4 with
       | z :: r, c4 =>
         simp only [List.head?_cons, Option.some.injEq] at c4; subst c4; refine ⟨⟨G.len _ q1.1, q2, q3, c1⟩, ?_, ⟨j + 1, z, _, d, c3, ⟨q1, q2, q3, q4, q5⟩, ?_⟩, rfl, ?_⟩
         . show cntU x.2 + costW (z :: r) <= g; omega
         . show cntU x.2 + costW (z :: r) = _; omega
         . simp only [List.length_cons] at c5 ⊢; omega
   . rw [if_neg e]; have e0 : g = 0 := by omega
     subst e0; have e := R.best.zero x hx; refine ⟨e, ?_, ⟨0, ?_⟩, rfl, by simp⟩
     . simp [costW, e, s0, cntU_rep]
     . show BM.Way _ 0 _ x (cntU x.2 + 0); rw [e]; exact ⟨rfl, by simp [s0, cntU_rep]⟩
theorem pathL_pos {i : Nat} {y : St} {r : List St} : 0 < (pathL i (y :: r)).length := by simp [pathL]
theorem chain_stay : ∀ {W : List St} {y : St} {i : Nat}, Chain nx m tt (y :: W) -> i < m -> y.2.getD i false = false -> y.1.getD i 0 = tt.getD i 0
 | [], y, i, hc, _, _ => by
   have e : y = s0 m tt := hc; rw [e]; rfl
 | z :: r, y, i, hc, hi, hu => by
   obtain ⟨_, _, h2, h3⟩ := hc; rw [h2, backU_at hi, Bool.or_eq_false_iff] at hu; have := chain_stay h3 hi hu.1; have e : y.1.getD i 0 = z.1.getD i 0 := by simpa using hu.2
   rw [e]; exact this
theorem chain_len : ∀ {W : List St}, (∀ p q, q ∈ nx p -> q.length = m) -> tt.length = m -> Chain nx m tt W -> ∀ y, y ∈ W -> y.1.length = m ∧ y.2.length = m
 | [y], _, ht, hc, z, hz => by
   have e : y = s0 m tt := hc; simp only [List.mem_singleton] at hz; rw [hz, e]; exact ⟨ht, by simp [s0]⟩
 | y :: z :: r, hn, ht, hc, x, hx => by
   obtain ⟨_, h1, h2, h3⟩ := hc; rcases List.mem_cons.1 hx with e | e
   . rw [e]; exact ⟨hn _ _ h1, by rw [h2, backU_len]⟩
   . exact chain_len hn ht h3 x e
theorem path_at : ∀ {W : List St} {i : Nat}, Chain nx m tt W -> i < m -> ∀ t, (pathL i W).getD (if t < (pathL i W).length then t else (pathL i W).length - 1) 0 = (W.getD t (s0 m tt)).1.getD i 0
 | [y], i, hc, hi, t => by
   have e : y = s0 m tt := hc; subst e; have hl : pathL i [s0 m tt] = [tt.getD i 0] := by
    unfold pathL; by_cases e : (s0 m tt).2.getD i false = true
    . rw [if_pos e]; rfl
    . rw [if_neg e]; rfl
   rw [hl]; match t with
   | 0 => rfl
   | t + 1 => simp [s0]
 | y :: z :: r, i, hc, hi, t => by
   have hc' := hc; obtain ⟨h0, h1, h2, h3⟩ := hc; by_cases e : y.2.getD i false = true
   . have hl : pathL i (y :: z :: r) = y.1.getD i 0 :: pathL i (z :: r) := by
      rw [show pathL i (y :: z :: r) = y.1.getD i 0 :: (if y.2.getD i false = true then pathL i (z :: r) else []) from rfl, if_pos e]
     have hp := pathL_pos (i := i) (y := z) (r := r); rw [hl]; match t with
     | 0 => simp
     | t + 1 =>
       have ih := path_at h3 hi t; rw [List.getD_cons_succ, <- ih]; by_cases e2 : t < (pathL i (z :: r)).length
       . rw [if_pos e2, if_pos (by simp; omega), List.getD_cons_succ]
       . rw [if_neg e2, if_neg (by simp; omega)]; rw [show (y.1.getD i 0 :: pathL i (z :: r)).length - 1 = ((pathL i (z :: r)).length - 1) + 1 by simp; omega, List.getD_cons_succ]
   . have e : y.2.getD i false = false := by simpa using e
     have hl : pathL i (y :: z :: r) = [y.1.getD i 0] := by
      rw [show pathL i (y :: z :: r) = y.1.getD i 0 :: (if y.2.getD i false = true then pathL i (z :: r) else []) from rfl, if_neg (by rw [e]; simp)]
     have hs := chain_stay hc' hi e; rw [hl]; match t with
     | 0 => simp
     | t + 1 =>
       have hz : z.2.getD i false = false := by
        rw [h2, backU_at hi, Bool.or_eq_false_iff] at e; exact e.1
       have ih := path_at h3 hi t; have hlz : pathL i (z :: r) = [z.1.getD i 0] := by
        rw [show pathL i (z :: r) = z.1.getD i 0 :: (if z.2.getD i false = true then pathL i r else []) from rfl, if_neg (by rw [hz]; simp)]
       rw [List.getD_cons_succ, <- ih, hlz]; have hs2 := chain_stay h3 hi hz; simp only [List.length_singleton]; rw [show (if t + 1 < 1 then t + 1 else 1 - 1) = 0 by rw [if_neg (by omega)], show (if t < 1 then t else 1 - 1) = 0 by by_cases e3 : t < 1 <;> simp [e3] <;> omega]; show y.1.getD i 0 = z.1.getD i 0; rw [hs, hs2]
theorem path_len : ∀ {W : List St} {i : Nat}, (pathL i W).length <= W.length
 | [], _ => zl
 | y :: r, i => by
   have := path_len (W := r) (i := i); simp only [pathL, List.length_cons]; by_cases e : y.2.getD i false = true
   . rw [if_pos e]; omega
   . rw [if_neg e]; simp
theorem path_under : ∀ {W : List St} {i : Nat}, Chain nx m tt W -> i < m -> ∀ t, (W.getD t (s0 m tt)).2.getD i false = decide (t + 1 < (pathL i W).length)
 | [y], i, hc, hi, t => by
   have e : y = s0 m tt := hc; subst e; have h1 : ∀ t, ([s0 m tt].getD t (s0 m tt)) = s0 m tt := fun t => by cases t <;> simp
   have h2 : (s0 m tt).2.getD i false = false := by
    simp only [s0, zg, List.getElem?_replicate]; rw [if_pos hi]; rfl
   have hl : (pathL i [s0 m tt]).length = 1 := by
    show (_ :: _ : List Nat).length = 1; rw [if_neg (by rw [h2]; simp)]; rfl
   rw [h1, h2, hl]; simp
 | y :: z :: r, i, hc, hi, t => by
   have hc' := hc; obtain ⟨h0, h1, h2, h3⟩ := hc; have hp := pathL_pos (i := i) (y := z) (r := r); have ih := fun t => path_under h3 hi t
   by_cases e : y.2.getD i false = true
   . have hl : (pathL i (y :: z :: r)).length = (pathL i (z :: r)).length + 1 := by
      rw [show pathL i (y :: z :: r) = y.1.getD i 0 :: (if y.2.getD i false = true then pathL i (z :: r) else []) from rfl, if_pos e]; rfl
     match t with
     | 0 => rw [hl]; simp only [List.getD_cons_zero]; rw [e]; symm; simp; omega
     | t + 1 => rw [hl, List.getD_cons_succ, ih t]; congr 1; simp only [eq_iff_iff]; omega
   . have e : y.2.getD i false = false := by simpa using e
     have hl : (pathL i (y :: z :: r)).length = 1 := by
      rw [show pathL i (y :: z :: r) = y.1.getD i 0 :: (if y.2.getD i false = true then pathL i (z :: r) else []) from rfl, if_neg (by rw [e]; simp)]; rfl
     have hz : z.2.getD i false = false := by
      rw [h2, backU_at hi, Bool.or_eq_false_iff] at e; exact e.1
     have hlz : (pathL i (z :: r)).length = 1 := by
      rw [show pathL i (z :: r) = z.1.getD i 0 :: (if z.2.getD i false = true then pathL i r else []) from rfl, if_neg (by rw [hz]; simp)]; rfl
     match t with
     | 0 => rw [hl]; simp only [List.getD_cons_zero]; rw [e]; simp
     | t + 1 => rw [hl, List.getD_cons_succ, ih t, hlz]; simp
theorem path_cost : ∀ {W : List St}, (∀ p q, q ∈ nx p -> q.length = m) -> tt.length = m -> Chain nx m tt W -> costW W = sumN (fun i => (pathL i W).length - 1) m
 | [y], _, _, hc => by
   have e : y = s0 m tt := hc; subst e; rw [sumN_zero]
   . simp [costW, s0, cntU_rep]
   . intro i hi; have := path_len (W := [s0 m tt]) (i := i); simp at this; omega
 | y :: z :: r, hn, ht, hc => by
   have hc' := hc; obtain ⟨h0, h1, h2, h3⟩ := hc; have ih := path_cost hn ht h3; have hl := chain_len hn ht hc' y (by simp); show cntU y.2 + costW (z :: r) = _; rw [ih, cntU_sum hl.2, <- sumN_add]; refine sumN_same fun i hi => ?_
   have hp := pathL_pos (i := i) (y := z) (r := r); have u0 := path_under hc' hi 0; have u1 := path_under h3 hi 0; simp only [List.getD_cons_zero] at u0 u1; by_cases e : y.2.getD i false = true
   . rw [if_pos e]; rw [show pathL i (y :: z :: r) = y.1.getD i 0 :: (if y.2.getD i false = true then pathL i (z :: r) else []) from rfl, if_pos e]; simp; omega
   . rw [if_neg e]; have e : y.2.getD i false = false := by simpa using e
     have hz : z.2.getD i false = false := by
      rw [h2, backU_at hi, Bool.or_eq_false_iff] at e; exact e.1
     rw [hz] at u1; rw [e] at u0; have u0 := u0.symm; have u1 := u1.symm; simp at u0 u1; omega
end
end SM
namespace SM
open HM BM M
section
variable {step : Nat → List Nat} {h : List Nat → Nat} {m : Nat} {fr tt : List Nat} {L : List (List Nat)} {adj : Nat → Nat → Prop}
theorem stay_at {nx : List Nat -> List (List Nat)} : ∀ {W : List St} {i : Nat} (t : Nat), Chain nx m tt W -> i < m -> (W.getD t (s0 m tt)).2.getD i false = false -> (W.getD t (s0 m tt)).1.getD i 0 = tt.getD i 0
 | y :: r, i, 0, hc, hi, hu => by
   simp only [List.getD_cons_zero] at hu ⊢; exact chain_stay hc hi hu
 | [y], i, t + 1, _, _, _ => by simp [s0]
 | y :: z :: r, i, t + 1, hc, hi, hu => by
   rw [List.getD_cons_succ] at hu ⊢; exact stay_at t hc.2.2.2 hi hu
theorem chain_at {nx : List Nat -> List (List Nat)} : ∀ {W : List St} (t : Nat), Chain nx m tt W -> t + 1 < W.length ->
 (W.getD t (s0 m tt)).1 ∈ nx (W.getD (t + 1) (s0 m tt)).1 ∧ (W.getD t (s0 m tt)).2 = backU m (W.getD (t + 1) (s0 m tt)).1 (W.getD (t + 1) (s0 m tt)).2 (W.getD t (s0 m tt)).1
 | [y], t, _, hl => by simp at hl
 | y :: z :: r, 0, hc, _ => ⟨hc.2.1, hc.2.2.1⟩
 | y :: z :: r, t + 1, hc, hl => by
   rw [List.getD_cons_succ, List.getD_cons_succ]; exact chain_at t hc.2.2.2 (by simpa using hl)
theorem chain_end {nx : List Nat -> List (List Nat)} : ∀ {W : List St} (t : Nat), Chain nx m tt W -> W.length <= t + 1 -> W.getD t (s0 m tt) = s0 m tt
 | [y], 0, hc, _ => by
   have e : y = s0 m tt := hc; rw [e]; rfl
 | [y], t + 1, _, _ => by simp
 | y :: z :: r, 0, _, hl => by simp at hl
 | y :: z :: r, t + 1, hc, hl => by
   rw [List.getD_cons_succ]; exact chain_end t hc.2.2.2 (by simpa using hl)
theorem fit_apart {p q : List Nat} {k j : Nat} (h : fitB p q k = true) (hj : j < k) : q.getD k 0 ≠ q.getD j 0 ∧ ¬ (q.getD k 0 = p.getD j 0 ∧ q.getD j 0 = p.getD k 0) := by
 unfold fitB at h; have h1 : anyB (fun j => clashB p q k j) k = false := by simpa using h
 have h2 : clashB p q k j = false := by
  cases e : clashB p q k j with
  | false => rfl
  | true =>
    rw [anyB_iff.2 ⟨j, hj, e⟩] at h1; cases h1
 unfold clashB at h2; simp only [Bool.or_eq_false_iff, Bool.and_eq_false_iff, beq_eq_false_iff_ne] at h2; exact ⟨h2.1, fun hh => h2.2.elim (fun e => e hh.1) (fun e => e hh.2)⟩
theorem fit_of {p q : List Nat} {k : Nat} (h : ∀ j, j < k -> q.getD k 0 ≠ q.getD j 0 ∧ ¬ (q.getD k 0 = p.getD j 0 ∧ q.getD j 0 = p.getD k 0)) : fitB p q k = true := by
 unfold fitB; have h1 : anyB (fun j => clashB p q k j) k = false := by
  cases e : anyB (fun j => clashB p q k j) k with
  | false => rfl
  | true =>
    obtain ⟨j, hj, hc⟩ := anyB_iff.1 e; obtain ⟨h2, h3⟩ := h j hj; unfold clashB at hc; simp only [Bool.or_eq_true, Bool.and_eq_true, beq_iff_eq] at hc; rcases hc with hc | hc
    . exact absurd hc h2
    . exact absurd hc h3
 rw [h1]; rfl
theorem chain_apart {W : List St} (hc : Chain (fun p => growL step p m) m tt W) (hd : ∀ i k, i < m -> k < m -> i ≠ k -> tt.getD i 0 ≠ tt.getD k 0) (t : Nat) : ∀ i k, i < m -> k < m -> i ≠ k ->
 (W.getD t (s0 m tt)).1.getD i 0 ≠ (W.getD t (s0 m tt)).1.getD k 0 ∧ ¬ ((W.getD t (s0 m tt)).1.getD i 0 = (W.getD (t + 1) (s0 m tt)).1.getD k 0 ∧ (W.getD t (s0 m tt)).1.getD k 0 = (W.getD (t + 1) (s0 m tt)).1.getD i 0) := by
 by_cases hl : t + 1 < W.length
 . obtain ⟨h1, _⟩ := chain_at t hc hl; obtain ⟨_, h2⟩ := growL_mem.1 h1; intro i k hi hk hik; by_cases e : i < k
   . obtain ⟨g1, g2⟩ := fit_apart (h2 k hk).2 e; exact ⟨fun e => g1 e.symm, fun e => g2 ⟨e.2, e.1⟩⟩
   . obtain ⟨g1, g2⟩ := fit_apart (h2 i hi).2 (show k < i by omega); exact ⟨g1, fun e => g2 ⟨e.1, e.2⟩⟩
 . intro i k hi hk hik; rw [chain_end t hc (by omega), chain_end (t + 1) hc (by omega)]; exact ⟨hd i k hi hk hik, fun e => hd i k hi hk hik e.1⟩
theorem chain_good {W : List St} {x : St} (hc : Chain (fun p => growL step p m) m tt W) (hx : W.head? = some x) (hfr : x.1 = fr) (hd : ∀ i k, i < m -> k < m -> i ≠ k -> tt.getD i 0 ≠ tt.getD k 0) (hadj : ∀ a b, a ∈ step b -> adj a b) :
 GoodP m adj (fun i => fr.getD i 0) (fun i => tt.getD i 0) (fun i => (pathL i W).length) (fun i j => (pathL i W).getD j 0) := by
 obtain ⟨r, hr⟩ : ∃ r, W = x :: r := by
  match W, hx with
  | y :: r, hx => simp at hx; exact ⟨r, by rw [hx]⟩
 have hpos : ∀ i, 0 < (pathL i W).length := fun i => by rw [hr]; exact pathL_pos
 have hat : ∀ i, i < m -> ∀ t, t < (pathL i W).length -> (pathL i W).getD t 0 = (W.getD t (s0 m tt)).1.getD i 0 := fun i hi t ht => by
  have h1 := path_at hc hi t; rw [if_pos ht] at h1; exact h1
 have hlast : ∀ i, i < m -> (W.getD ((pathL i W).length - 1) (s0 m tt)).2.getD i false = false := fun i hi => by
  rw [path_under hc hi]; have := hpos i; simp; omega
 have hend : ∀ i, i < m -> (pathL i W).getD ((pathL i W).length - 1) 0 = tt.getD i 0 := fun i hi => by
  rw [hat i hi _ (by have := hpos i; omega)]; exact stay_at _ hc hi (hlast i hi)
 refine ⟨fun i _ => hpos i, fun i hi => ?_, hend, fun i hi h1 => ?_, fun i hi j hj => ?_, fun i k hi hk hik t => ?_, fun i k hi hk hik t => ?_⟩
 . rw [hat i hi 0 (hpos i), hr, List.getD_cons_zero, hfr]
 . rw [hat i hi _ (by omega)]; have hwl := path_len (W := W) (i := i); have hu := path_under hc hi ((pathL i W).length - 2); have h2 := hlast i hi; obtain ⟨_, h3⟩ := chain_at ((pathL i W).length - 2) hc (by omega); rw [show (pathL i W).length - 2 + 1 = (pathL i W).length - 1 by omega] at h3; have e3 : (W.getD ((pathL i W).length - 1) (s0 m tt)).1.getD i 0 = tt.getD i 0 := stay_at _ hc hi h2; intro e; have h4 : (W.getD ((pathL i W).length - 2) (s0 m tt)).2.getD i false = false := by
    rw [h3, backU_at hi, h2, e, e3]; simp
   rw [h4] at hu; have := hu.symm; simp at this; omega
 . have hwl := path_len (W := W) (i := i); show adj ((pathL i W).getD j 0) ((pathL i W).getD (j + 1) 0); rw [hat i hi j (by omega), hat i hi (j + 1) hj]; obtain ⟨h1, _⟩ := chain_at j hc (by omega); exact hadj _ _ ((growL_mem.1 h1).2 i hi).1
 . show (pathL i W).getD _ 0 ≠ (pathL k W).getD _ 0; rw [path_at hc hi t, path_at hc hk t]; exact (chain_apart hc hd t i k hi hk hik).1
 . show ¬ ((pathL i W).getD _ 0 = (pathL k W).getD _ 0 ∧ (pathL k W).getD _ 0 = (pathL i W).getD _ 0); rw [path_at hc hi t, path_at hc hk t, path_at hc hi (t + 1), path_at hc hk (t + 1)]; exact (chain_apart hc hd t i k hi hk hik).2
theorem list_ext {α : Type} {d : α} {n : Nat} {a b : List α} (ha : a.length = n) (hb : b.length = n) (h : ∀ i, i < n -> a.getD i d = b.getD i d) : a = b := by
 apply List.ext_getElem (by omega)
 intro i h1 h2; have h3 := h i (by omega); simpa [zg, h1, h2] using h3
theorem come_way {nx : List Nat -> List (List Nat)} (G : Gnd nx h m fr tt L) {S : List Nat -> List Nat -> Prop} (hS : ∀ p q, S p q -> p ∈ nx q) : ∀ (n : Nat) (q : List Nat) (u : List Bool) (j K : Nat), q ∈ L -> u.length = m -> reachN S fr n q -> BM.Way (E nx m L) j (s0 m tt) (q, u) K -> ∃ j b K, BM.Way (E nx m L) j (s0 m tt) b K ∧ b.1 = fr
 | 0, q, u, j, K, _, _, hr, W => ⟨j, (q, u), K, W, hr⟩
 | n + 1, q, u, j, K, hq, hu, ⟨p, hp, hs⟩, W => by
   have h1 := hS p q hs; have hpL := G.shut _ hq _ h1; rcases Nat.eq_zero_or_pos (cntU (backU m q u p)) with e | e
   . obtain ⟨e1, e2⟩ := back_none (G.len _ hq) (G.len _ hpL) hu e; rw [e1] at hp; exact come_way G hS n q u j K hq hu hp W
   . exact come_way G hS n p (backU m q u p) (j + 1) (K + cntU (backU m q u p)) hpL (backU_len _ _ _ _) hp ⟨(q, u), K, _, W, ⟨⟨hq, hu⟩, h1, rfl, rfl, e⟩, rfl⟩
end
end SM
namespace SM
open HM BM M
section
variable {α : Type} {R : α → α → Nat → Prop}
theorem way_cons : ∀ {n : Nat} {x y z : α} {d K : Nat}, R x y d -> BM.Way R n y z K -> BM.Way R (n + 1) x z (d + K)
 | 0, x, y, z, d, K, h, W => by
   obtain ⟨e1, e2⟩ := W; subst e1 e2; exact ⟨x, 0, d, ⟨rfl, rfl⟩, h, by omega⟩
 | n + 1, x, y, z, d, K, h, W => by
   obtain ⟨c, k1, d1, W1, h1, e⟩ := W; exact ⟨c, d + k1, d1, way_cons h W1, h1, by omega⟩
theorem way_trans : ∀ {n' n : Nat} {x y z : α} {K K' : Nat}, BM.Way R n x y K -> BM.Way R n' y z K' -> BM.Way R (n + n') x z (K + K')
 | 0, n, x, y, z, K, K', W, W' => by
   obtain ⟨e1, e2⟩ := W'; subst e1 e2; exact W
 | n' + 1, n, x, y, z, K, K', W, W' => by
   obtain ⟨c, k1, d1, W1, h1, e⟩ := W'; exact ⟨c, K + k1, d1, way_trans W W1, h1, by omega⟩
theorem way_first : ∀ {n : Nat} {x z : α} {K : Nat}, BM.Way R (n + 1) x z K -> ∃ y d K', R x y d ∧ BM.Way R n y z K' ∧ K = d + K'
 | 0, x, z, K, W => by
   obtain ⟨c, k1, d, ⟨e1, e2⟩, h, e⟩ := W; subst e1 e2; exact ⟨z, d, 0, h, ⟨rfl, rfl⟩, by omega⟩
 | n + 1, x, z, K, W => by
   obtain ⟨c, k1, d, W1, h, e⟩ := W; obtain ⟨y, d', K', h', W', e'⟩ := way_first W1; exact ⟨y, d', K' + d, h', ⟨c, K', d, W', h, rfl⟩, by omega⟩
end
def RS (rnx : List Nat -> List (List Nat)) (m : Nat) (tt : List Nat) (a b : St) (d : Nat) : Prop :=
 (b.2 = a.2 ∧ b.1 ∈ rnx a.1 ∧ (∀ i, i < m -> a.2.getD i false = true -> b.1.getD i 0 = a.1.getD i 0) ∧ d = m - cntU a.2) ∨
  (b.1 = a.1 ∧ d = 0 ∧ ∃ i, i < m ∧ a.2.getD i false = false ∧ a.1.getD i 0 = tt.getD i 0 ∧ b.2 = a.2.set i true)
def notU (m : Nat) (u : List Bool) : List Bool := (List.range m).map fun i => !u.getD i false
theorem notU_at {m i : Nat} {u : List Bool} (hi : i < m) : (notU m u).getD i false = !u.getD i false := by
 unfold notU; rw [zg, List.getElem?_map, List.getElem?_range hi]; rfl
theorem notU_len (m : Nat) (u : List Bool) : (notU m u).length = m := by simp [notU]
theorem cntU_not {m : Nat} {u : List Bool} (hu : u.length = m) : m - cntU (notU m u) = cntU u := by
 have e : sumN (fun _ => 1) m = m := by
  clear hu u; induction m with
  | zero => rfl
  | succ m ih => simp only [sumN]; rw [ih]
 have h1 : cntU u + cntU (notU m u) = m := by
  rw [cntU_sum hu, cntU_sum (notU_len m u), <- sumN_add]; refine (sumN_same fun i hi => ?_).trans e; rw [notU_at hi]; cases u.getD i false <;> rfl
 omega
theorem getD_set {u : List Bool} {i j : Nat} (hi : i < u.length) : (u.set i true).getD j false = if j = i then true else u.getD j false := by
 rw [zg, List.getElem?_set]; by_cases e : i = j
 . subst e; rw [if_pos rfl, if_pos hi, if_pos rfl]; rfl
 . rw [if_neg e, if_neg (fun h => e h.symm), zg]
section
variable {nx rnx : List Nat → List (List Nat)} {h : List Nat → Nat} {m : Nat} {fr tt : List Nat} {L : List (List Nat)}
theorem stay_way {p : List Nat} {u v : List Bool} (hu : u.length = m) (hv : v.length = m) (hle : ∀ i, i < m -> u.getD i false = true -> v.getD i false = true) (hat : ∀ i, i < m -> v.getD i false = true -> u.getD i false = false -> p.getD i 0 = tt.getD i 0) :
 ∃ n, BM.Way (RS rnx m tt) n (p, u) (p, v) 0 := by
 have key : ∀ k, k <= m -> ∃ n, BM.Way (RS rnx m tt) n (p, u) (p, v.take k ++ u.drop k) 0 := by
  intro k; induction k with
  | zero => intro _; exact ⟨0, by simp, rfl⟩
  | succ k ih =>
    intro hk; obtain ⟨n, W⟩ := ih (by omega); have hl : (v.take k ++ u.drop k).length = m := by rw [List.length_append, List.length_take, List.length_drop]; omega
    have hl1 : (v.take (k + 1) ++ u.drop (k + 1)).length = m := by rw [List.length_append, List.length_take, List.length_drop]; omega
    have hat' : ∀ (t : Nat) (j : Nat), t <= m -> (v.take t ++ u.drop t).getD j false = if j < t then v.getD j false else u.getD j false := fun t j ht => by
     rw [zg, List.getElem?_append, List.length_take]; by_cases e : j < t
     . rw [if_pos (by omega), if_pos e, List.getElem?_take, if_pos e, zg]
     . rw [if_neg (by omega), if_neg e, List.getElem?_drop, zg, show t + (j - min t v.length) = j by omega]
    by_cases e : v.getD k false = true ∧ u.getD k false = false
    . refine ⟨n + 1, (p, v.take k ++ u.drop k), 0, 0, W, .inr ⟨rfl, rfl, k, by omega, ?_, hat k (by omega) e.1 e.2, ?_⟩, rfl⟩
      . show (v.take k ++ u.drop k).getD k false = false; rw [hat' k k (by omega), if_neg (Nat.lt_irrefl k)]; exact e.2
      . refine list_ext (d := false) (n := m) hl1 (by rw [List.length_set]; exact hl) fun j hj => ?_
        rw [getD_set (by rw [hl]; omega), hat' k j (by omega), hat' (k + 1) j hk]; by_cases e2 : j = k
        . subst e2; rw [if_pos (Nat.lt_succ_self j), if_pos rfl]; exact e.1
        . rw [if_neg e2]; by_cases e3 : j < k
          . rw [if_pos e3, if_pos (by omega)]
          . rw [if_neg e3, if_neg (by omega)]
    . have e1 : v.take (k + 1) ++ u.drop (k + 1) = v.take k ++ u.drop k := by
       refine list_ext (d := false) (n := m) hl1 hl fun j hj => ?_
       rw [hat' k j (by omega), hat' (k + 1) j hk]; by_cases e2 : j = k
       . subst e2; rw [if_pos (Nat.lt_succ_self j), if_neg (Nat.lt_irrefl j)]; have h3 := hle j hj; cases hv' : v.getD j false with
         | true =>
           cases hu' : u.getD j false with
           | true => rfl
           | false => exact absurd ⟨hv', hu'⟩ e
         | false =>
           cases hu' : u.getD j false with
           | true => rw [h3 hu'] at hv'; cases hv'
           | false => rfl
       . by_cases e3 : j < k
         . rw [if_pos e3, if_pos (by omega)]
         . rw [if_neg e3, if_neg (by omega)]
      rw [e1]; exact ⟨n, W⟩
 obtain ⟨n, W⟩ := key m zl; rw [List.take_of_length_le (by omega), List.drop_of_length_le (by omega), List.append_nil] at W; exact ⟨n, W⟩
theorem way_fine (G : Gnd nx h m fr tt L) : ∀ (j : Nat) (b : St) (K : Nat), BM.Way (E nx m L) j (s0 m tt) b K -> Fine m L b ∧ ∀ i, i < m -> b.2.getD i false = false -> b.1.getD i 0 = tt.getD i 0
 | 0, b, K, W => by
   obtain ⟨e1, e2⟩ := W; subst e1; exact ⟨⟨G.goal, by simp [s0]⟩, fun i _ _ => rfl⟩
 | j + 1, b, K, W => by
   obtain ⟨c, k1, d, W1, ⟨h1, h2, h3, h4, h5⟩, e⟩ := W; obtain ⟨_, g2⟩ := way_fine G j c k1 W1; refine ⟨⟨G.shut _ h1.1 _ h2, by rw [h3, backU_len]⟩, fun i hi hu => ?_⟩; rw [h3, backU_at hi, Bool.or_eq_false_iff] at hu; have e : b.1.getD i 0 = c.1.getD i 0 := by simpa using hu.2
   rw [e]; exact g2 i hi hu.1
theorem way_there {ok : List Nat -> Prop} (G : Gnd nx h m fr tt L) (hLok : ∀ p, p ∈ L -> ok p) (hsw : ∀ p q, q ∈ L -> ok p -> (p ∈ nx q ↔ q ∈ rnx p)) : ∀ (j : Nat) (b : St) (K : Nat), BM.Way (E nx m L) j (s0 m tt) b K -> ∃ n z, BM.Way (RS rnx m tt) n (b.1, notU m b.2) z K ∧ z.2 = List.replicate m true
 | 0, b, K, W => by
   obtain ⟨e1, e2⟩ := W; subst e1 e2; refine ⟨0, _, ⟨rfl, rfl⟩, list_ext (d := false) (n := m) (notU_len _ _) (by simp) fun i hi => ?_⟩; show (notU m (List.replicate m false)).getD i false = _; rw [notU_at hi, zg, List.getElem?_replicate, if_pos hi, zg, List.getElem?_replicate, if_pos hi]; rfl
 | j + 1, b, K, W => by
   obtain ⟨c, k1, d, W1, ⟨h1, h2, h3, h4, h5⟩, e⟩ := W; obtain ⟨n, z, W2, hz⟩ := way_there G hLok hsw j c k1 W1; obtain ⟨_, hst⟩ := way_fine G j c k1 W1; have hbl := hLok _ (G.shut _ h1.1 _ h2); have hb2 : b.2.length = m := by rw [h3, backU_len]
   obtain ⟨n', W3⟩ := stay_way (rnx := rnx) (tt := tt) (p := c.1) (u := notU m b.2) (v := notU m c.2) (notU_len _ _) (notU_len _ _) (fun i hi hh => by
    rw [notU_at hi] at hh ⊢; rw [h3, backU_at hi] at hh; simp at hh ⊢; exact hh.1) (fun i hi hh _ => by
    rw [notU_at hi] at hh; exact hst i hi (by simpa using hh))
   refine ⟨(n' + n) + 1, z, ?_, hz⟩; have e2 : K = d + (0 + k1) := by omega
   rw [e2]; refine way_cons (y := (c.1, notU m b.2)) ?_ (way_trans W3 W2); refine .inl ⟨rfl, (hsw _ _ h1.1 hbl).1 h2, fun i hi hh => ?_, ?_⟩
   . show c.1.getD i 0 = b.1.getD i 0; have hh : (notU m b.2).getD i false = true := hh; rw [notU_at hi, h3, backU_at hi] at hh; simp at hh; exact hh.2.symm
   . show d = m - cntU (notU m b.2); rw [cntU_not hb2, h4]
theorem way_back {ok : List Nat -> Prop} (hok : ∀ p, ok p -> p.length = m) (G : Gnd nx h m fr tt L) (hsw : ∀ p q, q ∈ L -> ok p -> (p ∈ nx q ↔ q ∈ rnx p)) : ∀ (n : Nat) (a z : St) (K : Nat), BM.Way (RS rnx m tt) n a z K -> z.2 = List.replicate m true -> ok a.1 -> a.2.length = m -> (∀ i, i < m -> a.2.getD i false = true -> a.1.getD i 0 = tt.getD i 0) -> (∀ p q, q ∈ rnx p -> ok q) ->
 ∃ j u K', BM.Way (E nx m L) j (s0 m tt) (a.1, u) K' ∧ K' <= K ∧ ∀ i, i < m -> u.getD i false = true -> a.2.getD i false = false
 | 0, a, z, K, W, hz, hl, hl2, hat, _ => by
   obtain ⟨e1, e2⟩ := W; subst e1 e2; have e : a.1 = tt := list_ext (d := 0) (n := m) (hok _ hl) (G.len _ G.goal) fun i hi => hat i hi (by
    rw [hz, zg, List.getElem?_replicate, if_pos hi]; rfl)
   rw [e]; refine ⟨0, List.replicate m false, 0, ⟨rfl, rfl⟩, zl, fun i hi hh => ?_⟩; rw [zg, List.getElem?_replicate, if_pos hi] at hh; cases hh
 | n + 1, a, z, K, W, hz, hl, hl2, hat, hrl => by
   obtain ⟨y, d, K1, hs, W1, e⟩ := way_first W; rcases hs with ⟨e1, h2, h3, h4⟩ | ⟨e1, e2, i, hi, h3, h4, h5⟩
   . have hat' : ∀ i, i < m -> y.2.getD i false = true -> y.1.getD i 0 = tt.getD i 0 := fun i hi hh => by
      rw [e1] at hh; rw [h3 i hi hh]; exact hat i hi hh
     obtain ⟨j, u, K', W2, hK, hu⟩ := way_back hok G hsw n y z K1 W1 hz (hrl _ _ h2) (by rw [e1]; exact hl2) hat' hrl; obtain ⟨⟨hyL, hul⟩, _⟩ := way_fine G _ _ _ W2; have hnx := (hsw _ _ hyL hl).2 h2; have hfix : ∀ i, i < m -> (backU m y.1 u a.1).getD i false = true -> a.2.getD i false = false := fun i hi hh => by
      rw [backU_at hi] at hh; cases ha : a.2.getD i false with
      | false => rfl
      | true =>
        have h7 := h3 i hi ha; rw [h7] at hh; simp at hh; have h8 := hu i hi hh; rw [e1, ha] at h8; cases h8
     have hd : cntU (backU m y.1 u a.1) <= d := by
      rw [h4, cntU_sum (backU_len _ _ _ _)]; have e9 : m - cntU a.2 = cntU (notU m a.2) := by
       have h9 := cntU_not (notU_len m a.2); have e8 : notU m (notU m a.2) = a.2 := list_ext (d := false) (n := m) (notU_len _ _) hl2 fun i hi => by
        rw [notU_at hi, notU_at hi]; simp
       rw [e8] at h9; exact h9
      rw [e9, cntU_sum (notU_len m a.2)]; refine sumN_le fun i hi => ?_
      by_cases hh : (backU m y.1 u a.1).getD i false = true
      . rw [if_pos hh, notU_at hi, hfix i hi hh]; exact zl
      . rw [if_neg hh]; exact Nat.zero_le _
     rcases Nat.eq_zero_or_pos (cntU (backU m y.1 u a.1)) with e0 | e0
     . obtain ⟨q1, q2⟩ := back_none (G.len _ hyL) (hok _ hl) hul e0; rw [q1]; exact ⟨j, u, K', W2, by omega, fun i hi hh => hfix i hi (by rw [q2]; exact hh)⟩
     . exact ⟨j + 1, backU m y.1 u a.1, K' + cntU (backU m y.1 u a.1), ⟨(y.1, u), K', _, W2, ⟨⟨hyL, hul⟩, hnx, rfl, rfl, e0⟩, rfl⟩, by omega, hfix⟩
   . have hat' : ∀ i, i < m -> y.2.getD i false = true -> y.1.getD i 0 = tt.getD i 0 := fun k hk hh => by
      rw [e1]; rw [h5, getD_set (by omega)] at hh; by_cases e : k = i
      . subst e; exact h4
      . rw [if_neg e] at hh; exact hat k hk hh
     obtain ⟨j, u, K', W2, hK, hu⟩ := way_back hok G hsw n y z K1 W1 hz (by rw [e1]; exact hl) (by rw [h5, List.length_set]; exact hl2) hat' hrl; rw [e1] at W2; refine ⟨j, u, K', W2, by omega, fun k hk hh => ?_⟩; have h8 := hu k hk hh; rw [h5, getD_set (by omega)] at h8; by_cases e : k = i
     . subst e; exact h3
     . rw [if_neg e] at h8; exact h8
theorem least_same {ok : List Nat -> Prop} (hok : ∀ p, ok p -> p.length = m) (G : Gnd nx h m fr tt L) (hLok : ∀ p, p ∈ L -> ok p) (hsw : ∀ p q, q ∈ L -> ok p -> (p ∈ nx q ↔ q ∈ rnx p)) (hrl : ∀ p q, q ∈ rnx p -> ok q) (hfl : ok fr) {g k : Nat}
 (h1 : ∃ j b, BM.Way (E nx m L) j (s0 m tt) b g ∧ b.1 = fr) (h2 : ∀ j b K, BM.Way (E nx m L) j (s0 m tt) b K -> b.1 = fr -> g <= K)
 (h3 : ∃ n z, BM.Way (RS rnx m tt) n (fr, List.replicate m false) z k ∧ z.2 = List.replicate m true) (h4 : ∀ n z K, BM.Way (RS rnx m tt) n (fr, List.replicate m false) z K -> z.2 = List.replicate m true -> k <= K) : g = k := by
 have hr : ∀ i, i < m -> (List.replicate m false).getD i false = false := fun i hi => by
  rw [zg, List.getElem?_replicate, if_pos hi]; rfl
 apply Nat.le_antisymm
 . obtain ⟨n, z, W, hz⟩ := h3; obtain ⟨j, u, K', W2, hK, _⟩ := way_back hok G hsw n _ z k W hz hfl (by simp) (fun i hi hh => by
    have hh : (List.replicate m false).getD i false = true := hh; rw [hr i hi] at hh; cases hh) hrl
   have := h2 _ _ _ W2 rfl; omega
 . obtain ⟨j, b, W, hb⟩ := h1; obtain ⟨n, z, W2, hz⟩ := way_there G hLok hsw j b g W; obtain ⟨_, hst⟩ := way_fine G j b g W; obtain ⟨n', W3⟩ := stay_way (rnx := rnx) (tt := tt) (p := b.1) (u := List.replicate m false) (v := notU m b.2) (by simp) (notU_len _ _) (fun i hi hh => by rw [hr i hi] at hh; cases hh) (fun i hi hh _ => by
    rw [notU_at hi] at hh; exact hst i hi (by simpa using hh))
   rw [hb] at W2 W3; have := h4 _ _ _ (way_trans W3 W2) hz; omega
end
end SM
end Go.Proofs.YtnkgpinadgacgaaGreatDoor
