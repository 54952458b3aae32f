/- Several texts in one: Ho, La, Lb. -/
import Derived.Test.YtnkgpinadgacgabDoorMkzp
import Derived.Test.YtnkgpinadgacgabDoorMkzu
import Derived.Test.YtnkgpinadgacgabDoorMkzm
import Derived.Test.YtnkgpinadgacgabDoorMkzq
import Derived.Deep.QuietTactic
import Derived.BigQuiet
import Derived.Deep.RegionHeld3
namespace Go.Proofs.YtnkgpinadgacgabDoor
open M SM BM
section
variable {co : Int} {cs : ByteArray} {m : Nat} {fr tt : Nat → Int} {ln : Nat → Nat} {pt : Nat → Nat → Nat}
theorem posM_at {i t : Nat} : posM (ln i) (fun j => ((pt i j : Nat) : Int)) t = ((atT ln pt i t : Nat) : Int) := by
  unfold posM atT
  by_cases h : t < ln i
  · rw [if_pos h, if_pos h]
  · rw [if_neg h, if_neg h]

theorem times_none {lvl i k : Nat} {x y : Nat → Int} (h : ∀ t, pairB lvl (x t) (y t) (x (t + 1)) (y (t + 1)) = false) : ∀ t, timesF lvl i k x y t = []
  | 0 => rfl
  | t + 1 => by
    simp only [timesF]
    rw [times_none h t, h t]; rfl

theorem pairs_none {lvl n : Nat} {len : Nat → Nat} {num : Nat → Nat → Int} (h : ∀ i k, i < n → k < n → i < k → ∀ t, pairB lvl (posM (len i) (num i) t) (posM (len k) (num k) t) (posM (len i) (num i) (t + 1)) (posM (len k) (num k) (t + 1)) = false) : ∀ i, i ≤ n → pairsF lvl n len num i = []
  | 0, _ => rfl
  | i + 1, hi => by
    have key : ∀ k, k ≤ n → othersF lvl i len num k = [] := by
      intro k
      induction k with
      | zero => intro _; rfl
      | succ k ih =>
        intro hk
        simp only [othersF]
        rw [ih (by omega)]
        by_cases e : i < k
        · rw [if_pos e, times_none (h i k (by omega) (by omega) e)]; rfl
        · rw [if_neg e]; rfl
    simp only [pairsF]
    rw [pairs_none h i (by omega), key n (Nat.le_refl n)]; rfl

theorem cells_none {i n : Nat} {x : Nat → Int} (h : ∀ t, t < n → M.stepB co cs n x t = false) : ∀ t, t ≤ n → cellsF co cs i n x t = []
  | 0, _ => rfl
  | t + 1, ht => by
    simp only [cellsF]
    rw [cells_none h t (by omega), h t (by omega)]; rfl

/-- A good plan has no faults. -/
theorem good_none {adj : Nat → Nat → Prop} {frN ttN : Nat → Nat} (P : GoodP m adj frN ttN ln pt) (hfr : ∀ i, i < m → fr i = (frN i : Nat)) (htt : ∀ i, i < m → tt i = (ttN i : Nat)) (hadj : ∀ i, i < m → ∀ j, j + 1 < ln i → mayM co cs (pt i j : Nat) (pt i (j + 1) : Nat) = true) (hfree : ∀ i, i < m → freeB cs (pt i 0 : Nat) = true) :
    allF 3 co cs fr tt m ln (fun i j => ((pt i j : Nat) : Int)) = [] := by
  have p3 : pairsF 3 m ln (fun i j => ((pt i j : Nat) : Int)) m = [] := pairs_none (fun i k hi hk hik t => by
    rw [posM_at, posM_at, posM_at, posM_at]
    have h := P.swap i k hi hk (by omega) t
    unfold pairB
    rw [if_neg (by decide)]
    by_cases e1 : atT ln pt i t = atT ln pt k (t + 1)
    · have e2 : ¬ atT ln pt k t = atT ln pt i (t + 1) := fun e2 => h ⟨e1, e2⟩
      simp; omega
    · simp; omega) m (Nat.le_refl m)
  have p2 : pairsF 2 m ln (fun i j => ((pt i j : Nat) : Int)) m = [] := pairs_none (fun i k hi hk hik t => by
    rw [posM_at, posM_at, posM_at, posM_at]
    have h := P.meet i k hi hk (by omega) t
    unfold pairB
    rw [if_pos rfl]
    simp; omega) m (Nat.le_refl m)
  have s1 : ∀ i, i ≤ m → stepsF co cs ln (fun i j => ((pt i j : Nat) : Int)) i = [] := by
    intro i
    induction i with
    | zero => intro _; rfl
    | succ i ih =>
      intro hi
      simp only [stepsF]
      rw [ih (by omega), cells_none (fun t ht => ?_) (ln i) (Nat.le_refl _)]
      · rfl
      · unfold M.stepB
        by_cases e : t + 1 < ln i
        · rw [hadj i (by omega) t e]
          by_cases e2 : t = 0
          · subst e2
            rw [hfree i (by omega)]; simp
          · simp [e2]
        · by_cases e2 : t = 0
          · subst e2
            rw [hfree i (by omega)]; simp [e]
          · simp [e, e2]
  have e0 : ∀ i, i ≤ m → endsF fr tt ln (fun i j => ((pt i j : Nat) : Int)) i = [] := by
    intro i
    induction i with
    | zero => intro _; rfl
    | succ i ih =>
      intro hi
      have h1 := P.pos i (by omega)
      have h2 := P.first i (by omega)
      have h3 := P.last i (by omega)
      have h4 := P.wait i (by omega)
      have b1 : begunB (fr i) (ln i) (fun j => ((pt i j : Nat) : Int)) = true := by
        unfold begunB
        show (decide (0 < ln i) && (((pt i 0 : Nat) : Int) == fr i)) = true
        rw [hfr i (by omega), h2]
        simp [h1]
      have b2 : overB (tt i) (ln i) (fun j => ((pt i j : Nat) : Int)) = true := by
        unfold overB
        show (decide (ln i = 0) || ((((pt i (ln i - 1) : Nat) : Int) == tt i) && (decide (ln i = 1) || !(((pt i (ln i - 2) : Nat) : Int) == tt i)))) = true
        rw [htt i (by omega), h3]
        by_cases e : ln i = 1
        · simp [e]
        · have h5 := h4 (by omega)
          have h6 : (((pt i (ln i - 2) : Nat) : Int) == ((ttN i : Nat) : Int)) = false := by simp; omega
          rw [h6]; simp
      simp only [endsF]
      rw [ih (by omega)]
      unfold M.endF
      rw [b1, b2]; rfl
  unfold allF
  rw [p3, p2, s1 m (Nat.le_refl m), e0 m (Nat.le_refl m)]
  simp

end
section
variable {nx : List Nat → List (List Nat)} {h : List Nat → Nat} {m : Nat} {fr tt : List Nat} {L : List (List Nat)}
/-- No state comes twice on the way told. -/
theorem way_nodup {s : SM.Srch} {X : List St} (R : Run nx h m fr tt L s X (fun _ _ => False)) : ∀ (f : Nat) (x : St) (g : Nat), (s.seen x).map (·.1) = some g → (SM.wayF s.seen f x).Nodup ∧ ∀ y, y ∈ SM.wayF s.seen f x → ∃ k, (s.seen y).map (·.1) = some k ∧ k ≤ g
  | 0, x, g, hx => by
    simp only [SM.wayF]
    refine ⟨by simp, fun y hy => ?_⟩
    rw [List.mem_singleton] at hy
    exact ⟨g, hy ▸ hx, Nat.le_refl _⟩
  | f + 1, x, g, hx => by
    simp only [SM.wayF]
    by_cases e : 0 < costO (s.seen x)
    · rw [if_pos e]
      obtain ⟨g0, h2, h3⟩ := way_back2 R hx e
      obtain ⟨i1, i2⟩ := way_nodup R f _ g0 h2
      refine ⟨List.nodup_cons.2 ⟨fun hm => ?_, i1⟩, fun y hy => ?_⟩
      · obtain ⟨k, k1, k2⟩ := i2 x hm
        rw [hx] at k1
        injection k1 with k1
        omega
      · rcases List.mem_cons.1 hy with q | q
        · exact ⟨g, q ▸ hx, Nat.le_refl _⟩
        · obtain ⟨k, k1, k2⟩ := i2 y q
          exact ⟨k, k1, by omega⟩
    · rw [if_neg e]
      refine ⟨by simp, fun y hy => ?_⟩
      rw [List.mem_singleton] at hy
      exact ⟨g, hy ▸ hx, Nat.le_refl _⟩

end
section
variable {ro co bu : Int} {cs : ByteArray} {m : Nat} {fr tt : Nat → Int} {L : List (List Nat)} {F0 : Nat}
end
end Go.Proofs.YtnkgpinadgacgabDoor

namespace Go.Proofs.YtnkgpinadgacgabDoor
open Go.RowKit M SM
/-- The plan that the search tells. -/
noncomputable def planK (F0 : Nat) (ro co : Int) (cs : ByteArray) (m : Nat) (fr tt : Nat → Int) : List (List Nat) :=
  match solY F0 ro co cs m fr tt with
  | some (b, s') => planL m (SM.wayF s'.seen (costO (s'.seen b)) b)
  | none => []

/-- A good plan of this cost: i's path has one cell more than T i. -/
structure GoodK (co : Int) (cs : ByteArray) (m : Nat) (fr tt : Nat → Int) (T : Nat → Nat) (p : Nat → Nat → Nat) : Prop where
  path : ∀ i, i < m → ∃ f c : Nat, fr i = (f : Int) ∧ tt i = (c : Int) ∧ isPathM co cs f c (T i) (p i) = true ∧ (∀ s, s ≤ T i → p i s < cs.size) ∧ T i ≤ 1000000
  meet : ∀ i k, k < i → i < m → ∀ t, whM (T k) (p k) t ≠ whM (T i) (p i) t ∧ ¬ (whM (T k) (p k) t = whM (T i) (p i) (t + 1) ∧ whM (T i) (p i) t = whM (T k) (p k) (t + 1))

theorem wh_at {ln : Nat → Nat} {pt : Nat → Nat → Nat} {i t : Nat} (h : 0 < ln i) : whM (ln i - 1) (pt i) t = atT ln pt i t := by
  unfold whM atT
  by_cases e : t < ln i
  · rw [if_pos (by omega), if_pos e]
  · by_cases e2 : t ≤ ln i - 1
    · omega
    · rw [if_neg e2, if_neg e]

section
variable {ro co bu : Int} {cs : ByteArray} {m : Nat} {fr tt : Nat → Int} {L : List (List Nat)} {F0 : Nat}
theorem planK_at {m i : Nat} {W : List St} (h : i < m) : (planL m W).getD i [] = pathL i W := by
  unfold planL
  rw [List.getD_eq_getElem?_getD, List.getElem?_map, List.getElem?_range h]; rfl

theorem isPath_of {co : Int} {cs : ByteArray} {f c T : Nat} {p : Nat → Nat} (h0 : p 0 = f) (hT : p T = c) (hw : 0 < T → p (T - 1) ≠ p T) (hs : ∀ s, s < T → p s < cs.size ∧ mayM co cs (p s) (p (s + 1)) = true) : isPathM co cs f c T p = true := by
  have h1 : stepsM co cs T p = true := stepsM_yes fun t ht => by
    rw [kmay_adj (hs t ht).1]
    show (!mayM co cs (p t) (p (t + 1))) = false
    rw [(hs t ht).2]; rfl
  unfold isPathM
  rw [h1, h0, hT]
  by_cases e : 0 < T
  · have := hw e
    rw [hT] at this
    simp [this]
  · simp [e]

/-- The search's plan is good. -/
theorem sol_plan (hF : 200400000 ≤ F0) (hck : (checkM ro co cs m fr tt bu).1 = 0) (hW : Work (stepP ro co cs m) (cellsOf fr m) L L.length) (hg : cellsOf tt m ∈ L) (hL : L.length ≤ 20000) {b : St} {s' : SM.Srch} (hsol : solY F0 ro co cs m fr tt = some (b, s')) :
    (planK F0 ro co cs m fr tt).length = m ∧ (∀ i, i < m → 0 < ((planK F0 ro co cs m fr tt).getD i []).length) ∧ GoodK co cs m fr tt (fun i => ((planK F0 ro co cs m fr tt).getD i []).length - 1) (fun i j => ((planK F0 ro co cs m fr tt).getD i []).getD j 0) ∧
      costO (s'.seen b) = sumN (fun i => ((planK F0 ro co cs m fr tt).getD i []).length - 1) m := by
  obtain ⟨s1, s2, s3⟩ := checkM_good hck
  obtain ⟨r1, r2⟩ := side_bd s1
  obtain ⟨r3, r4⟩ := side_bd s2
  obtain ⟨hm4, hfree⟩ := carts_free hck
  obtain ⟨hp1, hp2⟩ := cells_pos hck
  obtain ⟨G, hpos, hway⟩ := sol_gnd hck hW hg hL
  obtain ⟨R, hn⟩ := run_begin G
  obtain ⟨hb1, _, hleast⟩ := sol_least hF hck hW hg hL hsol
  obtain ⟨x, s2', X2, hcome, hx, ⟨s3', hseen, hR3⟩, g, hgx, _⟩ := come_ok G hway F0 _ [] R (by unfold left; rw [hn]; simp only [List.length_nil]; omega)
  have e : some (x, s2') = some (b, s') := hcome.symm.trans hsol
  injection e with e
  injection e with e1 e2
  subst e1 e2
  have hk : costO (s2'.seen x) = g := by
    cases e : s2'.seen x with
    | none => rw [e] at hgx; cases hgx
    | some v => rw [e] at hgx; simp at hgx; exact hgx
  obtain ⟨W, hWe⟩ : ∃ W, W = SM.wayF s2'.seen (costO (s2'.seen x)) x := ⟨_, rfl⟩
  have hPO : planK F0 ro co cs m fr tt = planL m W := by
    unfold planK
    rw [hsol, hWe]
  obtain ⟨c1, c2, ⟨j, c3⟩, c4, _⟩ := way_chain G hR3 g x g (hseen ▸ hgx) (Nat.le_refl g)
  have hmem := way_mem hR3 g x g (hseen ▸ hgx)
  have hnd := (way_nodup hR3 g x g (hseen ▸ hgx)).1
  rw [hseen, ← hk, ← hWe] at c1 c2 c3 c4 hmem hnd
  have hfew := fine_few hm4 hnd hmem
  have hcost : costO (s2'.seen x) = costW W := Nat.le_antisymm (hleast j x _ c3 hx) (by rw [hk]; rw [hk] at c2; exact c2)
  have hd : ∀ i k, i < m → k < m → i ≠ k → (cellsOf tt m).getD i 0 ≠ (cellsOf tt m).getD k 0 := hp2.2
  have P := chain_good (adj := fun a b => a ∈ mvN ro co cs b) c1 c4 hx hd (fun a b h => h)
  have hcell : ∀ i, i < m → ∀ t, t < (pathL i W).length → (pathL i W).getD t 0 < cs.size ∧ freeB cs ((pathL i W).getD t 0 : Nat) = true := fun i hi t ht => by
    have h1 := path_at c1 hi t
    rw [if_pos ht] at h1
    have h2 : t < W.length := Nat.lt_of_lt_of_le ht path_len
    have h3 := (hpos _ (hmem _ (List.getElem_mem h2)).1).1.1.2 i hi
    have h4 : W.getD t (s0 m (cellsOf tt m)) = W[t] := by rw [List.getD_eq_getElem?_getD, List.getElem?_eq_getElem h2]; rfl
    rw [h1, h4]
    exact h3
  have hat : ∀ i, i < m → (planK F0 ro co cs m fr tt).getD i [] = pathL i W := fun i hi => by rw [hPO, planK_at hi]
  refine ⟨by rw [hPO]; simp [planL], fun i hi => by rw [hat i hi]; exact P.pos i hi, ⟨fun i hi => ?_, fun i k hki hi t => ?_⟩, ?_⟩
  · obtain ⟨f1, f2⟩ := hfree i hi
    have e1 := free_pos f1
    have e2 := free_pos f2
    have hlen : (pathL i W).length ≤ W.length := path_len
    have hps := P.pos i hi
    refine ⟨(cellsOf fr m).getD i 0, (cellsOf tt m).getD i 0, by rw [cellsOf_at hi]; omega, by rw [cellsOf_at hi]; omega, ?_, ?_, ?_⟩
    · simp only [hat i hi]
      refine isPath_of (P.first i hi) (P.last i hi) (fun h => ?_) (fun s hs => ?_)
      · have h1 := P.wait i hi (by omega)
        have h2 := P.last i hi
        intro h3
        apply h1
        show (pathL i W).getD ((pathL i W).length - 2) 0 = _
        rw [← h2]
        exact h3
      · have h1 := P.step i hi s (by omega)
        obtain ⟨h2, h3⟩ := hcell i hi (s + 1) (by omega)
        obtain ⟨h4, h5⟩ := hcell i hi s (by omega)
        have h6 := (mvN_mem r3 r4 s3 h2 h3).1 h1
        exact ⟨h4, (mayN_mem.1 (mayN_turn h2 h3 h6)).2⟩
    · simp only [hat i hi]
      intro s hs
      exact (hcell i hi s (by omega)).1
    · simp only [hat i hi]
      omega
  · have hkm : k < m := by omega
    have q1 : ∀ t, whM ((pathL i W).length - 1) (fun j => (pathL i W).getD j 0) t = atT (fun i => (pathL i W).length) (fun i j => (pathL i W).getD j 0) i t := fun t => wh_at (ln := fun i => (pathL i W).length) (pt := fun i j => (pathL i W).getD j 0) (P.pos i hi)
    have q2 : ∀ t, whM ((pathL k W).length - 1) (fun j => (pathL k W).getD j 0) t = atT (fun i => (pathL i W).length) (fun i j => (pathL i W).getD j 0) k t := fun t => wh_at (ln := fun i => (pathL i W).length) (pt := fun i j => (pathL i W).getD j 0) (P.pos k hkm)
    simp only [hat i hi, hat k hkm]
    rw [q1, q2, q1, q2]
    exact ⟨P.meet k i hkm hi (by omega) t, P.swap k i hkm hi (by omega) t⟩
  · rw [hcost, path_cost (fun p q hq => (growL_mem.1 hq).1) (cellsOf_len _ _) c1]
    exact sumN_same fun i hi => by rw [hat i hi]

end
end Go.Proofs.YtnkgpinadgacgabDoor

namespace Go.Proofs.YtnkgpinadgacgabDoor
open Go.RowKit M SM
set_option maxRecDepth 100000 in
set_option maxHeartbeats 4000000 in
theorem clash_no (g1 T1 c1 g2 T2 c2 : Nat) (p1 p2 : Nat → Nat) (w : World) (hT1 : T1 ≤ 1000000) (hT2 : T2 ≤ 1000000) (hp1 : ∀ s, s ≤ T1 → w.cell? ⟨g1, s, none⟩ = some (natV p1 s)) (hp2 : ∀ s, s ≤ T2 → w.cell? ⟨g2, s, none⟩ = some (natV p2 s))
    (hno : ∀ t, whM T1 p1 t ≠ whM T2 p2 t ∧ ¬ (whM T1 p1 t = whM T2 p2 (t + 1) ∧ whM T2 p2 t = whM T1 p1 (t + 1))) :
    Calls Tryd.prog 34 #[.slice (some ⟨g1, 0, none⟩) (T1 + 1) c1, .slice (some ⟨g2, 0, none⟩) (T2 + 1) c2] w fun e w' => e = .returned (.bool false) ∧ w' = w := by
  have P1 := Hid.mk hp1
  have P2 := Hid.mk hp2
  have NO := Hid.mk hno
  clear hp1 hp2 hno
  go_enter Tryd.func34, Tryd.ntmps34
  obtain ⟨N1, hN1⟩ : ∃ N1, N1 = T1 + 1 := ⟨_, rfl⟩
  obtain ⟨N2, hN2⟩ : ∃ N2, N2 = T2 + 1 := ⟨_, rfl⟩
  have W1 : Hid (∀ (t : Nat) (t' : Int), t' = (t : Int) → Calls Tryd.prog 44 #[.slice (some ⟨g1, 0, none⟩) N1 c1, .int .i64 t'] w fun e w' => e = .returned (.int .i64 (whM T1 p1 t : Nat)) ∧ w' = w) := fun t t' e => by
    rw [hN1]; exact where_at g1 T1 c1 t t' p1 w e (by omega) P1.out
  have W2 : Hid (∀ (t : Nat) (t' : Int), t' = (t : Int) → Calls Tryd.prog 44 #[.slice (some ⟨g2, 0, none⟩) N2 c2, .int .i64 t'] w fun e w' => e = .returned (.int .i64 (whM T2 p2 t : Nat)) ∧ w' = w) := fun t t' e => by
    rw [hN2]; exact where_at g2 T2 c2 t t' p2 w e (by omega) P2.out
  have b1 : N1 ≤ 1000001 := by omega
  have b2 : N2 ≤ 1000001 := by omega
  rw [← hN1, ← hN2]
  clear hN1 hN2 P1 P2
  by_cases hgt : N1 < N2
  · have hgI : (N1 : Int) < (N2 : Int) := by omega
    go_wp2
    go_loopw [6] (fun v6 wr => ∃ t : Nat, v6 = .int .i64 t ∧ t ≤ N2 ∧ wr = w) (fun v6 _ => N2 - (intOf v6).toNat)
    case atStart => exact ⟨0, rfl, Nat.zero_le _, rfl⟩
    case round =>
      obtain ⟨t, rfl, ht, rfl⟩ := hrel
      by_cases hlt : t < N2
      · have htI : (t : Int) < (N2 : Int) := by omega
        obtain ⟨A, hA⟩ : ∃ A, A = whM T1 p1 t := ⟨_, rfl⟩
        obtain ⟨B, hB⟩ : ∃ B, B = whM T2 p2 t := ⟨_, rfl⟩
        obtain ⟨C, hC⟩ : ∃ C, C = whM T1 p1 (t + 1) := ⟨_, rfl⟩
        obtain ⟨D, hD⟩ : ∃ D, D = whM T2 p2 (t + 1) := ⟨_, rfl⟩
        have hno := NO.out t
        have C1 := Hid.mk (W1.out t t rfl)
        have C2 := Hid.mk (W2.out t t rfl)
        have C3 := Hid.mk (W1.out (t + 1) ((t : Int) + 1) (by omega))
        have C4 := Hid.mk (W2.out (t + 1) ((t : Int) + 1) (by omega))
        rw [← hA, ← hB, ← hC, ← hD] at hno
        rw [← hA] at C1
        rw [← hB] at C2
        rw [← hC] at C3
        rw [← hD] at C4
        clear hA hB hC hD
        have e1 : ((A : Int) == (B : Int)) = false := by simp; omega
        have e23 : (((A : Int) == (D : Int)) = false) ∨ (((A : Int) == (D : Int)) = true ∧ ((B : Int) == (C : Int)) = false) := by
          by_cases e : A = D
          · exact .inr ⟨by simp [e], by simp; omega⟩
          · exact .inl (by simp; omega)
        clear hno
        go_wp2_with fail
        refine (C1.out).mono ?_
        rintro e w9 ⟨rfl, hw9⟩
        have hw9 := hw9.symm
        subst hw9
        go_wp2_with fail
        refine (C2.out).mono ?_
        rintro e w9 ⟨rfl, hw9⟩
        have hw9 := hw9.symm
        subst hw9
        go_wp2_with fail
        refine (C3.out).mono ?_
        rintro e w9 ⟨rfl, hw9⟩
        have hw9 := hw9.symm
        subst hw9
        go_wp2_with fail
        refine (C4.out).mono ?_
        rintro e w9 ⟨rfl, hw9⟩
        have hw9 := hw9.symm
        subst hw9
        rcases e23 with e2 | ⟨e2, e3⟩
        · go_wp2
          go_roundw
          case rel => exact ⟨t + 1, by go_num, by omega, by first | rfl | trivial⟩
          case measure => simp [intOf]; omega
        · go_wp2
          go_roundw
          case rel => exact ⟨t + 1, by go_num, by omega, by first | rfl | trivial⟩
          case measure => simp [intOf]; omega
      · go_wp2
        go_ret
        exact ⟨rfl, rfl⟩
  · have hgI : ¬ (N1 : Int) < (N2 : Int) := by omega
    go_wp2
    go_loopw [6] (fun v6 wr => ∃ t : Nat, v6 = .int .i64 t ∧ t ≤ N1 ∧ wr = w) (fun v6 _ => N1 - (intOf v6).toNat)
    case atStart => exact ⟨0, rfl, Nat.zero_le _, rfl⟩
    case round =>
      obtain ⟨t, rfl, ht, rfl⟩ := hrel
      by_cases hlt : t < N1
      · have htI : (t : Int) < (N1 : Int) := by omega
        obtain ⟨A, hA⟩ : ∃ A, A = whM T1 p1 t := ⟨_, rfl⟩
        obtain ⟨B, hB⟩ : ∃ B, B = whM T2 p2 t := ⟨_, rfl⟩
        obtain ⟨C, hC⟩ : ∃ C, C = whM T1 p1 (t + 1) := ⟨_, rfl⟩
        obtain ⟨D, hD⟩ : ∃ D, D = whM T2 p2 (t + 1) := ⟨_, rfl⟩
        have hno := NO.out t
        have C1 := Hid.mk (W1.out t t rfl)
        have C2 := Hid.mk (W2.out t t rfl)
        have C3 := Hid.mk (W1.out (t + 1) ((t : Int) + 1) (by omega))
        have C4 := Hid.mk (W2.out (t + 1) ((t : Int) + 1) (by omega))
        rw [← hA, ← hB, ← hC, ← hD] at hno
        rw [← hA] at C1
        rw [← hB] at C2
        rw [← hC] at C3
        rw [← hD] at C4
        clear hA hB hC hD
        have e1 : ((A : Int) == (B : Int)) = false := by simp; omega
        have e23 : (((A : Int) == (D : Int)) = false) ∨ (((A : Int) == (D : Int)) = true ∧ ((B : Int) == (C : Int)) = false) := by
          by_cases e : A = D
          · exact .inr ⟨by simp [e], by simp; omega⟩
          · exact .inl (by simp; omega)
        clear hno
        go_wp2_with fail
        refine (C1.out).mono ?_
        rintro e w9 ⟨rfl, hw9⟩
        have hw9 := hw9.symm
        subst hw9
        go_wp2_with fail
        refine (C2.out).mono ?_
        rintro e w9 ⟨rfl, hw9⟩
        have hw9 := hw9.symm
        subst hw9
        go_wp2_with fail
        refine (C3.out).mono ?_
        rintro e w9 ⟨rfl, hw9⟩
        have hw9 := hw9.symm
        subst hw9
        go_wp2_with fail
        refine (C4.out).mono ?_
        rintro e w9 ⟨rfl, hw9⟩
        have hw9 := hw9.symm
        subst hw9
        rcases e23 with e2 | ⟨e2, e3⟩
        · go_wp2
          go_roundw
          case rel => exact ⟨t + 1, by go_num, by omega, by first | rfl | trivial⟩
          case measure => simp [intOf]; omega
        · go_wp2
          go_roundw
          case rel => exact ⟨t + 1, by go_num, by omega, by first | rfl | trivial⟩
          case measure => simp [intOf]; omega
      · go_wp2
        go_ret
        exact ⟨rfl, rfl⟩

set_option maxRecDepth 100000 in
set_option maxHeartbeats 8000000 in
theorem kgood_yes (ro co bu : Int) (cs : ByteArray) (b off m cap : Nat) (fr tt : Nat → Int) (g cg : Nat) (h T c : Nat → Nat) (p : Nat → Nat → Nat) (w : World) (hs : cs.size ≤ 36) (h1 : 1 ≤ co) (h2 : co ≤ 6) (hm : m ≤ 4) (hcs : CartsIn w b off m fr tt)
    (hpl : ∀ i, i < m → w.cell? ⟨g, i, none⟩ = some (.slice (some ⟨h i, 0, none⟩) (T i + 1) (c i)) ∧ ∀ s, s ≤ T i → w.cell? ⟨h i, s, none⟩ = some (natV (p i) s)) (hG : GoodK co cs m fr tt T p) :
    Calls Tryd.prog 12 #[.agg #[.int .i64 ro, .int .i64 co, .string cs, .slice (some ⟨b, off, none⟩) m cap, .int .i64 bu], .slice (some ⟨g, 0, none⟩) m cg] w fun e w' => e = .returned (.bool true) ∧ Below w.heap.size w w' := by
  have HCS := Hid.mk hcs
  have HPL := Hid.mk hpl
  have HG := Hid.mk hG
  have HTB : Hid (∀ i, i < m → T i ≤ 1000000) := fun i hi => by
    obtain ⟨_, _, _, _, _, _, q⟩ := hG.path i hi
    exact q
  clear hcs hpl hG
  go_enter Tryd.func12, Tryd.ntmps12
  obtain ⟨w1, hw1⟩ : ∃ w1, w1 = w.alloc (Obj.cells #[Value.int IntKind.i64 ro, Value.int IntKind.i64 co, Value.string cs, .slice (some ⟨b, off, none⟩) m cap, Value.int IntKind.i64 bu] 28) := ⟨_, rfl⟩
  have B1 : Hid (Below w.heap.size w w1) := by unfold Hid; rw [hw1]; exact (Below.refl _ w).alloc (Nat.le_refl _) _
  have Y1 : Hid (∀ o, w1.cell? ⟨w.heap.size, o, none⟩ = #[Value.int .i64 ro, .int .i64 co, .string cs, .slice (some ⟨b, off, none⟩) m cap, .int .i64 bu][o]?) := by
    unfold Hid
    intro o
    rw [hw1]; go_simp
  have hz1 : w.heap.size < w1.heap.size := by rw [hw1]; simp
  have y13 := Y1.out 3
  simp only [List.getElem?_toArray, List.getElem?_cons_zero, List.getElem?_cons_succ] at y13
  go_upto_region 4 with fail
  rw [← hw1]
  clear hw1 y13
  go_loopw [5] (fun v5 wr => ∃ i : Nat, v5 = .int .i64 i ∧ i ≤ m ∧ Below w1.heap.size w1 wr) (fun v5 _ => m - (intOf v5).toNat)
  case atStart => exact ⟨0, rfl, Nat.zero_le _, Below.refl _ _⟩
  case round =>
    obtain ⟨w2, rfl⟩ : ∃ q, q = wr := ⟨_, rfl⟩
    obtain ⟨i, rfl, hi, hb2⟩ := hrel
    have B2 := Hid.mk hb2
    have hz2 := hb2.size
    by_cases hlt : i < m
    · have hiI : (i : Int) < (m : Int) := by omega
      obtain ⟨f, cc, hf, hc, hip, hin, hTi⟩ := HG.out.path i hlt
      have B02 : Hid (Below w.heap.size w w2) := B1.out.trans (B2.out.mono (by omega))
      obtain ⟨hp0, hps⟩ := HPL.out i hlt
      have d0 := cell_later B02.out hp0
      have HC2 := Hid.mk (HCS.out.below B02.out)
      have HP2 : Hid (∀ s, s ≤ T i → w2.cell? ⟨h i, s, none⟩ = some (natV (p i) s)) := fun s hs => cell_later B02.out (hps s hs)
      have HIN := Hid.mk hin
      have HIP := Hid.mk hip
      have HF := Hid.mk hf
      have HC := Hid.mk hc
      have hTb : T i ≤ 1000000000000000000 := by omega
      have y20 := (B2.out.cell (p := ⟨w.heap.size, 0, none⟩) hz1).trans (Y1.out 0)
      have y21 := (B2.out.cell (p := ⟨w.heap.size, 1, none⟩) hz1).trans (Y1.out 1)
      have y22 := (B2.out.cell (p := ⟨w.heap.size, 2, none⟩) hz1).trans (Y1.out 2)
      have y23 := (B2.out.cell (p := ⟨w.heap.size, 3, none⟩) hz1).trans (Y1.out 3)
      have y24 := (B2.out.cell (p := ⟨w.heap.size, 4, none⟩) hz1).trans (Y1.out 4)
      simp only [List.getElem?_toArray, List.getElem?_cons_zero, List.getElem?_cons_succ] at y20 y21 y22 y23 y24
      have hzw : w.heap.size < w2.heap.size := by omega
      have hgw : g < w2.heap.size := World.block_lt_of_cell? _ _ d0
      have IP : Hid (∀ u, (∀ q, q < w2.heap.size → u.heap[q]? = w2.heap[q]?) → Calls Tryd.prog 33 #[.agg #[.int .i64 ro, .int .i64 co, .string cs, .slice (some ⟨b, off, none⟩) m cap, .int .i64 bu], .int .i64 i, .slice (some ⟨h i, 0, none⟩) (T i + 1) (c i)] u fun e w' => e = .returned (.bool true) ∧ Below u.heap.size u w') := fun u hu => by
        refine (kisPath_any ro co bu cs b off m cap fr tt i f cc (h i) (T i) (c i) (p i) u hs h1 h2 hlt hTb HF.out HC.out (fun k hk => ?_) (fun s hs => ?_) HIN.out).mono ?_
        · have q := HC2.out k hk
          exact ⟨(cell_block (hu b (World.block_lt_of_cell? _ _ q.1))).trans q.1, (cell_block (hu b (World.block_lt_of_cell? _ _ q.1))).trans q.2⟩
        · have q := HP2.out s hs
          exact (cell_block (hu (h i) (World.block_lt_of_cell? _ _ q))).trans q
        · rintro e w' ⟨he, hb⟩
          rw [HIP.out] at he
          exact ⟨he, hb⟩
      clear hb2 hp0 hps hin hip hf hc
      go_upto_region 6 with fail
      go_region_held3 (fun w' => w'.cell? ⟨w.heap.size, 0, none⟩ = some (.int .i64 ro) ∧ w'.cell? ⟨w.heap.size, 1, none⟩ = some (.int .i64 co) ∧ w'.cell? ⟨w.heap.size, 2, none⟩ = some (.string cs) ∧ w'.cell? ⟨w.heap.size, 3, none⟩ = some (.slice (some ⟨b, off, none⟩) m cap) ∧ w'.cell? ⟨w.heap.size, 4, none⟩ = some (.int .i64 bu) ∧ w'.cell? ⟨g, i, none⟩ = some (.slice (some ⟨h i, 0, none⟩) (T i + 1) (c i))) (go_keep)
        (first
          | (go_at_call_of 33 (Value.int IntKind.i64 ro); refine (IP.out w2.drew (fun q _ => rfl)).mono ?_; rintro e w4 ⟨rfl, hb4⟩; have q0 : w4.cell? ⟨w.heap.size, 0, none⟩ = some (.int .i64 ro) := (hb4.cell (p := ⟨w.heap.size, 0, none⟩) hzw).trans y20; have q1 : w4.cell? ⟨w.heap.size, 1, none⟩ = some (.int .i64 co) := (hb4.cell (p := ⟨w.heap.size, 1, none⟩) hzw).trans y21; have q2 : w4.cell? ⟨w.heap.size, 2, none⟩ = some (.string cs) := (hb4.cell (p := ⟨w.heap.size, 2, none⟩) hzw).trans y22; have q3 : w4.cell? ⟨w.heap.size, 3, none⟩ = some (.slice (some ⟨b, off, none⟩) m cap) := (hb4.cell (p := ⟨w.heap.size, 3, none⟩) hzw).trans y23; have q4 : w4.cell? ⟨w.heap.size, 4, none⟩ = some (.int .i64 bu) := (hb4.cell (p := ⟨w.heap.size, 4, none⟩) hzw).trans y24; have q5 : w4.cell? ⟨g, i, none⟩ = some (.slice (some ⟨h i, 0, none⟩) (T i + 1) (c i)) := (hb4.cell (p := ⟨g, i, none⟩) hgw).trans d0; have B4 : Hid (Below w2.heap.size w2 w4) := (Below.refl _ w2).drew.trans (hb4.mono (Nat.le_refl _)); clear hb4))
      go_wp2_with fail
      go_loopw [7] (fun v7 wr => ∃ k : Nat, v7 = .int .i64 k ∧ k ≤ i ∧ Below w2.heap.size w2 wr) (fun v7 _ => i - (intOf v7).toNat)
      case atStart => exact ⟨0, rfl, Nat.zero_le _, B4.out⟩
      case round =>
        obtain ⟨w5, rfl⟩ : ∃ q, q = wr := ⟨_, rfl⟩
        obtain ⟨k, rfl, hk, hb5⟩ := hrel
        have B5 := Hid.mk hb5
        have B05 : Hid (Below w.heap.size w w5) := B02.out.trans (hb5.mono (by omega))
        clear hb5 y20 y21 y22 y23 y24 d0
        by_cases hltk : k < i
        · have hkI : (k : Int) < (i : Int) := by omega
          have hkm : (k : Int) < (m : Int) := by omega
          have d1 := cell_later B05.out (HPL.out k (by omega)).1
          have d2 := cell_later B05.out (HPL.out i hlt).1
          have CL : Hid (Calls Tryd.prog 34 #[.slice (some ⟨h k, 0, none⟩) (T k + 1) (c k), .slice (some ⟨h i, 0, none⟩) (T i + 1) (c i)] w5.drew fun e w' => e = .returned (.bool false) ∧ w' = w5.drew) :=
            clash_no (h k) (T k) (c k) (h i) (T i) (c i) (p k) (p i) w5.drew (HTB.out k (by omega)) hTi (fun s hs => cell_later B05.out.drew ((HPL.out k (by omega)).2 s hs)) (fun s hs => cell_later B05.out.drew ((HPL.out i hlt).2 s hs)) (fun t => HG.out.meet i k hltk hlt t)
          go_upto_region 12 with fail
          go_region_held3 (fun w' => w'.cell? ⟨g, k, none⟩ = some (.slice (some ⟨h k, 0, none⟩) (T k + 1) (c k)) ∧ w'.cell? ⟨g, i, none⟩ = some (.slice (some ⟨h i, 0, none⟩) (T i + 1) (c i))) (go_keep)
            (first
              | (go_at_call 34; refine (CL.out).mono ?_; rintro e w6 ⟨rfl, hw6⟩; have hw6 := hw6.symm; subst hw6; have q1 : (w5.drew).cell? ⟨g, k, none⟩ = some (.slice (some ⟨h k, 0, none⟩) (T k + 1) (c k)) := d1; have q2 : (w5.drew).cell? ⟨g, i, none⟩ = some (.slice (some ⟨h i, 0, none⟩) (T i + 1) (c i)) := d2))
          go_wp2_with fail
          go_roundw
          case rel => exact ⟨k + 1, by go_num, by omega, B5.out.drew⟩
          case measure => simp [intOf]; omega
        · have hkd : k = i := by omega
          subst hkd
          go_wp2_with fail
          go_roundw
          case rel => exact ⟨k + 1, by go_num, by omega, (B2.out.trans (B5.out.mono hz2))⟩
          case measure => simp [intOf]; omega
    · have hd : i = m := by omega
      subst hd
      go_wp2
      go_ret
      exact ⟨rfl, B1.out.trans (B2.out.mono (by omega))⟩

end Go.Proofs.YtnkgpinadgacgabDoor
