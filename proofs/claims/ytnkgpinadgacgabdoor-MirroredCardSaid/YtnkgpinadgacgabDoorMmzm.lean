/- Several texts in one: Ho, La, Lc. -/
import Derived.Test.YtnkgpinadgacgabDoorMmzg
import Derived.Test.YtnkgpinadgacgabDoorMmzl
import Derived.Test.YtnkgpinadgacgabDoorMmx
import Derived.Test.YtnkgpinadgacgabDoorMmzh
import Derived.Deep.QuietTactic
import Derived.BigQuiet
namespace Go.Proofs.YtnkgpinadgacgabDoor
open M SM BM
section
variable {co : Int} {cs : ByteArray} {m : Nat} {fr tt : Nat → Int} {ln : Nat → Nat} {pt : Nat → Nat → Nat}
end
section
variable {nx : List Nat → List (List Nat)} {h : List Nat → Nat} {m : Nat} {fr tt : List Nat} {L : List (List Nat)}
/-- No state comes twice on the way told. -/
theorem way_nodup {s : SM.Srch} {X : List St} (R : Run nx h m fr tt L s X (fun _ _ => False)) : ∀ (f : Nat) (x : St) (g : Nat), (s.seen x).map (·.1) = some g → (SM.wayF s.seen f x).Nodup ∧ ∀ y, y ∈ SM.wayF s.seen f x → ∃ k, (s.seen y).map (·.1) = some k ∧ k ≤ g
  | 0, x, g, hx => by
    simp only [SM.wayF]
    refine ⟨by simp, fun y hy => ?_⟩
    rw [List.mem_singleton] at hy
    exact ⟨g, hy ▸ hx, Nat.le_refl _⟩
  | f + 1, x, g, hx => by
    simp only [SM.wayF]
    by_cases e : 0 < costO (s.seen x)
    · rw [if_pos e]
      obtain ⟨g0, h2, h3⟩ := way_back2 R hx e
      obtain ⟨i1, i2⟩ := way_nodup R f _ g0 h2
      refine ⟨List.nodup_cons.2 ⟨fun hm => ?_, i1⟩, fun y hy => ?_⟩
      · obtain ⟨k, k1, k2⟩ := i2 x hm
        rw [hx] at k1
        injection k1 with k1
        omega
      · rcases List.mem_cons.1 hy with q | q
        · exact ⟨g, q ▸ hx, Nat.le_refl _⟩
        · obtain ⟨k, k1, k2⟩ := i2 y q
          exact ⟨k, k1, by omega⟩
    · rw [if_neg e]
      refine ⟨by simp, fun y hy => ?_⟩
      rw [List.mem_singleton] at hy
      exact ⟨g, hy ▸ hx, Nat.le_refl _⟩

end
section
variable {ro co bu : Int} {cs : ByteArray} {m : Nat} {fr tt : Nat → Int} {L : List (List Nat)} {F0 : Nat}
end
end Go.Proofs.YtnkgpinadgacgabDoor

namespace Go.Proofs.YtnkgpinadgacgabDoor
open Go.RowKit M SM
/-- The plan that the search tells. -/
noncomputable def planK (F0 : Nat) (ro co : Int) (cs : ByteArray) (m : Nat) (fr tt : Nat → Int) : List (List Nat) :=
  match solY F0 ro co cs m fr tt with
  | some (b, s') => planL m (SM.wayF s'.seen (costO (s'.seen b)) b)
  | none => []

/-- A good plan of this cost: i's path has one cell more than T i. -/
structure GoodK (co : Int) (cs : ByteArray) (m : Nat) (fr tt : Nat → Int) (T : Nat → Nat) (p : Nat → Nat → Nat) : Prop where
  path : ∀ i, i < m → ∃ f c : Nat, fr i = (f : Int) ∧ tt i = (c : Int) ∧ isPathM co cs f c (T i) (p i) = true ∧ (∀ s, s ≤ T i → p i s < cs.size) ∧ T i ≤ 1000000
  meet : ∀ i k, k < i → i < m → ∀ t, whM (T k) (p k) t ≠ whM (T i) (p i) t ∧ ¬ (whM (T k) (p k) t = whM (T i) (p i) (t + 1) ∧ whM (T i) (p i) t = whM (T k) (p k) (t + 1))

theorem wh_at {ln : Nat → Nat} {pt : Nat → Nat → Nat} {i t : Nat} (h : 0 < ln i) : whM (ln i - 1) (pt i) t = atT ln pt i t := by
  unfold whM atT
  by_cases e : t < ln i
  · rw [if_pos (by omega), if_pos e]
  · by_cases e2 : t ≤ ln i - 1
    · omega
    · rw [if_neg e2, if_neg e]

section
variable {ro co bu : Int} {cs : ByteArray} {m : Nat} {fr tt : Nat → Int} {L : List (List Nat)} {F0 : Nat}
theorem planK_at {m i : Nat} {W : List St} (h : i < m) : (planL m W).getD i [] = pathL i W := by
  unfold planL
  rw [List.getD_eq_getElem?_getD, List.getElem?_map, List.getElem?_range h]; rfl

theorem isPath_of {co : Int} {cs : ByteArray} {f c T : Nat} {p : Nat → Nat} (h0 : p 0 = f) (hT : p T = c) (hw : 0 < T → p (T - 1) ≠ p T) (hs : ∀ s, s < T → p s < cs.size ∧ mayM co cs (p s) (p (s + 1)) = true) : isPathM co cs f c T p = true := by
  have h1 : stepsM co cs T p = true := stepsM_yes fun t ht => by
    rw [kmay_adj (hs t ht).1]
    show (!mayM co cs (p t) (p (t + 1))) = false
    rw [(hs t ht).2]; rfl
  unfold isPathM
  rw [h1, h0, hT]
  by_cases e : 0 < T
  · have := hw e
    rw [hT] at this
    simp [this]
  · simp [e]

/-- The search's plan is good. -/
theorem sol_plan (hF : 200400000 ≤ F0) (hck : (checkM ro co cs m fr tt bu).1 = 0) (hW : Work (stepP ro co cs m) (cellsOf fr m) L L.length) (hg : cellsOf tt m ∈ L) (hL : L.length ≤ 20000) {b : St} {s' : SM.Srch} (hsol : solY F0 ro co cs m fr tt = some (b, s')) :
    (planK F0 ro co cs m fr tt).length = m ∧ (∀ i, i < m → 0 < ((planK F0 ro co cs m fr tt).getD i []).length) ∧ GoodK co cs m fr tt (fun i => ((planK F0 ro co cs m fr tt).getD i []).length - 1) (fun i j => ((planK F0 ro co cs m fr tt).getD i []).getD j 0) ∧
      costO (s'.seen b) = sumN (fun i => ((planK F0 ro co cs m fr tt).getD i []).length - 1) m := by
  obtain ⟨s1, s2, s3⟩ := checkM_good hck
  obtain ⟨r1, r2⟩ := side_bd s1
  obtain ⟨r3, r4⟩ := side_bd s2
  obtain ⟨hm4, hfree⟩ := carts_free hck
  obtain ⟨hp1, hp2⟩ := cells_pos hck
  obtain ⟨G, hpos, hway⟩ := sol_gnd hck hW hg hL
  obtain ⟨R, hn⟩ := run_begin G
  obtain ⟨hb1, _, hleast⟩ := sol_least hF hck hW hg hL hsol
  obtain ⟨x, s2', X2, hcome, hx, ⟨s3', hseen, hR3⟩, g, hgx, _⟩ := come_ok G hway F0 _ [] R (by unfold left; rw [hn]; simp only [List.length_nil]; omega)
  have e : some (x, s2') = some (b, s') := hcome.symm.trans hsol
  injection e with e
  injection e with e1 e2
  subst e1 e2
  have hk : costO (s2'.seen x) = g := by
    cases e : s2'.seen x with
    | none => rw [e] at hgx; cases hgx
    | some v => rw [e] at hgx; simp at hgx; exact hgx
  obtain ⟨W, hWe⟩ : ∃ W, W = SM.wayF s2'.seen (costO (s2'.seen x)) x := ⟨_, rfl⟩
  have hPO : planK F0 ro co cs m fr tt = planL m W := by
    unfold planK
    rw [hsol, hWe]
  obtain ⟨c1, c2, ⟨j, c3⟩, c4, _⟩ := way_chain G hR3 g x g (hseen ▸ hgx) (Nat.le_refl g)
  have hmem := way_mem hR3 g x g (hseen ▸ hgx)
  have hnd := (way_nodup hR3 g x g (hseen ▸ hgx)).1
  rw [hseen, ← hk, ← hWe] at c1 c2 c3 c4 hmem hnd
  have hfew := fine_few hm4 hnd hmem
  have hcost : costO (s2'.seen x) = costW W := Nat.le_antisymm (hleast j x _ c3 hx) (by rw [hk]; rw [hk] at c2; exact c2)
  have hd : ∀ i k, i < m → k < m → i ≠ k → (cellsOf tt m).getD i 0 ≠ (cellsOf tt m).getD k 0 := hp2.2
  have P := chain_good (adj := fun a b => a ∈ mvN ro co cs b) c1 c4 hx hd (fun a b h => h)
  have hcell : ∀ i, i < m → ∀ t, t < (pathL i W).length → (pathL i W).getD t 0 < cs.size ∧ freeB cs ((pathL i W).getD t 0 : Nat) = true := fun i hi t ht => by
    have h1 := path_at c1 hi t
    rw [if_pos ht] at h1
    have h2 : t < W.length := Nat.lt_of_lt_of_le ht path_len
    have h3 := (hpos _ (hmem _ (List.getElem_mem h2)).1).1.1.2 i hi
    have h4 : W.getD t (s0 m (cellsOf tt m)) = W[t] := by rw [List.getD_eq_getElem?_getD, List.getElem?_eq_getElem h2]; rfl
    rw [h1, h4]
    exact h3
  have hat : ∀ i, i < m → (planK F0 ro co cs m fr tt).getD i [] = pathL i W := fun i hi => by rw [hPO, planK_at hi]
  refine ⟨by rw [hPO]; simp [planL], fun i hi => by rw [hat i hi]; exact P.pos i hi, ⟨fun i hi => ?_, fun i k hki hi t => ?_⟩, ?_⟩
  · obtain ⟨f1, f2⟩ := hfree i hi
    have e1 := free_pos f1
    have e2 := free_pos f2
    have hlen : (pathL i W).length ≤ W.length := path_len
    have hps := P.pos i hi
    refine ⟨(cellsOf fr m).getD i 0, (cellsOf tt m).getD i 0, by rw [cellsOf_at hi]; omega, by rw [cellsOf_at hi]; omega, ?_, ?_, ?_⟩
    · simp only [hat i hi]
      refine isPath_of (P.first i hi) (P.last i hi) (fun h => ?_) (fun s hs => ?_)
      · have h1 := P.wait i hi (by omega)
        have h2 := P.last i hi
        intro h3
        apply h1
        show (pathL i W).getD ((pathL i W).length - 2) 0 = _
        rw [← h2]
        exact h3
      · have h1 := P.step i hi s (by omega)
        obtain ⟨h2, h3⟩ := hcell i hi (s + 1) (by omega)
        obtain ⟨h4, h5⟩ := hcell i hi s (by omega)
        have h6 := (mvN_mem r3 r4 s3 h2 h3).1 h1
        exact ⟨h4, (mayN_mem.1 (mayN_turn h2 h3 h6)).2⟩
    · simp only [hat i hi]
      intro s hs
      exact (hcell i hi s (by omega)).1
    · simp only [hat i hi]
      omega
  · have hkm : k < m := by omega
    have q1 : ∀ t, whM ((pathL i W).length - 1) (fun j => (pathL i W).getD j 0) t = atT (fun i => (pathL i W).length) (fun i j => (pathL i W).getD j 0) i t := fun t => wh_at (ln := fun i => (pathL i W).length) (pt := fun i j => (pathL i W).getD j 0) (P.pos i hi)
    have q2 : ∀ t, whM ((pathL k W).length - 1) (fun j => (pathL k W).getD j 0) t = atT (fun i => (pathL i W).length) (fun i j => (pathL i W).getD j 0) k t := fun t => wh_at (ln := fun i => (pathL i W).length) (pt := fun i j => (pathL i W).getD j 0) (P.pos k hkm)
    simp only [hat i hi, hat k hkm]
    rw [q1, q2, q1, q2]
    exact ⟨P.meet k i hkm hi (by omega) t, P.swap k i hkm hi (by omega) t⟩
  · rw [hcost, path_cost (fun p q hq => (growL_mem.1 hq).1) (cellsOf_len _ _) c1]
    exact sumN_same fun i hi => by rw [hat i hi]

end
end Go.Proofs.YtnkgpinadgacgabDoor

namespace Go.Proofs.YtnkgpinadgacgabDoor
open M SM BM
section
variable {ro co bu : Int} {cs : ByteArray} {m : Nat} {fr tt : Nat → Int} {T : Nat → Nat} {p : Nat → Nat → Nat} {F0 : Nat}
theorem kmay_free {co : Int} {cs : ByteArray} {a b : Int} (h : kmay co cs a b = true) : freeB cs b = true := by
  unfold kmay at h
  simp only [Bool.and_eq_true] at h
  exact h.1

theorem kmay_near {co : Int} {cs : ByteArray} {a b : Int} (h : kmay co cs a b = true) : nearM co a b = true := by
  unfold kmay at h
  simp only [Bool.and_eq_true] at h
  exact h.2

/-- Back along a step. -/
theorem kmay_back {co : Int} {cs : ByteArray} {a b : Nat} (hf : freeB cs (a : Nat) = true) (h : kmay co cs a b = true) : adjM co cs b a = true := by
  have hb := free_lt (kmay_free h)
  unfold adjM
  rw [mayM_in hf (by omega) (by omega), near_comm]
  exact kmay_near h

theorem path_free {f c T : Nat} {p : Nat → Nat} (hf : freeB cs (f : Nat) = true) (h : isPathM co cs f c T p = true) : ∀ s, s ≤ T → freeB cs (p s : Nat) = true := by
  obtain ⟨h0, _, _, hst⟩ := isPath_parts h
  intro s hs
  match s with
  | 0 => rw [h0]; exact hf
  | s + 1 => exact kmay_free (hst s (by omega))

/-- No path is shorter than the distance is. -/
theorem path_far {f c T : Nat} {p : Nat → Nat} {d : Nat → Int} (hf : freeB cs (f : Nat) = true) (h : isPathM co cs f c T p = true) (hd : IsFar cs.size (adjM co cs) c d) : 0 ≤ d f ∧ d f ≤ (T : Int) := by
  obtain ⟨h0, hT, _, hst⟩ := isPath_parts h
  have hfr := path_free hf h
  have key : ∀ k, k ≤ T → 0 ≤ d (p (T - k)) ∧ d (p (T - k)) ≤ (k : Int) := by
    intro k
    induction k with
    | zero => intro _; rw [Nat.sub_zero, hT, hd.zero]; omega
    | succ k ih =>
      intro hk
      obtain ⟨g1, g2⟩ := ih (by omega)
      have e : T - (k + 1) + 1 = T - k := by omega
      have h1 := hst (T - (k + 1)) (by omega)
      rw [e] at h1
      have h2 := kmay_back (hfr (T - (k + 1)) (by omega)) h1
      obtain ⟨g3, g4⟩ := hd.next (p (T - (k + 1))) (p (T - k)) (free_lt (hfr _ (by omega))) (free_lt (hfr _ (by omega))) h2 g1
      omega
  have := key T (Nat.le_refl T)
  rw [Nat.sub_self, h0] at this
  exact this

theorem wh_atT {T : Nat → Nat} {p : Nat → Nat → Nat} {i t : Nat} : whM (T i) (p i) t = atT (fun i => T i + 1) p i t := by
  show (if t ≤ T i then p i t else p i (T i)) = p i (if t < T i + 1 then t else T i + 1 - 1)
  by_cases e : t ≤ T i
  · rw [if_pos e, if_pos (by omega)]
  · rw [if_neg e, if_neg (by omega), Nat.add_sub_cancel]

theorem goodK_P (hck : (checkM ro co cs m fr tt bu).1 = 0) (hG : GoodK co cs m fr tt T p) : GoodP m (fun a b => a ∈ mvN ro co cs b) (fun i => (cellsOf fr m).getD i 0) (fun i => (cellsOf tt m).getD i 0) (fun i => T i + 1) p := by
  obtain ⟨s1, s2, s3⟩ := checkM_good hck
  obtain ⟨r3, r4⟩ := side_bd s2
  obtain ⟨hm4, hfree⟩ := carts_free hck
  have hmeet : ∀ i k, k < i → i < m → ∀ t, atT (fun i => T i + 1) p k t ≠ atT (fun i => T i + 1) p i t ∧ ¬ (atT (fun i => T i + 1) p k t = atT (fun i => T i + 1) p i (t + 1) ∧ atT (fun i => T i + 1) p i t = atT (fun i => T i + 1) p k (t + 1)) := fun i k hki hi t => by
    have := hG.meet i k hki hi t
    rw [wh_atT (T := T) (p := p) (i := k), wh_atT (T := T) (p := p) (i := i), wh_atT (T := T) (p := p) (i := i), wh_atT (T := T) (p := p) (i := k)] at this
    exact this
  refine ⟨fun i _ => Nat.succ_pos _, fun i hi => ?_, fun i hi => ?_, fun i hi h1 => ?_, fun i hi j hj => ?_, fun i k hi hk hne t => ?_, fun i k hi hk hne t => ?_⟩
  · obtain ⟨f, c, ef, ec, hp, _⟩ := hG.path i hi
    obtain ⟨h0, hT, _, _⟩ := isPath_parts hp
    show p i 0 = (cellsOf fr m).getD i 0
    rw [cellsOf_at hi, ef, h0, Int.toNat_natCast]
  · obtain ⟨f, c, ef, ec, hp, _⟩ := hG.path i hi
    obtain ⟨h0, hT, _, _⟩ := isPath_parts hp
    show p i (T i + 1 - 1) = (cellsOf tt m).getD i 0
    rw [cellsOf_at hi, ec, Nat.add_sub_cancel, hT, Int.toNat_natCast]
  · obtain ⟨f, c, ef, ec, hp, _⟩ := hG.path i hi
    obtain ⟨h0, hT, hw, _⟩ := isPath_parts hp
    show p i (T i + 1 - 2) ≠ (cellsOf tt m).getD i 0
    rw [cellsOf_at hi, ec, Int.toNat_natCast, ← hT, show T i + 1 - 2 = T i - 1 by omega]
    exact hw (T i - 1) (by show T i - 1 + 1 = T i; omega)
  · obtain ⟨f, c, ef, ec, hp, _⟩ := hG.path i hi
    obtain ⟨h0, hT, _, hst⟩ := isPath_parts hp
    have hff : freeB cs (f : Nat) = true := by rw [← ef]; exact (hfree i hi).1
    have hfr := path_free hff hp
    have hj' : j < T i := by omega
    show p i j ∈ mvN ro co cs (p i (j + 1))
    have f1 := hfr j (by omega)
    have f2 := hfr (j + 1) (by omega)
    refine (mvN_mem r3 r4 s3 (free_lt f2) f2).2 (mayN_mem.2 ⟨free_lt f1, ?_⟩)
    exact kmay_back f1 (hst j hj')
  · rcases Nat.lt_or_gt_of_ne hne with e | e
    · exact (hmeet k i e hk t).1
    · exact fun h => (hmeet i k e hi t).1 h.symm
  · rcases Nat.lt_or_gt_of_ne hne with e | e
    · exact (hmeet k i e hk t).2
    · exact fun h => (hmeet i k e hi t).2 ⟨h.2, h.1⟩

/-- A good plan is come to, and the search's cost is no more than its own. -/
theorem goodK_told (hF : 200400000 ≤ F0) (hck : (checkM ro co cs m fr tt bu).1 = 0) (hG : GoodK co cs m fr tt T p) {n : Nat} {d : Bool}
    (h : M.Told (stepP ro co cs m) (cellsOf fr m) (cellsOf tt m) bu n d) (hn : ¬ bu < n) : d = true ∧ costY F0 ro co cs m fr tt ≤ sumN T m := by
  obtain ⟨s1, s2, s3⟩ := checkM_good hck
  obtain ⟨r3, r4⟩ := side_bd s2
  obtain ⟨_, hb20, _⟩ := check_bu hck
  obtain ⟨hp1, hp2⟩ := cells_pos hck
  have P := goodK_P hck hG
  have hself : ∀ i, i < m → (cellsOf tt m).getD i 0 ∈ mvN ro co cs ((cellsOf tt m).getD i 0) := fun i hi => by
    obtain ⟨q1, q2⟩ := hp2.1.2 i hi
    refine (mvN_mem r3 r4 s3 q1 q2).2 (mayN_mem.2 ⟨q1, adj_self q2⟩)
  rcases h with ⟨L, hW, hnL, hd⟩ | ⟨L, i, _, _, q⟩
  · have hcome : Come (stepP ro co cs m) (cellsOf fr m) (cellsOf tt m) := by
      have hpos : ∀ t, PosG cs m (posT m (fun i => T i + 1) p t) := fun t => by
        refine ⟨⟨by simp [posT], fun k hk => ?_⟩, fun i k hi hk hne => ?_⟩
        · rw [posT_at hk]
          obtain ⟨f, c, ef, ec, hp, _⟩ := hG.path k hk
          have hff : freeB cs (f : Nat) = true := by rw [← ef]; exact ((carts_free hck).2 k hk).1
          have hfr := path_free hff hp
          have : freeB cs (atT (fun i => T i + 1) p k t : Nat) = true := by
            rw [← wh_atT]
            unfold whM
            split
            · exact hfr _ (by omega)
            · exact hfr _ (by omega)
          exact ⟨free_lt this, this⟩
        · rw [posT_at hi, posT_at hk]
          exact P.meet i k hi hk hne t
      have key : ∀ t, reachN (stepP ro co cs m) (cellsOf fr m) t (posT m (fun i => T i + 1) p t) := by
        intro t
        induction t with
        | zero =>
          refine list_ext (d := 0) (n := m) (by simp [posT]) (cellsOf_len _ _) fun i hi => ?_
          rw [posT_at hi]
          exact P.first i hi
        | succ t ih =>
          have h1 := (good_next P (fun a b h => h) hself t).1
          exact ⟨_, ih, (step_same r3 r4 s3 (hpos t).1).2 ((step_both r3 r4 s3 (hpos (t + 1)) (hpos t)).1 h1)⟩
      refine ⟨topN (fun i => T i + 1) m, ?_⟩
      have := key (topN (fun i => T i + 1) m)
      rw [posT_end P (cellsOf_len _ _) (fun i hi => Nat.le_succ_of_le (topN_le (f := fun i => T i + 1) hi))] at this
      exact this
    have hg := hW.all rfl _ hcome
    refine ⟨by rw [hd]; exact decide_eq_true hg, ?_⟩
    obtain ⟨b, s', hsol⟩ := sol_some F0 hF hck hW hg (by omega)
    obtain ⟨_, _, hleast⟩ := sol_least hF hck hW hg (by omega) hsol
    obtain ⟨G, _, _⟩ := sol_gnd hck hW hg (by omega)
    obtain ⟨j, b', hway, hb'⟩ := good_way G P (fun a b h => h) hself (cellsOf_len _ _)
    unfold costY
    rw [hsol]
    have := hleast j b' _ hway hb'
    simp only [Nat.add_sub_cancel] at this
    exact this
  · exact absurd q hn

end
end Go.Proofs.YtnkgpinadgacgabDoor
