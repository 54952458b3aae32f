/- Several texts in one: Lc, Lj. -/
import Derived.Test.YtnkgpinadgacgabDoorMkzv
import Derived.Test.YtnkgpinadgacgabDoorMkzq
namespace Go.Proofs.YtnkgpinadgacgabDoor
open M SM BM
section
variable {ro co bu : Int} {cs : ByteArray} {m : Nat} {fr tt : Nat → Int} {T : Nat → Nat} {p : Nat → Nat → Nat} {F0 : Nat}
theorem kmay_free {co : Int} {cs : ByteArray} {a b : Int} (h : kmay co cs a b = true) : freeB cs b = true := by
  unfold kmay at h
  simp only [Bool.and_eq_true] at h
  exact h.1

theorem kmay_near {co : Int} {cs : ByteArray} {a b : Int} (h : kmay co cs a b = true) : nearM co a b = true := by
  unfold kmay at h
  simp only [Bool.and_eq_true] at h
  exact h.2

/-- Back along a step. -/
theorem kmay_back {co : Int} {cs : ByteArray} {a b : Nat} (hf : freeB cs (a : Nat) = true) (h : kmay co cs a b = true) : adjM co cs b a = true := by
  have hb := free_lt (kmay_free h)
  unfold adjM
  rw [mayM_in hf (by omega) (by omega), near_comm]
  exact kmay_near h

theorem path_free {f c T : Nat} {p : Nat → Nat} (hf : freeB cs (f : Nat) = true) (h : isPathM co cs f c T p = true) : ∀ s, s ≤ T → freeB cs (p s : Nat) = true := by
  obtain ⟨h0, _, _, hst⟩ := isPath_parts h
  intro s hs
  match s with
  | 0 => rw [h0]; exact hf
  | s + 1 => exact kmay_free (hst s (by omega))

/-- No path is shorter than the distance is. -/
theorem path_far {f c T : Nat} {p : Nat → Nat} {d : Nat → Int} (hf : freeB cs (f : Nat) = true) (h : isPathM co cs f c T p = true) (hd : IsFar cs.size (adjM co cs) c d) : 0 ≤ d f ∧ d f ≤ (T : Int) := by
  obtain ⟨h0, hT, _, hst⟩ := isPath_parts h
  have hfr := path_free hf h
  have key : ∀ k, k ≤ T → 0 ≤ d (p (T - k)) ∧ d (p (T - k)) ≤ (k : Int) := by
    intro k
    induction k with
    | zero => intro _; rw [Nat.sub_zero, hT, hd.zero]; omega
    | succ k ih =>
      intro hk
      obtain ⟨g1, g2⟩ := ih (by omega)
      have e : T - (k + 1) + 1 = T - k := by omega
      have h1 := hst (T - (k + 1)) (by omega)
      rw [e] at h1
      have h2 := kmay_back (hfr (T - (k + 1)) (by omega)) h1
      obtain ⟨g3, g4⟩ := hd.next (p (T - (k + 1))) (p (T - k)) (free_lt (hfr _ (by omega))) (free_lt (hfr _ (by omega))) h2 g1
      omega
  have := key T (Nat.le_refl T)
  rw [Nat.sub_self, h0] at this
  exact this

theorem wh_atT {T : Nat → Nat} {p : Nat → Nat → Nat} {i t : Nat} : whM (T i) (p i) t = atT (fun i => T i + 1) p i t := by
  show (if t ≤ T i then p i t else p i (T i)) = p i (if t < T i + 1 then t else T i + 1 - 1)
  by_cases e : t ≤ T i
  · rw [if_pos e, if_pos (by omega)]
  · rw [if_neg e, if_neg (by omega), Nat.add_sub_cancel]

theorem goodK_P (hck : (checkM ro co cs m fr tt bu).1 = 0) (hG : GoodK co cs m fr tt T p) : GoodP m (fun a b => a ∈ mvN ro co cs b) (fun i => (cellsOf fr m).getD i 0) (fun i => (cellsOf tt m).getD i 0) (fun i => T i + 1) p := by
  obtain ⟨s1, s2, s3⟩ := checkM_good hck
  obtain ⟨r3, r4⟩ := side_bd s2
  obtain ⟨hm4, hfree⟩ := carts_free hck
  have hmeet : ∀ i k, k < i → i < m → ∀ t, atT (fun i => T i + 1) p k t ≠ atT (fun i => T i + 1) p i t ∧ ¬ (atT (fun i => T i + 1) p k t = atT (fun i => T i + 1) p i (t + 1) ∧ atT (fun i => T i + 1) p i t = atT (fun i => T i + 1) p k (t + 1)) := fun i k hki hi t => by
    have := hG.meet i k hki hi t
    rw [wh_atT (T := T) (p := p) (i := k), wh_atT (T := T) (p := p) (i := i), wh_atT (T := T) (p := p) (i := i), wh_atT (T := T) (p := p) (i := k)] at this
    exact this
  refine ⟨fun i _ => Nat.succ_pos _, fun i hi => ?_, fun i hi => ?_, fun i hi h1 => ?_, fun i hi j hj => ?_, fun i k hi hk hne t => ?_, fun i k hi hk hne t => ?_⟩
  · obtain ⟨f, c, ef, ec, hp, _⟩ := hG.path i hi
    obtain ⟨h0, hT, _, _⟩ := isPath_parts hp
    show p i 0 = (cellsOf fr m).getD i 0
    rw [cellsOf_at hi, ef, h0, Int.toNat_natCast]
  · obtain ⟨f, c, ef, ec, hp, _⟩ := hG.path i hi
    obtain ⟨h0, hT, _, _⟩ := isPath_parts hp
    show p i (T i + 1 - 1) = (cellsOf tt m).getD i 0
    rw [cellsOf_at hi, ec, Nat.add_sub_cancel, hT, Int.toNat_natCast]
  · obtain ⟨f, c, ef, ec, hp, _⟩ := hG.path i hi
    obtain ⟨h0, hT, hw, _⟩ := isPath_parts hp
    show p i (T i + 1 - 2) ≠ (cellsOf tt m).getD i 0
    rw [cellsOf_at hi, ec, Int.toNat_natCast, ← hT, show T i + 1 - 2 = T i - 1 by omega]
    exact hw (T i - 1) (by show T i - 1 + 1 = T i; omega)
  · obtain ⟨f, c, ef, ec, hp, _⟩ := hG.path i hi
    obtain ⟨h0, hT, _, hst⟩ := isPath_parts hp
    have hff : freeB cs (f : Nat) = true := by rw [← ef]; exact (hfree i hi).1
    have hfr := path_free hff hp
    have hj' : j < T i := by omega
    show p i j ∈ mvN ro co cs (p i (j + 1))
    have f1 := hfr j (by omega)
    have f2 := hfr (j + 1) (by omega)
    refine (mvN_mem r3 r4 s3 (free_lt f2) f2).2 (mayN_mem.2 ⟨free_lt f1, ?_⟩)
    exact kmay_back f1 (hst j hj')
  · rcases Nat.lt_or_gt_of_ne hne with e | e
    · exact (hmeet k i e hk t).1
    · exact fun h => (hmeet i k e hi t).1 h.symm
  · rcases Nat.lt_or_gt_of_ne hne with e | e
    · exact (hmeet k i e hk t).2
    · exact fun h => (hmeet i k e hi t).2 ⟨h.2, h.1⟩

/-- A good plan is come to, and the search's cost is no more than its own. -/
theorem goodK_told (hF : 200400000 ≤ F0) (hck : (checkM ro co cs m fr tt bu).1 = 0) (hG : GoodK co cs m fr tt T p) {n : Nat} {d : Bool}
    (h : M.Told (stepP ro co cs m) (cellsOf fr m) (cellsOf tt m) bu n d) (hn : ¬ bu < n) : d = true ∧ costY F0 ro co cs m fr tt ≤ sumN T m := by
  obtain ⟨s1, s2, s3⟩ := checkM_good hck
  obtain ⟨r3, r4⟩ := side_bd s2
  obtain ⟨_, hb20, _⟩ := check_bu hck
  obtain ⟨hp1, hp2⟩ := cells_pos hck
  have P := goodK_P hck hG
  have hself : ∀ i, i < m → (cellsOf tt m).getD i 0 ∈ mvN ro co cs ((cellsOf tt m).getD i 0) := fun i hi => by
    obtain ⟨q1, q2⟩ := hp2.1.2 i hi
    refine (mvN_mem r3 r4 s3 q1 q2).2 (mayN_mem.2 ⟨q1, adj_self q2⟩)
  rcases h with ⟨L, hW, hnL, hd⟩ | ⟨L, i, _, _, q⟩
  · have hcome : Come (stepP ro co cs m) (cellsOf fr m) (cellsOf tt m) := by
      have hpos : ∀ t, PosG cs m (posT m (fun i => T i + 1) p t) := fun t => by
        refine ⟨⟨by simp [posT], fun k hk => ?_⟩, fun i k hi hk hne => ?_⟩
        · rw [posT_at hk]
          obtain ⟨f, c, ef, ec, hp, _⟩ := hG.path k hk
          have hff : freeB cs (f : Nat) = true := by rw [← ef]; exact ((carts_free hck).2 k hk).1
          have hfr := path_free hff hp
          have : freeB cs (atT (fun i => T i + 1) p k t : Nat) = true := by
            rw [← wh_atT]
            unfold whM
            split
            · exact hfr _ (by omega)
            · exact hfr _ (by omega)
          exact ⟨free_lt this, this⟩
        · rw [posT_at hi, posT_at hk]
          exact P.meet i k hi hk hne t
      have key : ∀ t, reachN (stepP ro co cs m) (cellsOf fr m) t (posT m (fun i => T i + 1) p t) := by
        intro t
        induction t with
        | zero =>
          refine list_ext (d := 0) (n := m) (by simp [posT]) (cellsOf_len _ _) fun i hi => ?_
          rw [posT_at hi]
          exact P.first i hi
        | succ t ih =>
          have h1 := (good_next P (fun a b h => h) hself t).1
          exact ⟨_, ih, (step_same r3 r4 s3 (hpos t).1).2 ((step_both r3 r4 s3 (hpos (t + 1)) (hpos t)).1 h1)⟩
      refine ⟨topN (fun i => T i + 1) m, ?_⟩
      have := key (topN (fun i => T i + 1) m)
      rw [posT_end P (cellsOf_len _ _) (fun i hi => Nat.le_succ_of_le (topN_le (f := fun i => T i + 1) hi))] at this
      exact this
    have hg := hW.all rfl _ hcome
    refine ⟨by rw [hd]; exact decide_eq_true hg, ?_⟩
    obtain ⟨b, s', hsol⟩ := sol_some F0 hF hck hW hg (by omega)
    obtain ⟨_, _, hleast⟩ := sol_least hF hck hW hg (by omega) hsol
    obtain ⟨G, _, _⟩ := sol_gnd hck hW hg (by omega)
    obtain ⟨j, b', hway, hb'⟩ := good_way G P (fun a b h => h) hself (cellsOf_len _ _)
    unfold costY
    rw [hsol]
    have := hleast j b' _ hway hb'
    simp only [Nat.add_sub_cancel] at this
    exact this
  · exact absurd q hn

end
end Go.Proofs.YtnkgpinadgacgabDoor

namespace Go.Proofs.YtnkgpinadgacgabDoor
open Go.RowKit M SM
/-- A plan in memory: i's path has one cell more than T i. -/
def PlanC (w : World) (gp m : Nat) (h T c : Nat → Nat) (p : Nat → Nat → Nat) : Prop :=
  ∀ i, i < m → w.cell? ⟨gp, i, none⟩ = some (.slice (some ⟨h i, 0, none⟩) (T i + 1) (c i)) ∧ ∀ s, s ≤ T i → w.cell? ⟨h i, s, none⟩ = some (natV (p i) s)

theorem PlanC.below {w w' : World} {gp m : Nat} {h T c : Nat → Nat} {p : Nat → Nat → Nat} (H : PlanC w gp m h T c p) (hb : Below w.heap.size w w') : PlanC w' gp m h T c p := fun i hi =>
  ⟨cell_later hb (H i hi).1, fun s hs => cell_later hb ((H i hi).2 s hs)⟩

theorem sumN_bd {f : Nat → Nat} {B : Nat} : ∀ {n : Nat}, (∀ i, i < n → f i ≤ B) → sumN f n ≤ n * B
  | 0, _ => Nat.zero_le _
  | n + 1, h => by
    have h1 := sumN_bd (n := n) fun i hi => h i (by omega)
    have h2 := h n (Nat.lt_succ_self n)
    show sumN f n + f n ≤ (n + 1) * B
    rw [Nat.succ_mul]; omega

set_option maxRecDepth 100000 in
set_option maxHeartbeats 2000000 in
theorem cost_any (g cg m : Nat) (h T c : Nat → Nat) (p : Nat → Nat → Nat) (w : World) (hm : m ≤ 4) (hT : ∀ i, i < m → T i ≤ 1000000) (hpl : PlanC w g m h T c p) :
    Calls Tryd.prog 18 #[.slice (some ⟨g, 0, none⟩) m cg] w fun e w' => e = .returned (.int .i64 (sumN T m : Nat)) ∧ w' = w := by
  have HPL := Hid.mk hpl
  have HT := Hid.mk hT
  clear hpl hT
  go_enter Tryd.func18, Tryd.ntmps18
  go_wp2
  go_loopw [3, 4] (fun v3 v4 wr => ∃ i : Nat, v3 = .int .i64 (sumN T i : Nat) ∧ v4 = .int .i64 i ∧ i ≤ m ∧ w = wr) (fun _ v4 _ => m - (intOf v4).toNat)
  case atStart => exact ⟨0, rfl, rfl, Nat.zero_le _, rfl⟩
  case round =>
    obtain ⟨i, rfl, rfl, hi, rfl⟩ := hrel
    by_cases hlt : i < m
    · have hiI : (i : Int) < (m : Int) := by omega
      have d0 := (HPL.out i hlt).1
      have h1 := HT.out i hlt
      have h2 : sumN T i ≤ i * 1000000 := sumN_bd fun k hk => HT.out k (by omega)
      have h3 : sumN T (i + 1) = sumN T i + T i := rfl
      obtain ⟨x, hx⟩ : ∃ x, x = sumN T i := ⟨_, rfl⟩
      obtain ⟨y, hy⟩ : ∃ y, y = sumN T (i + 1) := ⟨_, rfl⟩
      obtain ⟨z, hz⟩ : ∃ z, z = T i := ⟨_, rfl⟩
      rw [← hx] at h2 h3 ⊢
      rw [← hy, ← hz] at h3
      rw [← hz] at d0 h1
      have HY := Hid.mk hy
      have h2' : x ≤ 4000000 := by omega
      have w1 : IntKind.i64.wrap ((x : Int) + ((z : Int) + 1)) = (x : Int) + ((z : Int) + 1) := by rw [IntKind.wrap_i64]; omega
      have w2 : IntKind.i64.wrap ((x : Int) + ((z : Int) + 1) - 1) = (y : Int) := by rw [IntKind.wrap_i64]; omega
      clear hx hy hz h2 h3 h1 h2'
      go_wp2
      go_roundw
      case rel => exact ⟨i + 1, by rw [← HY.out], by go_num, by omega, by first | rfl | trivial⟩
      case measure => simp [intOf]; omega
    · have hd : i = m := by omega
      subst hd
      go_wp2
      go_ret
      exact ⟨rfl, rfl⟩

set_option maxRecDepth 100000 in
set_option maxHeartbeats 8000000 in
theorem least_any (ro co bu : Int) (cs : ByteArray) (b m cap : Nat) (fr tt : Nat → Int) (T : Nat → Nat) (p : Nat → Nat → Nat) (w : World) (hck : (checkM ro co cs m fr tt bu).1 = 0) (hs : cs.size ≤ 36) (hm : m ≤ 4) (hcap : m ≤ cap) (hsd : SidesIn w) (hcs : CartsIn w b 0 m fr tt) (hG : GoodK co cs m fr tt T p) :
    Calls Tryd.prog 13 #[.agg #[.int .i64 ro, .int .i64 co, .string cs, .slice (some ⟨b, 0, none⟩) m cap, .int .i64 bu]] w fun e w' => ∃ L : Nat, e = .returned (.tuple #[.int .i64 (L : Nat), .bool true]) ∧ L ≤ 4000 ∧ (∀ T p, GoodK co cs m fr tt T p → L ≤ sumN T m) ∧ Below w.heap.size w w' := by
  have HCS := Hid.mk hcs
  have HSD := Hid.mk hsd
  have HG := Hid.mk hG
  have CK := Hid.mk hck
  have HFR := Hid.mk (carts_free hck).2
  have FARC : Hid (∀ u : World, ∀ i, i < m → Below w.heap.size w u → ∃ f c : Nat, fr i = (f : Int) ∧ tt i = (c : Int) ∧ f < cs.size ∧ c < cs.size ∧ Calls Tryd.prog 35 #[.agg #[.int .i64 ro, .int .i64 co, .string cs, .slice (some ⟨b, 0, none⟩) m cap, .int .i64 bu], .int .i64 (c : Int)] u fun e w' => ∃ g D : Nat, e = .returned (.tuple #[.slice (some ⟨g, 0, none⟩) cs.size cs.size, .int .i64 0]) ∧ w'.cell? ⟨g, f, none⟩ = some (.int .i64 (D : Nat)) ∧ D ≤ 36 ∧ (∀ T p, GoodK co cs m fr tt T p → D ≤ T i) ∧ Below u.heap.size u w') := fun u i hi hu => by
    obtain ⟨f, ef, hf⟩ := free_nat (HFR.out i hi).1
    obtain ⟨c, ec, hc⟩ := free_nat (HFR.out i hi).2
    refine ⟨f, c, ef, ec, hf, hc, ?_⟩
    have hfc : freeB cs (c : Nat) = true := by rw [← ec]; exact (HFR.out i hi).2
    have hff : freeB cs (f : Nat) = true := by rw [← ef]; exact (HFR.out i hi).1
    refine (yfar_ok ro co bu cs (some ⟨b, 0, none⟩) m cap fr tt c u (by unfold maxLen; omega) (by unfold maxLen; omega) hcap (HSD.out.below hu) (fun _ => ⟨b, 0, rfl, HCS.out.below hu⟩) hck hfc).mono ?_
    rintro e w' ⟨g, st, rfl, _, hfar, hrow, hb⟩
    have low : ∀ T p, GoodK co cs m fr tt T p → 0 ≤ st f ∧ st f ≤ (T i : Int) := fun T p hG => by
      obtain ⟨f', c', ef', ec', hp, _⟩ := hG.path i hi
      have e1 : f' = f := by omega
      have e2 : c' = c := by omega
      subst e1 e2
      exact path_far hff hp hfar
    have h0 := (low T p HG.out).1
    have hl := far_lt hc hfar hf
    refine ⟨g, (st f).toNat, rfl, ?_, by omega, fun T p hG => by have := low T p hG; omega, hb⟩
    rw [hrow.cell hf]
    unfold intV
    rw [Int.toNat_of_nonneg h0]
  clear hcs hsd hG hck
  go_enter Tryd.func13, Tryd.ntmps13
  obtain ⟨w1, hw1⟩ : ∃ w1, w1 = w.alloc (Obj.cells #[Value.int IntKind.i64 ro, Value.int IntKind.i64 co, Value.string cs, .slice (some ⟨b, 0, none⟩) m cap, Value.int IntKind.i64 bu] 28) := ⟨_, rfl⟩
  have B1 : Hid (Below w.heap.size w w1) := by unfold Hid; rw [hw1]; exact (Below.refl _ w).alloc (Nat.le_refl _) _
  have Y1 : Hid (∀ o, w1.cell? ⟨w.heap.size, o, none⟩ = #[Value.int .i64 ro, .int .i64 co, .string cs, .slice (some ⟨b, 0, none⟩) m cap, .int .i64 bu][o]?) := by
    unfold Hid
    intro o
    rw [hw1]; go_simp
  have hz1 : w.heap.size < w1.heap.size := by rw [hw1]; simp
  go_upto_region 3 with fail
  rw [← hw1]
  clear hw1
  go_loopw [4, 5] (fun v4 v5 wr => ∃ i L : Nat, v4 = .int .i64 (L : Nat) ∧ v5 = .int .i64 i ∧ i ≤ m ∧ L ≤ 36 * i ∧ (∀ T p, GoodK co cs m fr tt T p → L ≤ sumN T i) ∧ Below w1.heap.size w1 wr) (fun _ v5 _ => m - (intOf v5).toNat)
  case atStart => exact ⟨0, 0, rfl, rfl, Nat.zero_le _, Nat.zero_le _, fun _ _ _ => Nat.zero_le _, Below.refl _ _⟩
  case round =>
    obtain ⟨w2, rfl⟩ : ∃ q, q = wr := ⟨_, rfl⟩
    obtain ⟨i, L, rfl, rfl, hi, hL, hlow, hb2⟩ := hrel
    have B2 := Hid.mk hb2
    have LOW := Hid.mk hlow
    have hz2 := hb2.size
    have B02 : Hid (Below w.heap.size w w2) := B1.out.trans (B2.out.mono (by omega))
    have y20 := (B2.out.cell (p := ⟨w.heap.size, 0, none⟩) hz1).trans (Y1.out 0)
    have y21 := (B2.out.cell (p := ⟨w.heap.size, 1, none⟩) hz1).trans (Y1.out 1)
    have y22 := (B2.out.cell (p := ⟨w.heap.size, 2, none⟩) hz1).trans (Y1.out 2)
    have y23 := (B2.out.cell (p := ⟨w.heap.size, 3, none⟩) hz1).trans (Y1.out 3)
    have y24 := (B2.out.cell (p := ⟨w.heap.size, 4, none⟩) hz1).trans (Y1.out 4)
    simp only [List.getElem?_toArray, List.getElem?_cons_zero, List.getElem?_cons_succ] at y20 y21 y22 y23 y24
    have hzw : w.heap.size < w2.heap.size := by omega
    clear hb2 hlow
    by_cases hlt : i < m
    · have hiI : (i : Int) < (m : Int) := by omega
      obtain ⟨f, c, ef, ec, hf, hc, hcall⟩ := FARC.out w2.drew i hlt B02.out.drew
      have FC := Hid.mk hcall
      obtain ⟨c0, c1⟩ := HCS.out i hlt
      have c0 := cell_later B02.out c0
      have c1 := cell_later B02.out c1
      simp only [Nat.zero_add] at c0 c1
      rw [ef] at c0
      rw [ec] at c1
      have hbw : b < w2.heap.size := World.block_lt_of_cell? _ _ c0
      have hfI : (f : Int) < (cs.size : Int) := by omega
      clear hcall ef ec
      go_upto_region 5 with fail
      go_region_held3 (fun w' => w'.cell? ⟨w.heap.size, 0, none⟩ = some (.int .i64 ro) ∧ w'.cell? ⟨w.heap.size, 1, none⟩ = some (.int .i64 co) ∧ w'.cell? ⟨w.heap.size, 2, none⟩ = some (.string cs) ∧ w'.cell? ⟨w.heap.size, 3, none⟩ = some (.slice (some ⟨b, 0, none⟩) m cap) ∧ w'.cell? ⟨w.heap.size, 4, none⟩ = some (.int .i64 bu) ∧ w'.cell? ⟨b, i * 2 + 1, none⟩ = some (.int .i64 (c : Nat))) (go_keep)
        (first
          | (go_at_call 35; refine (FC.out).mono ?_; rintro e w4 ⟨g, D, rfl, hD, hD36, hDT, hb4⟩; have q0 : w4.cell? ⟨w.heap.size, 0, none⟩ = some (.int .i64 ro) := (hb4.cell (p := ⟨w.heap.size, 0, none⟩) hzw).trans y20; have q1 : w4.cell? ⟨w.heap.size, 1, none⟩ = some (.int .i64 co) := (hb4.cell (p := ⟨w.heap.size, 1, none⟩) hzw).trans y21; have q2 : w4.cell? ⟨w.heap.size, 2, none⟩ = some (.string cs) := (hb4.cell (p := ⟨w.heap.size, 2, none⟩) hzw).trans y22; have q3 : w4.cell? ⟨w.heap.size, 3, none⟩ = some (.slice (some ⟨b, 0, none⟩) m cap) := (hb4.cell (p := ⟨w.heap.size, 3, none⟩) hzw).trans y23; have q4 : w4.cell? ⟨w.heap.size, 4, none⟩ = some (.int .i64 bu) := (hb4.cell (p := ⟨w.heap.size, 4, none⟩) hzw).trans y24; have q5 : w4.cell? ⟨b, i * 2 + 1, none⟩ = some (.int .i64 (c : Nat)) := (hb4.cell (p := ⟨b, i * 2 + 1, none⟩) hbw).trans c1; have q6 : w4.cell? ⟨b, i * 2, none⟩ = some (.int .i64 (f : Nat)) := (hb4.cell (p := ⟨b, i * 2, none⟩) hbw).trans c0; have DT := Hid.mk hDT; have B4 : Hid (Below w2.heap.size w2 w4) := (Below.refl _ w2).drew.trans (hb4.mono (Nat.le_refl _)); clear hDT hb4))
      have hD0 : ¬ (D : Int) < 0 := by omega
      have hw : IntKind.i64.wrap ((L : Int) + (D : Int)) = (L : Int) + (D : Int) := by rw [IntKind.wrap_i64]; omega
      have HD36 := Hid.mk hD36
      clear y20 y21 y22 y23 y24 c0 c1 hD36
      go_wp2_with fail
      go_roundw
      case rel =>
        refine ⟨i + 1, L + D, by go_num, by go_num, by omega, by have := HD36.out; omega, fun T p hG => ?_, B2.out.trans (B4.out.mono (by omega))⟩
        have h1 := LOW.out T p hG
        have h2 := DT.out T p hG
        show L + D ≤ sumN T i + T i
        omega
      case measure => simp [intOf]; omega
    · have hd : i = m := by omega
      subst hd
      have hiI : ¬ (i : Int) < (i : Int) := by omega
      go_wp2_with fail
      go_ret2
      exact ⟨L, rfl, by omega, LOW.out, B02.out⟩

/-- What Solve tells of a good yard, its plan and all. -/
theorem solG_told (F0 : Nat) (hF0 : 200400000 ≤ F0) (ro co bu : Int) (cs : ByteArray) (m : Nat) (fr tt : Nat → Int) (g cc : Nat) (w : World) (hck : (checkM ro co cs m fr tt bu).1 = 0) (hmc : m ≤ cc) (hm4 : m ≤ 4) (hs : cs.size ≤ 36) (hsd : SidesIn w) (hcs : CartsIn w g 0 m fr tt) :
    Calls Tryd.prog 15 #[.agg #[.int .i64 ro, .int .i64 co, .string cs, .slice (some ⟨g, 0, none⟩) m cc, .int .i64 bu]] w fun e w' =>
      ∃ (n : Nat) (d : Bool), M.Told (stepP ro co cs m) (cellsOf fr m) (cellsOf tt m) bu n d ∧ ((bu < n ∧ e = .returned (.tuple #[.slice none 0 0, .int .i64 0, .int .i64 10])) ∨ (¬ bu < n ∧ d = false ∧ e = .returned (.tuple #[.slice none 0 0, .int .i64 0, .int .i64 9])) ∨
        (¬ bu < n ∧ d = true ∧ ∃ (gp : Nat) (h T c : Nat → Nat) (p : Nat → Nat → Nat), e = .returned (.tuple #[.slice (some ⟨gp, 0, none⟩) m m, .int .i64 (costY F0 ro co cs m fr tt : Nat), .int .i64 0]) ∧ PlanC w' gp m h T c p ∧ GoodK co cs m fr tt T p ∧ costY F0 ro co cs m fr tt = sumN T m)) ∧ Below w.heap.size w w' := by
  refine (solve_any F0 hF0 ro co bu cs (some ⟨g, 0, none⟩) m cc fr tt w (by unfold maxLen; omega) (by unfold maxLen; omega) hmc hsd (fun _ => ⟨g, 0, rfl, hcs⟩)).mono ?_
  rintro e w' ⟨x, y, z, rfl, hp, hb⟩
  have hb20 := (check_bu hck).2.1
  rcases hp with ⟨hc, _⟩ | ⟨_, n, d, ht, hp⟩
  · exact absurd hck hc
  · refine ⟨n, d, ht, ?_, hb⟩
    rcases hp with ⟨q, rfl, rfl, rfl⟩ | ⟨q, rfl, rfl, rfl, rfl⟩ | ⟨q, rfl, rfl, L, k, bb, s', hW, hnL, hgL, hsol, hk, rfl, hpl⟩
    · exact .inl ⟨q, rfl⟩
    · exact .inr (.inl ⟨q, rfl, rfl⟩)
    · refine .inr (.inr ⟨q, rfl, ?_⟩)
      have e : k = costY F0 ro co cs m fr tt := by
        rw [hk]
        unfold costY
        rw [hsol]
      have ePl : planL m (SM.wayF s'.seen k bb) = planK F0 ro co cs m fr tt := by
        unfold planK
        rw [hsol, hk]
      rw [ePl] at hpl
      obtain ⟨l1, l2, hG, l4⟩ := sol_plan hF0 hck hW hgL (by omega) hsol
      obtain ⟨gp, A, rfl, _, hrow, hown, _, _⟩ := hpl
      rw [l1] at hrow hown ⊢
      have key : ∀ i, ∃ hh c, i < m → A i = .slice (some ⟨hh, 0, none⟩) ((planK F0 ro co cs m fr tt).getD i []).length c := by
        intro i
        by_cases hi : i < m
        · obtain ⟨a, cap, e, ha, _⟩ := (hown i hi).form
          obtain ⟨b, rfl⟩ := ha (l2 i hi)
          exact ⟨b, cap, fun _ => e⟩
        · exact ⟨0, 0, fun h => absurd h hi⟩
      obtain ⟨hh, k1⟩ := Classical.axiomOfChoice key
      obtain ⟨c, k2⟩ := Classical.axiomOfChoice k1
      refine ⟨gp, hh, _, c, _, by rw [e], fun i hi => ⟨?_, fun s hs => ?_⟩, hG, ?_⟩
      · rw [hrow.cell hi, k2 i hi, Nat.sub_add_cancel (l2 i hi)]
      · have h1 := hown i hi
        rw [k2 i hi] at h1
        have := l2 i hi
        exact h1.cell (by omega)
      · rw [← l4, ← hk, e]

set_option maxRecDepth 100000 in
set_option maxHeartbeats 4000000 in
/-- Solved is what a good plan with its cost is. -/
theorem solved_yes (ro co bu : Int) (cs : ByteArray) (b m cap : Nat) (fr tt : Nat → Int) (g cg k : Nat) (h T c : Nat → Nat) (p : Nat → Nat → Nat) (w : World) (hs : cs.size ≤ 36) (h1 : 1 ≤ co) (h2 : co ≤ 6) (hm : m ≤ 4) (hcs : CartsIn w b 0 m fr tt) (hpl : PlanC w g m h T c p) (hG : GoodK co cs m fr tt T p) (hk : k = sumN T m) :
    Calls Tryd.prog 17 #[.agg #[.int .i64 ro, .int .i64 co, .string cs, .slice (some ⟨b, 0, none⟩) m cap, .int .i64 bu], .slice (some ⟨g, 0, none⟩) m cg, .int .i64 (k : Nat), .int .i64 0] w fun e w' => e = .returned (.bool true) ∧ Below w.heap.size w w' := by
  have HCS := Hid.mk hcs
  have HPL := Hid.mk hpl
  have HG := Hid.mk hG
  have HT : Hid (∀ i, i < m → T i ≤ 1000000) := fun i hi => by
    obtain ⟨_, _, _, _, _, _, q⟩ := hG.path i hi
    exact q
  have HK := Hid.mk hk
  clear hcs hpl hG hk
  go_enter Tryd.func17, Tryd.ntmps17
  go_wp2_with fail
  obtain ⟨w1, hw1⟩ : ∃ w1, w1 = w.alloc (Obj.cells #[Value.int IntKind.i64 ro, Value.int IntKind.i64 co, Value.string cs, .slice (some ⟨b, 0, none⟩) m cap, Value.int IntKind.i64 bu] 28) := ⟨_, rfl⟩
  have B1 : Hid (Below w.heap.size w w1) := by unfold Hid; rw [hw1]; exact (Below.refl _ w).alloc (Nat.le_refl _) _
  have hz1 : w.heap.size < w1.heap.size := by rw [hw1]; simp
  rw [← hw1]
  clear hw1
  refine (kgood_yes ro co bu cs b 0 m cap fr tt g cg h T c p w1 hs h1 h2 hm (HCS.out.below B1.out) (HPL.out.below B1.out) HG.out).mono ?_
  rintro e w2 ⟨rfl, hb2⟩
  have B2 : Hid (Below w.heap.size w w2) := B1.out.trans (hb2.mono (by omega))
  clear hb2
  go_wp2_with fail
  refine (cost_any g cg m h T c p w2 hm HT.out (HPL.out.below B2.out)).mono ?_
  rintro e w3 ⟨rfl, hw3⟩
  have hw3 := hw3.symm
  subst hw3
  rw [← HK.out]
  have hkk : ((k : Int) == (k : Int)) = true := by simp
  go_wp2_with fail
  go_ret
  exact ⟨rfl, B2.out⟩

end Go.Proofs.YtnkgpinadgacgabDoor
