/- Several texts in one: Ho, Hi. -/
import Derived.Test.YtnkgpinadgacgaaDoorQp
import Derived.Test.YtnkgpinadgacgaaDoorQr
import Derived.Test.YtnkgpinadgacgaaDoorGz
import Derived.Test.YtnkgpinadgacgaaDoorHg
namespace Go.Proofs.YtnkgpinadgacgaaDoor
open M SM BM
section
variable {co : Int} {cs : ByteArray} {m : Nat} {fr tt : Nat → Int} {ln : Nat → Nat} {pt : Nat → Nat → Nat}
theorem posM_at {i t : Nat} : posM (ln i) (fun j => ((pt i j : Nat) : Int)) t = ((atT ln pt i t : Nat) : Int) := by
  unfold posM atT
  by_cases h : t < ln i
  · rw [if_pos h, if_pos h]
  · rw [if_neg h, if_neg h]

theorem times_none {lvl i k : Nat} {x y : Nat → Int} (h : ∀ t, pairB lvl (x t) (y t) (x (t + 1)) (y (t + 1)) = false) : ∀ t, timesF lvl i k x y t = []
  | 0 => rfl
  | t + 1 => by
    simp only [timesF]
    rw [times_none h t, h t]; rfl

theorem pairs_none {lvl n : Nat} {len : Nat → Nat} {num : Nat → Nat → Int} (h : ∀ i k, i < n → k < n → i < k → ∀ t, pairB lvl (posM (len i) (num i) t) (posM (len k) (num k) t) (posM (len i) (num i) (t + 1)) (posM (len k) (num k) (t + 1)) = false) : ∀ i, i ≤ n → pairsF lvl n len num i = []
  | 0, _ => rfl
  | i + 1, hi => by
    have key : ∀ k, k ≤ n → othersF lvl i len num k = [] := by
      intro k
      induction k with
      | zero => intro _; rfl
      | succ k ih =>
        intro hk
        simp only [othersF]
        rw [ih (by omega)]
        by_cases e : i < k
        · rw [if_pos e, times_none (h i k (by omega) (by omega) e)]; rfl
        · rw [if_neg e]; rfl
    simp only [pairsF]
    rw [pairs_none h i (by omega), key n (Nat.le_refl n)]; rfl

theorem cells_none {i n : Nat} {x : Nat → Int} (h : ∀ t, t < n → M.stepB co cs n x t = false) : ∀ t, t ≤ n → cellsF co cs i n x t = []
  | 0, _ => rfl
  | t + 1, ht => by
    simp only [cellsF]
    rw [cells_none h t (by omega), h t (by omega)]; rfl

/-- A good plan has no faults. -/
theorem good_none {adj : Nat → Nat → Prop} {frN ttN : Nat → Nat} (P : GoodP m adj frN ttN ln pt) (hfr : ∀ i, i < m → fr i = (frN i : Nat)) (htt : ∀ i, i < m → tt i = (ttN i : Nat)) (hadj : ∀ i, i < m → ∀ j, j + 1 < ln i → mayM co cs (pt i j : Nat) (pt i (j + 1) : Nat) = true) (hfree : ∀ i, i < m → freeB cs (pt i 0 : Nat) = true) :
    allF 3 co cs fr tt m ln (fun i j => ((pt i j : Nat) : Int)) = [] := by
  have p3 : pairsF 3 m ln (fun i j => ((pt i j : Nat) : Int)) m = [] := pairs_none (fun i k hi hk hik t => by
    rw [posM_at, posM_at, posM_at, posM_at]
    have h := P.swap i k hi hk (by omega) t
    unfold pairB
    rw [if_neg (by decide)]
    by_cases e1 : atT ln pt i t = atT ln pt k (t + 1)
    · have e2 : ¬ atT ln pt k t = atT ln pt i (t + 1) := fun e2 => h ⟨e1, e2⟩
      simp; omega
    · simp; omega) m (Nat.le_refl m)
  have p2 : pairsF 2 m ln (fun i j => ((pt i j : Nat) : Int)) m = [] := pairs_none (fun i k hi hk hik t => by
    rw [posM_at, posM_at, posM_at, posM_at]
    have h := P.meet i k hi hk (by omega) t
    unfold pairB
    rw [if_pos rfl]
    simp; omega) m (Nat.le_refl m)
  have s1 : ∀ i, i ≤ m → stepsF co cs ln (fun i j => ((pt i j : Nat) : Int)) i = [] := by
    intro i
    induction i with
    | zero => intro _; rfl
    | succ i ih =>
      intro hi
      simp only [stepsF]
      rw [ih (by omega), cells_none (fun t ht => ?_) (ln i) (Nat.le_refl _)]
      · rfl
      · unfold M.stepB
        by_cases e : t + 1 < ln i
        · rw [hadj i (by omega) t e]
          by_cases e2 : t = 0
          · subst e2
            rw [hfree i (by omega)]; simp
          · simp [e2]
        · by_cases e2 : t = 0
          · subst e2
            rw [hfree i (by omega)]; simp [e]
          · simp [e, e2]
  have e0 : ∀ i, i ≤ m → endsF fr tt ln (fun i j => ((pt i j : Nat) : Int)) i = [] := by
    intro i
    induction i with
    | zero => intro _; rfl
    | succ i ih =>
      intro hi
      have h1 := P.pos i (by omega)
      have h2 := P.first i (by omega)
      have h3 := P.last i (by omega)
      have h4 := P.wait i (by omega)
      have b1 : begunB (fr i) (ln i) (fun j => ((pt i j : Nat) : Int)) = true := by
        unfold begunB
        show (decide (0 < ln i) && (((pt i 0 : Nat) : Int) == fr i)) = true
        rw [hfr i (by omega), h2]
        simp [h1]
      have b2 : overB (tt i) (ln i) (fun j => ((pt i j : Nat) : Int)) = true := by
        unfold overB
        show (decide (ln i = 0) || ((((pt i (ln i - 1) : Nat) : Int) == tt i) && (decide (ln i = 1) || !(((pt i (ln i - 2) : Nat) : Int) == tt i)))) = true
        rw [htt i (by omega), h3]
        by_cases e : ln i = 1
        · simp [e]
        · have h5 := h4 (by omega)
          have h6 : (((pt i (ln i - 2) : Nat) : Int) == ((ttN i : Nat) : Int)) = false := by simp; omega
          rw [h6]; simp
      simp only [endsF]
      rw [ih (by omega)]
      unfold M.endF
      rw [b1, b2]; rfl
  unfold allF
  rw [p3, p2, s1 m (Nat.le_refl m), e0 m (Nat.le_refl m)]
  simp

end
section
variable {nx : List Nat → List (List Nat)} {h : List Nat → Nat} {m : Nat} {fr tt : List Nat} {L : List (List Nat)}
/-- No state comes twice on the way told. -/
theorem way_nodup {s : SM.Srch} {X : List St} (R : Run nx h m fr tt L s X (fun _ _ => False)) : ∀ (f : Nat) (x : St) (g : Nat), (s.seen x).map (·.1) = some g → (SM.wayF s.seen f x).Nodup ∧ ∀ y, y ∈ SM.wayF s.seen f x → ∃ k, (s.seen y).map (·.1) = some k ∧ k ≤ g
  | 0, x, g, hx => by
    simp only [SM.wayF]
    refine ⟨by simp, fun y hy => ?_⟩
    rw [List.mem_singleton] at hy
    exact ⟨g, hy ▸ hx, Nat.le_refl _⟩
  | f + 1, x, g, hx => by
    simp only [SM.wayF]
    by_cases e : 0 < costO (s.seen x)
    · rw [if_pos e]
      obtain ⟨g0, h2, h3⟩ := way_back2 R hx e
      obtain ⟨i1, i2⟩ := way_nodup R f _ g0 h2
      refine ⟨List.nodup_cons.2 ⟨fun hm => ?_, i1⟩, fun y hy => ?_⟩
      · obtain ⟨k, k1, k2⟩ := i2 x hm
        rw [hx] at k1
        injection k1 with k1
        omega
      · rcases List.mem_cons.1 hy with q | q
        · exact ⟨g, q ▸ hx, Nat.le_refl _⟩
        · obtain ⟨k, k1, k2⟩ := i2 y q
          exact ⟨k, k1, by omega⟩
    · rw [if_neg e]
      refine ⟨by simp, fun y hy => ?_⟩
      rw [List.mem_singleton] at hy
      exact ⟨g, hy ▸ hx, Nat.le_refl _⟩

end
theorem good_like {m : Nat} {adj : Nat → Nat → Prop} {fr tt ln ln' : Nat → Nat} {pt pt' : Nat → Nat → Nat} (P : GoodP m adj fr tt ln pt) (hl : ∀ i, i < m → ln' i = ln i) (hp : ∀ i, i < m → ∀ j, pt' i j = pt i j) : GoodP m adj fr tt ln' pt' := by
  have ha : ∀ i, i < m → ∀ t, atT ln' pt' i t = atT ln pt i t := fun i hi t => by unfold atT; rw [hl i hi, hp i hi]
  refine ⟨fun i hi => ?_, fun i hi => ?_, fun i hi => ?_, fun i hi => ?_, fun i hi => ?_, fun i k hi hk hn t => ?_, fun i k hi hk hn t => ?_⟩
  · rw [hl i hi]; exact P.pos i hi
  · rw [hp i hi]; exact P.first i hi
  · rw [hp i hi, hl i hi]; exact P.last i hi
  · rw [hp i hi, hl i hi]; exact P.wait i hi
  · rw [hl i hi]
    intro j hj
    rw [hp i hi, hp i hi]; exact P.step i hi j hj
  · rw [ha i hi, ha k hk]; exact P.meet i k hi hk hn t
  · rw [ha i hi, ha k hk, ha i hi, ha k hk]; exact P.swap i k hi hk hn t

section
variable {ro co bu : Int} {cs : ByteArray} {m : Nat} {fr tt : Nat → Int} {L : List (List Nat)} {F0 : Nat}
/-- The search's plan is good, its cost is the least, and it is not longer than there are states. -/
theorem sol_good (hF : 200400000 ≤ F0) (hck : (checkM ro co cs m fr tt bu).1 = 0) (hW : Work (stepP ro co cs m) (cellsOf fr m) L L.length) (hg : cellsOf tt m ∈ L) (hL : L.length ≤ 20000) {b : St} {s' : SM.Srch} (hsol : solY F0 ro co cs m fr tt = some (b, s')) {W : List St} (hWe : W = SM.wayF s'.seen (costO (s'.seen b)) b) {ln : Nat → Nat} {pt : Nat → Nat → Nat} (hln : ∀ i, i < m → ln i = (pathL i W).length) (hpt : ∀ i, i < m → ∀ j, pt i j = (pathL i W).getD j 0) :
    allF 3 co cs fr tt m ln (fun i j => ((pt i j : Nat) : Int)) = [] ∧ costO (s'.seen b) = sumN (fun i => (pathL i W).length - 1) m ∧ (∀ i, i < m → 0 < (pathL i W).length) ∧ (∀ i, (pathL i W).length ≤ W.length) ∧ W.length ≤ 320000 := by
  obtain ⟨s1, s2, s3⟩ := checkM_good hck
  obtain ⟨r1, r2⟩ := side_bd s1
  obtain ⟨r3, r4⟩ := side_bd s2
  obtain ⟨hm4, hfree⟩ := carts_free hck
  obtain ⟨hp1, hp2⟩ := cells_pos hck
  obtain ⟨G, hpos, hway⟩ := sol_gnd hck hW hg hL
  obtain ⟨R, hn⟩ := run_begin G
  obtain ⟨hb1, _, hleast⟩ := sol_least hF hck hW hg hL hsol
  obtain ⟨x, s2', X2, hcome, hx, ⟨s3', hseen, hR3⟩, g, hgx, _⟩ := come_ok G hway F0 _ [] R (by unfold left; rw [hn]; simp only [List.length_nil]; omega)
  have e : some (x, s2') = some (b, s') := hcome.symm.trans hsol
  injection e with e
  injection e with e1 e2
  subst e1 e2
  have hk : costO (s2'.seen x) = g := by
    cases e : s2'.seen x with
    | none => rw [e] at hgx; cases hgx
    | some v => rw [e] at hgx; simp at hgx; exact hgx
  obtain ⟨c1, c2, ⟨j, c3⟩, c4, _⟩ := way_chain G hR3 g x g (hseen ▸ hgx) (Nat.le_refl g)
  have hmem := way_mem hR3 g x g (hseen ▸ hgx)
  rw [hseen, ← hk, ← hWe] at c1 c2 c3 c4 hmem
  have hcost : costO (s2'.seen x) = costW W := Nat.le_antisymm (hleast j x _ c3 hx) (by rw [hk]; rw [hk] at c2; exact c2)
  have hd : ∀ i k, i < m → k < m → i ≠ k → (cellsOf tt m).getD i 0 ≠ (cellsOf tt m).getD k 0 := hp2.2
  have P := chain_good (adj := fun a b => a ∈ mvN ro co cs b) c1 c4 hx hd (fun a b h => h)
  have hcell : ∀ i, i < m → ∀ t, t < (pathL i W).length → (pathL i W).getD t 0 < cs.size ∧ freeB cs ((pathL i W).getD t 0 : Nat) = true := fun i hi t ht => by
    have h1 := path_at c1 hi t
    rw [if_pos ht] at h1
    have h2 : t < W.length := Nat.lt_of_lt_of_le ht path_len
    have h3 := (hpos _ (hmem _ (List.getElem_mem h2)).1).1.1.2 i hi
    have h4 : W.getD t (s0 m (cellsOf tt m)) = W[t] := by rw [List.getD_eq_getElem?_getD, List.getElem?_eq_getElem h2]; rfl
    rw [h1, h4]
    exact h3
  refine ⟨good_none (good_like P hln hpt) (fun i hi => ?_) (fun i hi => ?_) (fun i hi j hj => ?_) (fun i hi => by rw [hpt i hi]; exact (hcell i hi 0 (P.pos i hi)).2), ?_, P.pos, fun i => path_len, ?_⟩
  · rw [cellsOf_at hi]
    have := free_pos (hfree i hi).1
    omega
  · rw [cellsOf_at hi]
    have := free_pos (hfree i hi).2
    omega
  · rw [hln i hi] at hj
    rw [hpt i hi, hpt i hi]
    have h1 := P.step i hi j hj
    obtain ⟨h2, h3⟩ := hcell i hi (j + 1) hj
    obtain ⟨h4, h5⟩ := hcell i hi j (by omega)
    have h6 := (mvN_mem r3 r4 s3 h2 h3).1 h1
    exact (mayN_mem.1 (mayN_turn h2 h3 h6)).2
  · rw [hcost]
    exact path_cost (fun p q hq => (growL_mem.1 hq).1) (cellsOf_len _ _) c1
  · have h1 := (way_nodup hR3 g x g (hseen ▸ hgx)).1
    rw [hseen, ← hk, ← hWe] at h1
    have h2 := fine_few hm4 h1 hmem
    omega

end
end Go.Proofs.YtnkgpinadgacgaaDoor

namespace Go.Proofs.YtnkgpinadgacgaaDoor
open Go.RowKit M SM
/-- What Solve answers: behind an error nothing; else the search's plan, and its cost. -/
def solE (F0 : Nat) (w' : World) (base : Nat) (ro co bu : Int) (cs : ByteArray) (m : Nat) (fr tt : Nat → Int) (x y z : Value) : Prop :=
  ((checkM ro co cs m fr tt bu).1 ≠ 0 ∧ x = .slice none 0 0 ∧ y = .int .i64 0 ∧ z = .int .i64 (checkM ro co cs m fr tt bu).1) ∨
  ((checkM ro co cs m fr tt bu).1 = 0 ∧ ∃ (n : Nat) (d : Bool), M.Told (stepP ro co cs m) (cellsOf fr m) (cellsOf tt m) bu n d ∧
    ((bu < n ∧ x = .slice none 0 0 ∧ y = .int .i64 0 ∧ z = .int .i64 10) ∨ (¬ bu < n ∧ d = false ∧ x = .slice none 0 0 ∧ y = .int .i64 0 ∧ z = .int .i64 9) ∨
      (¬ bu < n ∧ d = true ∧ z = .int .i64 0 ∧ ∃ L k b s', Work (stepP ro co cs m) (cellsOf fr m) L L.length ∧ n = L.length ∧ cellsOf tt m ∈ L ∧ solY F0 ro co cs m fr tt = some (b, s') ∧ k = costO (s'.seen b) ∧ y = .int .i64 (k : Nat) ∧ PlanOwn w' base x (planL m (SM.wayF s'.seen k b)))))

set_option maxRecDepth 1000000 in
set_option maxHeartbeats 8000000 in
theorem solve_any (F0 : Nat) (hF0 : 200400000 ≤ F0) (ro co bu : Int) (cs : ByteArray) (a : Option Addr) (m cc : Nat) (fr tt : Nat → Int) (w : World) (hs : cs.size ≤ maxLen) (hn : m ≤ maxLen) (hcap : m ≤ cc) (hsd : SidesIn w)
    (ha : 0 < m → ∃ b off, a = some ⟨b, off, none⟩ ∧ CartsIn w b off m fr tt) :
    Calls Tryd.prog 37 #[.agg #[.int .i64 ro, .int .i64 co, .string cs, .slice a m cc, .int .i64 bu]] w fun e w' => ∃ x y z, e = .returned (.tuple #[x, y, z]) ∧ solE F0 w' w.heap.size ro co bu cs m fr tt x y z ∧ Below w.heap.size w w' := by
  have HSD := Hid.mk hsd
  have HA := Hid.mk ha
  clear hsd ha
  go_enter Tryd.func37, Tryd.ntmps37
  go_wp2_with fail
  have B1 : Hid (Below w.heap.size w (w.alloc (Obj.cells #[Value.int IntKind.i64 ro, Value.int IntKind.i64 co, Value.string cs, .slice a m cc, Value.int IntKind.i64 bu] 24))) := (Below.refl _ w).alloc (Nat.le_refl _) _
  have yc : ∀ o, (w.alloc (Obj.cells #[Value.int IntKind.i64 ro, Value.int IntKind.i64 co, Value.string cs, .slice a m cc, Value.int IntKind.i64 bu] 24)).cell? ⟨w.heap.size, o, none⟩ = #[Value.int .i64 ro, .int .i64 co, .string cs, .slice a m cc, .int .i64 bu][o]? := by
    intro o; go_simp
  have hz1 : (w.alloc (Obj.cells #[Value.int IntKind.i64 ro, Value.int IntKind.i64 co, Value.string cs, .slice a m cc, Value.int IntKind.i64 bu] 24)).heap.size = w.heap.size + 1 := by simp
  generalize w.alloc (Obj.cells #[Value.int IntKind.i64 ro, Value.int IntKind.i64 co, Value.string cs, .slice a m cc, Value.int IntKind.i64 bu] 24) = w1 at *
  refine (positions_any ro co bu cs a m cc fr tt _ hs hn hcap (HSD.out.below B1.out) (by exact opt_below HA.out B1.out)).mono ?_
  rintro e w2 ⟨x, y, z, rfl, hpos, hb2⟩
  have hz2 := hb2.size
  have y0 := cell_later hb2 (yc 0)
  have y1 := cell_later hb2 (yc 1)
  have y2 := cell_later hb2 (yc 2)
  have y3 := cell_later hb2 (yc 3)
  have y4 := cell_later hb2 (yc 4)
  have B2 : Hid (Below w.heap.size w w2) := B1.out.trans (hb2.mono (by omega))
  clear yc hb2
  rcases hpos with ⟨hck, rfl, rfl, rfl⟩ | ⟨hck, n, d, htold, hpos⟩
  · obtain ⟨zc, hzc⟩ : ∃ zc, zc = (checkM ro co cs m fr tt bu).1 := ⟨_, rfl⟩
    have HZ := Hid.mk hzc
    rw [← hzc] at hck ⊢
    clear hzc y0 y1 y2 y3 y4
    go_wp2_with fail
    go_ret3
    exact ⟨_, _, _, rfl, .inl ⟨by rw [← HZ.out]; exact hck, rfl, rfl, congrArg (Value.int .i64) HZ.out⟩, B2.out⟩
  · have HT := Hid.mk htold
    have HCK := Hid.mk hck
    rcases hpos with ⟨hbn, rfl, rfl, rfl⟩ | ⟨hbn, rfl, rfl, rfl⟩
    · have HBN := Hid.mk hbn
      clear htold hck hbn y0 y1 y2 y3 y4
      go_wp2_with fail
      go_ret3
      exact ⟨_, _, _, rfl, .inr ⟨HCK.out, n, d, HT.out, .inl ⟨HBN.out, rfl, rfl, rfl⟩⟩, B2.out⟩
    · have HBN := Hid.mk hbn
      clear htold hck hbn
      cases d
      · clear y0 y1 y2 y3 y4
        go_wp2_with fail
        go_ret3
        exact ⟨_, _, _, rfl, .inr ⟨HCK.out, n, false, HT.out, .inr (.inl ⟨(by have := HBN.out; omega), rfl, rfl, rfl, rfl⟩)⟩, B2.out⟩
      · obtain ⟨L, hW, hnL, hgL⟩ : ∃ L, Work (stepP ro co cs m) (cellsOf fr m) L L.length ∧ n = L.length ∧ cellsOf tt m ∈ L := by
          rcases HT.out with ⟨L, h1, h2, h3⟩ | ⟨L, i, h1, h2, h3⟩
          · exact ⟨L, h1, h2, of_decide_eq_true h3.symm⟩
          · exact absurd h3 (by have := HBN.out; omega)
        obtain ⟨s1, s2, s3⟩ := checkM_good HCK.out
        obtain ⟨r1, r2⟩ := side_bd s1
        obtain ⟨r3, r4⟩ := side_bd s2
        obtain ⟨hm4, hfree⟩ := carts_free HCK.out
        obtain ⟨hb1, hb2, hm1⟩ := check_bu HCK.out
        obtain ⟨b, off, rfl, hcs⟩ := HA.out (by omega)
        obtain ⟨hp1, hp2⟩ := cells_pos HCK.out
        have hLb : L.length ≤ 20000 := by
          have := HBN.out
          omega
        have PL : Hid (Calls Tryd.prog 90 #[.agg #[.int .i64 ro, .int .i64 co, .string cs, .slice (some ⟨b, off, none⟩) m cc, .int .i64 bu]] w2 fun e w' =>
            ∃ v k x s', solY F0 ro co cs m fr tt = some (x, s') ∧ k = costO (s'.seen x) ∧ e = .returned (.tuple #[v, .int .i64 (k : Nat)]) ∧ PlanOwn w' w2.heap.size v (planL m (SM.wayF s'.seen k x)) ∧ Below w2.heap.size w2 w') :=
          plan_any F0 hF0 ro co bu cs b off m cc fr tt L w2 s3 r1 r2 r3 r4 hm1 hm4 (HSD.out.below B2.out) (hcs.below B2.out) hfree hp1 hp2 hW hgL hLb
        have HW := Hid.mk hW
        have HGL := Hid.mk hgL
        have HNL := Hid.mk hnL
        clear hW hnL hgL s1 s2 s3 hfree hcs hp1 hp2
        go_wp2_with fail
        refine PL.out.mono ?_
        rintro e w3 ⟨v, k, q, s', hsol, hk, rfl, hpl, hb3⟩
        have HSOL := Hid.mk hsol
        have HK := Hid.mk hk
        have PLN : Hid (PlanOwn w3 w.heap.size v (planL m (SM.wayF s'.seen k q))) := hpl.le (by have := B2.out.size; omega)
        have B3 : Hid (Below w.heap.size w w3) := B2.out.trans (hb3.mono (by have := B2.out.size; omega))
        obtain ⟨gp, A, rfl, _⟩ := hpl
        clear hsol hk hb3 y0 y1 y2 y3 y4
        go_wp2_with fail
        go_ret3
        exact ⟨_, _, _, rfl, .inr ⟨HCK.out, n, true, HT.out, .inr (.inr ⟨(by have := HBN.out; omega), rfl, rfl, L, k, q, s', HW.out, HNL.out, HGL.out, HSOL.out, HK.out, rfl, PLN.out⟩)⟩, B3.out⟩

end Go.Proofs.YtnkgpinadgacgaaDoor
