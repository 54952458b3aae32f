/- Walk of lone.Path: a path of the least cost under good rules, or none. -/
import Derived.Test.YtaldfpoolajoiaaDoorSk
import Derived.Test.YtaldfpoolajoiaaDoorWk
namespace Go.Proofs.YtaldfpoolajoiaaDoor
open Go.RowKit M

theorem Told.from {w w0 w' : World} {v : Value} {x : Option (Nat × (Nat → Nat))} (h : Told w w' v x) (hw : w0.heap.size ≤ w.heap.size) : Told w0 w' v x :=
  ⟨h.1, fun T p e => by
    obtain ⟨g, h1, h2, h3⟩ := h.2 T p e
    exact ⟨g, h1, by omega, h3⟩⟩

set_option maxRecDepth 1000000 in
set_option maxHeartbeats 8000000 in
theorem path_any (ro co bu : Int) (cs : ByteArray) (ac : Option Addr) (mc cc f c : Nat) (a : Option Addr) (n cap : Nat) (R : Nat → RuleM) (w : World) (hsd : SidesIn w) (r1 : 1 ≤ ro) (r2 : ro ≤ 6) (r3 : 1 ≤ co) (r4 : co ≤ 6) (hsz : (cs.size : Int) = ro * co) (hs : cs.size ≤ 36) (hr : rulesB cs.size n R = true) (hwf : RulesWf n R) (ha : RulesAt w a n R) (hf : freeB cs f = true) (hc : freeB cs c = true) :
    Calls Tryd.prog 47 #[.agg #[.int .i64 ro, .int .i64 co, .string cs, .slice ac mc cc, .int .i64 bu], .agg #[.int .i64 f, .int .i64 c], .slice a n cap] w fun e w' =>
      ∃ v, e = .returned v ∧ ∃ x, Found co cs n R f c x ∧ Told w w' v x ∧ Below w.heap.size w w' := by
  have HSD := Hid.mk hsd
  have HSZ := Hid.mk hsz
  have HR := Hid.mk hr
  have HWF := Hid.mk hwf
  have HA := Hid.mk ha
  have HF := Hid.mk hf
  have HC := Hid.mk hc
  have hfN := free_lt hf
  have hcN := free_lt hc
  clear hsd hsz hr hwf ha hf hc
  go_enter Tryd.func47, Tryd.ntmps47
  have B0 : Hid (∀ o p, Below w.heap.size w ((w.alloc o).alloc p)) := fun o p => ((Below.refl _ _).alloc (Nat.le_refl _) o).alloc (by simp) p
  go_wp2_with fail
  refine (newTrip_any ro co bu f c cs ac mc cc a n cap R _ hs HR.out HWF.out (HA.out.below (B0.out _ _))).mono ?_
  rintro e w1 ⟨bs, bt, rfl, hbs, hbt, hban, hb1⟩
  have y1 : ∀ o, w1.cell? ⟨w.heap.size, o, none⟩ = #[Value.int .i64 ro, .int .i64 co, .string cs, .slice ac mc cc, .int .i64 bu][o]? := by
    intro o
    rw [hb1.cell (p := ⟨w.heap.size, o, none⟩) (by show w.heap.size < _; simp; omega)]; go_simp
  have c1 : ∀ o, w1.cell? ⟨w.heap.size + 1, o, none⟩ = #[Value.int .i64 f, .int .i64 c][o]? := by
    intro o
    rw [hb1.cell (p := ⟨w.heap.size + 1, o, none⟩) (by show w.heap.size + 1 < _; simp)]; go_simp
  have O1 : Hid (Below w.heap.size w w1) := (B0.out _ _).trans (hb1.mono (by simp; omega))
  have hz1 : w.heap.size + 2 ≤ w1.heap.size := by have := hb1.size; simp at this; omega
  have hza : w.heap.size < w1.heap.size := by omega
  have hzb : w.heap.size + 1 < w1.heap.size := by omega
  have BA1 := Hid.mk hban
  have SD1 : Hid (SidesIn w1) := HSD.out.below O1.out
  clear hban hb1 B0
  unfold tripV
  have y10 := y1 0
  have y11 := y1 1
  have y12 := y1 2
  have y13 := y1 3
  have y14 := y1 4
  have c10 := c1 0
  have c11 := c1 1
  simp only [List.getElem?_toArray, List.getElem?_cons_zero, List.getElem?_cons_succ] at y10 y11 y12 y13 y14 c10 c11
  have T2 : Hid (∀ o, (w1.alloc (Obj.cells #[.int .i64 ro, .int .i64 co, .string cs, .slice ac mc cc, .int .i64 bu, .int .i64 f, .int .i64 c, .map (some bs), .map (some bt), .int .i64 (settledM c R n)] 105)).cell? ⟨w1.heap.size, o, none⟩ = #[Value.int .i64 ro, .int .i64 co, .string cs, .slice ac mc cc, .int .i64 bu, .int .i64 f, .int .i64 c, .map (some bs), .map (some bt), .int .i64 (settledM c R n)][o]?) := by unfold Hid; intro o; go_simp
  have A2 : Hid (∀ o, Below w1.heap.size w1 (w1.alloc o)) := fun o => (Below.refl _ _).alloc (Nat.le_refl _) o
  go_wp2_with fail
  refine (gfar_any ro co bu cs _ c _ (SD1.out.below (A2.out _)) r1 r2 r3 r4 HSZ.out HC.out).mono ?_
  rintro e w3 ⟨g, st, rfl, hg, hst, hrow, hb3⟩
  have O3 : Hid (Below w1.heap.size w1 w3) := (A2.out _).trans (hb3.mono (by simp))
  have t3 : ∀ o, w3.cell? ⟨w1.heap.size, o, none⟩ = #[Value.int .i64 ro, .int .i64 co, .string cs, .slice ac mc cc, .int .i64 bu, .int .i64 f, .int .i64 c, .map (some bs), .map (some bt), .int .i64 (settledM c R n)][o]? := fun o => (hb3.cell (p := ⟨w1.heap.size, o, none⟩) (by show w1.heap.size < _; simp)).trans (T2.out o)
  have c3 : ∀ o, w3.cell? ⟨w.heap.size + 1, o, none⟩ = #[Value.int .i64 f, .int .i64 c][o]? := fun o => (O3.out.cell (p := ⟨w.heap.size + 1, o, none⟩) (by show w.heap.size + 1 < _; omega)).trans (c1 o)
  have hz3 := O3.out.size
  have x3 := hrow.cell hfN
  have ROW3 := Hid.mk hrow
  have HST := Hid.mk hst
  have hg3 : w1.heap.size < g := by simp at hg; omega
  have BA3 : Hid (BansIn w3 bs bt cs.size n R) := BA1.out.below O3.out
  have SD3 : Hid (SidesIn w3) := SD1.out.below O3.out
  have T3 := Hid.mk t3
  have c30 := c3 0
  have c31 := c3 1
  simp only [List.getElem?_toArray, List.getElem?_cons_zero, List.getElem?_cons_succ] at c30 c31
  unfold intV at x3
  clear hst hrow hb3 t3 c3 y1 c1 y10 y11 y12 y13 y14 c10 c11 T2 A2 hg
  have q : decide (st f < 0) = true ∨ decide (st f < 0) = false := by cases decide (st f < 0) <;> simp
  rcases q with q | q
  · have L0 : Hid (st f < 0) := Hid.mk (of_decide_eq_true q)
    go_wp2
    go_ret
    exact ⟨_, rfl, none, found_not HF.out HST.out (Or.inl L0.out), ⟨fun _ => rfl, fun T p h => (by cases h)⟩, O1.out.trans (O3.out.mono (by omega))⟩
  · have L0 : Hid (0 ≤ st f) := by have := of_decide_eq_false q; unfold Hid; omega
    have t30 := T3.out 0
    have t31 := T3.out 1
    have t32 := T3.out 2
    have t33 := T3.out 3
    have t34 := T3.out 4
    have t35 := T3.out 5
    have t36 := T3.out 6
    have t37 := T3.out 7
    have t38 := T3.out 8
    have t39 := T3.out 9
    simp only [List.getElem?_toArray, List.getElem?_cons_zero, List.getElem?_cons_succ] at t30 t31 t32 t33 t34 t35 t36 t37 t38 t39
    go_wp2_with fail
    refine (mayBegin_any ro co bu cs ac mc cc f c (settledM c R n) bs bt n R w3 hs hfN BA3.out).mono ?_
    rintro e w4 ⟨he, hb4⟩
    obtain ⟨mb, hmb⟩ : ∃ mb, mb = onM n R f 0 := ⟨_, rfl⟩
    have HMB := Hid.mk hmb
    rw [← hmb] at he
    subst he
    have O4 := Hid.mk hb4
    have t4 : ∀ o, w4.cell? ⟨w1.heap.size, o, none⟩ = #[Value.int .i64 ro, .int .i64 co, .string cs, .slice ac mc cc, .int .i64 bu, .int .i64 f, .int .i64 c, .map (some bs), .map (some bt), .int .i64 (settledM c R n)][o]? := fun o => (hb4.cell (p := ⟨w1.heap.size, o, none⟩) (by show w1.heap.size < _; have := ROW3.out.lt; omega)).trans (T3.out o)
    have t40 := t4 0
    have t41 := t4 1
    have t42 := t4 2
    have t43 := t4 3
    have t44 := t4 4
    have t45 := t4 5
    have t46 := t4 6
    have t47 := t4 7
    have t48 := t4 8
    have t49 := t4 9
    simp only [List.getElem?_toArray, List.getElem?_cons_zero, List.getElem?_cons_succ] at t40 t41 t42 t43 t44 t45 t46 t47 t48 t49
    clear hb4 hmb t30 t31 t32 t33 t34 t35 t36 t37 t38 t39 x3 t4 c30 c31
    cases mb
    · go_wp2
      go_ret
      exact ⟨_, rfl, none, found_not HF.out HST.out (Or.inr HMB.out.symm), ⟨fun _ => rfl, fun T p h => (by cases h)⟩, O1.out.trans ((O3.out.trans (O4.out.mono (by omega))).mono (by omega))⟩
    · go_wp2_with fail
      refine (search_any ro co bu cs ac mc cc f c bs bt n g R st w4 (SD3.out.below O4.out) r1 r2 r3 r4 HSZ.out hs HR.out HF.out HC.out HST.out L0.out HMB.out.symm (BA3.out.below O4.out) (ROW3.out.of_block (O4.out.block _ ROW3.out.lt))).mono ?_
      rintro e w5 ⟨v, rfl, x, hx, hT, hb5⟩
      have X := Hid.mk hx
      have TT := Hid.mk hT
      have O5 := Hid.mk hb5
      have hz4 := O4.out.size
      clear hx hT hb5
      go_wp2
      go_ret
      exact ⟨_, rfl, x, X.out, TT.out.from (by omega), O1.out.trans ((O3.out.trans ((O4.out.trans (O5.out.mono (by omega))).mono (by omega))).mono (by omega))⟩

end Go.Proofs.YtaldfpoolajoiaaDoor
