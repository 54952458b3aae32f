/- Walk of lone.Path: a path of the least cost under good rules, or none. -/
import Derived.Test.YtnkgpinadgacgaaDoorBm
import Derived.Test.YtnkgpinadgacgaaDoorBd
import Derived.Test.YtnkgpinadgacgaaDoorBb
import Derived.Test.YtnkgpinadgacgaaDoorBg
import Derived.Test.YtnkgpinadgacgaaDoorBk
import Derived.Test.YtnkgpinadgacgaaDoorBh
import Derived.Test.YtnkgpinadgacgaaDoorBe
import Derived.Lib.SliceRun
namespace Go.Proofs.YtnkgpinadgacgaaDoor
open Go.RowKit M

theorem Told.from {w w0 w' : World} {v : Value} {x : Option (Nat × (Nat → Nat))} (h : Told w w' v x) (hw : w0.heap.size ≤ w.heap.size) : Told w0 w' v x :=
  ⟨h.1, fun T p e => by
    obtain ⟨g, h1, h2, h3⟩ := h.2 T p e
    exact ⟨g, h1, by omega, h3⟩⟩

set_option maxRecDepth 1000000 in
set_option maxHeartbeats 8000000 in
theorem path_any (ro co bu : Int) (cs : ByteArray) (ac : Option Addr) (mc cc f c : Nat) (a : Option Addr) (n cap : Nat) (R : Nat → RuleM) (w : World) (hsd : SidesIn w) (r1 : 1 ≤ ro) (r2 : ro ≤ 6) (r3 : 1 ≤ co) (r4 : co ≤ 6) (hsz : (cs.size : Int) = ro * co) (hs : cs.size ≤ 36) (hr : rulesB cs.size n R = true) (hwf : RulesWf n R) (ha : RulesAt w a n R) (hf : freeB cs f = true) (hc : freeB cs c = true) :
    Calls Tryd.prog 69 #[.agg #[.int .i64 ro, .int .i64 co, .string cs, .slice ac mc cc, .int .i64 bu], .agg #[.int .i64 f, .int .i64 c], .slice a n cap] w fun e w' =>
      ∃ v, e = .returned v ∧ ∃ x, Found co cs n R f c x ∧ Told w w' v x ∧ Below w.heap.size w w' := by
  have HSD := Hid.mk hsd
  have HSZ := Hid.mk hsz
  have HR := Hid.mk hr
  have HWF := Hid.mk hwf
  have HA := Hid.mk ha
  have HF := Hid.mk hf
  have HC := Hid.mk hc
  have hfN := free_lt hf
  have hcN := free_lt hc
  clear hsd hsz hr hwf ha hf hc
  go_enter Tryd.func69, Tryd.ntmps69
  have B0 : Hid (∀ o p, Below w.heap.size w ((w.alloc o).alloc p)) := fun o p => ((Below.refl _ _).alloc (Nat.le_refl _) o).alloc (by simp) p
  go_wp2_with fail
  refine (newTrip_any ro co bu f c cs ac mc cc a n cap R _ hs HR.out HWF.out (HA.out.below (B0.out _ _))).mono ?_
  rintro e w1 ⟨bs, bt, rfl, hbs, hbt, hban, hb1⟩
  have y1 : ∀ o, w1.cell? ⟨w.heap.size, o, none⟩ = #[Value.int .i64 ro, .int .i64 co, .string cs, .slice ac mc cc, .int .i64 bu][o]? := by
    intro o
    rw [hb1.cell (p := ⟨w.heap.size, o, none⟩) (by show w.heap.size < _; simp; omega)]; go_simp
  have c1 : ∀ o, w1.cell? ⟨w.heap.size + 1, o, none⟩ = #[Value.int .i64 f, .int .i64 c][o]? := by
    intro o
    rw [hb1.cell (p := ⟨w.heap.size + 1, o, none⟩) (by show w.heap.size + 1 < _; simp)]; go_simp
  have O1 : Hid (Below w.heap.size w w1) := (B0.out _ _).trans (hb1.mono (by simp; omega))
  have hz1 : w.heap.size + 2 ≤ w1.heap.size := by have := hb1.size; simp at this; omega
  have hza : w.heap.size < w1.heap.size := by omega
  have hzb : w.heap.size + 1 < w1.heap.size := by omega
  have BA1 := Hid.mk hban
  have SD1 : Hid (SidesIn w1) := HSD.out.below O1.out
  clear hban hb1 B0
  unfold tripV
  have y10 := y1 0
  have y11 := y1 1
  have y12 := y1 2
  have y13 := y1 3
  have y14 := y1 4
  have c10 := c1 0
  have c11 := c1 1
  simp only [List.getElem?_toArray, List.getElem?_cons_zero, List.getElem?_cons_succ] at y10 y11 y12 y13 y14 c10 c11
  have T2 : Hid (∀ o, (w1.alloc (Obj.cells #[.int .i64 ro, .int .i64 co, .string cs, .slice ac mc cc, .int .i64 bu, .int .i64 f, .int .i64 c, .map (some bs), .map (some bt), .int .i64 (settledM c R n)] 156)).cell? ⟨w1.heap.size, o, none⟩ = #[Value.int .i64 ro, .int .i64 co, .string cs, .slice ac mc cc, .int .i64 bu, .int .i64 f, .int .i64 c, .map (some bs), .map (some bt), .int .i64 (settledM c R n)][o]?) := by unfold Hid; intro o; go_simp
  have A2 : Hid (∀ o, Below w1.heap.size w1 (w1.alloc o)) := fun o => (Below.refl _ _).alloc (Nat.le_refl _) o
  go_wp2_with fail
  refine (gfar_any ro co bu cs _ c _ (SD1.out.below (A2.out _)) r1 r2 r3 r4 HSZ.out HC.out).mono ?_
  rintro e w3 ⟨g, st, rfl, hg, hst, hrow, hb3⟩
  have O3 : Hid (Below w1.heap.size w1 w3) := (A2.out _).trans (hb3.mono (by simp))
  have t3 : ∀ o, w3.cell? ⟨w1.heap.size, o, none⟩ = #[Value.int .i64 ro, .int .i64 co, .string cs, .slice ac mc cc, .int .i64 bu, .int .i64 f, .int .i64 c, .map (some bs), .map (some bt), .int .i64 (settledM c R n)][o]? := fun o => (hb3.cell (p := ⟨w1.heap.size, o, none⟩) (by show w1.heap.size < _; simp)).trans (T2.out o)
  have c3 : ∀ o, w3.cell? ⟨w.heap.size + 1, o, none⟩ = #[Value.int .i64 f, .int .i64 c][o]? := fun o => (O3.out.cell (p := ⟨w.heap.size + 1, o, none⟩) (by show w.heap.size + 1 < _; omega)).trans (c1 o)
  have hz3 := O3.out.size
  have x3 := hrow.cell hfN
  have ROW3 := Hid.mk hrow
  have HST := Hid.mk hst
  have hg3 : w1.heap.size < g := by simp at hg; omega
  have BA3 : Hid (BansIn w3 bs bt cs.size n R) := BA1.out.below O3.out
  have SD3 : Hid (SidesIn w3) := SD1.out.below O3.out
  have T3 := Hid.mk t3
  have c30 := c3 0
  have c31 := c3 1
  simp only [List.getElem?_toArray, List.getElem?_cons_zero, List.getElem?_cons_succ] at c30 c31
  unfold intV at x3
  clear hst hrow hb3 t3 c3 y1 c1 y10 y11 y12 y13 y14 c10 c11 T2 A2 hg
  have q : decide (st f < 0) = true ∨ decide (st f < 0) = false := by cases decide (st f < 0) <;> simp
  rcases q with q | q
  · have L0 : Hid (st f < 0) := Hid.mk (of_decide_eq_true q)
    go_wp2
    go_ret
    exact ⟨_, rfl, none, found_not HF.out HST.out (Or.inl L0.out), ⟨fun _ => rfl, fun T p h => (by cases h)⟩, O1.out.trans (O3.out.mono (by omega))⟩
  · have L0 : Hid (0 ≤ st f) := by have := of_decide_eq_false q; unfold Hid; omega
    have t30 := T3.out 0
    have t31 := T3.out 1
    have t32 := T3.out 2
    have t33 := T3.out 3
    have t34 := T3.out 4
    have t35 := T3.out 5
    have t36 := T3.out 6
    have t37 := T3.out 7
    have t38 := T3.out 8
    have t39 := T3.out 9
    simp only [List.getElem?_toArray, List.getElem?_cons_zero, List.getElem?_cons_succ] at t30 t31 t32 t33 t34 t35 t36 t37 t38 t39
    go_wp2_with fail
    refine (mayBegin_any ro co bu cs ac mc cc f c (settledM c R n) bs bt n R w3 hs hfN BA3.out).mono ?_
    rintro e w4 ⟨he, hb4⟩
    obtain ⟨mb, hmb⟩ : ∃ mb, mb = onM n R f 0 := ⟨_, rfl⟩
    have HMB := Hid.mk hmb
    rw [← hmb] at he
    subst he
    have O4 := Hid.mk hb4
    have t4 : ∀ o, w4.cell? ⟨w1.heap.size, o, none⟩ = #[Value.int .i64 ro, .int .i64 co, .string cs, .slice ac mc cc, .int .i64 bu, .int .i64 f, .int .i64 c, .map (some bs), .map (some bt), .int .i64 (settledM c R n)][o]? := fun o => (hb4.cell (p := ⟨w1.heap.size, o, none⟩) (by show w1.heap.size < _; have := ROW3.out.lt; omega)).trans (T3.out o)
    have t40 := t4 0
    have t41 := t4 1
    have t42 := t4 2
    have t43 := t4 3
    have t44 := t4 4
    have t45 := t4 5
    have t46 := t4 6
    have t47 := t4 7
    have t48 := t4 8
    have t49 := t4 9
    simp only [List.getElem?_toArray, List.getElem?_cons_zero, List.getElem?_cons_succ] at t40 t41 t42 t43 t44 t45 t46 t47 t48 t49
    clear hb4 hmb t30 t31 t32 t33 t34 t35 t36 t37 t38 t39 x3 t4 c30 c31
    cases mb
    · go_wp2
      go_ret
      exact ⟨_, rfl, none, found_not HF.out HST.out (Or.inr HMB.out.symm), ⟨fun _ => rfl, fun T p h => (by cases h)⟩, O1.out.trans ((O3.out.trans (O4.out.mono (by omega))).mono (by omega))⟩
    · go_wp2_with fail
      refine (search_any ro co bu cs ac mc cc f c bs bt n g R st w4 (SD3.out.below O4.out) r1 r2 r3 r4 HSZ.out hs HR.out HF.out HC.out HST.out L0.out HMB.out.symm (BA3.out.below O4.out) (ROW3.out.of_block (O4.out.block _ ROW3.out.lt))).mono ?_
      rintro e w5 ⟨v, rfl, x, hx, hT, hb5⟩
      have X := Hid.mk hx
      have TT := Hid.mk hT
      have O5 := Hid.mk hb5
      have hz4 := O4.out.size
      clear hx hT hb5
      go_wp2
      go_ret
      exact ⟨_, rfl, x, X.out, TT.out.from (by omega), O1.out.trans ((O3.out.trans ((O4.out.trans (O5.out.mono (by omega))).mono (by omega))).mono (by omega))⟩

end Go.Proofs.YtnkgpinadgacgaaDoor

/- Walks of handedRules (rules in a list of their own, with spare room) and of stillRules. -/
namespace Go.Proofs.YtnkgpinadgacgaaDoor
open Go.RowKit M

theorem Tryd.infoRule : (Tryd.prog.info? 101).map (fun i => (i.zero, i.size, i.bytes)) = some (some (.agg #[.int .i64 0, .int .i64 0, .int .i64 0, .int .i64 0]), 4, 32) := by kernel_rfl
theorem Tryd.sizeRule : (Tryd.prog.info? 101).map (·.size) = some 4 := by kernel_rfl

/-- A rule's cell of a number. -/
def ruleF (r : RuleM) (j : Nat) : Int := if j = 0 then r.kind else if j = 1 then r.cell else if j = 2 then r.next else r.at'

/-- What the spare room holds. -/
def spareR : RuleM := ⟨-5, 0, 0, -5⟩

/-- The cells of a list of n rules and its spare room. -/
def roomR (n : Nat) (R : Nat → RuleM) (j : Nat) : Int := if j < n * 4 then ruleF (R (j / 4)) (j % 4) else ruleF spareR (j % 4)

def rowR (k : Nat) (f : Nat → Int) (j : Nat) : Value := .int .i64 (if j < k * 4 then f j else 0)

theorem RulesIn.src {w : World} {b off n : Nat} {R : Nat → RuleM} (h : RulesIn w b off n R) : ∀ j, j < n * 4 → w.cell? ⟨b, off + j, none⟩ = some (.int .i64 (roomR n R j)) := by
  intro j hj
  obtain ⟨h0, h1, h2, h3⟩ := h (j / 4) (by omega)
  unfold roomR ruleF
  rw [if_pos hj]
  have hm : j % 4 = 0 ∨ j % 4 = 1 ∨ j % 4 = 2 ∨ j % 4 = 3 := by omega
  rcases hm with e | e | e | e
  · rw [if_pos e, show off + j = off + j / 4 * 4 by omega]; exact h0
  · rw [if_neg (by omega), if_pos e, show off + j = off + j / 4 * 4 + 1 by omega]; exact h1
  · rw [if_neg (by omega), if_neg (by omega), if_pos e, show off + j = off + j / 4 * 4 + 2 by omega]; exact h2
  · rw [if_neg (by omega), if_neg (by omega), if_neg (by omega), show off + j = off + j / 4 * 4 + 3 by omega]; exact h3

theorem rowR_at (f : Nat → Int) (N : Nat) (w : World) (t : TypeId) (k : Nat) (hk : k = w.heap.size) : (w.alloc (.cells (madeCells #[.int .i64 0, .int .i64 0, .int .i64 0, .int .i64 0] N) t)).rowIs k t N (rowR 0 f) := by
  subst hk
  refine rowIs_made _ _ _ _ fun i _ => ?_
  have : i % 4 = 0 ∨ i % 4 = 1 ∨ i % 4 = 2 ∨ i % 4 = 3 := by omega
  rcases this with e | e | e | e <;> simp [e, rowR]

theorem rowR_copied {w : World} {g n N : Nat} {t : TypeId} {f : Nat → Int} (h : w.rowIs g t N (fun j => if j < n * 4 then .int .i64 (f j) else rowR 0 f j)) : w.rowIs g t N (rowR n f) := by
  refine h.congr fun i _ => ?_
  unfold rowR
  by_cases e : i < n * 4 <;> simp [e]

theorem rowR_in {n k : Nat} {R : Nat → RuleM} (j : Nat) (hj : j < 4) (h : k < n) : rowR (n + 8) (roomR n R) (k * 4 + j) = .int .i64 (ruleF (R k) j) := by
  unfold rowR roomR
  rw [if_pos (show k * 4 + j < (n + 8) * 4 by omega), if_pos (show k * 4 + j < n * 4 by omega), show (k * 4 + j) / 4 = k by omega, show (k * 4 + j) % 4 = j by omega]

theorem rowR_room {n k : Nat} {R : Nat → RuleM} (j : Nat) (hj : j < 4) (h : k < n + 8) (h2 : ¬ k < n) : rowR (n + 8) (roomR n R) (k * 4 + j) = .int .i64 (ruleF spareR j) := by
  unfold rowR roomR
  rw [if_pos (show k * 4 + j < (n + 8) * 4 by omega), if_neg (show ¬ k * 4 + j < n * 4 by omega), show (k * 4 + j) % 4 = j by omega]

theorem rowR_fill {w : World} {g n k N : Nat} {t : TypeId} {R : Nat → RuleM} (h : w.rowIs g t N (rowR k (roomR n R))) (hk : n ≤ k) :
    ((((w.setCell ⟨g, k * 4, none⟩ (.int .i64 (-5))).setCell ⟨g, k * 4 + 1, none⟩ (.int .i64 0)).setCell ⟨g, k * 4 + 2, none⟩ (.int .i64 0)).setCell ⟨g, k * 4 + 3, none⟩ (.int .i64 (-5))).rowIs g t N (rowR (k + 1) (roomR n R)) := by
  refine ((((h.set (k * 4) _).set (k * 4 + 1) _).set (k * 4 + 2) _).set (k * 4 + 3) _).congr fun i _ => ?_
  have key : ∀ j, j < 4 → i = k * 4 + j → rowR (k + 1) (roomR n R) i = .int .i64 (ruleF spareR j) := by
    intro j hj e
    unfold rowR roomR
    rw [if_pos (show i < (k + 1) * 4 by omega), if_neg (show ¬ i < n * 4 by omega), show i % 4 = j by omega]
  by_cases e3 : i = k * 4 + 3
  · rw [if_pos e3, key 3 (by omega) e3]; rfl
  · rw [if_neg e3]
    by_cases e2 : i = k * 4 + 2
    · rw [if_pos e2, key 2 (by omega) e2]; rfl
    · rw [if_neg e2]
      by_cases e1 : i = k * 4 + 1
      · rw [if_pos e1, key 1 (by omega) e1]; rfl
      · rw [if_neg e1]
        by_cases e0 : i = k * 4
        · rw [if_pos e0, key 0 (by omega) e0]; rfl
        · rw [if_neg e0]
          unfold rowR
          by_cases e : i < k * 4
          · rw [if_pos e, if_pos (show i < (k + 1) * 4 by omega)]
          · rw [if_neg e, if_neg (show ¬ i < (k + 1) * 4 by omega)]

set_option maxRecDepth 100000 in
set_option maxHeartbeats 400000 in
theorem handedRules_any (a : Option Addr) (n cap : Nat) (R : Nat → RuleM) (w : World) (hn : n * 32 ≤ 140737488351232) (ha : RulesAt w a n R) :
    Calls Tryd.prog 20 #[.slice a n cap] w fun e w' =>
      ∃ g, e = .returned (.slice (some ⟨g, 0, none⟩) n (n + 8)) ∧ w.heap.size ≤ g ∧ w'.rowIs g 101 ((n + 8) * 4) (rowR (n + 8) (roomR n R)) ∧ Below w.heap.size w w' := by
  have hsrc : 0 < n * 4 → ∃ b off, a = some ⟨b, off, none⟩ ∧ b < w.heap.size ∧ ∀ j, j < n * 4 → w.cell? ⟨b, off + j, none⟩ = some (.int .i64 (roomR n R j)) := by
    intro h
    obtain ⟨b, off, hab, hc⟩ := ha (by omega)
    exact ⟨b, off, hab, World.block_lt_of_cell? _ _ (hc 0 (by omega)).1, hc.src⟩
  have Hsrc := Hid.mk hsrc
  clear hsrc ha
  go_enter Tryd.func20, Tryd.ntmps20
  go_wp2_with (first | (at_make; go_must (refine wpList_make_all _ rfl _ _ 38 rfl 101 _ _ _ Tryd.underlying38 Tryd.infoRule _ _ _ _ (n + 8) rfl rfl (by simp) (by simp) (by omega) (by omega) ?_)) | ((refine wpList_copy_rowsS rfl _ _ _ _ rfl 101 Tryd.underlying38 4 Tryd.sizeRule _ _ _ _ _ _ rfl rfl 101 ((n + 8) * 4) (rowR 0 (roomR n R)) (rowR_at _ _ _ _ _ (by simp)) (n * 4) ?hm ?hmN (fun j => .int .i64 (roomR n R j)) (fun _ => rfl) ?hsrc ?_)))
  case hm => show min n (n + 8) * 4 = n * 4; rw [Nat.min_eq_left (by omega)]
  case hmN => omega
  case hsrc =>
    intro h
    obtain ⟨b, off, hab, hbl, hc⟩ := Hsrc.out h
    exact ⟨b, off, hab, fun j hj => cell_later ((Below.refl _ _).alloc (Nat.le_refl _) _) (hc j hj)⟩
  intro w2 hrow0 hb2 hsz2
  have hrow := rowR_copied hrow0
  have hB := Hid.mk (((Below.refl _ w).alloc (Nat.le_refl _) _).trans (hb2.mono (by omega)) : Below w.heap.size w w2)
  clear hb2 hrow0 Hsrc
  have HR := Hid.mk hrow
  clear hrow
  go_wp2
  go_loopw [5] (fun s wr => ∃ k : Nat, n ≤ k ∧ k ≤ n + 8 ∧ s = .int .i64 k ∧ wr.rowIs w.heap.size 101 ((n + 8) * 4) (rowR k (roomR n R)) ∧ Below w.heap.size w2 wr) (fun s _ => n + 8 - (intOf s).toNat)
  case atStart => exact ⟨n, Nat.le_refl _, by omega, rfl, HR.out, Below.refl _ _⟩
  case round =>
    obtain ⟨k, hkn, hk, rfl, hrw, hbr⟩ := hrel
    have HW := Hid.mk hrw
    have hsz := hrw.lt
    by_cases hlt : k < n + 8
    · have x1 := hrw.cell (i := k * 4) (by omega)
      have x2 := hrw.cell (i := k * 4 + 1) (by omega)
      have x3 := hrw.cell (i := k * 4 + 2) (by omega)
      have x4 := hrw.cell (i := k * 4 + 3) (by omega)
      have x5 := hrw.frozen
      clear hrw
      go_wp2
      go_roundw
      case rel => exact ⟨k + 1, by omega, by omega, by go_num, rowR_fill HW.out hkn, (((hbr.setCell (by simp) _).setCell (by simp) _).setCell (by simp) _).setCell (by simp) _⟩
      case measure => simp [intOf]; omega
    · have hd : k = n + 8 := by omega
      subst hd
      clear hrw
      go_wp2
      go_ret
      exact ⟨w.heap.size, rfl, Nat.le_refl _, HW.out, hB.out.trans hbr⟩

set_option maxRecDepth 100000 in
set_option maxHeartbeats 1000000 in
theorem stillRules_any (a : Option Addr) (g n cap : Nat) (R : Nat → RuleM) (w : World) (hn : n * 32 ≤ 140737488351232) (ha : RulesAt w a n R) (hrow : w.rowIs g 101 ((n + 8) * 4) (rowR (n + 8) (roomR n R))) :
    Calls Tryd.prog 22 #[.slice (some ⟨g, 0, none⟩) n (n + 8), .slice a n cap] w fun e w' => e = .returned (.bool true) ∧ Below w.heap.size w w' := by
  have hgl := hrow.lt
  have HR := Hid.mk hrow
  have HA := Hid.mk ha
  clear hrow ha
  go_enter Tryd.func22, Tryd.ntmps22
  go_wp2
  go_loopw [7] (fun s wr => ∃ k : Nat, k ≤ n + 8 ∧ s = .int .i64 k ∧ Below w.heap.size w wr) (fun s _ => n + 8 - (intOf s).toNat)
  case atStart => exact ⟨0, Nat.zero_le _, rfl, Below.refl _ _⟩
  case round =>
    obtain ⟨k, hk, rfl, hbr⟩ := hrel
    have hzg : g < wr.heap.size := Nat.lt_of_lt_of_le hgl hbr.size
    have HBR := Hid.mk hbr
    by_cases hlt : k < n + 8
    · have c0 := cell_later hbr (HR.out.cell (i := k * 4) (by omega))
      have c1 := cell_later hbr (HR.out.cell (i := k * 4 + 1) (by omega))
      have c2 := cell_later hbr (HR.out.cell (i := k * 4 + 2) (by omega))
      have c3 := cell_later hbr (HR.out.cell (i := k * 4 + 3) (by omega))
      by_cases hkn : k < n
      · obtain ⟨b, off, rfl, hcs⟩ := HA.out (by omega)
        obtain ⟨d0, d1, d2, d3⟩ := hcs k hkn
        have d0 := cell_later hbr d0
        have d1 := cell_later hbr d1
        have d2 := cell_later hbr d2
        have d3 := cell_later hbr d3
        have hzb : b < wr.heap.size := World.block_lt_of_cell? _ _ d0
        rw [show k * 4 = k * 4 + 0 from rfl, rowR_in 0 (by omega) hkn] at c0
        rw [rowR_in 1 (by omega) hkn] at c1
        rw [rowR_in 2 (by omega) hkn] at c2
        rw [rowR_in 3 (by omega) hkn] at c3
        simp only [ruleF, if_false, Nat.add_zero, Nat.reduceEqDiff, if_pos] at c0 c1 c2 c3
        clear hcs hbr
        go_wp2
        go_quiet (fail)
        go_wp2
        go_roundw
        case rel => exact ⟨k + 1, by omega, by go_num, below_drewN (HBR.out.alloc HBR.out.size _) _⟩
        case measure => simp [intOf]; omega
      · rw [show k * 4 = k * 4 + 0 from rfl, rowR_room 0 (by omega) hlt hkn] at c0
        rw [rowR_room 1 (by omega) hlt hkn] at c1
        rw [rowR_room 2 (by omega) hlt hkn] at c2
        rw [rowR_room 3 (by omega) hlt hkn] at c3
        simp only [ruleF, spareR, if_false, Nat.add_zero, Nat.reduceEqDiff, if_pos] at c0 c1 c2 c3
        clear hbr
        go_wp2
        go_quiet (fail)
        go_wp2
        go_roundw
        case rel => exact ⟨k + 1, by omega, by go_num, below_drewN (HBR.out.alloc HBR.out.size _) _⟩
        case measure => simp [intOf]; omega
    · go_wp2
      go_ret
      exact ⟨rfl, HBR.out⟩

/-- The handed list's rules lie in memory as rules. -/
theorem row_rules {w : World} {g n : Nat} {t : TypeId} {R : Nat → RuleM} (h : w.rowIs g t ((n + 8) * 4) (rowR (n + 8) (roomR n R))) : RulesIn w g 0 n R := by
  intro i hi
  have c0 := h.cell (i := i * 4 + 0) (by omega)
  have c1 := h.cell (i := i * 4 + 1) (by omega)
  have c2 := h.cell (i := i * 4 + 2) (by omega)
  have c3 := h.cell (i := i * 4 + 3) (by omega)
  rw [rowR_in 0 (by omega) hi] at c0
  rw [rowR_in 1 (by omega) hi] at c1
  rw [rowR_in 2 (by omega) hi] at c2
  rw [rowR_in 3 (by omega) hi] at c3
  exact ⟨by simpa [ruleF] using c0, by simpa [ruleF] using c1, by simpa [ruleF] using c2, by simpa [ruleF] using c3⟩

end Go.Proofs.YtnkgpinadgacgaaDoor

/- Walks of the program's Alone. -/
namespace Go.Proofs.YtnkgpinadgacgaaDoor
open Go.RowKit M

theorem M.firstOf_is {p : Nat → Bool} : ∀ n, firstOf p n < n → p (firstOf p n) = true
  | 0, h => by omega
  | n + 1, h => by
    simp only [firstOf] at h ⊢
    by_cases h1 : firstOf p n < n
    · rw [if_pos h1]; exact firstOf_is n h1
    · rw [if_neg h1] at h ⊢
      by_cases h2 : p n = true
      · rw [if_pos h2]; exact h2
      · rw [if_neg h2] at h; omega

theorem M.firstOf_none {p : Nat → Bool} {n : Nat} (h : ¬ firstOf p n < n) : ∀ j, j < n → p j = false := by
  induction n with
  | zero => intro j hj; omega
  | succ n ih =>
    simp only [firstOf] at h
    by_cases h1 : firstOf p n < n
    · rw [if_pos h1] at h; omega
    · rw [if_neg h1] at h
      by_cases h2 : p n = true
      · rw [if_pos h2] at h; omega
      · intro j hj
        by_cases e : j = n
        · subst e; simpa using h2
        · exact ih h1 j (by omega)

theorem carts_free {ro co bu : Int} {cs : ByteArray} {m : Nat} {fr tt : Nat → Int} (h : (checkM ro co cs m fr tt bu).1 = 0) : m ≤ 4 ∧ ∀ k, k < m → freeB cs (fr k) = true ∧ freeB cs (tt k) = true := by
  unfold checkM at h
  by_cases h1 : (sideB ro && sideB co) = false
  · rw [if_pos h1] at h; simp at h
  · rw [if_neg h1] at h
    by_cases h2 : 0 ≤ cellsM ro co cs
    · rw [if_pos h2] at h; simp at h
    · rw [if_neg h2] at h
      by_cases h3 : m < 1 ∨ 4 < m
      · rw [if_pos h3] at h; simp at h
      · rw [if_neg h3] at h
        refine ⟨by omega, ?_⟩
        by_cases h4 : firstOf (fun i => !(cartM cs fr tt i == 0)) m < m
        · rw [if_pos h4] at h
          have := M.firstOf_is (p := fun i => !(cartM cs fr tt i == 0)) m h4
          simp only [] at h this
          rw [h] at this; cases this
        · intro k hk
          have := M.firstOf_none h4 k hk
          have h5 : cartM cs fr tt k = 0 := by simpa using this
          unfold cartM at h5
          by_cases h6 : (freeB cs (fr k) && freeB cs (tt k)) = true
          · simpa using h6
          · rw [if_neg h6] at h5; omega

theorem Told.form {w w' : World} {v : Value} {x : Option (Nat × (Nat → Nat))} (h : Told w w' v x) :
    ∃ a n, v = .slice a n n ∧ ((x = none ∧ a = none ∧ n = 0) ∨ ∃ T p g, x = some (T, p) ∧ a = some ⟨g, 0, none⟩ ∧ n = T + 1 ∧ w.heap.size ≤ g ∧ w'.rowIs g 3 (T + 1) (natV p)) := by
  match x, h with
  | none, h => exact ⟨none, 0, h.1 rfl, Or.inl ⟨rfl, rfl, rfl⟩⟩
  | some (T, p), h =>
    obtain ⟨g, h1, h2, h3⟩ := h.2 T p rfl
    exact ⟨_, _, h1, Or.inr ⟨T, p, g, rfl, rfl, rfl, h2, h3⟩⟩

set_option maxRecDepth 100000 in
set_option maxHeartbeats 1000000 in
theorem alone_err (ro co bu : Int) (cs : ByteArray) (a : Option Addr) (m cap : Nat) (fr tt : Nat → Int) (k : Int) (ar : Option Addr) (n capr : Nat) (R : Nat → RuleM) (w : World) (hs : cs.size ≤ maxLen) (hm : m ≤ maxLen) (hcap : m ≤ cap) (hn : n ≤ maxLen)
    (ha : 0 < m → ∃ b off, a = some ⟨b, off, none⟩ ∧ CartsIn w b off m fr tt) (har : RulesAt w ar n R) (he : givenE ro co bu cs m fr tt k n R ≠ 0) :
    Calls Tryd.prog 21 #[.agg #[.int .i64 ro, .int .i64 co, .string cs, .slice a m cap, .int .i64 bu], .int .i64 k, .slice ar n capr] w fun e w' =>
      e = .returned (.tuple #[.slice none 0 0, .int .i64 (givenE ro co bu cs m fr tt k n R)]) ∧ Below w.heap.size w w' := by
  have HB0 : Hid (∀ o, Below w.heap.size w (w.alloc o)) := fun _ => (Below.refl _ w).alloc (Nat.le_refl _) _
  have HA := Hid.mk ha
  have HR := Hid.mk har
  have hl : loneE ro co bu cs m fr tt k n R 0 = givenE ro co bu cs m fr tt k n R := loneE_given (by omega) (by omega)
  obtain ⟨E, hE⟩ : ∃ E, E = givenE ro co bu cs m fr tt k n R := ⟨_, rfl⟩
  rw [← hE] at hl he ⊢
  have HL := Hid.mk hl
  have he' : (E != 0) = true := by simpa using he
  clear ha har hl he hE
  go_enter Tryd.func21, Tryd.ntmps21
  go_wp2_with fail
  refine (loneFault_any ro co bu cs a m cap fr tt k 0 ar n capr R _ hs hm hcap hn (opt_below HA.out (HB0.out _)) (HR.out.below (HB0.out _))).mono ?_
  rintro e w1 ⟨he1, hb1⟩
  rw [HL.out] at he1
  subst he1
  have HB1 : Hid (Below w.heap.size w w1) := (HB0.out _).trans (hb1.mono (by simp))
  clear hb1
  go_wp2
  go_ret2
  exact ⟨rfl, HB1.out⟩

set_option maxRecDepth 100000 in
set_option maxHeartbeats 2000000 in
theorem alone_ok (ro co bu : Int) (cs : ByteArray) (b off m cap : Nat) (fr tt : Nat → Int) (k f c : Nat) (ar : Option Addr) (n capr : Nat) (R : Nat → RuleM) (w : World) (hcap : m ≤ cap) (hn : n ≤ maxLen) (hsd : SidesIn w)
    (hcs : CartsIn w b off m fr tt) (har : RulesAt w ar n R) (hwf : RulesWf n R) (he : givenE ro co bu cs m fr tt k n R = 0) (hf : fr k = (f : Int)) (hc : tt k = (c : Int)) :
    Calls Tryd.prog 21 #[.agg #[.int .i64 ro, .int .i64 co, .string cs, .slice (some ⟨b, off, none⟩) m cap, .int .i64 bu], .int .i64 k, .slice ar n capr] w fun e w' =>
      ((e = .returned (.tuple #[.slice none 0 0, .int .i64 9]) ∧ Found co cs n R f c none) ∨
        ∃ T p g, e = .returned (.tuple #[.slice (some ⟨g, 0, none⟩) (T + 1) (T + 1), .int .i64 0]) ∧ Found co cs n R f c (some (T, p)) ∧ w.heap.size ≤ g ∧ w'.rowIs g 3 (T + 1) (natV p)) ∧ Below w.heap.size w w' := by
  obtain ⟨g1, g2, g3, g4⟩ := given_side he
  obtain ⟨s1, s2, s3⟩ := checkM_good g1
  obtain ⟨r1, r2⟩ := side_bd s1
  obtain ⟨r3, r4⟩ := side_bd s2
  obtain ⟨hp1, hp2⟩ := mul_bd r1 r2 r3 r4
  have hs : cs.size ≤ 36 := by omega
  obtain ⟨hm4, hfree⟩ := carts_free g1
  have hkm : k < m := by omega
  obtain ⟨ff, fc⟩ := hfree k hkm
  rw [hf] at ff
  rw [hc] at fc
  have c0 := (hcs k hkm).1
  have c1 := (hcs k hkm).2
  rw [hf] at c0
  rw [hc] at c1
  have hbl := World.block_lt_of_cell? _ _ c0
  have HB0 : Hid (∀ o, Below w.heap.size w (w.alloc o)) := fun _ => (Below.refl _ w).alloc (Nat.le_refl _) _
  have HCS := Hid.mk hcs
  have HR := Hid.mk har
  have HWF := Hid.mk hwf
  have HSD := Hid.mk hsd
  have FF := Hid.mk ff
  have FC := Hid.mk fc
  have RB := Hid.mk g4
  have SZ := Hid.mk s3
  have HL : Hid (loneE ro co bu cs m fr tt k n R 0 = 0) := (loneE_given (by omega) (by omega)).trans he
  clear hcs har hwf hsd ff fc g4 s3 he g1 g2 s1 s2 hp1 hp2 hfree hf hc g3
  have hnil : ∀ (w : World) (a : Option Addr) (n c : Nat), (binOp .eql 26 (.slice a n c) (.slice none 0 0)).run Tryd.prog w = .ok (.bool a.isNone) w := fun w a n c => Lib.run_eql_slice_nil w _ _ a n c 0 0 Tryd.underlying26
  go_enter Tryd.func21, Tryd.ntmps21
  go_wp2_with fail
  refine (loneFault_any ro co bu cs _ m cap fr tt k 0 ar n capr R _ (by unfold maxLen; omega) (by unfold maxLen; omega) hcap hn (fun _ => ⟨b, off, rfl, HCS.out.below (HB0.out _)⟩) (HR.out.below (HB0.out _))).mono ?_
  rintro e w1 ⟨he1, hb1⟩
  rw [HL.out] at he1
  subst he1
  have hz : w.heap.size < w1.heap.size := by have := hb1.size; simp at this; omega
  have HB1 : Hid (Below w.heap.size w w1) := (HB0.out _).trans (hb1.mono (by simp))
  have k0 : w1.cell? ⟨b, off + k * 2, none⟩ = some (.int .i64 (f : Int)) := cell_later HB1.out c0
  have k1 : w1.cell? ⟨b, off + k * 2 + 1, none⟩ = some (.int .i64 (c : Int)) := cell_later HB1.out c1
  have y1 : ∀ o, w1.cell? ⟨w.heap.size, o, none⟩ = #[Value.int .i64 ro, .int .i64 co, .string cs, .slice (some ⟨b, off, none⟩) m cap, .int .i64 bu][o]? := by
    intro o
    rw [hb1.cell (p := ⟨w.heap.size, o, none⟩) (by show w.heap.size < _; simp)]; go_simp
  have y10 := y1 0
  have y11 := y1 1
  have y12 := y1 2
  have y13 := y1 3
  have y14 := y1 4
  simp only [List.getElem?_toArray, List.getElem?_cons_zero, List.getElem?_cons_succ] at y10 y11 y12 y13 y14
  have hkI : (k : Int) < (m : Int) := by omega
  clear hb1 c0 c1 y1
  go_upto_region 4 with fail
  go_region_held3 (fun w' => w'.cell? ⟨w.heap.size, 0, none⟩ = some (.int .i64 ro) ∧ w'.cell? ⟨w.heap.size, 1, none⟩ = some (.int .i64 co) ∧ w'.cell? ⟨w.heap.size, 2, none⟩ = some (.string cs) ∧ w'.cell? ⟨w.heap.size, 3, none⟩ = some (.slice (some ⟨b, off, none⟩) m cap) ∧ w'.cell? ⟨w.heap.size, 4, none⟩ = some (.int .i64 bu) ∧ w'.cell? ⟨b, off + k * 2, none⟩ = some (.int .i64 (f : Int)) ∧ w'.cell? ⟨b, off + k * 2 + 1, none⟩ = some (.int .i64 (c : Int))) (go_keep)
    (first
      | (go_at_call_of 69 (Value.slice ar n capr); refine (path_any ro co bu cs _ m cap f c ar n capr R _ (HSD.out.below (HB1.out.drew)) r1 r2 r3 r4 SZ.out hs RB.out HWF.out (HR.out.below (HB1.out.drew)) FF.out FC.out).mono ?_; rintro e w4 ⟨v, rfl, x, hx, hT, hb4⟩; obtain ⟨av, nv, rfl, hform⟩ := hT.form; have HX := Hid.mk hx; have HFM := Hid.mk hform; have HB4 : Hid (Below w.heap.size w w4) := HB1.out.drew.trans (hb4.mono (Nat.le_of_lt hz)); have q0 : w4.cell? ⟨w.heap.size, 0, none⟩ = some (.int .i64 ro) := (hb4.cell (p := ⟨w.heap.size, 0, none⟩) hz).trans y10; have q1 : w4.cell? ⟨w.heap.size, 1, none⟩ = some (.int .i64 co) := (hb4.cell (p := ⟨w.heap.size, 1, none⟩) hz).trans y11; have q2 : w4.cell? ⟨w.heap.size, 2, none⟩ = some (.string cs) := (hb4.cell (p := ⟨w.heap.size, 2, none⟩) hz).trans y12; have q3 : w4.cell? ⟨w.heap.size, 3, none⟩ = some (.slice (some ⟨b, off, none⟩) m cap) := (hb4.cell (p := ⟨w.heap.size, 3, none⟩) hz).trans y13; have q4 : w4.cell? ⟨w.heap.size, 4, none⟩ = some (.int .i64 bu) := (hb4.cell (p := ⟨w.heap.size, 4, none⟩) hz).trans y14; have q5 : w4.cell? ⟨b, off + k * 2, none⟩ = some (.int .i64 (f : Int)) := (hb4.cell (p := ⟨b, off + k * 2, none⟩) (Nat.lt_trans hbl hz)).trans k0; have q6 : w4.cell? ⟨b, off + k * 2 + 1, none⟩ = some (.int .i64 (c : Int)) := (hb4.cell (p := ⟨b, off + k * 2 + 1, none⟩) (Nat.lt_trans hbl hz)).trans k1; clear hx hT hform hb4))
  clear q0 q1 q2 q3 q4 q5 q6 k0 k1 y10 y11 y12 y13 y14
  rcases HFM.out with ⟨rfl, rfl, rfl⟩ | ⟨T, p, g, rfl, rfl, rfl, hg, hrow⟩
  · go_wp2
    go_ret2
    exact ⟨Or.inl ⟨rfl, HX.out⟩, HB4.out⟩
  · have HG : Hid (w.heap.size ≤ g) := by unfold Hid; have hz2 := Nat.le_of_lt hz; have h2 : w1.heap.size ≤ g := hg; omega
    have HROW := Hid.mk hrow
    clear hg hrow
    go_wp2
    go_ret2
    exact ⟨Or.inr ⟨T, p, g, rfl, HX.out, HG.out, HROW.out⟩, HB4.out⟩

end Go.Proofs.YtnkgpinadgacgaaDoor
