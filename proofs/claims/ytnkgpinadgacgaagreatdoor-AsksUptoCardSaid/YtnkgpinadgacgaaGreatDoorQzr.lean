/- Hg, Hi, Kb, Hk, Bp, Cc. -/
import Derived.Test.YtnkgpinadgacgaaGreatDoorQzo
import Derived.Test.YtnkgpinadgacgaaGreatDoorQzq
set_option maxRecDepth 1000000
set_option maxHeartbeats 8000000
namespace Go.Proofs.YtnkgpinadgacgaaGreatDoor
section
open Go.RowKit M SM
noncomputable def stF (co : Int) (cs : ByteArray) (c : Nat) : Nat -> Int := Classical.epsilon fun d => IsFar cs.size (adjM co cs) c d
theorem stF_is {co : Int} {cs : ByteArray} {c : Nat} {d : Nat -> Int} (h : IsFar cs.size (adjM co cs) c d) : IsFar cs.size (adjM co cs) c (stF co cs c) := Classical.epsilon_spec (p := fun d => IsFar cs.size (adjM co cs) c d) ⟨d, h⟩
noncomputable def stY (co : Int) (cs : ByteArray) (fr : Nat -> Int) : Nat -> Nat -> Int := fun t => stF co cs (fr t).toNat
noncomputable def solY (F0 : Nat) (ro co : Int) (cs : ByteArray) (m : Nat) (fr tt : Nat -> Int) : Option (St × Srch) :=
 comeF (fun p => growL (mvN ro co cs) p m) (restF (stY co cs fr) m) m (cellsOf fr m) F0 (begin0 (restF (stY co cs fr) m) m (cellsOf tt m))
section
variable {nx : List Nat → List (List Nat)} {h : List Nat → Nat} {m : Nat} {fr tt : List Nat} {L : List (List Nat)}
theorem way_back2 {s : Srch} {X : List St} (R : Run nx h m fr tt L s X (fun _ _ => False)) {x : St} {g : Nat} (hx : (s.seen x).map (·.1) = some g) (hp : 0 < costO (s.seen x)) : ∃ g0, (s.seen (nextO x (s.seen x))).map (·.1) = some g0 ∧ g0 < g := by
 have hc : costO (s.seen x) = g := by
  cases e : s.seen x with
  | none => rw [e] at hx; cases hx
  | some v => rw [e] at hx; simp at hx; exact hx
 rcases R.best.back x g hx with e0 | ⟨g0, d, h1, h2, h3, h4⟩
 . omega
 . exact ⟨g0, h1, by omega⟩
theorem way_mem {s : Srch} {X : List St} (R : Run nx h m fr tt L s X (fun _ _ => False)) : ∀ (f : Nat) (x : St) (g : Nat), (s.seen x).map (·.1) = some g -> ∀ y, y ∈ wayF s.seen f x -> SM.Fine m L y
 | 0, x, g, hx, y, hy => by
   simp only [wayF, List.mem_singleton] at hy; subst hy; cases e : s.seen y with
   | none => rw [e] at hx; cases hx
   | some v => exact (R.fine y v e).1
 | f + 1, x, g, hx, y, hy => by
   have h0 : SM.Fine m L x := by
    cases e : s.seen x with
    | none => rw [e] at hx; cases hx
    | some v => exact (R.fine x v e).1
   simp only [wayF] at hy; by_cases e : 0 < costO (s.seen x)
   . rw [if_pos e] at hy; rcases List.mem_cons.1 hy with h1 | h1
     . rw [h1]; exact h0
     . obtain ⟨g0, h2, _⟩ := way_back2 R hx e; exact way_mem R f _ g0 h2 y h1
   . rw [if_neg e, List.mem_singleton] at hy; rw [hy]; exact h0
theorem way_end {s : Srch} {X : List St} (R : Run nx h m fr tt L s X (fun _ _ => False)) : ∀ (f : Nat) (x : St) (g : Nat), (s.seen x).map (·.1) = some g -> g <= f -> endF s.seen f x
 | 0, x, g, hx, hg => by
   cases e : s.seen x with
   | none => rw [e] at hx; cases hx
   | some v =>
     rw [e] at hx; simp at hx; show costO (s.seen x) = 0; rw [e]; show v.1 = 0; omega
 | f + 1, x, g, hx, hg => fun hp => by
   obtain ⟨g0, h2, h3⟩ := way_back2 R hx hp; exact way_end R f _ g0 h2 (by omega)
end
theorem FarL.same {w : World} {gf K N : Nat} {H c : Nat -> Nat} {st st' : Nat -> Nat -> Int} (h : FarL w gf K N H c st) (e : ∀ t i, t < K -> i < N -> st t i = st' t i) : FarL w gf K N H c st' :=
 ⟨h.rows, fun t i ht hi => by rw [<- e t i ht hi]; exact h.cells t i ht hi⟩
theorem rep_false (m i : Nat) : (List.replicate m false).getD i false = false := by
 rw [zg, List.getElem?_replicate]; split <;> rfl
theorem s0_cells (m : Nat) (q : List Nat) : (stL (s0 m q)).toArray = #[.int .u8 (q.getD 0 0 : Nat), .int .u8 (q.getD 1 0 : Nat), .int .u8 (q.getD 2 0 : Nat), .int .u8 (q.getD 3 0 : Nat), .bool false, .bool false, .bool false, .bool false] := by
 unfold stL s0; simp only [rep_false]
theorem PlanOwn.le {w : World} {base base' : Nat} {v : Value} {Ls : List (List Nat)} (h : PlanOwn w base v Ls) (hb : base' <= base) : PlanOwn w base' v Ls := by
 obtain ⟨g, A, h1, h2, h3, h4, h5, h6⟩ := h; exact ⟨g, A, h1, Nat.le_trans hb h2, h3, fun t ht => (h4 t ht).le hb, h5, h6⟩
theorem range_later {w w' : World} {b o : Nat} {vs : List Value} (hb : Below w.heap.size w w') (h : w.rangeAt b o vs) : w'.rangeAt b o vs := fun j v hv => zj hb (h j v hv)
theorem plan_any (F0 : Nat) (hF0 : 200400000 <= F0) (ro co bu : Int) (cs : ByteArray) (b off m cc : Nat) (fr tt : Nat -> Int) (L : List (List Nat)) (w : World) (hsz : (cs.size : Int) = ro * co) (r1 : 1 <= ro) (r2 : ro <= 6) (h1 : 1 <= co) (h2 : co <= 6) (hm1 : 1 <= m) (hm : m <= 4) (hsd : SidesIn w) (hcs : CartsIn w b off m fr tt)
 (hf : ∀ k, k < m -> freeB cs (fr k) = true ∧ freeB cs (tt k) = true) (hs : PosG cs m (cellsOf fr m)) (ht : PosG cs m (cellsOf tt m)) (hW : Work (stepP ro co cs m) (cellsOf fr m) L L.length) (hg : cellsOf tt m ∈ L) (hL : L.length <= 20000) :
 Calls Tryz.prog 22 #[.agg #[.int .i64 ro, .int .i64 co, .string cs, .slice (some ⟨b, off, none⟩) m cc, .int .i64 bu]] w fun e w' =>
  ∃ v k x s', solY F0 ro co cs m fr tt = some (x, s') ∧ k = costO (s'.seen x) ∧ e = .returned (.tuple #[v, .int .i64 (k : Nat)]) ∧ PlanOwn w' w.heap.size v (planL m (wayF s'.seen k x)) ∧ Below w.heap.size w w' := by
 have hs36 : cs.size <= 36 := by obtain ⟨_, _⟩ := mul_bd r1 r2 h1 h2; omega
 have HSD := zx hsd; have HCS := zx hcs; have HF := zx hf; have HS := zx hs; have HT := zx ht; have HW := zx hW; have HG := zx hg; clear hsd hcs hf hs ht hW hg; go_enter Tryz.func22, Tryz.ntmps22; go_wp2_with fail; have B1 : Hid (Below w.heap.size w (w.alloc (.cells #[.int .i64 ro, .int .i64 co, .string cs, .slice (some ⟨b, off, none⟩) m cc, .int .i64 bu] 34))) := (Below.refl _ w).alloc zl _
 have y1 : ∀ o, (w.alloc (.cells #[.int .i64 ro, .int .i64 co, .string cs, .slice (some ⟨b, off, none⟩) m cc, .int .i64 bu] 34)).cell? ⟨w.heap.size, o, none⟩ = #[Value.int .i64 ro, .int .i64 co, .string cs, .slice (some ⟨b, off, none⟩) m cc, .int .i64 bu][o]? := by
  intro o; go_simp
 have hz1 : (w.alloc (.cells #[.int .i64 ro, .int .i64 co, .string cs, .slice (some ⟨b, off, none⟩) m cc, .int .i64 bu] 34)).heap.size = w.heap.size + 1 := by simp
 generalize w.alloc (.cells #[.int .i64 ro, .int .i64 co, .string cs, .slice (some ⟨b, off, none⟩) m cc, .int .i64 bu] 34) = w1 at *; refine (newSearch_any ro co bu cs b off m cc fr tt _ hsz r1 r2 h1 h2 hm1 hm (HSD.out.below B1.out) (HCS.out.below B1.out) (fun k hk => (HF.out k hk).1)).mono ?_; rintro e w2 ⟨S, mb, gf, cf, gm, Gg, C, H, st0, rfl, hfresh, hb2⟩; have FRE := zx hfresh; have hz2 := hb2.size
 have Y2 : Hid (∀ o, w2.cell? ⟨w.heap.size, o, none⟩ = #[Value.int .i64 ro, .int .i64 co, .string cs, .slice (some ⟨b, off, none⟩) m cc, .int .i64 bu][o]?) := fun o => (hb2.cell (p := ⟨w.heap.size, o, none⟩) (by show w.heap.size < w1.heap.size; omega)).trans (y1 o)
 have BW2 := zx (B1.out.trans (hb2.mono (by omega))); obtain ⟨st, hst⟩ : ∃ st, st = stY co cs fr := ⟨_, rfl⟩
 have HSTY := zx hst; have ISF : Hid (∀ t, t < m -> IsFar cs.size (adjM co cs) ((cellsOf fr m).getD t 0) (st t)) := fun t htm => by
  rw [hst, cellsOf_at htm]; exact stF_is (hfresh.isf t htm)
 have FAR : Hid (FarL w2 gf m cs.size H (fun _ => cs.size) st) := hfresh.far.same fun t i htm hi => by
  have h := ISF.out t htm; rw [cellsOf_at htm] at h; exact (hfresh.isf t htm).unique h i hi
 obtain ⟨hGnd, hPos⟩ := gnd_yard h1 h2 hsz hs36 hm HS.out ISF.out HW.out HG.out hL; have GND := zx hGnd; have POS := zx hPos; have WAY := zx (way_yard h1 h2 hsz HS.out HW.out HG.out hGnd); clear hfresh hb2 y1 B1 hst hGnd hPos; have y0 := Y2.out 0; have y1 := Y2.out 1; have y2 := Y2.out 2; have y3 := Y2.out 3; have y4 := Y2.out 4; go_wp2_with fail; have hf2 : ∀ k, k < m -> 0 <= tt k ∧ tt k < 256 := fun k hk => by
  obtain ⟨n, e1, e2⟩ := free_nat (HF.out k hk).2; omega
 refine (goals_any ro co bu cs b off m cc fr tt _ hm (HCS.out.below BW2.out) hf2).mono ?_; rintro e w3 ⟨rfl, hb3⟩; have HB3 := zx hb3; have hz3 := hb3.size; have y0 := zj hb3 y0; have y1 := zj hb3 y1; have y2 := zj hb3 y2; have y3 := zj hb3 y3; have y4 := zj hb3 y4; clear hb3 hf2; unfold posV; have hs0 := s0_cells m (cellsOf tt m); generalize (cellsOf tt m).getD 0 0 = t0 at hs0 ⊢; generalize (cellsOf tt m).getD 1 0 = t1 at hs0 ⊢; generalize (cellsOf tt m).getD 2 0 = t2 at hs0 ⊢; generalize (cellsOf tt m).getD 3 0 = t3 at hs0 ⊢; have HS0 := zx hs0
 clear hs0; go_upto_region 3 with fail; obtain ⟨w4, hw4⟩ : ∃ q, q = w3.alloc (.cells #[.int .u8 t0, .int .u8 t1, .int .u8 t2, .int .u8 t3, .bool false, .bool false, .bool false, .bool false] 107) := ⟨_, rfl⟩
 rw [<- hw4]; have B4 : Hid (Below w3.heap.size w3 w4) := by unfold Hid; rw [hw4]; exact (Below.refl _ w3).alloc zl _
 have R4 : w4.rangeAt w3.heap.size 0 (stL (s0 m (cellsOf tt m))) := by rw [hw4, <- HS0.out]; exact range_cells w3 _ 107 _ rfl
 have e8 : stL (s0 m (cellsOf tt m)) = [.int .u8 t0, .int .u8 t1, .int .u8 t2, .int .u8 t3, .bool false, .bool false, .bool false, .bool false] := by have h := congrArg Array.toList HS0.out; exact h
 rw [e8] at R4; have hz4 : w4.heap.size = w3.heap.size + 1 := by rw [hw4]; simp
 have B24 := zx (HB3.out.trans (B4.out.mono (by omega))); have BW4 := zx (BW2.out.trans (B24.out.mono (by omega))); have y0 := zj B4.out y0; have y1 := zj B4.out y1; have y2 := zj B4.out y2; have y3 := zj B4.out y3; have y4 := zj B4.out y4; have Z4 : Hid (∀ o, w4.cell? ⟨w.heap.size, o, none⟩ = #[Value.int .i64 ro, .int .i64 co, .string cs, .slice (some ⟨b, off, none⟩) m cc, .int .i64 bu][o]?) := fun o => (B24.out.cell (p := ⟨w.heap.size, o, none⟩) (by show w.heap.size < w2.heap.size; omega)).trans (Y2.out o)
 have g0 := R4 0 _ rfl; have g1 := R4 1 _ rfl; have g2 := R4 2 _ rfl; have g3 := R4 3 _ rfl; have g4 := R4 4 _ rfl; have g5 := R4 5 _ rfl; have g6 := R4 6 _ rfl; have g7 := R4 7 _ rfl; simp only [Nat.zero_add] at g0 g1 g2 g3 g4 g5 g6 g7; have E8 := zx e8; clear hw4 R4 e8; have hSl := FRE.out.src.lt; have hml := FRE.out.seen.lt; have IN4 : Hid (SIn w4 S mb m w2.heap.size 0 (.int .i64 (m : Nat)) (.slice (some ⟨gm, 0, none⟩) cs.size cs.size) (.slice (some ⟨gf, 0, none⟩) m cf) (.slice none 0 0) { seen := fun _ => none, n := 0, it := fun _ => ⟨([], []), 0, 0⟩ }) :=
  ⟨FRE.out.src.block (B24.out.block S hSl), .inl ⟨rfl, rfl⟩, fun g hg => (by cases hg), FRE.out.seen.block (B24.out.block mb hml), hSl, hml, FRE.out.low.2.2, B24.out.size⟩
 have FAR4 : Hid (FarL w4 gf m cs.size H (fun _ => cs.size) st) := FAR.out.only (Only.of_below B24.out : Only (fun _ => False) w2 w4) (fun e => e) (fun _ _ e => e); have GND4 : Hid (GroundIn w4 gm cs.size Gg C ro co cs) := FRE.out.gnd.below B24.out; have FA : Hid (Ap S mb w2.heap.size gf ∧ ∀ t, t < m -> Ap S mb w2.heap.size (H t)) := by
  refine ⟨⟨FRE.out.farA.1.1, FRE.out.farA.1.2, World.block_lt_of_cell? (a := ⟨gf, 0, none⟩) w2 (FAR.out.rows 0 hm1)⟩, fun t htm => ⟨(FRE.out.farA.2 t htm).1, (FRE.out.farA.2 t htm).2, World.block_lt_of_cell? (a := ⟨H t, 0, none⟩) w2 (FAR.out.cells t 0 htm ?_)⟩⟩; have := (HS.out.1.2 0 hm1).1; omega
 have GA : Hid (Ap S mb w2.heap.size gm ∧ ∀ j, j < cs.size -> freeB cs j = true -> Ap S mb w2.heap.size (Gg j)) := by
  refine ⟨⟨FRE.out.gndA.1.1, FRE.out.gndA.1.2, FRE.out.gnd.row.lt⟩, fun j g1 g2 => ⟨(FRE.out.gndA.2 j g1 g2).1, (FRE.out.gndA.2 j g1 g2).2, ?_⟩⟩; have g3 := (mvL_len (ro := ro) (co := co) (cs := cs) (c := j)).2; have g4 := FRE.out.gnd.lists j g1 g2 0 (by omega); rw [List.getElem?_eq_getElem (by unfold ints; simp; omega)] at g4; exact World.block_lt_of_cell? (a := ⟨Gg j, 0, none⟩) w2 g4
 have hzw : w.heap.size <= w2.heap.size := BW2.out.size; have hSlow := FRE.out.low; clear FRE FAR Y2; go_wp2_with fail; have e2 : Value.agg #[Value.int .i64 0, .int .u8 t0, .int .u8 t1, .int .u8 t2, .int .u8 t3, .bool false, .bool false, .bool false, .bool false] = .agg (fdL (0, s0 m (cellsOf tt m))).toArray := by
  unfold fdL; rw [E8.out]; rfl
 have e1 : Value.agg #[.int .u8 t0, .int .u8 t1, .int .u8 t2, .int .u8 t3, .bool false, .bool false, .bool false, .bool false] = .agg (stL (s0 m (cellsOf tt m))).toArray := by rw [HS0.out]
 have hposT := (POS.out _ HG.out).2; rw [e2, e1]; clear e1 e2 g0 g1 g2 g3 g4 g5 g6 g7 y0 y1 y2 y3 y4; refine (see_any S mb m w2.heap.size 0 gf cf cs.size H (fun _ => cs.size) st _ _ _ _ (s0 m (cellsOf tt m)) (s0 m (cellsOf tt m)) 0 _ IN4.out FAR4.out FA.out hm hs36 ⟨hposT.len, by simp [s0]⟩ (hposT.small hs36) hposT.lt hposT.bd (by omega) (by omega) (by show 0 <= 800000000; omega)).mono ?_; rintro e w5 ⟨rfl, v5, hi5, hv5, ho5⟩; have I5 := zx hi5; have V5 := zx hv5; have O5 := zx ho5; have hz5 := ho5.size
 have Z5 : Hid (∀ o, w5.cell? ⟨w.heap.size, o, none⟩ = #[Value.int .i64 ro, .int .i64 co, .string cs, .slice (some ⟨b, off, none⟩) m cc, .int .i64 bu][o]?) := fun o => (ho5.cell (p := ⟨w.heap.size, o, none⟩) (by show w.heap.size < w4.heap.size; omega) (fun e => by
  rcases e with e | e | e
  . have e : w.heap.size = S := e; omega
  . have e : w.heap.size = mb := e; omega
  . cases e)).trans (Z4.out o)
 have BW5 : Hid (Below w.heap.size w w5) := BW4.out.trans ⟨ho5.os, ho5.tape, ho5.output, ho5.size, fun j hj => ho5.block j (by omega) (fun e => by
  rcases e with e | e | e
  . omega
  . omega
  . cases e)⟩
 have FAR5 : Hid (FarL w5 gf m cs.size H (fun _ => cs.size) st) := FAR4.out.only ho5 (FA.out.1.notV (fun g hg => by cases hg)) (fun t ht => (FA.out.2 t ht).notV (fun g hg => by cases hg)); have GND5 : Hid (GroundIn w5 gm cs.size Gg C ro co cs) := GND4.out.only ho5 (GA.out.1.notV (fun g hg => by cases hg)) (fun j g1 g2 => (GA.out.2 j g1 g2).notV (fun g hg => by cases hg)); have y0 := Z5.out 0; have y1 := Z5.out 1; have y2 := Z5.out 2; have y3 := Z5.out 3; have y4 := Z5.out 4; clear hi5 hv5 ho5 hposT; go_wp2_with fail; have hf2 : ∀ k, k < m -> 0 <= fr k ∧ fr k < 256 := fun k hk => by
  obtain ⟨n, e1, e2⟩ := free_nat (HF.out k hk).1; omega
 refine (starts_any ro co bu cs b off m cc fr tt _ hm (HCS.out.below BW5.out) hf2).mono ?_; rintro e w6 ⟨rfl, hb6⟩; have B6 := zx hb6; have hz6 := hb6.size; have I6 := zx (I5.out.only hb6); have BW6 := zx (BW5.out.trans (hb6.mono (by omega))); obtain ⟨s5, hs5⟩ : ∃ s5, s5 = begin0 (restF st m) m (cellsOf tt m) := ⟨_, rfl⟩
 have AR6 : Hid (Around w6 S mb m w2.heap.size gf cf gm Gg C ro co cs H (fun _ => cs.size) st (cellsOf fr m) (cellsOf tt m) L) := by
  refine ⟨FAR5.out.only (Only.of_below hb6 : Only (fun _ => False) w5 w6) (fun e => e) (fun _ _ e => e), FA.out, GND5.out.below hb6, GA.out, hm, hs36, GND.out, fun p hp => ⟨(POS.out p hp).2, fun k hk => ((POS.out p hp).1.1.2 k hk).2⟩, WAY.out, cellsOf_len _ _⟩
 obtain ⟨hRun, hRn⟩ := run_begin GND.out; have RUN := zx hRun; clear hb6 y0 y1 y2 y3 y4 hf2 hRun; have CT : Hid (Calls Tryz.prog 51 #[.pointer (some ⟨S, 0, none⟩), .agg (psL (cellsOf fr m)).toArray] w6 fun e w' =>
  ∃ x s' n' v', e = .returned (.agg (stL x).toArray) ∧ comeF (fun p => growL (mvN ro co cs) p m) (restF st m) m (cellsOf fr m) F0 (begin0 (restF st m) m (cellsOf tt m)) = some (x, s') ∧ SIn w' S mb m w2.heap.size n' (.int .i64 (m : Nat)) (.slice (some ⟨gm, 0, none⟩) cs.size cs.size) (.slice (some ⟨gf, 0, none⟩) m cf) v' s' ∧ (∀ g, v'.ownBlock = some g -> v5.ownBlock = some g ∨ w6.heap.size <= g) ∧ Only (TnV S mb v5) w6 w') :=
  comeTo_any S mb m w2.heap.size 1 gf cf gm F0 Gg C ro co cs H (fun _ => cs.size) st v5 (begin0 (restF st m) m (cellsOf tt m)) [] (cellsOf fr m) (cellsOf tt m) L w6 I6.out AR6.out RUN.out (by unfold left; rw [hRn]; simp only [List.length_nil]; omega) (by simp)
 unfold posV; have hps : (psL (cellsOf fr m)).toArray = #[.int .u8 ((cellsOf fr m).getD 0 0 : Nat), .int .u8 ((cellsOf fr m).getD 1 0 : Nat), .int .u8 ((cellsOf fr m).getD 2 0 : Nat), .int .u8 ((cellsOf fr m).getD 3 0 : Nat)] := rfl; rw [hps] at CT; clear hps; generalize (cellsOf fr m).getD 0 0 = f0 at CT ⊢; generalize (cellsOf fr m).getD 1 0 = f1 at CT ⊢; generalize (cellsOf fr m).getD 2 0 = f2 at CT ⊢; generalize (cellsOf fr m).getD 3 0 = f3 at CT ⊢; go_wp2_with fail; refine CT.out.mono ?_; rintro e w7 ⟨x, s', n7, v7, rfl, hcome, hi7, hv7, ho7⟩
 obtain ⟨x2, s2, X2, hcome2, hx1, ⟨s3, hseen, hR3⟩, g, hgx, _⟩ := come_ok GND.out WAY.out F0 (begin0 (restF st m) m (cellsOf tt m)) [] RUN.out (by unfold left; rw [hRn]; simp only [List.length_nil]; omega); rw [hcome] at hcome2; injection hcome2 with hcome2; injection hcome2 with e1 e2; subst e1 e2; rw [<- hseen] at hgx; have HCOME : Hid (solY F0 ro co cs m fr tt = some (x, s')) := by
  unfold Hid solY; rw [<- HSTY.out]; exact hcome
 have hk : costO (s'.seen x) = g := by
  rw [<- hseen]; cases e : s3.seen x with
  | none => rw [e] at hgx; cases hgx
  | some v => rw [e] at hgx; simp at hgx; exact hgx
 have hcap : g <= 1280000 := by
  cases e : s3.seen x with
  | none => rw [e] at hgx; cases hgx
  | some v =>
    have h3 := hR3.cap x v e; have h4 := (run_bounds GND.out hR3).1; rw [e] at hgx; simp at hgx; omega
 have hmem := way_mem hR3 g x g hgx; have hend := way_end hR3 g x g hgx (Nat.le_refl g); obtain ⟨_, _, _, _, hwl⟩ := way_chain GND.out hR3 g x g hgx (Nat.le_refl g); rw [hseen] at hmem hend hwl; have PF : Hid (∀ u : World, SIn u S mb m w2.heap.size n7 (.int .i64 (m : Nat)) (.slice (some ⟨gm, 0, none⟩) cs.size cs.size) (.slice (some ⟨gf, 0, none⟩) m cf) v7 s' -> Calls Tryz.prog 53 #[.pointer (some ⟨S, 0, none⟩), .agg (stL x).toArray] u fun e w' =>
  ∃ v, e = .returned v ∧ PlanOwn w' u.heap.size v (planL m (wayF s'.seen g x)) ∧ Below u.heap.size u w') := fun u hu =>
  pathsFrom_any S mb m w2.heap.size n7 g _ _ v7 s' x u hu hm1 hm (fun y hy => ⟨⟨(POS.out _ (hmem y hy).1).2.len, (hmem y hy).2⟩, (POS.out _ (hmem y hy).1).2.small hs36⟩) hend (by omega)
 have HXY : Hid (Lens m x ∧ Small x.1) := by
  have h := hmem x (by
   match g with
   | 0 => simp [wayF]
   | g + 1 =>
     simp only [wayF]; split <;> simp)
  exact ⟨⟨(POS.out _ h.1).2.len, h.2⟩, (POS.out _ h.1).2.small hs36⟩
 have HK := zx hk; have I7 := zx hi7; have hz7 := ho7.size; have BW7 : Hid (Below w.heap.size w w7) := BW6.out.trans ⟨ho7.os, ho7.tape, ho7.output, ho7.size, fun j hj => ho7.block j (by omega) (fun e => by
  rcases e with e | e | e
  . omega
  . omega
  . have := I6.out.own j e; omega)⟩
 obtain ⟨a0, a1, a2, a3, a4, a5, a6, a7, hxl⟩ := stL_mk x; have HXL := zx hxl; rw [hxl]; clear hcome hi7 hv7 ho7 hgx hk hmem hend hwl hxl hseen hR3 hcap CT hRn; go_upto_region 5 with fail; obtain ⟨w8, hw8⟩ : ∃ q, q = w7.alloc (.cells #[.int .u8 a0, .int .u8 a1, .int .u8 a2, .int .u8 a3, .bool a4, .bool a5, .bool a6, .bool a7] 107) := ⟨_, rfl⟩
 have hw8' : w8 = w7.alloc (.cells (stL x).toArray 107) := by rw [HXL.out, hw8]
 rw [<- hw8]; have B8 : Hid (Below w7.heap.size w7 w8) := by unfold Hid; rw [hw8']; exact (Below.refl _ w7).alloc zl _
 have R8 : Hid (w8.rangeAt w7.heap.size 0 (stL x)) := by unfold Hid; rw [hw8']; exact range_cells w7 (stL x) 107 _ rfl
 have I8 := zx (I7.out.only B8.out); have hz8 := B8.out.size; have hzw7 := BW7.out.size; clear hw8 hw8'; obtain ⟨vv, hvv⟩ : ∃ vv, vv = (s'.seen x).getD (0, ([], [])) := ⟨_, rfl⟩
 have HVV := zx hvv; have HC : Hid (vv.1 = g) := by
  unfold Hid; rw [hvv, <- HK.out]; cases s'.seen x <;> rfl
 clear hvv; have HS8 : (fun u : World => u.cell? ⟨S, 3, none⟩ = some (.map (some mb)) ∧ u.rangeAt w7.heap.size 0 (stL x) ∧ SeenMap u mb m n7 s'.seen) w8.drew := ⟨(I8.out.src.cells.2.2.2.1 : w8.cell? _ = _), by simpa using R8.out, I8.out.seen.block rfl⟩
 refine wp_region_any (by kernel_rfl) ?_; change wpAny _ _ _ _ _ _ _ (World.drew _); refine LM.T 0 (.pointer (some ⟨S, 0, none⟩)) rfl ?_; refine LM.T 3 (.pointer (some ⟨S, 0, none⟩)) rfl ?_; refine LM.T 4 (.pointer (some ⟨S, 0, none⟩)) rfl ?_; refine LM.T 5 (.pointer (some ⟨S, 3, none⟩)) rfl ?_; refine LM.any_of_L (late := LM.lateOf []) (S := fun u : World => u.cell? ⟨S, 3, none⟩ = some (.map (some mb)) ∧ u.rangeAt w7.heap.size 0 (stL x) ∧ SeenMap u mb m n7 s'.seen) _ _ _ _ ?_
 refine LM.TL 1 (.agg (stL x).toArray) rfl (yieldsIf_load_mid (by rfl) 107 (.tmp 6) rfl w7.heap.size 0 (by go_simp) (stL x) _ (fun u hu => hu.2.1) Tryz.underlying107 rfl ((congrArg some (stL_len _)).symm ▸ Tryz.sizeState)) HS8 ?_; refine LM.TL 6 (.map (some mb)) rfl (Or.inl ⟨by rfl, fun u hu => by have h5 := hu.1; go_simp⟩) HS8 ?_; refine LM.TL 7 (.agg (stL x).toArray) rfl (yieldsIf_load_mid (by rfl) 107 (.tmp 6) rfl w7.heap.size 0 (by go_simp) (stL x) _ (fun u hu => hu.2.1) Tryz.underlying107 rfl ((congrArg some (stL_len _)).symm ▸ Tryz.sizeState)) HS8 ?_
 refine LM.TL 8 (.agg (fdL vv).toArray) rfl (by rw [HVV.out]; exact yields_look_seen (x := x) (f := s'.seen) (b := mb) (m := m) (n := n7) (by rfl) (.tmp 27) (.tmp 28) false rfl (by go_simp) (by go_simp) (fun u hu => hu.2.2) HXY.out.1 HXY.out.2) HS8 ?_; refine LM.TL 9 (.int .i64 (vv.1 : Nat)) rfl (Or.inl ⟨by rfl, fun u _ => by have h5 := fld_cost; unfold fdL stL; go_simp⟩) HS8 ?_; refine LM.L_one (i := 2) rfl (by kernel_rfl) rfl (fun K hK => ?_); go_simp; refine (PF.out _ (I8.out.only (Below.refl _ w8).drew)).mono ?_; rintro e w9 ⟨v9, rfl, hv9, hb9⟩; have V9 := zx hv9
 have B9 : Hid (Below w8.heap.size w8 w9) := (Below.refl _ w8).drew.trans hb9; have hz9 := B9.out.size; obtain ⟨gp, A, rfl, hrest⟩ := hv9; clear hrest hb9; refine hK _ _ ⟨(zj B9.out I8.out.src.cells.2.2.2.1 : w9.cell? _ = _), range_later B9.out R8.out, I8.out.seen.block (B9.out.block _ I8.out.seen.lt)⟩ ?_; clear hK K HS8
 have HS9 : (fun u : World => u.cell? ⟨S, 3, none⟩ = some (.map (some mb)) ∧ u.rangeAt w7.heap.size 0 (stL x) ∧ SeenMap u mb m n7 s'.seen) w9 := ⟨(zj B9.out I8.out.src.cells.2.2.2.1 : w9.cell? _ = _), range_later B9.out R8.out, I8.out.seen.block (B9.out.block _ I8.out.seen.lt)⟩
 refine LM.TL 10 (.slice (some ⟨gp, 0, none⟩) (planL m (wayF s'.seen g x)).length (planL m (wayF s'.seen g x)).length) rfl (Or.inl ⟨by rfl, fun u _ => by go_simp⟩) HS9 ?_; refine LM.TL 11 (.int .i64 (vv.1 : Nat)) rfl (Or.inl ⟨by rfl, fun u _ => by go_simp⟩) HS9 ?_; refine LM.L_done (by kernel_rfl) ?_ _; go_simp; clear HS9; go_wp2_with fail; go_ret2; refine ⟨_, vv.1, x, s', HCOME.out, by rw [HC.out]; exact HK.out.symm, rfl, ?_, BW7.out.trans ((B8.out.trans (B9.out.mono (by omega))).mono (by omega))⟩; rw [HC.out]; exact V9.out.le (by show w.heap.size <= w8.heap.size; omega)
end
section
open Go.RowKit M SM
def solE (F0 : Nat) (w' : World) (base : Nat) (ro co bu : Int) (cs : ByteArray) (m : Nat) (fr tt : Nat -> Int) (x y z : Value) : Prop :=
 ((checkM ro co cs m fr tt bu).1 ≠ 0 ∧ x = .slice none 0 0 ∧ y = .int .i64 0 ∧ z = .int .i64 (checkM ro co cs m fr tt bu).1) ∨
 ((checkM ro co cs m fr tt bu).1 = 0 ∧ ∃ (n : Nat) (d : Bool), M.Told (stepP ro co cs m) (cellsOf fr m) (cellsOf tt m) bu n d ∧
   ((bu < n ∧ x = .slice none 0 0 ∧ y = .int .i64 0 ∧ z = .int .i64 10) ∨ (¬ bu < n ∧ d = false ∧ x = .slice none 0 0 ∧ y = .int .i64 0 ∧ z = .int .i64 9) ∨
     (¬ bu < n ∧ d = true ∧ z = .int .i64 0 ∧ ∃ L k b s', Work (stepP ro co cs m) (cellsOf fr m) L L.length ∧ n = L.length ∧ cellsOf tt m ∈ L ∧ solY F0 ro co cs m fr tt = some (b, s') ∧ k = costO (s'.seen b) ∧ y = .int .i64 (k : Nat) ∧ PlanOwn w' base x (planL m (SM.wayF s'.seen k b)))))
theorem solve_any (F0 : Nat) (hF0 : 200400000 <= F0) (ro co bu : Int) (cs : ByteArray) (a : Option Addr) (m cc : Nat) (fr tt : Nat -> Int) (w : World) (hs : cs.size <= maxLen) (hn : m <= maxLen) (hcap : m <= cc) (hsd : SidesIn w)
 (ha : 0 < m -> ∃ b off, a = some ⟨b, off, none⟩ ∧ CartsIn w b off m fr tt) :
 Calls Tryz.prog 9 #[.agg #[.int .i64 ro, .int .i64 co, .string cs, .slice a m cc, .int .i64 bu]] w fun e w' => ∃ x y z, e = .returned (.tuple #[x, y, z]) ∧ solE F0 w' w.heap.size ro co bu cs m fr tt x y z ∧ Below w.heap.size w w' := by
 have HSD := zx hsd; have HA := zx ha; clear hsd ha; go_enter Tryz.func9, Tryz.ntmps9; go_wp2_with fail; have B1 : Hid (Below w.heap.size w (w.alloc (.cells #[.int .i64 ro, .int .i64 co, .string cs, .slice a m cc, .int .i64 bu] 34))) := (Below.refl _ w).alloc zl _; have yc : ∀ o, (w.alloc (.cells #[.int .i64 ro, .int .i64 co, .string cs, .slice a m cc, .int .i64 bu] 34)).cell? ⟨w.heap.size, o, none⟩ = #[Value.int .i64 ro, .int .i64 co, .string cs, .slice a m cc, .int .i64 bu][o]? := by
  intro o; go_simp
 have hz1 : (w.alloc (.cells #[.int .i64 ro, .int .i64 co, .string cs, .slice a m cc, .int .i64 bu] 34)).heap.size = w.heap.size + 1 := by simp
 generalize w.alloc (.cells #[.int .i64 ro, .int .i64 co, .string cs, .slice a m cc, .int .i64 bu] 34) = w1 at *; refine (positions_any ro co bu cs a m cc fr tt _ hs hn hcap (HSD.out.below B1.out) (by exact opt_below HA.out B1.out)).mono ?_; rintro e w2 ⟨x, y, z, rfl, hpos, hb2⟩; have hz2 := hb2.size; have y0 := zj hb2 (yc 0); have y1 := zj hb2 (yc 1); have y2 := zj hb2 (yc 2); have y3 := zj hb2 (yc 3); have y4 := zj hb2 (yc 4); have B2 := zx (B1.out.trans (hb2.mono (by omega))); clear yc hb2
 rcases hpos with ⟨hck, rfl, rfl, rfl⟩ | ⟨hck, n, d, htold, hpos⟩
 . obtain ⟨zc, hzc⟩ : ∃ zc, zc = (checkM ro co cs m fr tt bu).1 := ⟨_, rfl⟩
   have HZ := zx hzc; rw [<- hzc] at hck ⊢; clear hzc y0 y1 y2 y3 y4; go_wp2_with fail; go_ret3
   exact ⟨_, _, _, rfl, .inl ⟨by rw [<- HZ.out]; exact hck, rfl, rfl, congrArg (Value.int .i64) HZ.out⟩, B2.out⟩
 . have HT := zx htold; have HCK := zx hck; rcases hpos with ⟨hbn, rfl, rfl, rfl⟩ | ⟨hbn, rfl, rfl, rfl⟩
   . have HBN := zx hbn; clear htold hck hbn y0 y1 y2 y3 y4; go_wp2_with fail; go_ret3
     exact ⟨_, _, _, rfl, .inr ⟨HCK.out, n, d, HT.out, .inl ⟨HBN.out, rfl, rfl, rfl⟩⟩, B2.out⟩
   . have HBN := zx hbn; clear htold hck hbn; cases d
     . clear y0 y1 y2 y3 y4; go_wp2_with fail; go_ret3
       exact ⟨_, _, _, rfl, .inr ⟨HCK.out, n, false, HT.out, .inr (.inl ⟨(by have := HBN.out; omega), rfl, rfl, rfl, rfl⟩)⟩, B2.out⟩
     . obtain ⟨L, hW, hnL, hgL⟩ : ∃ L, Work (stepP ro co cs m) (cellsOf fr m) L L.length ∧ n = L.length ∧ cellsOf tt m ∈ L := by
        rcases HT.out with ⟨L, h1, h2, h3⟩ | ⟨L, i, h1, h2, h3⟩
        . exact ⟨L, h1, h2, of_decide_eq_true h3.symm⟩
        . exact absurd h3 (by have := HBN.out; omega)
       obtain ⟨s1, s2, s3⟩ := checkM_good HCK.out; obtain ⟨r1, r2⟩ := side_bd s1; obtain ⟨r3, r4⟩ := side_bd s2; obtain ⟨hm4, hfree⟩ := carts_free HCK.out; obtain ⟨hb1, hb2, hm1⟩ := check_bu HCK.out; obtain ⟨b, off, rfl, hcs⟩ := HA.out (by omega); obtain ⟨hp1, hp2⟩ := cells_pos HCK.out; have hLb : L.length <= 20000 := by
        have := HBN.out; omega
       have PL : Hid (Calls Tryz.prog 22 #[.agg #[.int .i64 ro, .int .i64 co, .string cs, .slice (some ⟨b, off, none⟩) m cc, .int .i64 bu]] w2 fun e w' =>
        ∃ v k x s', solY F0 ro co cs m fr tt = some (x, s') ∧ k = costO (s'.seen x) ∧ e = .returned (.tuple #[v, .int .i64 (k : Nat)]) ∧ PlanOwn w' w2.heap.size v (planL m (SM.wayF s'.seen k x)) ∧ Below w2.heap.size w2 w') :=
        plan_any F0 hF0 ro co bu cs b off m cc fr tt L w2 s3 r1 r2 r3 r4 hm1 hm4 (HSD.out.below B2.out) (hcs.below B2.out) hfree hp1 hp2 hW hgL hLb
       have HW := zx hW; have HGL := zx hgL; have HNL := zx hnL; clear hW hnL hgL s1 s2 s3 hfree hcs hp1 hp2; go_wp2_with fail; refine PL.out.mono ?_; rintro e w3 ⟨v, k, q, s', hsol, hk, rfl, hpl, hb3⟩; have HSOL := zx hsol; have HK := zx hk; have PLN : Hid (PlanOwn w3 w.heap.size v (planL m (SM.wayF s'.seen k q))) := hpl.le (by have := B2.out.size; omega); have B3 := zx (B2.out.trans (hb3.mono (by have := B2.out.size; omega))); obtain ⟨gp, A, rfl, _⟩ := hpl; clear hsol hk hb3 y0 y1 y2 y3 y4; go_wp2_with fail; go_ret3
       exact ⟨_, _, _, rfl, .inr ⟨HCK.out, n, true, HT.out, .inr (.inr ⟨(by have := HBN.out; omega), rfl, rfl, L, k, q, s', HW.out, HNL.out, HGL.out, HSOL.out, HK.out, rfl, PLN.out⟩)⟩, B3.out⟩
end
section
open Go.RowKit M SM
noncomputable def costY (F0 : Nat) (ro co : Int) (cs : ByteArray) (m : Nat) (fr tt : Nat -> Int) : Nat := match solY F0 ro co cs m fr tt with
 | some (b, s') => costO (s'.seen b)
 | none => 0
end
section
open M SM BM
section
variable {ro co bu : Int} {cs : ByteArray} {m : Nat} {fr tt : Nat → Int} {L : List (List Nat)} {F0 : Nat}
theorem stY_is (hs : PosG cs m (cellsOf fr m)) : ∀ t, t < m -> IsFar cs.size (adjM co cs) ((cellsOf fr m).getD t 0) (stY co cs fr t) := fun t ht => by
 have h := (hs.1.2 t ht).1; rw [cellsOf_at ht] at h ⊢; exact stF_is (orow_isFar h)
theorem sol_gnd (hck : (checkM ro co cs m fr tt bu).1 = 0) (hW : Work (stepP ro co cs m) (cellsOf fr m) L L.length) (hg : cellsOf tt m ∈ L) (hL : L.length <= 20000) :
 Gnd (fun p => growL (mvN ro co cs) p m) (restF (stY co cs fr) m) m (cellsOf fr m) (cellsOf tt m) L ∧ (∀ p, p ∈ L -> PosG cs m p ∧ PosOK m cs.size (stY co cs fr) p) ∧
  ∃ j b K, BM.Way (E (fun p => growL (mvN ro co cs) p m) m L) j (s0 m (cellsOf tt m)) b K ∧ b.1 = cellsOf fr m := by
 obtain ⟨s1, s2, s3⟩ := checkM_good hck; obtain ⟨r1, r2⟩ := side_bd s1; obtain ⟨r3, r4⟩ := side_bd s2; obtain ⟨hm4, hfree⟩ := carts_free hck; obtain ⟨_, hs36⟩ := mul_bd r1 r2 r3 r4; obtain ⟨hp1, hp2⟩ := cells_pos hck; obtain ⟨h1, h2⟩ := gnd_yard r3 r4 s3 (by omega) hm4 hp1 (stY_is (co := co) hp1) hW hg hL; exact ⟨h1, h2, way_yard r3 r4 s3 hp1 hW hg h1⟩
theorem sol_least (hF : 200400000 <= F0) (hck : (checkM ro co cs m fr tt bu).1 = 0) (hW : Work (stepP ro co cs m) (cellsOf fr m) L L.length) (hg : cellsOf tt m ∈ L) (hL : L.length <= 20000) {b : St} {s' : SM.Srch} (hsol : solY F0 ro co cs m fr tt = some (b, s')) :
 b.1 = cellsOf fr m ∧ (∃ j, BM.Way (E (fun p => growL (mvN ro co cs) p m) m L) j (s0 m (cellsOf tt m)) b (costO (s'.seen b))) ∧
  (∀ j b' K, BM.Way (E (fun p => growL (mvN ro co cs) p m) m L) j (s0 m (cellsOf tt m)) b' K -> b'.1 = cellsOf fr m -> costO (s'.seen b) <= K) := by
 obtain ⟨G, _, hway⟩ := sol_gnd hck hW hg hL; obtain ⟨R, hn⟩ := run_begin G; obtain ⟨x, s2, X2, hcome, hx, ⟨s3, hseen, hR3⟩, g, hgx, hleast⟩ := come_ok G hway F0 _ [] R (by unfold left; rw [hn]; simp only [List.length_nil]; omega); have e : some (x, s2) = some (b, s') := hcome.symm.trans hsol; injection e with e; injection e with e1 e2; subst e1 e2; have hk : costO (s2.seen x) = g := by
  cases e : s2.seen x with
  | none => rw [e] at hgx; cases hgx
  | some v => rw [e] at hgx; simp at hgx; exact hgx
 refine ⟨hx, ?_, fun j b' K W hb => by rw [hk]; exact hleast j b' K W hb⟩; rw [hk]; exact hR3.best.way x g (by rw [hseen]; exact hgx)
end
end
section
open Go.RowKit M
namespace M
def whM (T : Nat) (p : Nat -> Nat) (t : Nat) : Nat := if t <= T then p t else p T
end M
end
section
open Go.RowKit M
namespace M
def stepsM (co : Int) (cs : ByteArray) (T : Nat) (p : Nat -> Nat) : Bool := !anyB (fun s => !kmay co cs (p s) (p (s + 1))) T
def isPathM (co : Int) (cs : ByteArray) (f c T : Nat) (p : Nat -> Nat) : Bool :=
 (p 0 == f) && (p T == c) && !(decide (0 < T) && p (T - 1) == p T) && stepsM co cs T p
end M
theorem stepsM_no {co : Int} {cs : ByteArray} {T t : Nat} {p : Nat -> Nat} (ht : t < T) (h : kmay co cs (p t) (p (t + 1)) = false) : stepsM co cs T p = false := by
 unfold stepsM; rw [anyB_of (p := fun s => !kmay co cs (p s) (p (s + 1))) (i := t) (by simp only [h]; rfl) ht]; rfl
theorem stepsM_yes {co : Int} {cs : ByteArray} {T : Nat} {p : Nat -> Nat} (h : ∀ t, t < T -> (!kmay co cs (p t) (p (t + 1))) = false) : stepsM co cs T p = true := by
 unfold stepsM; rw [anyB_false.2 h]; rfl
end
section
open Go.RowKit M
end
section
open M
theorem kmay_adj {co : Int} {cs : ByteArray} {a b : Nat} (ha : a < cs.size) : kmay co cs a b = adjM co cs a b := by
 unfold kmay adjM mayM; rw [show decide ((0 : Int) <= (a : Int)) = true by simp, show decide ((a : Int) < (cs.size : Int)) = true by simp; omega]; simp
end
section
open M
end
section
open Go.RowKit M
end
section
open Go.RowKit M
theorem pairs_bd {lvl n : Nat} {len : Nat -> Nat} {num : Nat -> Nat -> Int} (hn : n <= 4) (h : ∀ j, j < n -> len j <= 1048576) {i : Nat} (hi : i <= n) : (pairsF lvl n len num i).length <= 16777216 := by
 have h1 := pairsF_len (lvl := lvl) (num := num) (m := n) h i hi; have h2 : n * 1048576 <= 4 * 1048576 := Nat.mul_le_mul hn zl; have h3 : i * (n * 1048576) <= 4 * (4 * 1048576) := Nat.mul_le_mul (by omega) h2; omega
theorem others_bd {lvl n i k : Nat} {len : Nat -> Nat} {num : Nat -> Nat -> Int} (hn : n <= 4) (h : ∀ j, j < n -> len j <= 1048576) (hi : i < n) (hk : k <= n) : (othersF lvl i len num k).length <= 4194304 := by
 have h1 := othersF_len (lvl := lvl) (num := num) h hi k hk; have h2 : k * 1048576 <= 4 * 1048576 := Nat.mul_le_mul (by omega) zl; omega
theorem times_hit {lvl i k t : Nat} {x y : Nat -> Int} (h : pairB lvl (x t) (y t) (x (t + 1)) (y (t + 1)) = true) : timesF lvl i k x y (t + 1) = timesF lvl i k x y t ++ [⟨lvl, i, k, t⟩] := by simp only [timesF]; rw [if_pos h]
theorem times_miss {lvl i k t : Nat} {x y : Nat -> Int} (h : pairB lvl (x t) (y t) (x (t + 1)) (y (t + 1)) = false) : timesF lvl i k x y (t + 1) = timesF lvl i k x y t := by simp only [timesF]; rw [if_neg (by rw [h]; decide), List.append_nil]
end
end Go.Proofs.YtnkgpinadgacgaaGreatDoor
