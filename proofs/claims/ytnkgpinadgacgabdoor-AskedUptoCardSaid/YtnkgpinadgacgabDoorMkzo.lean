/- Several texts in one: Hg, Dp, Dt. -/
import Derived.Test.YtnkgpinadgacgabDoorMkzk
import Derived.Test.YtnkgpinadgacgabDoorMkzm
import Derived.Test.YtnkgpinadgacgabDoorMkzn
import Derived.Test.YtnkgpinadgacgabDoorMkz
import Derived.Test.YtnkgpinadgacgabDoorMkzd
import Derived.Test.YtnkgpinadgacgabDoorMkzh
import Derived.Deep.RegionHeld3
import Derived.Deep.DeepCutAuto
import Derived.Deep.QuietTactic
import Derived.BigQuiet
import Derived.Test.YtnkgpinadgacgabDoorMky
namespace Go.Proofs.YtnkgpinadgacgabDoor
open Go.RowKit M SM
/-- How far each cell is from c. -/
noncomputable def stF (co : Int) (cs : ByteArray) (c : Nat) : Nat → Int := Classical.epsilon fun d => IsFar cs.size (adjM co cs) c d

theorem stF_is {co : Int} {cs : ByteArray} {c : Nat} {d : Nat → Int} (h : IsFar cs.size (adjM co cs) c d) : IsFar cs.size (adjM co cs) c (stF co cs c) := Classical.epsilon_spec (p := fun d => IsFar cs.size (adjM co cs) c d) ⟨d, h⟩

noncomputable def stY (co : Int) (cs : ByteArray) (fr : Nat → Int) : Nat → Nat → Int := fun t => stF co cs (fr t).toNat

/-- What the search of a yard comes to. -/
noncomputable def solY (F0 : Nat) (ro co : Int) (cs : ByteArray) (m : Nat) (fr tt : Nat → Int) : Option (St × Srch) :=
  comeF (fun p => growL (mvN ro co cs) p m) (restF (stY co cs fr) m) m (cellsOf fr m) F0 (begin0 (restF (stY co cs fr) m) m (cellsOf tt m))

section
variable {nx : List Nat → List (List Nat)} {h : List Nat → Nat} {m : Nat} {fr tt : List Nat} {L : List (List Nat)}
theorem way_back2 {s : Srch} {X : List St} (R : Run nx h m fr tt L s X (fun _ _ => False)) {x : St} {g : Nat} (hx : (s.seen x).map (·.1) = some g) (hp : 0 < costO (s.seen x)) : ∃ g0, (s.seen (nextO x (s.seen x))).map (·.1) = some g0 ∧ g0 < g := by
  have hc : costO (s.seen x) = g := by
    cases e : s.seen x with
    | none => rw [e] at hx; cases hx
    | some v => rw [e] at hx; simp at hx; exact hx
  rcases R.best.back x g hx with e0 | ⟨g0, d, h1, h2, h3, h4⟩
  · omega
  · exact ⟨g0, h1, by omega⟩

theorem way_mem {s : Srch} {X : List St} (R : Run nx h m fr tt L s X (fun _ _ => False)) : ∀ (f : Nat) (x : St) (g : Nat), (s.seen x).map (·.1) = some g → ∀ y, y ∈ wayF s.seen f x → SM.Fine m L y
  | 0, x, g, hx, y, hy => by
    simp only [wayF, List.mem_singleton] at hy
    subst hy
    cases e : s.seen y with
    | none => rw [e] at hx; cases hx
    | some v => exact (R.fine y v e).1
  | f + 1, x, g, hx, y, hy => by
    have h0 : SM.Fine m L x := by
      cases e : s.seen x with
      | none => rw [e] at hx; cases hx
      | some v => exact (R.fine x v e).1
    simp only [wayF] at hy
    by_cases e : 0 < costO (s.seen x)
    · rw [if_pos e] at hy
      rcases List.mem_cons.1 hy with h1 | h1
      · rw [h1]; exact h0
      · obtain ⟨g0, h2, _⟩ := way_back2 R hx e
        exact way_mem R f _ g0 h2 y h1
    · rw [if_neg e, List.mem_singleton] at hy
      rw [hy]; exact h0

theorem way_end {s : Srch} {X : List St} (R : Run nx h m fr tt L s X (fun _ _ => False)) : ∀ (f : Nat) (x : St) (g : Nat), (s.seen x).map (·.1) = some g → g ≤ f → endF s.seen f x
  | 0, x, g, hx, hg => by
    cases e : s.seen x with
    | none => rw [e] at hx; cases hx
    | some v =>
      rw [e] at hx
      simp at hx
      show costO (s.seen x) = 0
      rw [e]
      show v.1 = 0
      omega
  | f + 1, x, g, hx, hg => fun hp => by
    obtain ⟨g0, h2, h3⟩ := way_back2 R hx hp
    exact way_end R f _ g0 h2 (by omega)

end
theorem FarL.same {w : World} {gf K N : Nat} {H c : Nat → Nat} {st st' : Nat → Nat → Int} (h : FarL w gf K N H c st) (e : ∀ t i, t < K → i < N → st t i = st' t i) : FarL w gf K N H c st' :=
  ⟨h.rows, fun t i ht hi => by rw [← e t i ht hi]; exact h.cells t i ht hi⟩

theorem rep_false (m i : Nat) : (List.replicate m false).getD i false = false := by
  rw [List.getD_eq_getElem?_getD, List.getElem?_replicate]
  split <;> rfl

theorem s0_cells (m : Nat) (q : List Nat) : (stL (s0 m q)).toArray = #[.int .u8 (q.getD 0 0 : Nat), .int .u8 (q.getD 1 0 : Nat), .int .u8 (q.getD 2 0 : Nat), .int .u8 (q.getD 3 0 : Nat), .bool false, .bool false, .bool false, .bool false] := by
  unfold stL s0
  simp only [rep_false]

theorem PlanOwn.le {w : World} {base base' : Nat} {v : Value} {Ls : List (List Nat)} (h : PlanOwn w base v Ls) (hb : base' ≤ base) : PlanOwn w base' v Ls := by
  obtain ⟨g, A, h1, h2, h3, h4, h5, h6⟩ := h
  exact ⟨g, A, h1, Nat.le_trans hb h2, h3, fun t ht => (h4 t ht).le hb, h5, h6⟩

theorem range_later {w w' : World} {b o : Nat} {vs : List Value} (hb : Below w.heap.size w w') (h : w.rangeAt b o vs) : w'.rangeAt b o vs := fun j v hv => cell_later hb (h j v hv)

set_option maxRecDepth 1000000 in
set_option maxHeartbeats 8000000 in
theorem plan_any (F0 : Nat) (hF0 : 200400000 ≤ F0) (ro co bu : Int) (cs : ByteArray) (b off m cc : Nat) (fr tt : Nat → Int) (L : List (List Nat)) (w : World) (hsz : (cs.size : Int) = ro * co) (r1 : 1 ≤ ro) (r2 : ro ≤ 6) (h1 : 1 ≤ co) (h2 : co ≤ 6) (hm1 : 1 ≤ m) (hm : m ≤ 4) (hsd : SidesIn w) (hcs : CartsIn w b off m fr tt)
    (hf : ∀ k, k < m → freeB cs (fr k) = true ∧ freeB cs (tt k) = true) (hs : PosG cs m (cellsOf fr m)) (ht : PosG cs m (cellsOf tt m)) (hW : Work (stepP ro co cs m) (cellsOf fr m) L L.length) (hg : cellsOf tt m ∈ L) (hL : L.length ≤ 20000) :
    Calls Tryd.prog 38 #[.agg #[.int .i64 ro, .int .i64 co, .string cs, .slice (some ⟨b, off, none⟩) m cc, .int .i64 bu]] w fun e w' =>
      ∃ v k x s', solY F0 ro co cs m fr tt = some (x, s') ∧ k = costO (s'.seen x) ∧ e = .returned (.tuple #[v, .int .i64 (k : Nat)]) ∧ PlanOwn w' w.heap.size v (planL m (wayF s'.seen k x)) ∧ Below w.heap.size w w' := by
  have hs36 : cs.size ≤ 36 := by obtain ⟨_, _⟩ := mul_bd r1 r2 h1 h2; omega
  have HSD := Hid.mk hsd
  have HCS := Hid.mk hcs
  have HF := Hid.mk hf
  have HS := Hid.mk hs
  have HT := Hid.mk ht
  have HW := Hid.mk hW
  have HG := Hid.mk hg
  clear hsd hcs hf hs ht hW hg
  go_enter Tryd.func38, Tryd.ntmps38
  go_wp2_with fail
  have B1 : Hid (Below w.heap.size w (w.alloc (Obj.cells #[Value.int IntKind.i64 ro, Value.int IntKind.i64 co, Value.string cs, .slice (some ⟨b, off, none⟩) m cc, Value.int IntKind.i64 bu] 28))) := (Below.refl _ w).alloc (Nat.le_refl _) _
  have y1 : ∀ o, (w.alloc (Obj.cells #[Value.int IntKind.i64 ro, Value.int IntKind.i64 co, Value.string cs, .slice (some ⟨b, off, none⟩) m cc, Value.int IntKind.i64 bu] 28)).cell? ⟨w.heap.size, o, none⟩ = #[Value.int .i64 ro, .int .i64 co, .string cs, .slice (some ⟨b, off, none⟩) m cc, .int .i64 bu][o]? := by
    intro o; go_simp
  have hz1 : (w.alloc (Obj.cells #[Value.int IntKind.i64 ro, Value.int IntKind.i64 co, Value.string cs, .slice (some ⟨b, off, none⟩) m cc, Value.int IntKind.i64 bu] 28)).heap.size = w.heap.size + 1 := by simp
  generalize w.alloc (Obj.cells #[Value.int IntKind.i64 ro, Value.int IntKind.i64 co, Value.string cs, .slice (some ⟨b, off, none⟩) m cc, Value.int IntKind.i64 bu] 28) = w1 at *
  refine (newSearch_any ro co bu cs b off m cc fr tt _ hsz r1 r2 h1 h2 hm1 hm (HSD.out.below B1.out) (HCS.out.below B1.out) (fun k hk => (HF.out k hk).1)).mono ?_
  rintro e w2 ⟨S, mb, gf, cf, gm, Gg, C, H, st0, rfl, hfresh, hb2⟩
  have FRE := Hid.mk hfresh
  have hz2 := hb2.size
  have Y2 : Hid (∀ o, w2.cell? ⟨w.heap.size, o, none⟩ = #[Value.int .i64 ro, .int .i64 co, .string cs, .slice (some ⟨b, off, none⟩) m cc, .int .i64 bu][o]?) := fun o => (hb2.cell (p := ⟨w.heap.size, o, none⟩) (by show w.heap.size < w1.heap.size; omega)).trans (y1 o)
  have BW2 : Hid (Below w.heap.size w w2) := B1.out.trans (hb2.mono (by omega))
  obtain ⟨st, hst⟩ : ∃ st, st = stY co cs fr := ⟨_, rfl⟩
  have HSTY := Hid.mk hst
  have ISF : Hid (∀ t, t < m → IsFar cs.size (adjM co cs) ((cellsOf fr m).getD t 0) (st t)) := fun t htm => by
    rw [hst, cellsOf_at htm]
    exact stF_is (hfresh.isf t htm)
  have FAR : Hid (FarL w2 gf m cs.size H (fun _ => cs.size) st) := hfresh.far.same fun t i htm hi => by
    have h := ISF.out t htm
    rw [cellsOf_at htm] at h
    exact (hfresh.isf t htm).unique h i hi
  obtain ⟨hGnd, hPos⟩ := gnd_yard h1 h2 hsz hs36 hm HS.out ISF.out HW.out HG.out hL
  have GND := Hid.mk hGnd
  have POS := Hid.mk hPos
  have WAY := Hid.mk (way_yard h1 h2 hsz HS.out HW.out HG.out hGnd)
  clear hfresh hb2 y1 B1 hst hGnd hPos
  have y0 := Y2.out 0
  have y1 := Y2.out 1
  have y2 := Y2.out 2
  have y3 := Y2.out 3
  have y4 := Y2.out 4
  go_wp2_with fail
  have hf2 : ∀ k, k < m → 0 ≤ tt k ∧ tt k < 256 := fun k hk => by
    obtain ⟨n, e1, e2⟩ := free_nat (HF.out k hk).2
    omega
  refine (goals_any ro co bu cs b off m cc fr tt _ hm (HCS.out.below BW2.out) hf2).mono ?_
  rintro e w3 ⟨rfl, hb3⟩
  have HB3 := Hid.mk hb3
  have hz3 := hb3.size
  have y0 := cell_later hb3 y0
  have y1 := cell_later hb3 y1
  have y2 := cell_later hb3 y2
  have y3 := cell_later hb3 y3
  have y4 := cell_later hb3 y4
  clear hb3 hf2
  unfold posV
  have hs0 := s0_cells m (cellsOf tt m)
  generalize (cellsOf tt m).getD 0 0 = t0 at hs0 ⊢
  generalize (cellsOf tt m).getD 1 0 = t1 at hs0 ⊢
  generalize (cellsOf tt m).getD 2 0 = t2 at hs0 ⊢
  generalize (cellsOf tt m).getD 3 0 = t3 at hs0 ⊢
  have HS0 := Hid.mk hs0
  clear hs0
  go_upto_region 3 with fail
  obtain ⟨w4, hw4⟩ : ∃ q, q = w3.alloc (.cells #[.int .u8 (t0 : Nat), .int .u8 (t1 : Nat), .int .u8 (t2 : Nat), .int .u8 (t3 : Nat), .bool false, .bool false, .bool false, .bool false] 108) := ⟨_, rfl⟩
  rw [← hw4]
  have B4 : Hid (Below w3.heap.size w3 w4) := by unfold Hid; rw [hw4]; exact (Below.refl _ w3).alloc (Nat.le_refl _) _
  have R4 : w4.rangeAt w3.heap.size 0 (stL (s0 m (cellsOf tt m))) := by rw [hw4, ← HS0.out]; exact range_cells w3 _ 108 _ rfl
  have e8 : stL (s0 m (cellsOf tt m)) = [.int .u8 (t0 : Nat), .int .u8 (t1 : Nat), .int .u8 (t2 : Nat), .int .u8 (t3 : Nat), .bool false, .bool false, .bool false, .bool false] := by have h := congrArg Array.toList HS0.out; exact h
  rw [e8] at R4
  have hz4 : w4.heap.size = w3.heap.size + 1 := by rw [hw4]; simp
  have B24 : Hid (Below w2.heap.size w2 w4) := HB3.out.trans (B4.out.mono (by omega))
  have BW4 : Hid (Below w.heap.size w w4) := BW2.out.trans (B24.out.mono (by omega))
  have y0 := cell_later B4.out y0
  have y1 := cell_later B4.out y1
  have y2 := cell_later B4.out y2
  have y3 := cell_later B4.out y3
  have y4 := cell_later B4.out y4
  have Z4 : Hid (∀ o, w4.cell? ⟨w.heap.size, o, none⟩ = #[Value.int .i64 ro, .int .i64 co, .string cs, .slice (some ⟨b, off, none⟩) m cc, .int .i64 bu][o]?) := fun o => (B24.out.cell (p := ⟨w.heap.size, o, none⟩) (by show w.heap.size < w2.heap.size; omega)).trans (Y2.out o)
  have g0 := R4 0 _ rfl
  have g1 := R4 1 _ rfl
  have g2 := R4 2 _ rfl
  have g3 := R4 3 _ rfl
  have g4 := R4 4 _ rfl
  have g5 := R4 5 _ rfl
  have g6 := R4 6 _ rfl
  have g7 := R4 7 _ rfl
  simp only [Nat.zero_add] at g0 g1 g2 g3 g4 g5 g6 g7
  have E8 := Hid.mk e8
  clear hw4 R4 e8
  have hSl := FRE.out.src.lt
  have hml := FRE.out.seen.lt
  have IN4 : Hid (SIn w4 S mb m w2.heap.size 0 (.int .i64 (m : Nat)) (.slice (some ⟨gm, 0, none⟩) cs.size cs.size) (.slice (some ⟨gf, 0, none⟩) m cf) (.slice none 0 0) { seen := fun _ => none, n := 0, it := fun _ => ⟨([], []), 0, 0⟩ }) :=
    ⟨FRE.out.src.block (B24.out.block S hSl), .inl ⟨rfl, rfl⟩, fun g hg => (by cases hg), FRE.out.seen.block (B24.out.block mb hml), hSl, hml, FRE.out.low.2.2, B24.out.size⟩
  have FAR4 : Hid (FarL w4 gf m cs.size H (fun _ => cs.size) st) := FAR.out.only (Only.of_below B24.out : Only (fun _ => False) w2 w4) (fun e => e) (fun _ _ e => e)
  have GND4 : Hid (GroundIn w4 gm cs.size Gg C ro co cs) := FRE.out.gnd.below B24.out
  have FA : Hid (Ap S mb w2.heap.size gf ∧ ∀ t, t < m → Ap S mb w2.heap.size (H t)) := by
    refine ⟨⟨FRE.out.farA.1.1, FRE.out.farA.1.2, World.block_lt_of_cell? (a := ⟨gf, 0, none⟩) w2 (FAR.out.rows 0 hm1)⟩, fun t htm => ⟨(FRE.out.farA.2 t htm).1, (FRE.out.farA.2 t htm).2, World.block_lt_of_cell? (a := ⟨H t, 0, none⟩) w2 (FAR.out.cells t 0 htm ?_)⟩⟩
    have := (HS.out.1.2 0 hm1).1
    omega
  have GA : Hid (Ap S mb w2.heap.size gm ∧ ∀ j, j < cs.size → freeB cs j = true → Ap S mb w2.heap.size (Gg j)) := by
    refine ⟨⟨FRE.out.gndA.1.1, FRE.out.gndA.1.2, FRE.out.gnd.row.lt⟩, fun j g1 g2 => ⟨(FRE.out.gndA.2 j g1 g2).1, (FRE.out.gndA.2 j g1 g2).2, ?_⟩⟩
    have g3 := (mvL_len (ro := ro) (co := co) (cs := cs) (c := j)).2
    have g4 := FRE.out.gnd.lists j g1 g2 0 (by omega)
    rw [List.getElem?_eq_getElem (by unfold ints; simp; omega)] at g4
    exact World.block_lt_of_cell? (a := ⟨Gg j, 0, none⟩) w2 g4
  have hzw : w.heap.size ≤ w2.heap.size := BW2.out.size
  have hSlow := FRE.out.low
  clear FRE FAR Y2
  go_wp2_with fail
  have e2 : Value.agg #[Value.int IntKind.i64 0, .int .u8 (t0 : Nat), .int .u8 (t1 : Nat), .int .u8 (t2 : Nat), .int .u8 (t3 : Nat), .bool false, .bool false, .bool false, .bool false] = .agg (fdL (0, s0 m (cellsOf tt m))).toArray := by
    unfold fdL
    rw [E8.out]; rfl
  have e1 : Value.agg #[.int .u8 (t0 : Nat), .int .u8 (t1 : Nat), .int .u8 (t2 : Nat), .int .u8 (t3 : Nat), .bool false, .bool false, .bool false, .bool false] = .agg (stL (s0 m (cellsOf tt m))).toArray := by rw [HS0.out]
  have hposT := (POS.out _ HG.out).2
  rw [e2, e1]
  clear e1 e2 g0 g1 g2 g3 g4 g5 g6 g7 y0 y1 y2 y3 y4
  refine (see_any S mb m w2.heap.size 0 gf cf cs.size H (fun _ => cs.size) st _ _ _ _ (s0 m (cellsOf tt m)) (s0 m (cellsOf tt m)) 0 _ IN4.out FAR4.out FA.out hm hs36 ⟨hposT.len, by simp [s0]⟩ (hposT.small hs36) hposT.lt hposT.bd (by omega) (by omega) (by show 0 ≤ 800000000; omega)).mono ?_
  rintro e w5 ⟨rfl, v5, hi5, hv5, ho5⟩
  have I5 := Hid.mk hi5
  have V5 := Hid.mk hv5
  have O5 := Hid.mk ho5
  have hz5 := ho5.size
  have Z5 : Hid (∀ o, w5.cell? ⟨w.heap.size, o, none⟩ = #[Value.int .i64 ro, .int .i64 co, .string cs, .slice (some ⟨b, off, none⟩) m cc, .int .i64 bu][o]?) := fun o => (ho5.cell (p := ⟨w.heap.size, o, none⟩) (by show w.heap.size < w4.heap.size; omega) (fun e => by
    rcases e with e | e | e
    · have e : w.heap.size = S := e
      omega
    · have e : w.heap.size = mb := e
      omega
    · cases e)).trans (Z4.out o)
  have BW5 : Hid (Below w.heap.size w w5) := BW4.out.trans ⟨ho5.os, ho5.tape, ho5.output, ho5.size, fun j hj => ho5.block j (by omega) (fun e => by
    rcases e with e | e | e
    · omega
    · omega
    · cases e)⟩
  have FAR5 : Hid (FarL w5 gf m cs.size H (fun _ => cs.size) st) := FAR4.out.only ho5 (FA.out.1.notV (fun g hg => by cases hg)) (fun t ht => (FA.out.2 t ht).notV (fun g hg => by cases hg))
  have GND5 : Hid (GroundIn w5 gm cs.size Gg C ro co cs) := GND4.out.only ho5 (GA.out.1.notV (fun g hg => by cases hg)) (fun j g1 g2 => (GA.out.2 j g1 g2).notV (fun g hg => by cases hg))
  have y0 := Z5.out 0
  have y1 := Z5.out 1
  have y2 := Z5.out 2
  have y3 := Z5.out 3
  have y4 := Z5.out 4
  clear hi5 hv5 ho5 hposT
  go_wp2_with fail
  have hf2 : ∀ k, k < m → 0 ≤ fr k ∧ fr k < 256 := fun k hk => by
    obtain ⟨n, e1, e2⟩ := free_nat (HF.out k hk).1
    omega
  refine (starts_any ro co bu cs b off m cc fr tt _ hm (HCS.out.below BW5.out) hf2).mono ?_
  rintro e w6 ⟨rfl, hb6⟩
  have B6 := Hid.mk hb6
  have hz6 := hb6.size
  have I6 := Hid.mk (I5.out.only hb6)
  have BW6 : Hid (Below w.heap.size w w6) := BW5.out.trans (hb6.mono (by omega))
  obtain ⟨s5, hs5⟩ : ∃ s5, s5 = begin0 (restF st m) m (cellsOf tt m) := ⟨_, rfl⟩
  have AR6 : Hid (Around w6 S mb m w2.heap.size gf cf gm Gg C ro co cs H (fun _ => cs.size) st (cellsOf fr m) (cellsOf tt m) L) := by
    refine ⟨FAR5.out.only (Only.of_below hb6 : Only (fun _ => False) w5 w6) (fun e => e) (fun _ _ e => e), FA.out, GND5.out.below hb6, GA.out, hm, hs36, GND.out, fun p hp => ⟨(POS.out p hp).2, fun k hk => ((POS.out p hp).1.1.2 k hk).2⟩, WAY.out, cellsOf_len _ _⟩
  obtain ⟨hRun, hRn⟩ := run_begin GND.out
  have RUN := Hid.mk hRun
  clear hb6 y0 y1 y2 y3 y4 hf2 hRun
  have CT : Hid (Calls Tryd.prog 58 #[.pointer (some ⟨S, 0, none⟩), .agg (psL (cellsOf fr m)).toArray] w6 fun e w' =>
      ∃ x s' n' v', e = .returned (.agg (stL x).toArray) ∧ comeF (fun p => growL (mvN ro co cs) p m) (restF st m) m (cellsOf fr m) F0 (begin0 (restF st m) m (cellsOf tt m)) = some (x, s') ∧ SIn w' S mb m w2.heap.size n' (.int .i64 (m : Nat)) (.slice (some ⟨gm, 0, none⟩) cs.size cs.size) (.slice (some ⟨gf, 0, none⟩) m cf) v' s' ∧ (∀ g, v'.ownBlock = some g → v5.ownBlock = some g ∨ w6.heap.size ≤ g) ∧ Only (TnV S mb v5) w6 w') :=
    comeTo_any S mb m w2.heap.size 1 gf cf gm F0 Gg C ro co cs H (fun _ => cs.size) st v5 (begin0 (restF st m) m (cellsOf tt m)) [] (cellsOf fr m) (cellsOf tt m) L w6 I6.out AR6.out RUN.out (by unfold left; rw [hRn]; simp only [List.length_nil]; omega) (by simp)
  unfold posV
  have hps : (psL (cellsOf fr m)).toArray = #[.int .u8 ((cellsOf fr m).getD 0 0 : Nat), .int .u8 ((cellsOf fr m).getD 1 0 : Nat), .int .u8 ((cellsOf fr m).getD 2 0 : Nat), .int .u8 ((cellsOf fr m).getD 3 0 : Nat)] := rfl
  rw [hps] at CT
  clear hps
  generalize (cellsOf fr m).getD 0 0 = f0 at CT ⊢
  generalize (cellsOf fr m).getD 1 0 = f1 at CT ⊢
  generalize (cellsOf fr m).getD 2 0 = f2 at CT ⊢
  generalize (cellsOf fr m).getD 3 0 = f3 at CT ⊢
  go_wp2_with fail
  refine CT.out.mono ?_
  rintro e w7 ⟨x, s', n7, v7, rfl, hcome, hi7, hv7, ho7⟩
  obtain ⟨x2, s2, X2, hcome2, hx1, ⟨s3, hseen, hR3⟩, g, hgx, _⟩ := come_ok GND.out WAY.out F0 (begin0 (restF st m) m (cellsOf tt m)) [] RUN.out (by unfold left; rw [hRn]; simp only [List.length_nil]; omega)
  rw [hcome] at hcome2
  injection hcome2 with hcome2
  injection hcome2 with e1 e2
  subst e1 e2
  rw [← hseen] at hgx
  have HCOME : Hid (solY F0 ro co cs m fr tt = some (x, s')) := by
    unfold Hid solY
    rw [← HSTY.out]; exact hcome
  have hk : costO (s'.seen x) = g := by
    rw [← hseen]
    cases e : s3.seen x with
    | none => rw [e] at hgx; cases hgx
    | some v => rw [e] at hgx; simp at hgx; exact hgx
  have hcap : g ≤ 1280000 := by
    cases e : s3.seen x with
    | none => rw [e] at hgx; cases hgx
    | some v =>
      have h3 := hR3.cap x v e
      have h4 := (run_bounds GND.out hR3).1
      rw [e] at hgx
      simp at hgx
      omega
  have hmem := way_mem hR3 g x g hgx
  have hend := way_end hR3 g x g hgx (Nat.le_refl g)
  obtain ⟨_, _, _, _, hwl⟩ := way_chain GND.out hR3 g x g hgx (Nat.le_refl g)
  rw [hseen] at hmem hend hwl
  have PF : Hid (∀ u : World, SIn u S mb m w2.heap.size n7 (.int .i64 (m : Nat)) (.slice (some ⟨gm, 0, none⟩) cs.size cs.size) (.slice (some ⟨gf, 0, none⟩) m cf) v7 s' → Calls Tryd.prog 60 #[.pointer (some ⟨S, 0, none⟩), .agg (stL x).toArray] u fun e w' =>
      ∃ v, e = .returned v ∧ PlanOwn w' u.heap.size v (planL m (wayF s'.seen g x)) ∧ Below u.heap.size u w') := fun u hu =>
    pathsFrom_any S mb m w2.heap.size n7 g _ _ v7 s' x u hu hm1 hm (fun y hy => ⟨⟨(POS.out _ (hmem y hy).1).2.len, (hmem y hy).2⟩, (POS.out _ (hmem y hy).1).2.small hs36⟩) hend (by omega)
  have HXY : Hid (Lens m x ∧ Small x.1) := by
    have h := hmem x (by
      match g with
      | 0 => simp [wayF]
      | g + 1 =>
        simp only [wayF]
        split <;> simp)
    exact ⟨⟨(POS.out _ h.1).2.len, h.2⟩, (POS.out _ h.1).2.small hs36⟩
  have HK := Hid.mk hk
  have I7 := Hid.mk hi7
  have hz7 := ho7.size
  have BW7 : Hid (Below w.heap.size w w7) := BW6.out.trans ⟨ho7.os, ho7.tape, ho7.output, ho7.size, fun j hj => ho7.block j (by omega) (fun e => by
    rcases e with e | e | e
    · omega
    · omega
    · have := I6.out.own j e
      omega)⟩
  obtain ⟨a0, a1, a2, a3, a4, a5, a6, a7, hxl⟩ := stL_mk x
  have HXL := Hid.mk hxl
  rw [hxl]
  clear hcome hi7 hv7 ho7 hgx hk hmem hend hwl hxl hseen hR3 hcap CT hRn
  go_upto_region 5 with fail
  obtain ⟨w8, hw8⟩ : ∃ q, q = w7.alloc (Obj.cells #[.int .u8 (a0 : Nat), .int .u8 (a1 : Nat), .int .u8 (a2 : Nat), .int .u8 (a3 : Nat), .bool a4, .bool a5, .bool a6, .bool a7] 108) := ⟨_, rfl⟩
  have hw8' : w8 = w7.alloc (.cells (stL x).toArray 108) := by rw [HXL.out, hw8]
  rw [← hw8]
  have B8 : Hid (Below w7.heap.size w7 w8) := by unfold Hid; rw [hw8']; exact (Below.refl _ w7).alloc (Nat.le_refl _) _
  have R8 : Hid (w8.rangeAt w7.heap.size 0 (stL x)) := by unfold Hid; rw [hw8']; exact range_cells w7 (stL x) 108 _ rfl
  have I8 := Hid.mk (I7.out.only B8.out)
  have hz8 := B8.out.size
  have hzw7 := BW7.out.size
  clear hw8 hw8'
  obtain ⟨vv, hvv⟩ : ∃ vv, vv = (s'.seen x).getD (0, ([], [])) := ⟨_, rfl⟩
  have HVV := Hid.mk hvv
  have HC : Hid (vv.1 = g) := by
    unfold Hid
    rw [hvv, ← HK.out]
    cases s'.seen x <;> rfl
  clear hvv
  have HS8 : (fun u : World => u.cell? ⟨S, 3, none⟩ = some (.map (some mb)) ∧ u.rangeAt w7.heap.size 0 (stL x) ∧ SeenMap u mb m n7 s'.seen) w8.drew := ⟨(I8.out.src.cells.2.2.2.1 : w8.cell? _ = _), by simpa using R8.out, I8.out.seen.block rfl⟩
  refine wp_region_any (by kernel_rfl) ?_
  change wpAny _ _ _ _ _ _ _ (World.drew _)
  refine wpAny_take (i := 0) (v := .pointer (some ⟨S, 0, none⟩)) rfl (by kernel_rfl) (by kernel_rfl) (by kernel_rfl) (fun _ _ _ h => h) (Or.inl ⟨by rfl, fun u => by go_simp⟩) ?_
  refine wpAny_take (i := 3) (v := .pointer (some ⟨S, 0, none⟩)) rfl (by kernel_rfl) (by kernel_rfl) (by kernel_rfl) (fun _ _ _ h => h) (Or.inl ⟨by rfl, fun u => by go_simp⟩) ?_
  refine wpAny_take (i := 4) (v := .pointer (some ⟨S, 0, none⟩)) rfl (by kernel_rfl) (by kernel_rfl) (by kernel_rfl) (fun _ _ _ h => h) (Or.inl ⟨by rfl, fun u => by go_simp⟩) ?_
  refine wpAny_take (i := 5) (v := .pointer (some ⟨S, 3, none⟩)) rfl (by kernel_rfl) (by kernel_rfl) (by kernel_rfl) (fun _ _ _ h => h) (Or.inl ⟨by rfl, fun u => by go_simp⟩) ?_
  refine LM.any_of_L (late := LM.lateOf []) (S := fun u : World => u.cell? ⟨S, 3, none⟩ = some (.map (some mb)) ∧ u.rangeAt w7.heap.size 0 (stL x) ∧ SeenMap u mb m n7 s'.seen) _ _ _ _ ?_
  refine LM.L_take (i := 1) (v := .agg (stL x).toArray) rfl (by kernel_rfl) (by kernel_rfl) (by kernel_rfl) (by kernel_rfl) (fun _ _ _ h => h) (yieldsIf_load_mid (by rfl) 108 (.tmp 6) rfl w7.heap.size 0 (by go_simp) (stL x) _ (fun u hu => hu.2.1) Tryd.underlying108 rfl ((congrArg some (stL_len _)).symm ▸ Tryd.sizeState)) HS8 ?_
  refine LM.L_take (i := 6) (v := .map (some mb)) rfl (by kernel_rfl) (by kernel_rfl) (by kernel_rfl) (by kernel_rfl) (fun _ _ _ h => h) (Or.inl ⟨by rfl, fun u hu => by have h5 := hu.1; go_simp⟩) HS8 ?_
  refine LM.L_take (i := 7) (v := .agg (stL x).toArray) rfl (by kernel_rfl) (by kernel_rfl) (by kernel_rfl) (by kernel_rfl) (fun _ _ _ h => h) (yieldsIf_load_mid (by rfl) 108 (.tmp 6) rfl w7.heap.size 0 (by go_simp) (stL x) _ (fun u hu => hu.2.1) Tryd.underlying108 rfl ((congrArg some (stL_len _)).symm ▸ Tryd.sizeState)) HS8 ?_
  refine LM.L_take (i := 8) (v := .agg (fdL vv).toArray) rfl (by kernel_rfl) (by kernel_rfl) (by kernel_rfl) (by kernel_rfl) (fun _ _ _ h => h) (by rw [HVV.out]; exact yields_look_seen (x := x) (f := s'.seen) (b := mb) (m := m) (n := n7) (by rfl) (.tmp 27) (.tmp 28) false rfl (by go_simp) (by go_simp) (fun u hu => hu.2.2) HXY.out.1 HXY.out.2) HS8 ?_
  refine LM.L_take (i := 9) (v := .int .i64 (vv.1 : Nat)) rfl (by kernel_rfl) (by kernel_rfl) (by kernel_rfl) (by kernel_rfl) (fun _ _ _ h => h) (Or.inl ⟨by rfl, fun u _ => by have h5 := fld_cost; unfold fdL stL; go_simp⟩) HS8 ?_
  refine LM.L_one (i := 2) rfl (by kernel_rfl) rfl (fun K hK => ?_)
  go_simp
  refine (PF.out _ (I8.out.only (Below.refl _ w8).drew)).mono ?_
  rintro e w9 ⟨v9, rfl, hv9, hb9⟩
  have V9 := Hid.mk hv9
  have B9 : Hid (Below w8.heap.size w8 w9) := (Below.refl _ w8).drew.trans hb9
  have hz9 := B9.out.size
  obtain ⟨gp, A, rfl, hrest⟩ := hv9
  clear hrest hb9
  refine hK _ _ ⟨(cell_later B9.out I8.out.src.cells.2.2.2.1 : w9.cell? _ = _), range_later B9.out R8.out, I8.out.seen.block (B9.out.block _ I8.out.seen.lt)⟩ ?_
  clear hK K HS8
  have HS9 : (fun u : World => u.cell? ⟨S, 3, none⟩ = some (.map (some mb)) ∧ u.rangeAt w7.heap.size 0 (stL x) ∧ SeenMap u mb m n7 s'.seen) w9 := ⟨(cell_later B9.out I8.out.src.cells.2.2.2.1 : w9.cell? _ = _), range_later B9.out R8.out, I8.out.seen.block (B9.out.block _ I8.out.seen.lt)⟩
  refine LM.L_take (i := 10) (v := .slice (some ⟨gp, 0, none⟩) (planL m (wayF s'.seen g x)).length (planL m (wayF s'.seen g x)).length) rfl (by kernel_rfl) (by kernel_rfl) (by kernel_rfl) (by kernel_rfl) (fun _ _ _ h => h) (Or.inl ⟨by rfl, fun u _ => by go_simp⟩) HS9 ?_
  refine LM.L_take (i := 11) (v := .int .i64 (vv.1 : Nat)) rfl (by kernel_rfl) (by kernel_rfl) (by kernel_rfl) (by kernel_rfl) (fun _ _ _ h => h) (Or.inl ⟨by rfl, fun u _ => by go_simp⟩) HS9 ?_
  refine LM.L_done (by kernel_rfl) ?_ _
  go_simp
  clear HS9
  go_wp2_with fail
  go_ret2
  refine ⟨_, vv.1, x, s', HCOME.out, by rw [HC.out]; exact HK.out.symm, rfl, ?_, BW7.out.trans ((B8.out.trans (B9.out.mono (by omega))).mono (by omega))⟩
  rw [HC.out]
  exact V9.out.le (by show w.heap.size ≤ w8.heap.size; omega)

end Go.Proofs.YtnkgpinadgacgabDoor

namespace Go.Proofs.YtnkgpinadgacgabDoor
open Go.RowKit M
theorem cellsOf_next (f : Nat → Int) (k : Nat) : cellsOf f (k + 1) = cellsOf f k ++ [(f k).toNat] := by
  unfold cellsOf
  rw [List.range_succ, List.map_append]; rfl

end Go.Proofs.YtnkgpinadgacgabDoor

namespace Go.Proofs.YtnkgpinadgacgabDoor
open Go.RowKit M
/-- A list of lists of numbers that the call made. -/
def OwnQ (w : World) (base : Nat) (v : Value) (Ls : List (List Nat)) : Prop :=
  ∃ A : List Value, A.length = Ls.length ∧ w.ownsRow base 22 1 v Ls.length A ∧ (∀ t, t < Ls.length → RowQ w (A.getD t (.bool false)) (Ls.getD t [])) ∧ (∀ g t, v.ownBlock = some g → t < Ls.length → (A.getD t (.bool false)).ownBlock ≠ some g) ∧ (∀ t h, t < Ls.length → (A.getD t (.bool false)).ownBlock = some h → base ≤ h)

theorem OwnQ.nil (w : World) (base : Nat) : OwnQ w base (.slice none 0 0) [] := ⟨[], rfl, ⟨rfl, .inl ⟨rfl, rfl⟩⟩, fun _ h => by simp at h, fun _ _ _ h => by simp at h, fun _ _ h => by simp at h⟩

theorem OwnQ.below {w w' : World} {base : Nat} {v : Value} {Ls : List (List Nat)} (h : OwnQ w base v Ls) (hb : Below w.heap.size w w') : OwnQ w' base v Ls := by
  obtain ⟨A, h1, h2, h3, h4, h5⟩ := h
  exact ⟨A, h1, own_later h2 hb, fun t ht => (h3 t ht).below hb, h4, h5⟩

theorem OwnQ.le {w : World} {base base' : Nat} {v : Value} {Ls : List (List Nat)} (h : OwnQ w base v Ls) (hb : base' ≤ base) : OwnQ w base' v Ls := by
  obtain ⟨A, h1, h2, h3, h4, h5⟩ := h
  exact ⟨A, h1, own_le h2 hb, h3, h4, fun t k ht hk => Nat.le_trans hb (h5 t k ht hk)⟩

theorem OwnQ.lt {w : World} {base : Nat} {v : Value} {Ls : List (List Nat)} (h : OwnQ w base v Ls) : ∀ g, v.ownBlock = some g → base ≤ g ∧ g < w.heap.size := by
  obtain ⟨A, h1, h2, h3, h4, h5⟩ := h
  exact fun g hg => h2.lt g hg

theorem OwnQ.form {w : World} {base : Nat} {v : Value} {Ls : List (List Nat)} (h : OwnQ w base v Ls) : ∃ a cap, v = .slice a Ls.length cap ∧ (0 < Ls.length → ∃ g, a = some ⟨g, 0, none⟩) ∧ Ls.length ≤ cap := by
  obtain ⟨A, h1, h2, h3, h4, h5⟩ := h
  exact own_form h2

theorem OwnQ.cell {w : World} {base g n cap : Nat} {Ls : List (List Nat)} (h : OwnQ w base (.slice (some ⟨g, 0, none⟩) n cap) Ls) {t : Nat} (ht : t < Ls.length) : ∃ a c, w.cell? ⟨g, t, none⟩ = some (.slice a (Ls.getD t []).length c) ∧ RowQ w (.slice a (Ls.getD t []).length c) (Ls.getD t []) ∧ ∀ h, (Value.slice a (Ls.getD t []).length c).ownBlock = some h → base ≤ h := by
  obtain ⟨a0, cap2, hv, _, _⟩ := h.form
  obtain ⟨A, h1, h2, h3, h4, h6⟩ := h
  have e : n = Ls.length := by cases hv; rfl
  subst e
  have h5 := h3 t ht
  obtain ⟨a, c, hs, _⟩ := h5.form
  rw [hs] at h5
  refine ⟨a, c, ?_, h5, fun k hk => h6 t k ht (by rw [hs]; exact hk)⟩
  rw [own_cell h2 ht, ← hs, List.getD_eq_getElem?_getD, List.getElem?_eq_getElem (by omega)]; rfl

set_option maxRecDepth 100000 in
theorem wpList_pushQ {w0 : World} {ops : Array Oper} {rest : List Oper} {o : Oper} {a : Act} {Q : Exit → Act → World → Prop} (hgd : o.guard = none) (s x : Operand)
    (ho : o.op = .call { callee := .builtin .append, args := #[s, x], argTypes := #[29, 29] })
    (base : Nat) (v : Value) (Ls : List (List Nat)) (y : Value) (q : List Nat) (hs : a.eval s = v) (hown : OwnQ w0 base v Ls) (hbase : base ≤ w0.heap.size) (hy : RowQ w0 y q) (hd : ∀ g, v.ownBlock = some g → y.ownBlock ≠ some g) (hlo : ∀ g, y.ownBlock = some g → base ≤ g) (c : Nat)
    (hx : a.eval x = .slice (some ⟨w0.heap.size, 0, none⟩) 1 c) (hL : Ls.length ≤ 100000000)
    (h : ∀ g cap w', OwnQ w' base (.slice (some ⟨g, 0, none⟩) (Ls ++ [q]).length cap) (Ls ++ [q]) → Only (fun k => v.ownBlock = some k) w0 w' → (v.ownBlock = some g ∨ w0.heap.size ≤ g) → wpList Tryd.prog ops Q rest (a.put o.dst (.slice (some ⟨g, 0, none⟩) (Ls ++ [q]).length cap)) w') :
    wpList Tryd.prog ops Q (o :: rest) a (w0.alloc (.cells #[y] 22)) := by
  obtain ⟨i0, hi0, hi1, hi2, hi3⟩ := info_parts Tryd.infoSl
  obtain ⟨A, h1, h2, h3, h4, h5⟩ := hown
  obtain ⟨ya, yc, hyv, _⟩ := hy.form
  have hown1 := own_keep (w' := w0.alloc (.cells #[y] 22)) h2 (fun g _ hg _ => Below.heap_alloc _ _ _ hg)
  have hown2 := h2
  refine wpList_append_lies _ hgd s x _ ho base 22 i0 _ 1 24 Tryd.underlying29 hi0 hi1 hi2 hi3 rfl (by omega) v Ls.length A hs hown1 _ 1 c [y] hx rfl (fun j u hj => ?_) (fun u hu => ?_) (by omega) (by unfold maxLen; omega) (by omega) (by simp; omega) (w0.heap.size + 1) (by simp) ?_
  · match j, hj with
    | 0, hj => simp at hj; subst hj; simp [Addr.add]
    | j + 1, hj => simp at hj
  · simp at hu; subst hu; rw [hyv]; rfl
  · intro g cap w' ho9 hg9 hl9 _
    have e1 : (Ls ++ [q]).length = Ls.length + 1 := by simp
    rw [e1] at h
    have hon : Only (fun k => v.ownBlock = some k) w0 w' := ⟨hg9.os, hg9.tape, hg9.output, Nat.le_trans (by simp) hg9.size, fun k hk hn => by
      rw [hg9.block k (by simp; omega) (fun e => hn e.symm)]
      exact Below.heap_alloc _ _ _ hk⟩
    have hat : v.ownBlock = some g ∨ w0.heap.size ≤ g := hl9.imp id (fun e => by omega)
    refine h g cap w' ⟨A ++ [y], by simp [h1], by rw [e1]; exact ho9, fun t ht => ?_, fun g' t hg' ht => ?_, fun t k ht hk => ?_⟩ hon hat
    · by_cases htl : t < Ls.length
      · rw [getD_snoc_old (by omega), getD_snoc_old htl]
        exact (h3 t htl).only hon (fun b hb hv => h4 b t hv htl hb)
      · have e : t = Ls.length := by rw [List.length_append] at ht; simp at ht; omega
        rw [getD_snoc_new (by omega), getD_snoc_new e]
        exact hy.only hon (fun b hb hv => hd b hv hb)
    · have eg : g = g' := Option.some.inj hg'
      subst eg
      by_cases htl : t < Ls.length
      · rw [getD_snoc_old (by omega)]
        rcases hat with hh | hh
        · exact h4 g t hh htl
        · intro hb
          have := (h3 t htl).lt g hb
          omega
      · have e : t = Ls.length := by rw [List.length_append] at ht; simp at ht; omega
        rw [getD_snoc_new (by omega)]
        rcases hat with hh | hh
        · exact hd g hh
        · intro hb
          have := hy.lt g hb
          omega
    · by_cases htl : t < Ls.length
      · rw [getD_snoc_old (by omega)] at hk
        exact h5 t k htl hk
      · have e : t = Ls.length := by rw [List.length_append] at ht; simp at ht; omega
        rw [getD_snoc_new (by omega)] at hk
        exact hlo k hk

end Go.Proofs.YtnkgpinadgacgabDoor
