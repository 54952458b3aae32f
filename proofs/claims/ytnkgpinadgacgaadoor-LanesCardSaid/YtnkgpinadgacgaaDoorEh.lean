/- Walk of reached: for each instant the cells to which the cart can have come. -/
import Derived.Test.YtnkgpinadgacgaaDoorEg
namespace Go.Proofs.YtnkgpinadgacgaaDoor
open Go.RowKit Go.Maps M

theorem Tryd.infoLayer : (Tryd.prog.info? 166).map (fun i => (i.zero, i.size, i.bytes)) = some (some (.map none), 1, 8) := by kernel_rfl

theorem nomap_row (N : Nat) (w : World) (t : TypeId) (k : Nat) (hk : k = w.heap.size) : (w.alloc (.cells (madeCells #[.map none] N) t)).rowIs k t N (fun _ => .map none) := by
  subst hk
  exact rowIs_made _ _ _ _ fun i _ => by simp [Nat.mod_one]

/-- One more set is laid. -/
theorem LaysIn.push {w : World} {gl n b : Nat} {B : Nat → Nat} {F : Nat → Nat → Bool} {u : Value} (h : LaysIn w gl n B F) (hu : w.cell? ⟨gl, n, none⟩ = some u) (hc : CellSet w b (F n)) (hb : ∀ t, t < n → B t ≠ b) (hg : b ≠ gl) :
    LaysIn (w.setCell ⟨gl, n, none⟩ (.map (some b))) gl (n + 1) (fun t => if t = n then b else B t) F := by
  refine ⟨fun t ht => ?_, fun t ht => ?_, fun s t hs ht e => ?_, fun t ht => ?_⟩
  · by_cases e : t = n
    · subst e
      rw [World.cell?_setCell_same' _ _ _ (by rw [hu]; rfl), if_pos rfl]
    · rw [World.cell?_setCell_other _ _ _ _ (by intro hh; cases hh; exact e rfl), if_neg e]
      exact h.cells t (by omega)
  · by_cases e : t = n
    · rw [if_pos e, e]
      exact hc.block (Below.heap_setCell w ⟨gl, n, none⟩ _ b (by show b ≠ gl; exact hg))
    · rw [if_neg e]
      exact (h.sets t (by omega)).block (Below.heap_setCell w ⟨gl, n, none⟩ _ _ (by show B t ≠ gl; exact h.ne t (by omega)))
  · by_cases e1 : s = n <;> by_cases e2 : t = n
    · omega
    · rw [if_pos e1, if_neg e2] at e; exact absurd e.symm (hb t (by omega))
    · rw [if_neg e1, if_pos e2] at e; exact absurd e (hb s (by omega))
    · rw [if_neg e1, if_neg e2] at e; exact h.inj s t (by omega) (by omega) e
  · by_cases e : t = n
    · rw [if_pos e]; exact hg
    · rw [if_neg e]; exact h.ne t (by omega)

set_option maxRecDepth 100000 in
set_option maxHeartbeats 8000000 in
theorem reached_lay (ro co bu : Int) (cs : ByteArray) (ac : Option Addr) (mc cc : Nat) (c S : Int) (f bs bt n T nn : Nat) (R : Nat → RuleM) (w : World) (hsd : SidesIn w) (r1 : 1 ≤ ro) (r2 : ro ≤ 6) (r3 : 1 ≤ co) (r4 : co ≤ 6) (hs : cs.size ≤ 36) (hsz : (cs.size : Int) = ro * co) (hT : T ≤ 100) (hnn : nn = T + 1) (hb : BansIn w bs bt cs.size n R) (hf : freeB cs f = true) :
    Calls Tryd.prog 120 #[tripV ro co bu cs ac mc cc (f : Nat) c bs bt S, .int .i64 (T : Nat)] w fun e w' =>
      ∃ gl B, e = .returned (.slice (some ⟨gl, 0, none⟩) nn nn) ∧ LaysIn w' gl nn B (fun t => reachM co cs n R f t) ∧ (∀ t, t < nn → w.heap.size ≤ B t) ∧ w.heap.size ≤ gl ∧ Below w.heap.size w w' := by
  have HSD := Hid.mk hsd
  have HB := Hid.mk hb
  have HF := Hid.mk hf
  have hfs : f < cs.size := free_lt hf
  have hnn1 : nn ≤ T + 1 := by omega
  have hnn2 : T + 1 ≤ nn := by omega
  have hw1 : IntKind.i64.wrap ((T : Int) + 1) = (nn : Int) := by rw [wrap_mid (by omega) (by omega)]; omega
  have hmm := @run_makeMap Tryd.prog
  clear hsd hb hf hnn
  unfold tripV
  go_enter Tryd.func120, Tryd.ntmps120
  go_upto_region 2 with (at_make; go_must (refine wpList_make_all _ rfl _ _ 162 rfl 166 _ _ _ Tryd.underlying162 Tryd.infoLayer _ _ _ _ nn rfl rfl (by simp) (by simp) (by omega) (by omega) ?_))
  have ROW := Hid.mk (nomap_row nn (w.alloc (Obj.cells #[Value.int IntKind.i64 ro, Value.int IntKind.i64 co, Value.string cs, Value.slice ac mc cc, Value.int IntKind.i64 bu, Value.int IntKind.i64 (f : Nat), Value.int IntKind.i64 c, Value.map (some bs), Value.map (some bt), Value.int IntKind.i64 S] 156)) 166 (w.heap.size + 1) (by simp))
  have BA : Hid (Below w.heap.size w ((w.alloc (Obj.cells #[Value.int IntKind.i64 ro, Value.int IntKind.i64 co, Value.string cs, Value.slice ac mc cc, Value.int IntKind.i64 bu, Value.int IntKind.i64 (f : Nat), Value.int IntKind.i64 c, Value.map (some bs), Value.map (some bt), Value.int IntKind.i64 S] 156)).alloc (Obj.cells (madeCells #[.map none] nn) 166))) := ((Below.refl _ w).alloc (Nat.le_refl _) _).alloc (by simp) _
  have xa : ∀ o, ((w.alloc (Obj.cells #[Value.int IntKind.i64 ro, Value.int IntKind.i64 co, Value.string cs, Value.slice ac mc cc, Value.int IntKind.i64 bu, Value.int IntKind.i64 (f : Nat), Value.int IntKind.i64 c, Value.map (some bs), Value.map (some bt), Value.int IntKind.i64 S] 156)).alloc (Obj.cells (madeCells #[.map none] nn) 166)).cell? ⟨w.heap.size, o, none⟩ = #[Value.int IntKind.i64 ro, Value.int IntKind.i64 co, Value.string cs, Value.slice ac mc cc, Value.int IntKind.i64 bu, Value.int IntKind.i64 (f : Nat), Value.int IntKind.i64 c, Value.map (some bs), Value.map (some bt), Value.int IntKind.i64 S][o]? := by
    intro o; go_simp
  have hza : ((w.alloc (Obj.cells #[Value.int IntKind.i64 ro, Value.int IntKind.i64 co, Value.string cs, Value.slice ac mc cc, Value.int IntKind.i64 bu, Value.int IntKind.i64 (f : Nat), Value.int IntKind.i64 c, Value.map (some bs), Value.map (some bt), Value.int IntKind.i64 S] 156)).alloc (Obj.cells (madeCells #[.map none] nn) 166)).heap.size = w.heap.size + 2 := by simp
  generalize ((w.alloc (Obj.cells #[Value.int IntKind.i64 ro, Value.int IntKind.i64 co, Value.string cs, Value.slice ac mc cc, Value.int IntKind.i64 bu, Value.int IntKind.i64 (f : Nat), Value.int IntKind.i64 c, Value.map (some bs), Value.map (some bt), Value.int IntKind.i64 S] 156)).alloc (Obj.cells (madeCells #[.map none] nn) 166)) = wa at *
  have XA := Hid.mk xa
  have HZA := Hid.mk hza
  have rc := ROW.out.cell (i := 0) (by omega)
  have rf := ROW.out.frozen
  have hgl : w.heap.size + 1 < wa.heap.size := by omega
  clear xa hza
  go_upto_region 3 with fail
  have B3 : Hid (Below w.heap.size w ((wa.setCell ⟨w.heap.size + 1, 0, none⟩ (.map (some wa.heap.size))).alloc (Obj.map #[] 0))) := (BA.out.setCell (p := ⟨w.heap.size + 1, 0, none⟩) (by show w.heap.size ≤ w.heap.size + 1; omega) _).alloc (by simp [World.setCell]; omega) _
  have x3 : ∀ o, ((wa.setCell ⟨w.heap.size + 1, 0, none⟩ (.map (some wa.heap.size))).alloc (Obj.map #[] 0)).cell? ⟨w.heap.size, o, none⟩ = #[Value.int IntKind.i64 ro, Value.int IntKind.i64 co, Value.string cs, Value.slice ac mc cc, Value.int IntKind.i64 bu, Value.int IntKind.i64 (f : Nat), Value.int IntKind.i64 c, Value.map (some bs), Value.map (some bt), Value.int IntKind.i64 S][o]? := by
    intro o
    rw [World.cell?_of_block (w := wa) ((Below.heap_alloc _ _ _ (by simp [World.setCell]; omega)).trans (Below.heap_setCell wa ⟨w.heap.size + 1, 0, none⟩ _ w.heap.size (by show w.heap.size ≠ w.heap.size + 1; omega)))]
    exact XA.out o
  have hrow3 : ((wa.setCell ⟨w.heap.size + 1, 0, none⟩ (.map (some wa.heap.size))).alloc (Obj.map #[] 0)).rowIs (w.heap.size + 1) 166 nn (fun i => if i = 0 then .map (some wa.heap.size) else .map none) := row_block ((ROW.out.set 0 (.map (some wa.heap.size))).congr fun i _ => rfl) (Below.heap_alloc _ _ _ (by simp [World.setCell]; omega))
  have C3 : Hid (CellSet ((wa.setCell ⟨w.heap.size + 1, 0, none⟩ (.map (some wa.heap.size))).alloc (Obj.map #[] 0)) wa.heap.size (fun _ => false)) := cellSet_made _ _ (by simp [World.setCell])
  have hz3 : ((wa.setCell ⟨w.heap.size + 1, 0, none⟩ (.map (some wa.heap.size))).alloc (Obj.map #[] 0)).heap.size = wa.heap.size + 1 := by simp [World.setCell]
  generalize ((wa.setCell ⟨w.heap.size + 1, 0, none⟩ (.map (some wa.heap.size))).alloc (Obj.map #[] 0)) = w3 at *
  have X3 := Hid.mk x3
  have ROW3 := Hid.mk hrow3
  have HZ3 := Hid.mk hz3
  have hz3a : wa.heap.size + 1 ≤ w3.heap.size := by omega
  have hbwa : w.heap.size + 2 ≤ wa.heap.size := by have := HZA.out; omega
  have y0 := x3 0
  have y1 := x3 1
  have y2 := x3 2
  have y3 := x3 3
  have y4 := x3 4
  have y5 := x3 5
  have y6 := x3 6
  have y7 := x3 7
  have y8 := x3 8
  have y9 := x3 9
  clear x3 hrow3 hz3 rc rf
  go_wp2_with fail
  refine (mayBegin_any ro co bu cs ac mc cc f c S bs bt n R w3 hs hfs (HB.out.below B3.out)).mono ?_
  rintro e w4 ⟨rfl, hb4⟩
  have HB4 := Hid.mk hb4
  have C4 : Hid (CellSet w4 wa.heap.size (fun _ => false)) := C3.out.below hb4
  have ROW4 := Hid.mk (rowIs_below ROW3.out hb4)
  have X4 : Hid (∀ o, w4.cell? ⟨w.heap.size, o, none⟩ = #[Value.int IntKind.i64 ro, Value.int IntKind.i64 co, Value.string cs, Value.slice ac mc cc, Value.int IntKind.i64 bu, Value.int IntKind.i64 (f : Nat), Value.int IntKind.i64 c, Value.map (some bs), Value.map (some bt), Value.int IntKind.i64 S][o]?) := fun o => (hb4.cell (p := ⟨w.heap.size, o, none⟩) (by show w.heap.size < _; omega)).trans (X3.out o)
  have hz4 := hb4.size
  obtain ⟨mb, hmb⟩ : ∃ mb, mb = onM n R f 0 := ⟨_, rfl⟩
  rw [← hmb]
  have HMB := Hid.mk hmb
  clear y0 y1 y2 y3 y4 y5 y6 y7 y8 y9 hb4 hmb
  go_upto_if 14 with fail
  go_cut [] (fun wx => CellSet wx wa.heap.size (fun z => z == f && mb) ∧ Only (fun k => k = wa.heap.size) w4 wx)
  case first =>
    cases mb with
    | true =>
      obtain ⟨D, hD, hk, hDf⟩ := C4.out
      obtain ⟨w5, hrun, q1, q2⟩ := (show w4.drew.ownsMap Tryd.prog 3 (unitElem (H := Unit)) wa.heap.size (Maps.size D) D from hD).update Tryd.lawInt Tryd.underlying166 (by have := cells_size hD hk; unfold maxLen; omega) (cellKey (c := f) (by omega)) (unitElem_mk (H := Unit))
      have Q1 := Hid.mk q1
      have Q2 := Hid.mk q2
      have HD := Hid.mk hD
      have HK := Hid.mk hk
      have HDF := Hid.mk hDf
      have z0 : w4.drew.cell? ⟨w.heap.size + 1, 0, none⟩ = some (.map (some wa.heap.size)) := ROW4.out.cell (i := 0) (by omega)
      have z5 : w4.drew.cell? ⟨w.heap.size, 5, none⟩ = some (.int .i64 (f : Int)) := X4.out 5
      clear q1 q2 hD hk hDf
      go_upto_region 4 with fail
      go_region
      all_goals (try go_wp2_with fail)
      all_goals go_meet
      all_goals (case rel =>
        refine ⟨⟨_, own_fit Q1.out, fun kl hkl => ?_, fun z hz => ?_⟩, ?_⟩
        · by_cases e : kl = .int .i64 (f : Int)
          · exact ⟨f, by omega, e⟩
          · rw [has_put_other e] at hkl
            exact HK.out kl hkl
        · by_cases e : z = f
          · subst e
            rw [has_put_same HD.out.isMap (Tryd.lawInt.key (cellKey (by omega)))]
            simp
          · rw [has_put_other (by intro hh; injection hh with _ hh; exact e (by omega)), HDF.out z hz]
            simp [e]
        · exact (Only.refl _ w4).drew.trans (Only.of_grown Q2.out) (fun _ _ e => e))
    | false =>
      go_wp2_with fail
      go_meet
      case rel => exact ⟨C4.out.same (fun z _ => by simp), Only.refl _ _⟩
  case rest =>
    obtain ⟨w5, rfl⟩ : ∃ q, q = wc := ⟨_, rfl⟩
    obtain ⟨hc5, ho5⟩ := hcut
    have O5 := Hid.mk ho5
    have C5 : Hid (CellSet w5 wa.heap.size (reachM co cs n R f 0)) := hc5.same (fun z _ => by rw [HMB.out]; show _ = (z == f && onM n R z 0); by_cases e : z = f; subst e; rfl; have e2 : (z == f) = false := (by simpa using e); rw [e2]; rfl)
    have ROW5 := Hid.mk (row_block ROW4.out (ho5.block (w.heap.size + 1) (by omega) (by omega)))
    have X5 : Hid (∀ o, w5.cell? ⟨w.heap.size, o, none⟩ = #[Value.int IntKind.i64 ro, Value.int IntKind.i64 co, Value.string cs, Value.slice ac mc cc, Value.int IntKind.i64 bu, Value.int IntKind.i64 (f : Nat), Value.int IntKind.i64 c, Value.map (some bs), Value.map (some bt), Value.int IntKind.i64 S][o]?) := fun o => (ho5.cell (p := ⟨w.heap.size, o, none⟩) (by show w.heap.size < _; omega) (by show ¬ (w.heap.size = wa.heap.size); omega)).trans (X4.out o)
    have hz5 := ho5.size
    have LA5 : Hid (LaysIn w5 (w.heap.size + 1) 1 (fun _ => wa.heap.size) (fun t => reachM co cs n R f t)) :=
      ⟨fun t ht => by rw [show t = 0 by omega]; exact ROW5.out.cell (i := 0) (by omega), fun t ht => by rw [show t = 0 by omega]; exact C5.out, fun s t hs ht _ => by omega, fun t ht => by omega⟩
    have BW5 : Hid (Below w.heap.size w w5) := (B3.out.trans (HB4.out.mono B3.out.size)).trans (ho5.below (by omega) (fun i e => by omega))
    clear hc5 ho5
    go_wp2
    have hf5 := ROW5.out.frozen
    go_loopw [23] (fun v23 wr => ∃ (k : Nat) (B : Nat → Nat), v23 = .int .i64 k ∧ k ≤ T ∧ LaysIn wr (w.heap.size + 1) (k + 1) B (fun t => reachM co cs n R f t) ∧ (∀ j, k < j → j < nn → wr.cell? ⟨w.heap.size + 1, j, none⟩ = some (.map none)) ∧ (∀ o, wr.frozen? ⟨w.heap.size + 1, o, none⟩ = false) ∧ (∀ t, t < k + 1 → w.heap.size ≤ B t) ∧ Below (w.heap.size + 1) w5 wr) (fun v23 _ => T - (intOf v23).toNat)
    case atStart => exact ⟨0, _, rfl, Nat.zero_le _, LA5.out, fun j h1 h2 => by have h := ROW5.out.cell (i := j) h2; rw [if_neg (by omega)] at h; exact h, hf5, fun t ht => by omega, Below.refl _ _⟩
    case round =>
      obtain ⟨w6, rfl⟩ : ∃ q, q = wr := ⟨_, rfl⟩
      obtain ⟨k, B, rfl, hk, hla, hrest, hfz, hlow, hb6⟩ := hrel
      have LA6 := Hid.mk hla
      have RE6 := Hid.mk hrest
      have FZ6 := Hid.mk hfz
      have LO6 := Hid.mk hlow
      have B6 := Hid.mk hb6
      have hz6 := hb6.size
      clear hla hrest hfz hlow hb6 hf5
      by_cases hlt : k < T
      · have BW6 : Hid (Below w.heap.size w w6) := BW5.out.trans (B6.out.mono (by omega))
        have X6 : Hid (∀ o, w6.cell? ⟨w.heap.size, o, none⟩ = #[Value.int IntKind.i64 ro, Value.int IntKind.i64 co, Value.string cs, Value.slice ac mc cc, Value.int IntKind.i64 bu, Value.int IntKind.i64 (f : Nat), Value.int IntKind.i64 c, Value.map (some bs), Value.map (some bt), Value.int IntKind.i64 S][o]?) := fun o => (B6.out.cell (p := ⟨w.heap.size, o, none⟩) (by show w.heap.size < _; omega)).trans (X5.out o)
        have y0 := X6.out 0
        have y1 := X6.out 1
        have y2 := X6.out 2
        have y3 := X6.out 3
        have y4 := X6.out 4
        have y5 := X6.out 5
        have y6 := X6.out 6
        have y7 := X6.out 7
        have y8 := X6.out 8
        have y9 := X6.out 9
        have ck := LA6.out.cells k (by omega)
        have c1 := RE6.out (k + 1) (by omega) (by omega)
        have hgl6 : w.heap.size + 1 < w6.heap.size := LA6.out.lt (by omega)
        have hkI : ((k : Nat) : Int) < (nn : Int) := by omega
        have hk1I : ((k : Nat) : Int) + 1 < (nn : Int) := by omega
        have hkn : k < nn := by omega
        have hk1n : k + 1 < nn := by omega
        have hwk : IntKind.i64.wrap (((k : Nat) : Int) + 1) = ((k : Nat) : Int) + 1 := wrap_mid (by omega) (by omega)
        have hge : 0 ≤ ((k : Nat) : Int) + 1 := by omega
        have htn : (((k : Nat) : Int) + 1).toNat = k + 1 := by omega
        have na1 : (⟨w.heap.size + 1, k + 1, none⟩ : Addr) ≠ ⟨w.heap.size + 1, k, none⟩ := fun hh => by injection hh with _ hh; omega
        have na2 : (⟨w.heap.size + 1, k, none⟩ : Addr) ≠ ⟨w.heap.size + 1, k + 1, none⟩ := fun hh => by injection hh with _ hh; omega
        have AFT : Hid (∀ u : World, Below w6.heap.size w6 u → Calls Tryd.prog 159 #[.agg #[Value.int IntKind.i64 ro, Value.int IntKind.i64 co, Value.string cs, Value.slice ac mc cc, Value.int IntKind.i64 bu, Value.int IntKind.i64 (f : Nat), Value.int IntKind.i64 c, Value.map (some bs), Value.map (some bt), Value.int IntKind.i64 S], .map (some (B k)), .int .i64 (k : Nat)] u fun e w' => ∃ b2, e = .returned (.map (some b2)) ∧ CellSet w' b2 (reachM co cs n R f (k + 1)) ∧ u.heap.size ≤ b2 ∧ Below u.heap.size u w') := fun u hu => by
          have h := after_any ro co bu cs ac mc cc f c S bs bt n (B k) k R (reachM co cs n R f k) u (HSD.out.below (BW6.out.trans (hu.mono BW6.out.size))) r1 r2 r3 r4 hs hsz (by omega) (HB.out.below (BW6.out.trans (hu.mono BW6.out.size))) ((LA6.out.sets k (by omega)).below hu) (fun z hz => ⟨free_lt (reach_in HF.out hz), reach_in HF.out hz⟩)
          unfold tripV at h
          exact h
        go_upto_region 8 with fail
        go_region_held3 (fun w' => w'.cell? ⟨w.heap.size, 0, none⟩ = some (Value.int .i64 ro) ∧ w'.cell? ⟨w.heap.size, 1, none⟩ = some (.int .i64 co) ∧ w'.cell? ⟨w.heap.size, 2, none⟩ = some (.string cs) ∧ w'.cell? ⟨w.heap.size, 3, none⟩ = some (.slice ac mc cc) ∧ w'.cell? ⟨w.heap.size, 4, none⟩ = some (.int .i64 bu) ∧ w'.cell? ⟨w.heap.size, 5, none⟩ = some (.int .i64 (f : Nat)) ∧ w'.cell? ⟨w.heap.size, 6, none⟩ = some (.int .i64 c) ∧ w'.cell? ⟨w.heap.size, 7, none⟩ = some (.map (some bs)) ∧ w'.cell? ⟨w.heap.size, 8, none⟩ = some (.map (some bt)) ∧ w'.cell? ⟨w.heap.size, 9, none⟩ = some (.int .i64 S) ∧ w'.cell? ⟨w.heap.size + 1, k, none⟩ = some (.map (some (B k)))) (first | go_keep | (refine ⟨by go_simp, by go_simp, by go_simp, by go_simp, by go_simp, by go_simp, by go_simp, by go_simp, by go_simp, by go_simp, ?_⟩; exact pk3))
          (first
            | (go_at_call 159; refine (AFT.out _ (by first | exact (Below.refl _ _).drew | exact Below.refl _ _)).mono ?_; rintro e w7 ⟨b2, rfl, hc7, hb2, hb7⟩; have HB7 := Hid.mk hb7; have HC7 := Hid.mk hc7; have HB2 := Hid.mk hb2; have p0 : w7.cell? ⟨w.heap.size, 0, none⟩ = some (Value.int .i64 ro) := cell_later hb7 y0; have p1 : w7.cell? ⟨w.heap.size, 1, none⟩ = some (.int .i64 co) := cell_later hb7 y1; have p2 : w7.cell? ⟨w.heap.size, 2, none⟩ = some (.string cs) := cell_later hb7 y2; have p3 : w7.cell? ⟨w.heap.size, 3, none⟩ = some (.slice ac mc cc) := cell_later hb7 y3; have p4 : w7.cell? ⟨w.heap.size, 4, none⟩ = some (.int .i64 bu) := cell_later hb7 y4; have p5 : w7.cell? ⟨w.heap.size, 5, none⟩ = some (.int .i64 (f : Nat)) := cell_later hb7 y5; have p6 : w7.cell? ⟨w.heap.size, 6, none⟩ = some (.int .i64 c) := cell_later hb7 y6; have p7 : w7.cell? ⟨w.heap.size, 7, none⟩ = some (.map (some bs)) := cell_later hb7 y7; have p8 : w7.cell? ⟨w.heap.size, 8, none⟩ = some (.map (some bt)) := cell_later hb7 y8; have p9 : w7.cell? ⟨w.heap.size, 9, none⟩ = some (.int .i64 S) := cell_later hb7 y9; have pk : w7.cell? ⟨w.heap.size + 1, k, none⟩ = some (.map (some (B k))) := cell_later hb7 ck; have pk3 : (w7.setCell ⟨w.heap.size + 1, k + 1, none⟩ (.map (some b2))).cell? ⟨w.heap.size + 1, k, none⟩ = some (.map (some (B k))) := (by rw [World.cell?_setCell_other _ _ _ _ (by intro hh; injection hh with _ hh; omega)]; exact pk); have p11 : w7.cell? ⟨w.heap.size + 1, k + 1, none⟩ = some (.map none) := cell_later hb7 c1; have p12 : w7.frozen? ⟨w.heap.size + 1, k + 1, none⟩ = false := (hb7.frozen (p := ⟨w.heap.size + 1, k + 1, none⟩) hgl6).trans (FZ6.out (k + 1)); clear hb7 hc7 hb2)
            | (fail "none"))
        have hb67 : Below w6.heap.size w6 w7 := (Below.refl _ w6).drew.trans (by exact HB7.out)
        have hz7 := hb67.size
        have hb2l : w6.heap.size ≤ b2 := HB2.out
        have LA7 : Hid (LaysIn (w7.setCell ⟨w.heap.size + 1, k + 1, none⟩ (.map (some b2))) (w.heap.size + 1) (k + 1 + 1) (fun t => if t = k + 1 then b2 else B t) (fun t => reachM co cs n R f t)) := (LA6.out.below hb67).push p11 HC7.out (fun t ht e => by have := (LA6.out.sets t ht).lt; omega) (by omega)
        have RE7 : Hid (∀ j, k + 1 < j → j < nn → (w7.setCell ⟨w.heap.size + 1, k + 1, none⟩ (.map (some b2))).cell? ⟨w.heap.size + 1, j, none⟩ = some (.map none)) := fun j h1 h2 => by
          rw [World.cell?_setCell_other _ _ _ _ (by intro hh; injection hh with _ hh; omega)]
          exact cell_later hb67 (RE6.out j (by omega) h2)
        have FZ7 : Hid (∀ o, (w7.setCell ⟨w.heap.size + 1, k + 1, none⟩ (.map (some b2))).frozen? ⟨w.heap.size + 1, o, none⟩ = false) := fun o => by
          rw [World.frozen?_setCell]
          exact (hb67.frozen (p := ⟨w.heap.size + 1, o, none⟩) hgl6).trans (FZ6.out o)
        have B7 : Hid (Below (w.heap.size + 1) w5 (w7.setCell ⟨w.heap.size + 1, k + 1, none⟩ (.map (some b2)))) := (B6.out.trans (hb67.mono (by omega))).setCell (p := ⟨w.heap.size + 1, k + 1, none⟩) (Nat.le_refl _) _
        clear hb67 y0 p0 y1 p1 y2 p2 y3 p3 y4 p4 y5 p5 y6 p6 y7 p7 y8 p8 y9 p9 ck c1 pk pk3 p11 p12
        go_wp2
        go_roundw
        case rel => exact ⟨k + 1, _, by go_num, by omega, LA7.out, RE7.out, FZ7.out, fun t ht => by show w.heap.size ≤ (if t = k + 1 then b2 else B t); by_cases e : t = k + 1; rw [if_pos e]; omega; rw [if_neg e]; exact LO6.out t (by omega), B7.out⟩
        case measure => simp [intOf]; omega
      · have hd : k = T := by omega
        subst hd
        have e : nn = k + 1 := by omega
        subst e
        go_wp2
        go_ret
        exact ⟨w.heap.size + 1, B, rfl, LA6.out, LO6.out, by omega, BW5.out.trans (B6.out.mono (by omega))⟩

end Go.Proofs.YtnkgpinadgacgaaDoor
