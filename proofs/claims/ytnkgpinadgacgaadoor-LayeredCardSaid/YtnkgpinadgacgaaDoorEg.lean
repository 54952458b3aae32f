/- Walk of keepLeadingToEnd. -/
import Derived.Test.YtnkgpinadgacgaaDoorEf
import Derived.Deep.LoopGhost
namespace Go.Proofs.YtnkgpinadgacgaaDoor
open Go.RowKit Go.Maps M

theorem sides_block {w w' : World} (h : SidesIn w) (e : w'.heap[0]? = w.heap[0]?) : SidesIn w' := by
  obtain ⟨h0, h1, h2, h3, h4, h5, h6, h7⟩ := h
  exact ⟨(cell_block e).trans h0, (cell_block e).trans h1, (cell_block e).trans h2, (cell_block e).trans h3, (cell_block e).trans h4, (cell_block e).trans h5, (cell_block e).trans h6, (cell_block e).trans h7⟩

set_option maxRecDepth 100000 in
set_option maxHeartbeats 8000000 in
theorem keep_any (ro co bu : Int) (cs : ByteArray) (ac : Option Addr) (mc cc : Nat) (f S : Int) (tt bs bt n gl T nn cl : Nat) (R : Nat → RuleM) (B : Nat → Nat) (F : Nat → Nat → Bool) (w : World) (hsd : SidesIn w) (r1 : 1 ≤ ro) (r2 : ro ≤ 6) (r3 : 1 ≤ co) (r4 : co ≤ 6) (hs : cs.size ≤ 36) (hsz : (cs.size : Int) = ro * co) (hT : T ≤ 100) (hnn : nn = T + 1) (hb : BansIn w bs bt cs.size n R)
    (hbB : ∀ t, t < nn → B t ≠ bs ∧ B t ≠ bt ∧ B t ≠ 0) (hl : LaysIn w gl nn B F) (hF : ∀ t z, F t z = true → z < cs.size ∧ freeB cs z = true) :
    Calls Tryd.prog 121 #[tripV ro co bu cs ac mc cc f (tt : Nat) bs bt S, .slice (some ⟨gl, 0, none⟩) nn cl] w fun e w' =>
      e = .returned (.tuple #[]) ∧ LaysIn w' gl nn B (fun t => keepJ cs.size T tt F (fun a b t => goesM co cs n R a b t) (T - t)) ∧ Only (fun k => ∃ t, t < nn ∧ k = B t) w w' := by
  have HSD := Hid.mk hsd
  have HB := Hid.mk hb
  have HBB := Hid.mk hbB
  have HLA := Hid.mk hl
  have HF := Hid.mk hF
  have HNN := Hid.mk hnn
  obtain ⟨G, hG⟩ : ∃ G : Nat → Nat → Nat → Bool, G = fun a b t => goesM co cs n R a b t := ⟨_, rfl⟩
  have HG := Hid.mk hG
  rw [← hG]
  have hTn : T < nn := by omega
  have hBl : ∀ t, t < nn → B t < w.heap.size := fun t ht => (hl.sets t ht).lt
  have HBL := Hid.mk hBl
  have hgl : gl < w.heap.size := hl.lt (by omega)
  have hnI : ((T : Nat) : Int) < (nn : Int) := by omega
  have hw1 : IntKind.i64.wrap ((nn : Int) - 1) = (T : Int) := by rw [wrap_mid (by omega) (by omega)]; omega
  have hw2 : IntKind.i64.wrap ((T : Int) - 1) = (T : Int) - 1 := wrap_mid (by omega) (by omega)
  clear hsd hb hbB hl hF hG hnn hBl
  unfold tripV
  go_enter Tryd.func121, Tryd.ntmps121
  go_upto_region 1 with fail
  have B0 : Hid (Below w.heap.size w ((w.alloc (Obj.cells #[Value.int IntKind.i64 ro, Value.int IntKind.i64 co, Value.string cs, Value.slice ac mc cc, Value.int IntKind.i64 bu, Value.int IntKind.i64 f, Value.int IntKind.i64 (tt : Nat), Value.map (some bs), Value.map (some bt), Value.int IntKind.i64 S] 156)).alloc (Obj.cells #[Value.slice (some ⟨gl, 0, none⟩) nn cl] 162))) := ((Below.refl _ w).alloc (Nat.le_refl _) _).alloc (by simp) _
  have x0 : ∀ o, ((w.alloc (Obj.cells #[Value.int IntKind.i64 ro, Value.int IntKind.i64 co, Value.string cs, Value.slice ac mc cc, Value.int IntKind.i64 bu, Value.int IntKind.i64 f, Value.int IntKind.i64 (tt : Nat), Value.map (some bs), Value.map (some bt), Value.int IntKind.i64 S] 156)).alloc (Obj.cells #[Value.slice (some ⟨gl, 0, none⟩) nn cl] 162)).cell? ⟨w.heap.size, o, none⟩ = #[Value.int IntKind.i64 ro, Value.int IntKind.i64 co, Value.string cs, Value.slice ac mc cc, Value.int IntKind.i64 bu, Value.int IntKind.i64 f, Value.int IntKind.i64 (tt : Nat), Value.map (some bs), Value.map (some bt), Value.int IntKind.i64 S][o]? := by
    intro o; go_simp
  have x1 : ((w.alloc (Obj.cells #[Value.int IntKind.i64 ro, Value.int IntKind.i64 co, Value.string cs, Value.slice ac mc cc, Value.int IntKind.i64 bu, Value.int IntKind.i64 f, Value.int IntKind.i64 (tt : Nat), Value.map (some bs), Value.map (some bt), Value.int IntKind.i64 S] 156)).alloc (Obj.cells #[Value.slice (some ⟨gl, 0, none⟩) nn cl] 162)).cell? ⟨w.heap.size + 1, 0, none⟩ = some (.slice (some ⟨gl, 0, none⟩) nn cl) := by go_simp
  have hz : ((w.alloc (Obj.cells #[Value.int IntKind.i64 ro, Value.int IntKind.i64 co, Value.string cs, Value.slice ac mc cc, Value.int IntKind.i64 bu, Value.int IntKind.i64 f, Value.int IntKind.i64 (tt : Nat), Value.map (some bs), Value.map (some bt), Value.int IntKind.i64 S] 156)).alloc (Obj.cells #[Value.slice (some ⟨gl, 0, none⟩) nn cl] 162)).heap.size = w.heap.size + 2 := by simp
  generalize ((w.alloc (Obj.cells #[Value.int IntKind.i64 ro, Value.int IntKind.i64 co, Value.string cs, Value.slice ac mc cc, Value.int IntKind.i64 bu, Value.int IntKind.i64 f, Value.int IntKind.i64 (tt : Nat), Value.map (some bs), Value.map (some bt), Value.int IntKind.i64 S] 156)).alloc (Obj.cells #[Value.slice (some ⟨gl, 0, none⟩) nn cl] 162)) = w0 at *
  have hzl : w.heap.size + 2 ≤ w0.heap.size := by omega
  have X0 := Hid.mk x0
  have X1 := Hid.mk x1
  have LA0 := Hid.mk (HLA.out.below B0.out)
  have d0 := LA0.out.cells T hTn
  clear x0 hz
  go_wp2_with fail
  refine (delEnd_any w.heap.size (B T) (F T) (fun x => !(x == tt)) w0 (LA0.out.sets T hTn) (fun c hc hfc u hu => end1_any c w.heap.size tt u ((hu.cell (p := ⟨w.heap.size, 6, none⟩) (by show w.heap.size < _; omega) (by show ¬ (w.heap.size = B T); have := HBL.out T hTn; omega)).trans (X0.out 6)))).mono ?_
  rintro e w2 ⟨rfl, hcs2, ho2⟩
  have LA2 := Hid.mk (LA0.out.turn hTn ho2 hcs2)
  have O2 : Hid (Only (fun k => ∃ t, t < nn ∧ k = B t) w0 w2) := ho2.mono (fun i _ e => ⟨T, hTn, e⟩)
  have hz2 := ho2.size
  clear hcs2 ho2 d0 x1
  go_upto_region 4 with fail
  have x5 : (w2.alloc (Obj.cells #[Value.int IntKind.i64 ((T : Int) - 1)] 3)).cell? ⟨w2.heap.size, 0, none⟩ = some (.int .i64 ((T : Int) - 1)) := by go_simp
  have f5 : (w2.alloc (Obj.cells #[Value.int IntKind.i64 ((T : Int) - 1)] 3)).frozen? ⟨w2.heap.size, 0, none⟩ = false := by go_simp
  have LA3 : Hid (LaysIn (w2.alloc (Obj.cells #[Value.int IntKind.i64 ((T : Int) - 1)] 3)) gl nn B (fun t => if t = T then (fun c => F T c && !(!(c == tt))) else F t)) := LA2.out.below ((Below.refl _ _).alloc (Nat.le_refl _) _)
  have O3 : Hid (Only (fun k => ∃ t, t < nn ∧ k = B t) w0 (w2.alloc (Obj.cells #[Value.int IntKind.i64 ((T : Int) - 1)] 3))) := O2.out.alloc _
  generalize (w2.alloc (Obj.cells #[Value.int IntKind.i64 ((T : Int) - 1)] 3)) = w3 at *
  have X5 := Hid.mk x5
  have F5 := Hid.mk f5
  clear x5 f5
  go_loopg [5] (T + 1) (fun gk v5 wr => ∃ (j P : Nat) (v : Int), v5 = .pointer (some ⟨P, 0, none⟩) ∧ j ≤ T ∧ T - j ≤ gk ∧ v = (T : Int) - 1 - (j : Int) ∧ wr.cell? ⟨P, 0, none⟩ = some (.int .i64 v) ∧ wr.frozen? ⟨P, 0, none⟩ = false ∧ w0.heap.size ≤ P ∧ LaysIn wr gl nn B (fun t => if T - j ≤ t then keepJ cs.size T tt F G (T - t) else F t) ∧ Only (fun k => ∃ t, t < nn ∧ k = B t) w0 wr)
  case atStart =>
    refine ⟨0, w2.heap.size, _, rfl, Nat.zero_le _, by omega, by omega, X5.out, F5.out, hz2, LA3.out.same fun t ht c hc => ?_, O3.out⟩
    have hnn := HNN.out
    by_cases e : t = T
    · subst e
      rw [if_pos rfl, if_pos (by omega), Nat.sub_self]
      simp [keepJ]
    · rw [if_neg e, if_neg (by omega)]
  case round =>
    obtain ⟨wa, rfl⟩ : ∃ q, q = wr := ⟨_, rfl⟩
    obtain ⟨j, P, v, rfl, hj, hgk, hv, c5, f5, hP, hla, ho⟩ := hrel
    have hza := ho.size
    have OA := Hid.mk ho
    have LAA := Hid.mk hla
    have HV := Hid.mk hv
    clear hla ho hv
    by_cases h0 : 0 ≤ v
    · obtain ⟨s, rfl⟩ := Int.eq_ofNat_of_zero_le h0
      have hjs : j + 1 + s = T := by have := HV.out; omega
      have hnn2a : nn ≤ T + 1 := by have := HNN.out; omega
      have hnn2b : T + 1 ≤ nn := by have := HNN.out; omega
      have hsn : s < nn := by omega
      have hsnI : (s : Int) < (nn : Int) := by omega
      have hws : IntKind.i64.wrap ((s : Int) - 1) = (s : Int) - 1 := wrap_mid (by omega) (by omega)
      have d3 := LAA.out.cells s hsn
      have y1 := (OA.out.cell (p := ⟨w.heap.size + 1, 0, none⟩) (by show w.heap.size + 1 < _; omega) (by rintro ⟨t, ht, e⟩; have := HBL.out t ht; dsimp only at e; omega)).trans X1.out
      have hset : Hid (CellSet wa (B s) (F s)) := (LAA.out.sets s hsn).same (fun c hc => by rw [if_neg (by omega)])
      have hset1 : Hid (CellSet wa (B (s + 1)) (keepJ cs.size T tt F G j)) := (LAA.out.sets (s + 1) (by omega)).same (fun c hc => by rw [if_pos (by omega), show T - (s + 1) = j by omega])
      have C5 := Hid.mk c5
      have CLO : Hid (∀ c : Nat, c < 36 → F s c = true → ∀ u : World, Only (fun k => k = B s) wa u → Calls Tryd.prog 162 #[.int .i64 (c : Int), .agg #[], .pointer (some ⟨w.heap.size, 0, none⟩), .pointer (some ⟨w.heap.size + 1, 0, none⟩), .pointer (some ⟨P, 0, none⟩)] u fun e u' => e = .returned (.bool (!anyB (fun z => keepJ cs.size T tt F G j z && G c z s) cs.size)) ∧ Below u.heap.size u u') := fun c hc hfc u hu => by
        have hgo : Only (fun k => ∃ t, t < nn ∧ k = B t) w0 u := OA.out.trans hu (fun i _ e => ⟨s, hsn, e⟩)
        have hBu : ∀ t, t < nn → B t < w.heap.size := HBL.out
        have hsdu : SidesIn u := by
          have hs0 := HSD.out
          have hb0 : 0 < w.heap.size := World.block_lt_of_cell? _ _ hs0.1
          exact sides_block hs0 ((hgo.block 0 (by omega) (by rintro ⟨t, ht, e⟩; exact (HBB.out t ht).2.2 e.symm)).trans (B0.out.block 0 hb0))
        have hbu : BansIn u bs bt cs.size n R := HB.out.block ((hgo.block bs (by have := HB.out.lt; omega) (by rintro ⟨t, ht, e⟩; exact (HBB.out t ht).1 e.symm)).trans (B0.out.block bs HB.out.lt.1)) ((hgo.block bt (by have := HB.out.lt; omega) (by rintro ⟨t, ht, e⟩; exact (HBB.out t ht).2.1 e.symm)).trans (B0.out.block bt HB.out.lt.2))
        obtain ⟨hcs, hcf⟩ := HF.out s c hfc
        rw [HG.out]
        refine lead2_any ro co bu cs ac mc cc f tt S bs bt n c s w.heap.size (w.heap.size + 1) P gl nn cl (B (s + 1)) R (keepJ cs.size T tt F (fun a b t => goesM co cs n R a b t) j) u hsdu r1 r2 r3 r4 hs hsz (by omega) hbu hcs hcf (fun o => (hgo.cell (p := ⟨w.heap.size, o, none⟩) (by show w.heap.size < _; omega) (by rintro ⟨t, ht, e⟩; have := hBu t ht; dsimp only at e; omega)).trans (X0.out o)) ((hgo.cell (p := ⟨w.heap.size + 1, 0, none⟩) (by show w.heap.size + 1 < _; omega) (by rintro ⟨t, ht, e⟩; have := hBu t ht; dsimp only at e; omega)).trans X1.out) ((hu.cell (p := ⟨P, 0, none⟩) (World.block_lt_of_cell? _ _ C5.out) (by show ¬ P = B s; have := hBu s hsn; omega)).trans C5.out) (by omega) ((cell_block (hu.block gl (by have := LAA.out.lt (by omega); omega) (fun e => LAA.out.ne s hsn e.symm))).trans (LAA.out.cells (s + 1) (by omega))) ?_
        have h := hset1.out.block (hu.block _ hset1.out.lt (fun e => by have := LAA.out.inj _ _ (by omega) hsn e; omega))
        rw [HG.out] at h
        exact h
      go_wp2_with fail
      refine (delLead_any w.heap.size (w.heap.size + 1) P (B s) (F s) (fun c => !anyB (fun z => keepJ cs.size T tt F G j z && G c z s) cs.size) wa hset.out CLO.out).mono ?_
      rintro e w4 ⟨rfl, hcs4, ho4⟩
      have LA4 : Hid (LaysIn w4 gl nn B (fun t => if T - (j + 1) ≤ t then keepJ cs.size T tt F G (T - t) else F t)) := (LAA.out.turn hsn ho4 hcs4).same fun t ht c hc => by
        by_cases e : t = s
        · subst e
          rw [if_pos rfl, if_pos (by omega), show T - t = j + 1 by omega]
          show (F t c && !(!anyB (fun z => keepJ cs.size T tt F G j z && G c z t) cs.size)) = (F (T - (j + 1)) c && anyB (fun y => keepJ cs.size T tt F G j y && G c y (T - (j + 1))) cs.size)
          rw [show T - (j + 1) = t by omega, Bool.not_not]
        · rw [if_neg e]
          by_cases e2 : T - j ≤ t
          · rw [if_pos e2, if_pos (by omega)]
          · rw [if_neg e2, if_neg (by omega)]
      have O4 : Hid (Only (fun k => ∃ t, t < nn ∧ k = B t) w0 w4) := OA.out.trans ho4 (fun i _ e => ⟨s, hsn, e⟩)
      have e5 : w4.cell? ⟨P, 0, none⟩ = some (.int .i64 (s : Int)) := (ho4.cell (p := ⟨P, 0, none⟩) (World.block_lt_of_cell? _ _ C5.out) (by show ¬ P = B s; have := HBL.out s hsn; omega)).trans C5.out
      have hz4 := ho4.size
      have HJ := Hid.mk hjs
      clear hcs4 ho4 c5 f5 d3 y1 hjs
      go_wp2
      go_roundg (T - (j + 1))
      case rel => exact ⟨j + 1, w4.heap.size, (s : Int) - 1, rfl, by have := HJ.out; omega, Nat.le_refl _, by have := HJ.out; omega, by go_simp; try exact hws, by go_simp, by omega, LA4.out.below ((Below.refl _ _).alloc (Nat.le_refl _) _), O4.out.alloc _⟩
      case measure => have := HJ.out; omega
    · have hjT : j = T := by have := HV.out; omega
      subst hjT
      go_wp2
      go_end0
      refine ⟨rfl, LAA.out.same fun t ht c hc => by rw [if_pos (by omega)], ?_⟩
      exact ((Only.of_below B0.out : Only (fun _ => False) w w0).mono (fun _ _ e => e.elim)).trans OA.out (fun _ _ e => e)

end Go.Proofs.YtnkgpinadgacgaaDoor
