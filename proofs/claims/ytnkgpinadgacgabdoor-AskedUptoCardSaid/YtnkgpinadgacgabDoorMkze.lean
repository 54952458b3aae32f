/- Several texts in one: Ck, De. -/
import Derived.Test.YtnkgpinadgacgabDoorMkzd
import Derived.Deep.QuietTactic
import Derived.BigQuiet
import Derived.Test.YtnkgpinadgacgabDoorMkz
import Derived.Deep.RegionHeld3
import Derived.Deep.RegionLaw
import Derived.Deep.DeepCutAuto
import Derived.RegionTactic
namespace Go.Proofs.YtnkgpinadgacgabDoor
open Go.RowKit M
theorem Tryd.infoIntList : (Tryd.prog.info? 22).map (fun i => (i.zero, i.size, i.bytes)) = some (some (.slice none 0 0), 1, 24) := by kernel_rfl

def extG (G : Nat → Nat) (k g : Nat) (j : Nat) : Nat := if j = k then g else G j

theorem extG_at (G : Nat → Nat) (k g : Nat) : extG G k g k = g := by unfold extG; rw [if_pos rfl]

theorem extG_old {G : Nat → Nat} {k g j : Nat} (h : j ≠ k) : extG G k g j = G j := by unfold extG; rw [if_neg h]

end Go.Proofs.YtnkgpinadgacgabDoor

namespace Go.Proofs.YtnkgpinadgacgabDoor
open Go.RowKit M
/-- The row of a ground, as far as its first k places were laid. -/
def gndV (ro co : Int) (cs : ByteArray) (G C : Nat → Nat) (k : Nat) (j : Nat) : Value := if j < k ∧ freeB cs j = true then .slice (some ⟨G j, 0, none⟩) (mvL ro co cs j).length (C j) else .slice none 0 0

/-- A ground in memory, as far as its first k places were laid. -/
structure GroundIn (wr : World) (gm k : Nat) (G C : Nat → Nat) (ro co : Int) (cs : ByteArray) : Prop where
  row : wr.rowIs gm 22 cs.size (gndV ro co cs G C k)
  lists : ∀ j, j < k → freeB cs j = true → ∀ i, i < (mvL ro co cs j).length → wr.cell? ⟨G j, i, none⟩ = (ints (mvL ro co cs j))[i]?
  low : ∀ j, j < k → freeB cs j = true → gm < G j

theorem gnd_nil {w : World} {gm : Nat} {ro co : Int} {cs : ByteArray} (h : w.rowIs gm 22 cs.size (fun _ => .slice none 0 0)) : GroundIn w gm 0 (fun _ => 0) (fun _ => 0) ro co cs := by
  refine ⟨h.congr fun j _ => ?_, fun j hj => absurd hj (Nat.not_lt_zero j), fun j hj => absurd hj (Nat.not_lt_zero j)⟩
  unfold gndV
  rw [if_neg (fun hh => absurd hh.1 (Nat.not_lt_zero j))]

theorem GroundIn.below {w w' : World} {gm k : Nat} {G C : Nat → Nat} {ro co : Int} {cs : ByteArray} (h : GroundIn w gm k G C ro co cs) (hb : Below w.heap.size w w') : GroundIn w' gm k G C ro co cs := by
  refine ⟨rowIs_below h.row hb, fun j h1 h2 i hi => ?_, h.low⟩
  have hl := h.lists j h1 h2 i hi
  have hs : (ints (mvL ro co cs j))[i]? = some ((ints (mvL ro co cs j))[i]'(by simpa [ints] using hi)) := List.getElem?_eq_getElem _
  rw [hs] at hl ⊢
  exact cell_later hb hl

theorem GroundIn.setOther {w : World} {gm k b o : Nat} {v : Value} {G C : Nat → Nat} {ro co : Int} {cs : ByteArray} (h : GroundIn w gm k G C ro co cs) (hb : b < gm) : GroundIn (w.setCell ⟨b, o, none⟩ v) gm k G C ro co cs := by
  refine ⟨h.row.setOther (by show gm ≠ b; omega) _, fun j h1 h2 i hi => ?_, h.low⟩
  have hl := h.low j h1 h2
  rw [World.cell?_setCell_other _ _ _ _ (by intro hh; have := congrArg Addr.block hh; simp at this; omega)]
  exact h.lists j h1 h2 i hi

/-- A place that is not free stays as it is. -/
theorem GroundIn.skip {w : World} {gm k : Nat} {G C : Nat → Nat} {ro co : Int} {cs : ByteArray} (h : GroundIn w gm k G C ro co cs) (hf : freeB cs k = false) : GroundIn w gm (k + 1) G C ro co cs := by
  have hk : ∀ j, j < k + 1 → freeB cs j = true → j < k := fun j hj hfj => by
    by_cases e : j = k
    · rw [e, hf] at hfj; cases hfj
    · omega
  refine ⟨h.row.congr fun j _ => ?_, fun j h1 h2 => h.lists j (hk j h1 h2) h2, fun j h1 h2 => h.low j (hk j h1 h2) h2⟩
  unfold gndV
  by_cases e : j < k ∧ freeB cs j = true
  · rw [if_pos e, if_pos ⟨by omega, e.2⟩]
  · rw [if_neg e, if_neg (fun hh => e ⟨hk j hh.1 hh.2, hh.2⟩)]

/-- One more place is laid. -/
theorem GroundIn.store {w w4 : World} {gm k g c : Nat} {G C : Nat → Nat} {ro co : Int} {cs : ByteArray} (h : GroundIn w gm k G C ro co cs) (hb : Below w.heap.size w w4) (hf : freeB cs k = true) (hg : w.heap.size ≤ g)
    (hl : ∀ i, i < (mvL ro co cs k).length → w4.cell? ⟨g, i, none⟩ = (ints (mvL ro co cs k))[i]?) :
    GroundIn (w4.setCell ⟨gm, k, none⟩ (.slice (some ⟨g, 0, none⟩) (mvL ro co cs k).length c)) gm (k + 1) (extG G k g) (extG C k c) ro co cs := by
  have h4 := h.below hb
  have hgl := h.row.lt
  refine ⟨(h4.row.set k _).congr fun j _ => ?_, fun j h1 h2 i hi => ?_, fun j h1 h2 => ?_⟩
  · unfold gndV
    by_cases e : j = k
    · subst e; rw [if_pos rfl, if_pos ⟨by omega, hf⟩, extG_at, extG_at]
    · rw [if_neg e, extG_old e, extG_old e]
      by_cases e2 : j < k ∧ freeB cs j = true
      · rw [if_pos e2, if_pos ⟨by omega, e2.2⟩]
      · rw [if_neg e2, if_neg (fun hh => e2 ⟨by omega, hh.2⟩)]
  · by_cases e : j = k
    · subst e
      rw [extG_at, World.cell?_setCell_other _ _ _ _ (by intro hh; cases hh; omega)]
      exact hl i hi
    · rw [extG_old e]
      have hlo := h.low j (by omega) h2
      rw [World.cell?_setCell_other _ _ _ _ (by intro hh; have := congrArg Addr.block hh; simp at this; omega)]
      exact h4.lists j (by omega) h2 i hi
  · by_cases e : j = k
    · subst e; rw [extG_at]; omega
    · rw [extG_old e]; exact h.low j (by omega) h2

set_option maxRecDepth 100000 in
set_option maxHeartbeats 4000000 in
theorem newGround_any (ro co bu : Int) (cs : ByteArray) (ac : Option Addr) (m cc : Nat) (w : World) (hs : cs.size ≤ 36) (r1 : 1 ≤ ro) (r2 : ro ≤ 6) (h1 : 1 ≤ co) (h2 : co ≤ 6) (hsd : SidesIn w) :
    Calls Tryd.prog 78 #[.agg #[.int .i64 ro, .int .i64 co, .string cs, .slice ac m cc, .int .i64 bu]] w fun e w' => ∃ gm G C, e = .returned (.agg #[.int .i64 m, .slice (some ⟨gm, 0, none⟩) cs.size cs.size]) ∧ w.heap.size ≤ gm ∧ GroundIn w' gm cs.size G C ro co cs ∧ Below w.heap.size w w' := by
  have HSD := Hid.mk hsd
  obtain ⟨i0, hi0, hi1, hi2, hi3⟩ := info_parts Tryd.infoIntList
  have hmk : ∀ u : World, (Instr.makeSlice 29 (.int .i64 (cs.size : Int)) (.int .i64 (cs.size : Int))).run Tryd.prog u = .ok (.slice (some ⟨u.heap.size, 0, none⟩) cs.size cs.size) (u.alloc (.cells (madeCells #[.slice none 0 0] cs.size) 22)) := fun u => by
    have h := run_make (P := Tryd.prog) u 29 22 i0 (.slice none 0 0) Tryd.underlying29 hi0 hi1 .i64 .i64 (cs.size : Int) (cs.size : Int) (by omega) (Int.le_refl _) (by rw [hi3]; omega) (by omega)
    simpa [hi2, Value.cells] using h
  clear hsd
  go_enter Tryd.func78, Tryd.ntmps78
  go_upto_region 1 with fail
  go_cut [3] (fun v3 wx => ∃ B3 gm, v3 = .pointer (some ⟨B3, 0, none⟩) ∧ B3 ≠ gm ∧ w.heap.size + 2 ≤ B3 ∧ w.heap.size + 2 ≤ gm ∧ gm < wx.heap.size ∧ (∀ o, wx.cell? ⟨B3, o, none⟩ = #[Value.int .i64 m, .slice (some ⟨gm, 0, none⟩) cs.size cs.size][o]?) ∧ wx.rowIs gm 22 cs.size (fun _ => .slice none 0 0) ∧
      (∀ o, wx.cell? ⟨w.heap.size, o, none⟩ = #[Value.int .i64 ro, .int .i64 co, .string cs, .slice ac m cc, .int .i64 bu][o]?) ∧ (∀ o, wx.cell? ⟨w.heap.size + 1, o, none⟩ = #[Value.int .i64 0, .slice none 0 0][o]?) ∧ (∀ o, wx.frozen? ⟨w.heap.size + 1, o, none⟩ = false) ∧ Below w.heap.size w wx)
  case first =>
    go_region
    all_goals (go_wp2_with fail)
    all_goals go_meet
    · case rel =>
        refine ⟨w.heap.size + 1 + 1 + 1, w.heap.size + 1 + 1, rfl, by omega, by omega, by omega, by go_simp, fun o => by go_simp, ?_, fun o => by go_simp, fun o => by go_simp, fun o => by go_simp, ?_⟩
        · exact (rowIs_below (nilRow cs.size ((w.alloc (Obj.cells #[Value.int IntKind.i64 ro, Value.int IntKind.i64 co, Value.string cs, .slice ac m cc, Value.int IntKind.i64 bu] 28)).alloc (Obj.cells #[Value.int IntKind.i64 0, .slice none 0 0] 115)) 22 _ (by simp)) ((Below.refl _ _).alloc (Nat.le_refl _) _)).drew
        · exact (((((Below.refl _ w).alloc (Nat.le_refl _) _).alloc (by simp) _).alloc (by simp; omega) _).alloc (by simp; omega) _).drew
    · case rel =>
        refine ⟨w.heap.size + 1 + 1, w.heap.size + 1 + 1 + 1, rfl, by omega, by omega, by omega, by go_simp, fun o => by go_simp, ?_, fun o => by go_simp, fun o => by go_simp, fun o => by go_simp, ?_⟩
        · exact (nilRow cs.size (((w.alloc (Obj.cells #[Value.int IntKind.i64 ro, Value.int IntKind.i64 co, Value.string cs, .slice ac m cc, Value.int IntKind.i64 bu] 28)).alloc (Obj.cells #[Value.int IntKind.i64 0, .slice none 0 0] 115)).alloc (Obj.cells #[Value.int IntKind.i64 m, .slice (some ⟨w.heap.size + 1 + 1 + 1, 0, none⟩) cs.size cs.size] 115)) 22 _ (by simp)).drew
        · exact (((((Below.refl _ w).alloc (Nat.le_refl _) _).alloc (by simp) _).alloc (by simp; omega) _).alloc (by simp; omega) _).drew
  case rest =>
    obtain ⟨wx, rfl⟩ : ∃ q, q = wc := ⟨_, rfl⟩
    obtain ⟨B3, gm, rfl, hne, hB3, hgm, hgml, x3, hrow, yc, rc, rf, hbw⟩ := hcut
    have H0 := Hid.mk (gnd_nil (ro := ro) (co := co) hrow)
    have HBW := Hid.mk hbw
    have X3 := Hid.mk x3
    have YC := Hid.mk yc
    have RC := Hid.mk rc
    have RF := Hid.mk rf
    have hB3l : B3 < wx.heap.size := World.block_lt_of_cell? _ _ (x3 0)
    have hzx : w.heap.size + 1 < wx.heap.size := World.block_lt_of_cell? _ _ (rc 0)
    clear hrow hbw rc rf yc hmk
    go_wp2
    clear x3
    go_loopw [16] (fun v16 wr => ∃ (k : Nat) (G C : Nat → Nat), k ≤ cs.size ∧ v16 = .int .i64 k ∧ GroundIn wr gm k G C ro co cs ∧ (∀ o, wr.cell? ⟨B3, o, none⟩ = #[Value.int .i64 m, .slice (some ⟨gm, 0, none⟩) cs.size cs.size][o]?) ∧ Below (w.heap.size + 2) wx wr) (fun v16 _ => cs.size - (intOf v16).toNat)
    case atStart => exact ⟨0, fun _ => 0, fun _ => 0, Nat.zero_le _, rfl, H0.out, X3.out, Below.refl _ _⟩
    case round =>
      obtain ⟨k, G, C, hk, rfl, hg, hb3, hbr⟩ := hrel
      have HG := Hid.mk hg
      have HB3 := Hid.mk hb3
      have HBR := Hid.mk hbr
      have hzr := hbr.size
      have yr : ∀ o, wr.cell? ⟨w.heap.size, o, none⟩ = #[Value.int .i64 ro, .int .i64 co, .string cs, .slice ac m cc, .int .i64 bu][o]? := fun o => (hbr.cell (p := ⟨w.heap.size, o, none⟩) (by show w.heap.size < w.heap.size + 2; omega)).trans (YC.out o)
      have YR := Hid.mk yr
      by_cases hlt : k < cs.size
      · clear hg hbr hb3
        go_wp2_with fail
        refine (gfree_any _ _ _ _ _ _ _ (by unfold maxLen; omega)).mono ?_
        rintro e w4 ⟨rfl, hb4⟩
        have HB4 := Hid.mk hb4
        have HG4 := Hid.mk (HG.out.below hb4)
        have hz4 := hb4.size
        have b34 := cell_later hb4 (HB3.out 0)
        have b35 := cell_later hb4 (HB3.out 1)
        have BR4 : Hid (Below (w.heap.size + 2) wx w4) := HBR.out.trans (hb4.mono (by omega))
        have B34 : Hid (∀ o, w4.cell? ⟨B3, o, none⟩ = #[Value.int .i64 m, .slice (some ⟨gm, 0, none⟩) cs.size cs.size][o]?) := fun o => (hb4.cell (p := ⟨B3, o, none⟩) (by show B3 < wr.heap.size; omega)).trans (HB3.out o)
        have y0 := cell_later hb4 (yr 0)
        have y1 := cell_later hb4 (yr 1)
        have y2 := cell_later hb4 (yr 2)
        have y3 := cell_later hb4 (yr 3)
        have y4 := cell_later hb4 (yr 4)
        have HSD4 : Hid (SidesIn w4) := HSD.out.below (HBW.out.trans (BR4.out.mono (by omega)))
        have hz1 : w.heap.size < w4.heap.size := by omega
        have hz2 : B3 < w4.heap.size := by omega
        have hz3 : gm < w4.heap.size := by omega
        clear hb4 yr
        by_cases hf : freeB cs k = true
        · have hc0 := HG4.out.row.cell (i := k) hlt
          have hcf := HG4.out.row.frozen
          rw [show gndV ro co cs G C k k = .slice none 0 0 by unfold gndV; rw [if_neg (fun hh => Nat.lt_irrefl k hh.1)]] at hc0
          rw [hf]
          have n1 : gm ≠ w.heap.size := by omega
          have n2 : w.heap.size ≠ gm := by omega
          have n3 : gm ≠ B3 := fun hh => hne hh.symm
          have n4 : (⟨B3, 1, none⟩ : Addr) ≠ ⟨gm, k, none⟩ := fun hh => hne (congrArg Addr.block hh)
          have n5 : (⟨gm, k, none⟩ : Addr) ≠ ⟨B3, 1, none⟩ := fun hh => n3 (congrArg Addr.block hh)
          have n6 : ∀ o, (⟨gm, k, none⟩ : Addr) ≠ ⟨w.heap.size, o, none⟩ := fun o hh => n1 (congrArg Addr.block hh)
          go_upto_region 6 with fail
          go_region_held3 (fun w' => w'.cell? ⟨w.heap.size, 0, none⟩ = some (.int .i64 ro) ∧ w'.cell? ⟨w.heap.size, 1, none⟩ = some (.int .i64 co) ∧ w'.cell? ⟨w.heap.size, 2, none⟩ = some (.string cs) ∧ w'.cell? ⟨w.heap.size, 3, none⟩ = some (.slice ac m cc) ∧ w'.cell? ⟨w.heap.size, 4, none⟩ = some (.int .i64 bu) ∧ w'.cell? ⟨B3, 1, none⟩ = some (.slice (some ⟨gm, 0, none⟩) cs.size cs.size)) (go_keep)
            (first
              | (go_at_call_of 77 (Value.int IntKind.i64 (k : Int)); refine (moves_any ro co bu cs _ k _ (HSD4.out.below (by exact (Below.refl _ _).drew)) r1 r2 h1 h2 (by omega) hs).mono ?_; rintro e w5 ⟨g5, c5, rfl, hg5, ho5, hb5⟩; have HO5 := Hid.mk ho5; have HG5 := Hid.mk hg5; have HB5 := Hid.mk hb5; have q0 : w5.cell? ⟨w.heap.size, 0, none⟩ = some (.int .i64 ro) := (hb5.cell (p := ⟨w.heap.size, 0, none⟩) hz1).trans y0; have q1 : w5.cell? ⟨w.heap.size, 1, none⟩ = some (.int .i64 co) := (hb5.cell (p := ⟨w.heap.size, 1, none⟩) hz1).trans y1; have q2 : w5.cell? ⟨w.heap.size, 2, none⟩ = some (.string cs) := (hb5.cell (p := ⟨w.heap.size, 2, none⟩) hz1).trans y2; have q3 : w5.cell? ⟨w.heap.size, 3, none⟩ = some (.slice ac m cc) := (hb5.cell (p := ⟨w.heap.size, 3, none⟩) hz1).trans y3; have q4 : w5.cell? ⟨w.heap.size, 4, none⟩ = some (.int .i64 bu) := (hb5.cell (p := ⟨w.heap.size, 4, none⟩) hz1).trans y4; have q5 : w5.cell? ⟨B3, 1, none⟩ = some (.slice (some ⟨gm, 0, none⟩) cs.size cs.size) := (hb5.cell (p := ⟨B3, 1, none⟩) hz2).trans b35; have q6 : w5.cell? ⟨gm, k, none⟩ = some (.slice none 0 0) := (hb5.cell (p := ⟨gm, k, none⟩) hz3).trans hc0; have q7 : w5.frozen? ⟨gm, k, none⟩ = false := (hb5.frozen (p := ⟨gm, k, none⟩) hz3).trans (hcf k); clear ho5 hg5 hb5))
          have hb45 : Below w4.heap.size w4 w5 := ((Below.refl _ w4).drew).trans (by exact HB5.out)
          have HG6 := Hid.mk (HG4.out.store (g := g5) (c := c5) hb45 hf (by exact HG5.out) (fun i hi => own_cell HO5.out hi))
          have HB6 : Hid (∀ o, (w5.setCell ⟨gm, k, none⟩ (.slice (some ⟨g5, 0, none⟩) (mvL ro co cs k).length c5)).cell? ⟨B3, o, none⟩ = #[Value.int .i64 m, .slice (some ⟨gm, 0, none⟩) cs.size cs.size][o]?) := fun o => by
            rw [World.cell?_setCell_other _ _ _ _ (by intro hh; exact n3 (congrArg Addr.block hh)), hb45.cell (p := ⟨B3, o, none⟩) (by exact hz2)]
            exact B34.out o
          have BR6 : Hid (Below (w.heap.size + 2) wx (w5.setCell ⟨gm, k, none⟩ (.slice (some ⟨g5, 0, none⟩) (mvL ro co cs k).length c5))) := (BR4.out.trans (hb45.mono (by omega))).setCell (by exact hgm) _
          clear hb45 q0 q1 q2 q3 q4 q5 q6 q7 hc0 hcf
          go_wp2
          go_roundw
          case rel => exact ⟨k + 1, extG G k g5, extG C k c5, by omega, by go_num, HG6.out, HB6.out, BR6.out⟩
          case measure => simp [intOf]; omega
        · rw [show freeB cs k = false by simpa using hf]
          go_wp2
          go_roundw
          case rel => exact ⟨k + 1, G, C, by omega, by go_num, HG4.out.skip (by simpa using hf), B34.out, BR4.out⟩
          case measure => simp [intOf]; omega
      · have hd : k = cs.size := by omega
        subst hd
        have b0 := hb3 0
        have b1 := hb3 1
        have r0 : ∀ o, wr.cell? ⟨w.heap.size + 1, o, none⟩ = #[Value.int .i64 0, .slice none 0 0][o]? := fun o => (hbr.cell (p := ⟨w.heap.size + 1, o, none⟩) (by show w.heap.size + 1 < w.heap.size + 2; omega)).trans (RC.out o)
        have r1 : ∀ o, wr.frozen? ⟨w.heap.size + 1, o, none⟩ = false := fun o => (hbr.frozen (p := ⟨w.heap.size + 1, o, none⟩) (by show w.heap.size + 1 < w.heap.size + 2; omega)).trans (RF.out o)
        clear hg hbr
        go_wp2
        refine bodyPost_ret (v := .agg #[.int .i64 m, .slice (some ⟨gm, 0, none⟩) cs.size cs.size]) (by simp [results, Tryd.results78]; go_simp) rfl ⟨gm, G, C, rfl, by omega, ?_, ?_⟩
        · exact (HG.out.setOther (by omega)).setOther (by omega)
        · exact ((HBW.out.trans (HBR.out.mono (by omega))).setCell (by show w.heap.size ≤ w.heap.size + 1; omega) _).setCell (by show w.heap.size ≤ w.heap.size + 1; omega) _

end Go.Proofs.YtnkgpinadgacgabDoor
