/- Several texts in one: Dp, Dq, Dr. -/
import Derived.Test.YtnkgpinadgacgaaDoorQj
import Derived.Test.YtnkgpinadgacgaaDoorQl
import Derived.Test.YtnkgpinadgacgaaDoorQd
import Derived.Deep.QuietTactic
import Derived.BigQuiet
import Derived.Deep.RegionHeld3
namespace Go.Proofs.YtnkgpinadgacgaaDoor
open Go.RowKit M
theorem cellsOf_next (f : Nat → Int) (k : Nat) : cellsOf f (k + 1) = cellsOf f k ++ [(f k).toNat] := by
  unfold cellsOf
  rw [List.range_succ, List.map_append]; rfl

set_option maxRecDepth 100000 in
set_option maxHeartbeats 4000000 in
theorem ends_any (ro co bu : Int) (cs : ByteArray) (b off m cc gf cf gr cr cnt : Nat) (fr tt : Nat → Int) (w : World) (hs : cs.size ≤ 36) (hm : m ≤ 4) (hm1 : 1 ≤ m) (hq1 : Good cs m (cellsOf fr m)) (hq2 : Good cs m (cellsOf tt m)) (ht : TabIn w cs gf gr) (hcs : CartsIn w b off m fr tt) (hf : ∀ k, k < m → 0 ≤ fr k ∧ 0 ≤ tt k) :
    Calls Tryd.prog 86 #[tabV ro co bu cs (some ⟨b, off, none⟩) m cc gf cf gr cr cnt] w fun e w' => e = .returned (.tuple #[.int .i64 (numOf (frB cs) cs.size (cellsOf fr m) : Nat), .int .i64 (numOf (frB cs) cs.size (cellsOf tt m) : Nat)]) ∧ Below w.heap.size w w' := by
  have HT := Hid.mk ht
  have HQ1 := Hid.mk hq1
  have HQ2 := Hid.mk hq2
  have HC := Hid.mk hcs
  have HF := Hid.mk hf
  obtain ⟨F, hF⟩ : ∃ F, F = (frees (frB cs) cs.size).length := ⟨_, rfl⟩
  have NUM : Hid (∀ (b2 o2 c2 : Nat) (q : List Nat) (u : World), Good cs m q → TabIn u cs gf gr → (∀ k, k < m → u.cell? ⟨b2, o2 + k, none⟩ = some (.int .i64 (q.getD k 0 : Nat))) →
    Calls Tryd.prog 89 #[.agg #[.int .i64 ro, .int .i64 co, .string cs, .slice (some ⟨b, off, none⟩) m cc, .int .i64 bu, .slice (some ⟨gf, 0, none⟩) F cf, .slice (some ⟨gr, 0, none⟩) cs.size cr, .int .i64 cnt], .slice (some ⟨b2, o2, none⟩) m c2] u fun e w' => e = .returned (.int .i64 (numOf (frB cs) cs.size q : Nat)) ∧ Below u.heap.size u w') := fun b2 o2 c2 q u h1 h2 h3 => by
    have h := number_any ro co bu cs (some ⟨b, off, none⟩) m cc gf cf gr cr cnt m b2 o2 c2 q u hs hm h1 h2 h3
    unfold tabV at h
    rw [← hF] at h
    exact h
  unfold tabV
  rw [← hF]
  clear ht hq1 hq2 hcs hf hF
  go_enter Tryd.func86, Tryd.ntmps86
  go_wp2
  have B0 : Hid (Below w.heap.size w (w.alloc (Obj.cells #[Value.int IntKind.i64 ro, Value.int IntKind.i64 co, Value.string cs, .slice (some ⟨b, off, none⟩) m cc, Value.int IntKind.i64 bu, .slice (some ⟨gf, 0, none⟩) F cf, .slice (some ⟨gr, 0, none⟩) cs.size cr, Value.int IntKind.i64 (cnt : Nat)] 122))) := (Below.refl _ w).alloc (Nat.le_refl _) _
  have t0 : ∀ o, (w.alloc (Obj.cells #[Value.int IntKind.i64 ro, Value.int IntKind.i64 co, Value.string cs, .slice (some ⟨b, off, none⟩) m cc, Value.int IntKind.i64 bu, .slice (some ⟨gf, 0, none⟩) F cf, .slice (some ⟨gr, 0, none⟩) cs.size cr, Value.int IntKind.i64 (cnt : Nat)] 122)).cell? ⟨w.heap.size, o, none⟩ = #[Value.int IntKind.i64 ro, Value.int IntKind.i64 co, Value.string cs, .slice (some ⟨b, off, none⟩) m cc, Value.int IntKind.i64 bu, .slice (some ⟨gf, 0, none⟩) F cf, .slice (some ⟨gr, 0, none⟩) cs.size cr, Value.int IntKind.i64 (cnt : Nat)][o]? := by
    intro o; go_simp
  have hz : (w.alloc (Obj.cells #[Value.int IntKind.i64 ro, Value.int IntKind.i64 co, Value.string cs, .slice (some ⟨b, off, none⟩) m cc, Value.int IntKind.i64 bu, .slice (some ⟨gf, 0, none⟩) F cf, .slice (some ⟨gr, 0, none⟩) cs.size cr, Value.int IntKind.i64 (cnt : Nat)] 122)).heap.size = w.heap.size + 1 := by simp
  generalize (w.alloc (Obj.cells #[Value.int IntKind.i64 ro, Value.int IntKind.i64 co, Value.string cs, .slice (some ⟨b, off, none⟩) m cc, Value.int IntKind.i64 bu, .slice (some ⟨gf, 0, none⟩) F cf, .slice (some ⟨gr, 0, none⟩) cs.size cr, Value.int IntKind.i64 (cnt : Nat)] 122)) = w0 at *
  have T0 := Hid.mk t0
  clear t0
  go_loopw [4, 5, 6] (fun v4 v5 v6 wr => ∃ (k : Nat) (V4 V5 : Value), V4 = v4 ∧ V5 = v5 ∧ v6 = .int .i64 k ∧ k ≤ m ∧ OwnN wr w0.heap.size V4 (cellsOf fr k) ∧ OwnN wr w0.heap.size V5 (cellsOf tt k) ∧ (∀ g, V4.ownBlock = some g → V5.ownBlock ≠ some g) ∧ Below w0.heap.size w0 wr) (fun _ _ v6 _ => m - (intOf v6).toNat)
  case atStart => exact ⟨0, _, _, rfl, rfl, rfl, Nat.zero_le _, OwnN.nil _ _, OwnN.nil _ _, (fun g h => (by cases h)), Below.refl _ _⟩
  case round =>
    obtain ⟨w1, rfl⟩ : ∃ q, q = wr := ⟨_, rfl⟩
    obtain ⟨k, v4, v5, rfl, rfl, rfl, hk, ho4, ho5, hdj, hbr⟩ := hrel
    have HO4 := Hid.mk ho4
    have HO5 := Hid.mk ho5
    have HDJ := Hid.mk hdj
    have HBR := Hid.mk hbr
    have hzr := hbr.size
    have t3 := cell_later hbr (T0.out 3)
    clear ho4 ho5 hdj
    by_cases hlt : k < m
    · obtain ⟨c0, c1⟩ := HC.out k hlt
      obtain ⟨f1, f2⟩ := HF.out k hlt
      obtain ⟨x, hx⟩ := Int.eq_ofNat_of_zero_le f1
      obtain ⟨y, hy⟩ := Int.eq_ofNat_of_zero_le f2
      have c0 := cell_later hbr (cell_later B0.out c0)
      have c1 := cell_later hbr (cell_later B0.out c1)
      rw [hx] at c0
      rw [hy] at c1
      have E1 : Hid (cellsOf fr (k + 1) = cellsOf fr k ++ [x]) := by unfold Hid; rw [cellsOf_next, hx]; rfl
      have E2 : Hid (cellsOf tt (k + 1) = cellsOf tt k ++ [y]) := by unfold Hid; rw [cellsOf_next, hy]; rfl
      have L1 : Hid ((cellsOf fr k).length ≤ 100000000) := by unfold Hid; rw [cellsOf_len]; omega
      have L2 : Hid ((cellsOf tt k).length ≤ 100000000) := by unfold Hid; rw [cellsOf_len]; omega
      clear hx hy f1 f2 hbr
      go_upto_region 7 with (at_builtin; go_must (refine wpList_pushN rfl _ _ rfl w0.heap.size v4 (cellsOf fr k) x rfl HO4.out (by exact HBR.out.size) _ rfl L1.out ?_; intro g4 cap4 w2 hn4 hon4 hat4))
      have hown4 : ∀ g, v4.ownBlock = some g → w0.heap.size ≤ g ∧ g < w1.heap.size := fun g hg => HO4.out.lt g hg
      have hown5 : ∀ g, v5.ownBlock = some g → w0.heap.size ≤ g ∧ g < w1.heap.size := fun g hg => HO5.out.lt g hg
      have hsz2 := hon4.size
      have B2 : Hid (Below w0.heap.size w0 w2) := HBR.out.trans ⟨hon4.os, hon4.tape, hon4.output, hon4.size, fun q hq => hon4.block q (by omega) fun hh => by have := (hown4 q hh).1; omega⟩
      have N4 := Hid.mk hn4
      have N5 : Hid (OwnN w2 w0.heap.size v5 (cellsOf tt k)) := own_keep HO5.out fun g _ hg hv => hon4.block g hg fun hh => HDJ.out g hh hv
      have D2 : Hid (∀ g, g4 = g → v5.ownBlock ≠ some g) := fun g e hh => by
        subst e
        rcases hat4 with h | h
        · exact HDJ.out g4 h hh
        · have := (hown5 g4 hh).2; omega
      have t3 := cell_later B2.out (T0.out 3)
      have c1 := cell_later B2.out (cell_later B0.out (HC.out k hlt).2)
      obtain ⟨y2, hy2⟩ := Int.eq_ofNat_of_zero_le (HF.out k hlt).2
      rw [hy2] at c1
      have E3 : Hid (cellsOf tt (k + 1) = cellsOf tt k ++ [y2]) := by unfold Hid; rw [cellsOf_next, hy2]; rfl
      have hN4l : g4 < w2.heap.size := (hn4.lt g4 rfl).2
      have h0w2 : w0.heap.size ≤ w2.heap.size := by omega
      clear hn4 hon4 hat4 hy2
      go_wp2_with (at_builtin; go_must (refine wpList_pushN rfl _ _ rfl w0.heap.size v5 (cellsOf tt k) y2 rfl N5.out (by exact h0w2) _ rfl L2.out ?_; intro g5 cap5 w3 hn5 hon5 hat5))
      go_roundw
      case rel =>
        have hN5 := Hid.mk hn5
        refine ⟨k + 1, _, _, rfl, rfl, by go_num, by omega, ?_, ?_, fun g hg hh => ?_, ?_⟩
        · have h : OwnN w3 w0.heap.size (.slice (some ⟨g4, 0, none⟩) (cellsOf fr k ++ [x]).length cap4) (cellsOf fr k ++ [x]) := own_keep N4.out fun g _ hg hv => hon5.block g hg fun hh => D2.out g (Option.some.inj hv) hh
          rw [List.length_append] at h
          rw [E1.out]; exact h
        · have h := hN5.out
          rw [List.length_append] at h
          rw [E3.out]; exact h
        · have e1 : g4 = g := Option.some.inj hg
          have e2 : g5 = g := Option.some.inj hh
          rcases hat5 with h | h
          · exact D2.out g e1 (by rw [h, e2])
          · omega
        · exact B2.out.trans ⟨hon5.os, hon5.tape, hon5.output, hon5.size, fun q hq => hon5.block q (by omega) fun hh => by have := (hown5 q hh).1; omega⟩
      case measure => simp [intOf]; omega
    · have e : k = m := by omega
      subst e
      obtain ⟨a4, cap4, hv4, ha4, _⟩ := HO4.out.form
      obtain ⟨a5, cap5, hv5, ha5, _⟩ := HO5.out.form
      rw [cellsOf_len] at hv4 hv5
      subst hv4 hv5
      obtain ⟨g4, rfl⟩ := ha4 (by rw [cellsOf_len]; omega)
      obtain ⟨g5, rfl⟩ := ha5 (by rw [cellsOf_len]; omega)
      have q4 : ∀ j, j < k → w1.cell? ⟨g4, 0 + j, none⟩ = some (.int .i64 ((cellsOf fr k).getD j 0 : Nat)) := fun j hj => by rw [Nat.zero_add]; exact HO4.out.cell (by rw [cellsOf_len]; exact hj)
      have q5 : ∀ j, j < k → w1.cell? ⟨g5, 0 + j, none⟩ = some (.int .i64 ((cellsOf tt k).getD j 0 : Nat)) := fun j hj => by rw [Nat.zero_add]; exact HO5.out.cell (by rw [cellsOf_len]; exact hj)
      have HB1 := Hid.mk hbr
      have y0 := cell_later HB1.out (T0.out 0)
      have y1 := cell_later HB1.out (T0.out 1)
      have y2 := cell_later HB1.out (T0.out 2)
      have y3 := cell_later HB1.out (T0.out 3)
      have y4 := cell_later HB1.out (T0.out 4)
      have y5 := cell_later HB1.out (T0.out 5)
      have y6 := cell_later HB1.out (T0.out 6)
      have y7 := cell_later HB1.out (T0.out 7)
      have HT1 : Hid (TabIn w1 cs gf gr) := HT.out.below (B0.out.trans (HB1.out.mono (by omega)))
      have Q4 := Hid.mk q4
      have Q5 := Hid.mk q5
      have BW1 : Hid (Below w.heap.size w w1) := B0.out.trans (HB1.out.mono (by omega))
      have hw1 : w.heap.size ≤ w1.heap.size := by omega
      clear q4 q5 hbr t3
      go_upto_region 8 with fail
      go_region_held3 (fun w' => w'.cell? ⟨w.heap.size, 0, none⟩ = some (Value.int .i64 ro) ∧ w'.cell? ⟨w.heap.size, 1, none⟩ = some (.int .i64 co) ∧ w'.cell? ⟨w.heap.size, 2, none⟩ = some (.string cs) ∧ w'.cell? ⟨w.heap.size, 3, none⟩ = some (.slice (some ⟨b, off, none⟩) k cc) ∧ w'.cell? ⟨w.heap.size, 4, none⟩ = some (.int .i64 bu) ∧ w'.cell? ⟨w.heap.size, 5, none⟩ = some (.slice (some ⟨gf, 0, none⟩) F cf) ∧ w'.cell? ⟨w.heap.size, 6, none⟩ = some (.slice (some ⟨gr, 0, none⟩) cs.size cr) ∧ w'.cell? ⟨w.heap.size, 7, none⟩ = some (.int .i64 (cnt : Nat))) (go_keep)
        (first
          | (go_at_call_of 89 (Value.slice (some ⟨g4, 0, none⟩) k cap4); refine (NUM.out g4 0 cap4 (cellsOf fr k) _ HQ1.out (HT1.out.below (by exact (Below.refl _ _).drew)) (fun j hj => (by exact Q4.out j hj))).mono ?_; rintro e w2 ⟨rfl, hb2⟩; have HB2 := Hid.mk hb2; have p0 : w2.cell? ⟨w.heap.size, 0, none⟩ = some (Value.int .i64 ro) := cell_later hb2 y0; have p1 : w2.cell? ⟨w.heap.size, 1, none⟩ = some (.int .i64 co) := cell_later hb2 y1; have p2 : w2.cell? ⟨w.heap.size, 2, none⟩ = some (.string cs) := cell_later hb2 y2; have p3 : w2.cell? ⟨w.heap.size, 3, none⟩ = some (.slice (some ⟨b, off, none⟩) k cc) := cell_later hb2 y3; have p4 : w2.cell? ⟨w.heap.size, 4, none⟩ = some (.int .i64 bu) := cell_later hb2 y4; have p5 : w2.cell? ⟨w.heap.size, 5, none⟩ = some (.slice (some ⟨gf, 0, none⟩) F cf) := cell_later hb2 y5; have p6 : w2.cell? ⟨w.heap.size, 6, none⟩ = some (.slice (some ⟨gr, 0, none⟩) cs.size cr) := cell_later hb2 y6; have p7 : w2.cell? ⟨w.heap.size, 7, none⟩ = some (.int .i64 (cnt : Nat)) := cell_later hb2 y7; clear hb2)
          | (go_at_call_of 89 (Value.slice (some ⟨g5, 0, none⟩) k cap5); refine (NUM.out g5 0 cap5 (cellsOf tt k) _ HQ2.out (HT1.out.below (by exact ((Below.refl _ w1).drew).trans (by exact HB2.out))) (fun j hj => (by exact cell_later HB2.out (Q5.out j hj)))).mono ?_; rintro e w3 ⟨rfl, hb3⟩; have HB3 := Hid.mk hb3; have r0 : w3.cell? ⟨w.heap.size, 0, none⟩ = some (Value.int .i64 ro) := cell_later hb3 p0; have r1 : w3.cell? ⟨w.heap.size, 1, none⟩ = some (.int .i64 co) := cell_later hb3 p1; have r2 : w3.cell? ⟨w.heap.size, 2, none⟩ = some (.string cs) := cell_later hb3 p2; have r3 : w3.cell? ⟨w.heap.size, 3, none⟩ = some (.slice (some ⟨b, off, none⟩) k cc) := cell_later hb3 p3; have r4 : w3.cell? ⟨w.heap.size, 4, none⟩ = some (.int .i64 bu) := cell_later hb3 p4; have r5 : w3.cell? ⟨w.heap.size, 5, none⟩ = some (.slice (some ⟨gf, 0, none⟩) F cf) := cell_later hb3 p5; have r6 : w3.cell? ⟨w.heap.size, 6, none⟩ = some (.slice (some ⟨gr, 0, none⟩) cs.size cr) := cell_later hb3 p6; have r7 : w3.cell? ⟨w.heap.size, 7, none⟩ = some (.int .i64 (cnt : Nat)) := cell_later hb3 p7; clear hb3)
          | (fail "none"))
      go_wp2
      go_ret2
      exact ⟨rfl, BW1.out.trans (((Below.refl _ w1).drew.trans (by exact HB2.out)).mono hw1 |>.trans (HB3.out.mono (by have := HB2.out.size; exact Nat.le_trans hw1 this)))⟩

end Go.Proofs.YtnkgpinadgacgaaDoor

namespace Go.Proofs.YtnkgpinadgacgaaDoor
open Go.RowKit M
/-- For each cell below k its number among the free ones, or -1. -/
def ranksTo (f : Nat → Bool) (k : Nat) : List Int := (List.range k).map fun c => if f c then ((rankOf f c : Nat) : Int) else -1

theorem ranksTo_next (f : Nat → Bool) (k : Nat) : ranksTo f (k + 1) = ranksTo f k ++ [if f k then ((rankOf f k : Nat) : Int) else -1] := by
  unfold ranksTo
  rw [List.range_succ, List.map_append]; rfl

theorem ranksTo_at {f : Nat → Bool} {k c : Nat} (h : c < k) : (ranksTo f k).getD c 0 = if f c then ((rankOf f c : Nat) : Int) else -1 := by
  unfold ranksTo
  rw [List.getD_eq_getElem?_getD, List.getElem?_map, List.getElem?_range h]; rfl

theorem ranksTo_len (f : Nat → Bool) (k : Nat) : (ranksTo f k).length = k := by simp [ranksTo]

end Go.Proofs.YtnkgpinadgacgaaDoor

namespace Go.Proofs.YtnkgpinadgacgaaDoor
open Go.RowKit M
/-- The boxed table while it is filled. -/
structure TabAt (w : World) (T : Nat) (ro co bu : Int) (cs : ByteArray) (ac : Option Addr) (m cc : Nat) (V5 V6 : Value) (cnt : Nat) : Prop where
  cells : ∀ o, w.cell? ⟨T, o, none⟩ = #[Value.int .i64 ro, .int .i64 co, .string cs, .slice ac m cc, .int .i64 bu, V5, V6, .int .i64 cnt][o]?
  frozen : ∀ o, w.frozen? ⟨T, o, none⟩ = false

theorem TabAt.lt {w : World} {T : Nat} {ro co bu : Int} {cs : ByteArray} {ac : Option Addr} {m cc cnt : Nat} {V5 V6 : Value} (h : TabAt w T ro co bu cs ac m cc V5 V6 cnt) : T < w.heap.size := World.block_lt_of_cell? (u := .int .i64 ro) (a := ⟨T, 0, none⟩) w (h.cells 0)

theorem TabAt.only {w w' : World} {T : Nat} {S : Nat → Prop} {ro co bu : Int} {cs : ByteArray} {ac : Option Addr} {m cc cnt : Nat} {V5 V6 : Value} (h : TabAt w T ro co bu cs ac m cc V5 V6 cnt) (ho : Only S w w') (hS : ¬ S T) : TabAt w' T ro co bu cs ac m cc V5 V6 cnt :=
  ⟨fun o => (ho.cell (p := ⟨T, o, none⟩) h.lt hS).trans (h.cells o), fun o => (ho.frozen (p := ⟨T, o, none⟩) h.lt hS).trans (h.frozen o)⟩

theorem TabAt.below {w w' : World} {T : Nat} {ro co bu : Int} {cs : ByteArray} {ac : Option Addr} {m cc cnt : Nat} {V5 V6 : Value} (h : TabAt w T ro co bu cs ac m cc V5 V6 cnt) (hb : Below w.heap.size w w') : TabAt w' T ro co bu cs ac m cc V5 V6 cnt :=
  h.only (Only.of_below hb : Only (fun _ => False) w w') (fun h => h)

theorem TabAt.set6 {w : World} {T : Nat} {ro co bu : Int} {cs : ByteArray} {ac : Option Addr} {m cc cnt : Nat} {V5 V6 V : Value} (h : TabAt w T ro co bu cs ac m cc V5 V6 cnt) : TabAt (w.setCell ⟨T, 6, none⟩ V) T ro co bu cs ac m cc V5 V cnt := by
  refine ⟨fun o => ?_, fun o => by rw [World.frozen?_setCell]; exact h.frozen o⟩
  by_cases e : o = 6
  · subst e
    rw [World.cell?_setCell_same' _ _ _ (by rw [h.cells 6]; rfl)]; rfl
  · rw [World.cell?_setCell_other _ _ _ _ (by intro hh; cases hh; exact e rfl), h.cells o]
    match o, e with
    | 0, _ => rfl
    | 1, _ => rfl
    | 2, _ => rfl
    | 3, _ => rfl
    | 4, _ => rfl
    | 5, _ => rfl
    | 7, _ => rfl
    | n + 8, _ => simp

theorem TabAt.set5 {w : World} {T : Nat} {ro co bu : Int} {cs : ByteArray} {ac : Option Addr} {m cc cnt : Nat} {V5 V6 V : Value} (h : TabAt w T ro co bu cs ac m cc V5 V6 cnt) : TabAt (w.setCell ⟨T, 5, none⟩ V) T ro co bu cs ac m cc V V6 cnt := by
  refine ⟨fun o => ?_, fun o => by rw [World.frozen?_setCell]; exact h.frozen o⟩
  by_cases e : o = 5
  · subst e
    rw [World.cell?_setCell_same' _ _ _ (by rw [h.cells 5]; rfl)]; rfl
  · rw [World.cell?_setCell_other _ _ _ _ (by intro hh; cases hh; exact e rfl), h.cells o]
    match o, e with
    | 0, _ => rfl
    | 1, _ => rfl
    | 2, _ => rfl
    | 3, _ => rfl
    | 4, _ => rfl
    | 6, _ => rfl
    | 7, _ => rfl
    | n + 8, _ => simp

theorem TabAt.set7 {w : World} {T : Nat} {ro co bu : Int} {cs : ByteArray} {ac : Option Addr} {m cc cnt n7 : Nat} {V5 V6 : Value} (h : TabAt w T ro co bu cs ac m cc V5 V6 cnt) : TabAt (w.setCell ⟨T, 7, none⟩ (.int .i64 n7)) T ro co bu cs ac m cc V5 V6 n7 := by
  refine ⟨fun o => ?_, fun o => by rw [World.frozen?_setCell]; exact h.frozen o⟩
  by_cases e : o = 7
  · subst e
    rw [World.cell?_setCell_same' _ _ _ (by rw [h.cells 7]; rfl)]; rfl
  · rw [World.cell?_setCell_other _ _ _ _ (by intro hh; cases hh; exact e rfl), h.cells o]
    match o, e with
    | 0, _ => rfl
    | 1, _ => rfl
    | 2, _ => rfl
    | 3, _ => rfl
    | 4, _ => rfl
    | 5, _ => rfl
    | 6, _ => rfl
    | n + 8, _ => simp

end Go.Proofs.YtnkgpinadgacgaaDoor
