/- Dp, Dq, Dr, Dt. -/
import Derived.Test.YtnkgpinadgacgaaGreatDoorQz
set_option maxRecDepth 1000000
set_option maxHeartbeats 4000000
namespace Go.Proofs.YtnkgpinadgacgaaGreatDoor
section
open Go.RowKit M
theorem cellsOf_next (f : Nat -> Int) (k : Nat) : cellsOf f (k + 1) = cellsOf f k ++ [(f k).toNat] := by
 unfold cellsOf; rw [List.range_succ, List.map_append]; rfl
theorem ends_any (ro co bu : Int) (cs : ByteArray) (b off m cc gf cf gr cr cnt : Nat) (fr tt : Nat -> Int) (w : World) (hs : cs.size <= 36) (hm : m <= 4) (hm1 : 1 <= m) (hq1 : Good cs m (cellsOf fr m)) (hq2 : Good cs m (cellsOf tt m)) (ht : TabIn w cs gf gr) (hcs : CartsIn w b off m fr tt) (hf : ∀ k, k < m -> 0 <= fr k ∧ 0 <= tt k) :
 Calls Tryz.prog 33 #[tabV ro co bu cs (some ⟨b, off, none⟩) m cc gf cf gr cr cnt] w fun e w' => e = .returned (.tuple #[.int .i64 (numOf (frB cs) cs.size (cellsOf fr m) : Nat), .int .i64 (numOf (frB cs) cs.size (cellsOf tt m) : Nat)]) ∧ Below w.heap.size w w' := by
 have HT := zx ht; have HQ1 := zx hq1; have HQ2 := zx hq2; have HC := zx hcs; have HF := zx hf; obtain ⟨F, hF⟩ : ∃ F, F = (frees (frB cs) cs.size).length := ⟨_, rfl⟩
 have NUM : Hid (∀ (b2 o2 c2 : Nat) (q : List Nat) (u : World), Good cs m q -> TabIn u cs gf gr -> (∀ k, k < m -> u.cell? ⟨b2, o2 + k, none⟩ = some (.int .i64 (q.getD k 0 : Nat))) ->
  Calls Tryz.prog 60 #[.agg #[.int .i64 ro, .int .i64 co, .string cs, .slice (some ⟨b, off, none⟩) m cc, .int .i64 bu, .slice (some ⟨gf, 0, none⟩) F cf, .slice (some ⟨gr, 0, none⟩) cs.size cr, .int .i64 cnt], .slice (some ⟨b2, o2, none⟩) m c2] u fun e w' => e = .returned (.int .i64 (numOf (frB cs) cs.size q : Nat)) ∧ Below u.heap.size u w') := fun b2 o2 c2 q u h1 h2 h3 => by
  have h := number_any ro co bu cs (some ⟨b, off, none⟩) m cc gf cf gr cr cnt m b2 o2 c2 q u hs hm h1 h2 h3; unfold tabV at h; rw [<- hF] at h; exact h
 unfold tabV; rw [<- hF]; clear ht hq1 hq2 hcs hf hF; go_enter Tryz.func33, Tryz.ntmps33; go_wp2; have B0 : Hid (Below w.heap.size w (w.alloc (.cells #[.int .i64 ro, .int .i64 co, .string cs, .slice (some ⟨b, off, none⟩) m cc, .int .i64 bu, .slice (some ⟨gf, 0, none⟩) F cf, .slice (some ⟨gr, 0, none⟩) cs.size cr, .int .i64 (cnt : Nat)] 79))) := (Below.refl _ w).alloc zl _
 have t0 : ∀ o, (w.alloc (.cells #[.int .i64 ro, .int .i64 co, .string cs, .slice (some ⟨b, off, none⟩) m cc, .int .i64 bu, .slice (some ⟨gf, 0, none⟩) F cf, .slice (some ⟨gr, 0, none⟩) cs.size cr, .int .i64 (cnt : Nat)] 79)).cell? ⟨w.heap.size, o, none⟩ = #[Value.int .i64 ro, .int .i64 co, .string cs, .slice (some ⟨b, off, none⟩) m cc, .int .i64 bu, .slice (some ⟨gf, 0, none⟩) F cf, .slice (some ⟨gr, 0, none⟩) cs.size cr, .int .i64 (cnt : Nat)][o]? := by
  intro o; go_simp
 have hz : (w.alloc (.cells #[.int .i64 ro, .int .i64 co, .string cs, .slice (some ⟨b, off, none⟩) m cc, .int .i64 bu, .slice (some ⟨gf, 0, none⟩) F cf, .slice (some ⟨gr, 0, none⟩) cs.size cr, .int .i64 (cnt : Nat)] 79)).heap.size = w.heap.size + 1 := by simp
 generalize (w.alloc (.cells #[.int .i64 ro, .int .i64 co, .string cs, .slice (some ⟨b, off, none⟩) m cc, .int .i64 bu, .slice (some ⟨gf, 0, none⟩) F cf, .slice (some ⟨gr, 0, none⟩) cs.size cr, .int .i64 (cnt : Nat)] 79)) = w0 at *; have T0 := zx t0; clear t0; go_loopw [4, 5, 6] (fun v4 v5 v6 wr => ∃ (k : Nat) (V4 V5 : Value), V4 = v4 ∧ V5 = v5 ∧ v6 = .int .i64 k ∧ k <= m ∧ OwnN wr w0.heap.size V4 (cellsOf fr k) ∧ OwnN wr w0.heap.size V5 (cellsOf tt k) ∧ (∀ g, V4.ownBlock = some g -> V5.ownBlock ≠ some g) ∧ Below w0.heap.size w0 wr) (fun _ _ v6 _ => m - (intOf v6).toNat)
 case atStart => exact ⟨0, _, _, rfl, rfl, rfl, Nat.zero_le _, OwnN.nil _ _, OwnN.nil _ _, (fun g h => (by cases h)), Below.refl _ _⟩
 case round =>
  obtain ⟨w1, rfl⟩ : ∃ q, q = wr := ⟨_, rfl⟩
  obtain ⟨k, v4, v5, rfl, rfl, rfl, hk, ho4, ho5, hdj, hbr⟩ := hrel; have HO4 := zx ho4; have HO5 := zx ho5; have HDJ := zx hdj; have HBR := zx hbr; have hzr := hbr.size; have t3 := zj hbr (T0.out 3); clear ho4 ho5 hdj; by_cases hlt : k < m
  . obtain ⟨c0, c1⟩ := HC.out k hlt; obtain ⟨f1, f2⟩ := HF.out k hlt; obtain ⟨x, hx⟩ := Int.eq_ofNat_of_zero_le f1; obtain ⟨y, hy⟩ := Int.eq_ofNat_of_zero_le f2; have c0 := zj hbr (zj B0.out c0); have c1 := zj hbr (zj B0.out c1); rw [hx] at c0; rw [hy] at c1; have E1 : Hid (cellsOf fr (k + 1) = cellsOf fr k ++ [x]) := by unfold Hid; rw [cellsOf_next, hx]; rfl
    have E2 : Hid (cellsOf tt (k + 1) = cellsOf tt k ++ [y]) := by unfold Hid; rw [cellsOf_next, hy]; rfl
    have L1 : Hid ((cellsOf fr k).length <= 100000000) := by unfold Hid; rw [cellsOf_len]; omega
    have L2 : Hid ((cellsOf tt k).length <= 100000000) := by unfold Hid; rw [cellsOf_len]; omega
    clear hx hy f1 f2 hbr; go_upto_region 7 with (at_builtin; go_must (refine wpList_pushN rfl _ _ rfl w0.heap.size v4 (cellsOf fr k) x rfl HO4.out (by exact HBR.out.size) _ rfl L1.out ?_; intro g4 cap4 w2 hn4 hon4 hat4))
    have hown4 : ∀ g, v4.ownBlock = some g -> w0.heap.size <= g ∧ g < w1.heap.size := fun g hg => HO4.out.lt g hg
    have hown5 : ∀ g, v5.ownBlock = some g -> w0.heap.size <= g ∧ g < w1.heap.size := fun g hg => HO5.out.lt g hg
    have hsz2 := hon4.size; have B2 := zx (HBR.out.trans ⟨hon4.os, hon4.tape, hon4.output, hon4.size, fun q hq => hon4.block q (by omega) fun hh => by have := (hown4 q hh).1; omega⟩); have N4 := zx hn4; have N5 : Hid (OwnN w2 w0.heap.size v5 (cellsOf tt k)) := own_keep HO5.out fun g _ hg hv => hon4.block g hg fun hh => HDJ.out g hh hv
    have D2 : Hid (∀ g, g4 = g -> v5.ownBlock ≠ some g) := fun g e hh => by
     subst e; rcases hat4 with h | h
     . exact HDJ.out g4 h hh
     . have := (hown5 g4 hh).2; omega
    have t3 := zj B2.out (T0.out 3); have c1 := zj B2.out (zj B0.out (HC.out k hlt).2); obtain ⟨y2, hy2⟩ := Int.eq_ofNat_of_zero_le (HF.out k hlt).2; rw [hy2] at c1; have E3 : Hid (cellsOf tt (k + 1) = cellsOf tt k ++ [y2]) := by unfold Hid; rw [cellsOf_next, hy2]; rfl
    have hN4l : g4 < w2.heap.size := (hn4.lt g4 rfl).2; have h0w2 : w0.heap.size <= w2.heap.size := by omega
    clear hn4 hon4 hat4 hy2; go_wp2_with (at_builtin; go_must (refine wpList_pushN rfl _ _ rfl w0.heap.size v5 (cellsOf tt k) y2 rfl N5.out (by exact h0w2) _ rfl L2.out ?_; intro g5 cap5 w3 hn5 hon5 hat5))
    go_roundw; case rel =>
     have hN5 := zx hn5; refine ⟨k + 1, _, _, rfl, rfl, by go_num, by omega, ?_, ?_, fun g hg hh => ?_, ?_⟩
     . have h : OwnN w3 w0.heap.size (.slice (some ⟨g4, 0, none⟩) (cellsOf fr k ++ [x]).length cap4) (cellsOf fr k ++ [x]) := own_keep N4.out fun g _ hg hv => hon5.block g hg fun hh => D2.out g (Option.some.inj hv) hh
       rw [List.length_append] at h; rw [E1.out]; exact h
     . have h := hN5.out; rw [List.length_append] at h; rw [E3.out]; exact h
     . have e1 : g4 = g := Option.some.inj hg; have e2 : g5 = g := Option.some.inj hh; rcases hat5 with h | h
       . exact D2.out g e1 (by rw [h, e2])
       . omega
     . exact B2.out.trans ⟨hon5.os, hon5.tape, hon5.output, hon5.size, fun q hq => hon5.block q (by omega) fun hh => by have := (hown5 q hh).1; omega⟩
    case measure => simp [intOf]; omega
  . have e : k = m := by omega
    subst e; obtain ⟨a4, cap4, hv4, ha4, _⟩ := HO4.out.form; obtain ⟨a5, cap5, hv5, ha5, _⟩ := HO5.out.form; rw [cellsOf_len] at hv4 hv5; subst hv4 hv5; obtain ⟨g4, rfl⟩ := ha4 (by rw [cellsOf_len]; omega); obtain ⟨g5, rfl⟩ := ha5 (by rw [cellsOf_len]; omega); have q4 : ∀ j, j < k -> w1.cell? ⟨g4, 0 + j, none⟩ = some (.int .i64 ((cellsOf fr k).getD j 0 : Nat)) := fun j hj => by rw [Nat.zero_add]; exact HO4.out.cell (by rw [cellsOf_len]; exact hj)
    have q5 : ∀ j, j < k -> w1.cell? ⟨g5, 0 + j, none⟩ = some (.int .i64 ((cellsOf tt k).getD j 0 : Nat)) := fun j hj => by rw [Nat.zero_add]; exact HO5.out.cell (by rw [cellsOf_len]; exact hj)
    have HB1 := zx hbr; have y0 := zj HB1.out (T0.out 0); have y1 := zj HB1.out (T0.out 1); have y2 := zj HB1.out (T0.out 2); have y3 := zj HB1.out (T0.out 3); have y4 := zj HB1.out (T0.out 4); have y5 := zj HB1.out (T0.out 5); have y6 := zj HB1.out (T0.out 6); have y7 := zj HB1.out (T0.out 7); have HT1 : Hid (TabIn w1 cs gf gr) := HT.out.below (B0.out.trans (HB1.out.mono (by omega))); have Q4 := zx q4; have Q5 := zx q5; have BW1 := zx (B0.out.trans (HB1.out.mono (by omega)))
    have hw1 : w.heap.size <= w1.heap.size := by omega
    clear q4 q5 hbr t3; go_upto_region 8 with fail
    go_region_held3 (fun w' => w'.cell? ⟨w.heap.size, 0, none⟩ = some (Value.int .i64 ro) ∧ w'.cell? ⟨w.heap.size, 1, none⟩ = some (.int .i64 co) ∧ w'.cell? ⟨w.heap.size, 2, none⟩ = some (.string cs) ∧ w'.cell? ⟨w.heap.size, 3, none⟩ = some (.slice (some ⟨b, off, none⟩) k cc) ∧ w'.cell? ⟨w.heap.size, 4, none⟩ = some (.int .i64 bu) ∧ w'.cell? ⟨w.heap.size, 5, none⟩ = some (.slice (some ⟨gf, 0, none⟩) F cf) ∧ w'.cell? ⟨w.heap.size, 6, none⟩ = some (.slice (some ⟨gr, 0, none⟩) cs.size cr) ∧ w'.cell? ⟨w.heap.size, 7, none⟩ = some (.int .i64 (cnt : Nat))) (go_keep)
     (first
      | (go_at_call_of 60 (Value.slice (some ⟨g4, 0, none⟩) k cap4); refine (NUM.out g4 0 cap4 (cellsOf fr k) _ HQ1.out (HT1.out.below (by exact (Below.refl _ _).drew)) (fun j hj => (by exact Q4.out j hj))).mono ?_; rintro e w2 ⟨rfl, hb2⟩; have HB2 := zx hb2; have p0 : w2.cell? ⟨w.heap.size, 0, none⟩ = some (Value.int .i64 ro) := zj hb2 y0; have p1 : w2.cell? ⟨w.heap.size, 1, none⟩ = some (.int .i64 co) := zj hb2 y1; have p2 : w2.cell? ⟨w.heap.size, 2, none⟩ = some (.string cs) := zj hb2 y2; have p3 : w2.cell? ⟨w.heap.size, 3, none⟩ = some (.slice (some ⟨b, off, none⟩) k cc) := zj hb2 y3; have p4 : w2.cell? ⟨w.heap.size, 4, none⟩ = some (.int .i64 bu) := zj hb2 y4; have p5 : w2.cell? ⟨w.heap.size, 5, none⟩ = some (.slice (some ⟨gf, 0, none⟩) F cf) := zj hb2 y5; have p6 : w2.cell? ⟨w.heap.size, 6, none⟩ = some (.slice (some ⟨gr, 0, none⟩) cs.size cr) := zj hb2 y6; have p7 : w2.cell? ⟨w.heap.size, 7, none⟩ = some (.int .i64 (cnt : Nat)) := zj hb2 y7; clear hb2)
      | (go_at_call_of 60 (Value.slice (some ⟨g5, 0, none⟩) k cap5); refine (NUM.out g5 0 cap5 (cellsOf tt k) _ HQ2.out (HT1.out.below (by exact ((Below.refl _ w1).drew).trans (by exact HB2.out))) (fun j hj => (by exact zj HB2.out (Q5.out j hj)))).mono ?_; rintro e w3 ⟨rfl, hb3⟩; have HB3 := zx hb3; have r0 : w3.cell? ⟨w.heap.size, 0, none⟩ = some (Value.int .i64 ro) := zj hb3 p0; have r1 : w3.cell? ⟨w.heap.size, 1, none⟩ = some (.int .i64 co) := zj hb3 p1; have r2 : w3.cell? ⟨w.heap.size, 2, none⟩ = some (.string cs) := zj hb3 p2; have r3 : w3.cell? ⟨w.heap.size, 3, none⟩ = some (.slice (some ⟨b, off, none⟩) k cc) := zj hb3 p3; have r4 : w3.cell? ⟨w.heap.size, 4, none⟩ = some (.int .i64 bu) := zj hb3 p4; have r5 : w3.cell? ⟨w.heap.size, 5, none⟩ = some (.slice (some ⟨gf, 0, none⟩) F cf) := zj hb3 p5; have r6 : w3.cell? ⟨w.heap.size, 6, none⟩ = some (.slice (some ⟨gr, 0, none⟩) cs.size cr) := zj hb3 p6; have r7 : w3.cell? ⟨w.heap.size, 7, none⟩ = some (.int .i64 (cnt : Nat)) := zj hb3 p7; clear hb3)
      | (fail "none"))
    go_wp2; go_ret2; exact ⟨rfl, BW1.out.trans (((Below.refl _ w1).drew.trans (by exact HB2.out)).mono hw1 |>.trans (HB3.out.mono (by have := HB2.out.size; exact Nat.le_trans hw1 this)))⟩
end
section
open Go.RowKit M
def ranksTo (f : Nat -> Bool) (k : Nat) : List Int := (List.range k).map fun c => if f c then ((rankOf f c : Nat) : Int) else -1
theorem ranksTo_next (f : Nat -> Bool) (k : Nat) : ranksTo f (k + 1) = ranksTo f k ++ [if f k then ((rankOf f k : Nat) : Int) else -1] := by
 unfold ranksTo; rw [List.range_succ, List.map_append]; rfl
theorem ranksTo_at {f : Nat -> Bool} {k c : Nat} (h : c < k) : (ranksTo f k).getD c 0 = if f c then ((rankOf f c : Nat) : Int) else -1 := by
 unfold ranksTo; rw [zg, List.getElem?_map, List.getElem?_range h]; rfl
theorem ranksTo_len (f : Nat -> Bool) (k : Nat) : (ranksTo f k).length = k := by simp [ranksTo]
end
section
open Go.RowKit M
structure TabAt (w : World) (T : Nat) (ro co bu : Int) (cs : ByteArray) (ac : Option Addr) (m cc : Nat) (V5 V6 : Value) (cnt : Nat) : Prop where
 cells : ∀ o, w.cell? ⟨T, o, none⟩ = #[Value.int .i64 ro, .int .i64 co, .string cs, .slice ac m cc, .int .i64 bu, V5, V6, .int .i64 cnt][o]?
 frozen : ∀ o, w.frozen? ⟨T, o, none⟩ = false
theorem TabAt.lt {w : World} {T : Nat} {ro co bu : Int} {cs : ByteArray} {ac : Option Addr} {m cc cnt : Nat} {V5 V6 : Value} (h : TabAt w T ro co bu cs ac m cc V5 V6 cnt) : T < w.heap.size := World.block_lt_of_cell? (u := .int .i64 ro) (a := ⟨T, 0, none⟩) w (h.cells 0)
theorem TabAt.only {w w' : World} {T : Nat} {S : Nat -> Prop} {ro co bu : Int} {cs : ByteArray} {ac : Option Addr} {m cc cnt : Nat} {V5 V6 : Value} (h : TabAt w T ro co bu cs ac m cc V5 V6 cnt) (ho : Only S w w') (hS : ¬ S T) : TabAt w' T ro co bu cs ac m cc V5 V6 cnt :=
 ⟨fun o => (ho.cell (p := ⟨T, o, none⟩) h.lt hS).trans (h.cells o), fun o => (ho.frozen (p := ⟨T, o, none⟩) h.lt hS).trans (h.frozen o)⟩
theorem TabAt.below {w w' : World} {T : Nat} {ro co bu : Int} {cs : ByteArray} {ac : Option Addr} {m cc cnt : Nat} {V5 V6 : Value} (h : TabAt w T ro co bu cs ac m cc V5 V6 cnt) (hb : Below w.heap.size w w') : TabAt w' T ro co bu cs ac m cc V5 V6 cnt :=
 h.only (Only.of_below hb : Only (fun _ => False) w w') (fun h => h)
theorem TabAt.set6 {w : World} {T : Nat} {ro co bu : Int} {cs : ByteArray} {ac : Option Addr} {m cc cnt : Nat} {V5 V6 V : Value} (h : TabAt w T ro co bu cs ac m cc V5 V6 cnt) : TabAt (w.setCell ⟨T, 6, none⟩ V) T ro co bu cs ac m cc V5 V cnt := by
 refine ⟨fun o => ?_, fun o => by rw [World.frozen?_setCell]; exact h.frozen o⟩; by_cases e : o = 6
 . subst e; rw [World.cell?_setCell_same' _ _ _ (by rw [h.cells 6]; rfl)]; rfl
 . rw [World.cell?_setCell_other _ _ _ _ (by intro hh; cases hh; exact e rfl), h.cells o]; match o, e with
   | 0, _ => rfl
   | 1, _ => rfl
   | 2, _ => rfl
   | 3, _ => rfl
   | 4, _ => rfl
   | 5, _ => rfl
   | 7, _ => rfl
   | n + 8, _ => simp
theorem TabAt.set5 {w : World} {T : Nat} {ro co bu : Int} {cs : ByteArray} {ac : Option Addr} {m cc cnt : Nat} {V5 V6 V : Value} (h : TabAt w T ro co bu cs ac m cc V5 V6 cnt) : TabAt (w.setCell ⟨T, 5, none⟩ V) T ro co bu cs ac m cc V V6 cnt := by
 refine ⟨fun o => ?_, fun o => by rw [World.frozen?_setCell]; exact h.frozen o⟩; by_cases e : o = 5
 . subst e; rw [World.cell?_setCell_same' _ _ _ (by rw [h.cells 5]; rfl)]; rfl
 . rw [World.cell?_setCell_other _ _ _ _ (by intro hh; cases hh; exact e rfl), h.cells o]; match o, e with
   | 0, _ => rfl
   | 1, _ => rfl
   | 2, _ => rfl
   | 3, _ => rfl
   | 4, _ => rfl
   | 6, _ => rfl
   | 7, _ => rfl
   | n + 8, _ => simp
theorem TabAt.set7 {w : World} {T : Nat} {ro co bu : Int} {cs : ByteArray} {ac : Option Addr} {m cc cnt n7 : Nat} {V5 V6 : Value} (h : TabAt w T ro co bu cs ac m cc V5 V6 cnt) : TabAt (w.setCell ⟨T, 7, none⟩ (.int .i64 n7)) T ro co bu cs ac m cc V5 V6 n7 := by
 refine ⟨fun o => ?_, fun o => by rw [World.frozen?_setCell]; exact h.frozen o⟩; by_cases e : o = 7
 . subst e; rw [World.cell?_setCell_same' _ _ _ (by rw [h.cells 7]; rfl)]; rfl
 . rw [World.cell?_setCell_other _ _ _ _ (by intro hh; cases hh; exact e rfl), h.cells o]; match o, e with
   | 0, _ => rfl
   | 1, _ => rfl
   | 2, _ => rfl
   | 3, _ => rfl
   | 4, _ => rfl
   | 5, _ => rfl
   | 6, _ => rfl
   | n + 8, _ => simp
end
section
open Go.RowKit M
def OwnQ (w : World) (base : Nat) (v : Value) (Ls : List (List Nat)) : Prop :=
 ∃ A : List Value, A.length = Ls.length ∧ w.ownsRow base 23 1 v Ls.length A ∧ (∀ t, t < Ls.length -> RowQ w (A.getD t (.bool false)) (Ls.getD t [])) ∧ (∀ g t, v.ownBlock = some g -> t < Ls.length -> (A.getD t (.bool false)).ownBlock ≠ some g) ∧ (∀ t h, t < Ls.length -> (A.getD t (.bool false)).ownBlock = some h -> base <= h)
theorem OwnQ.nil (w : World) (base : Nat) : OwnQ w base (.slice none 0 0) [] := ⟨[], rfl, ⟨rfl, .inl ⟨rfl, rfl⟩⟩, fun _ h => by simp at h, fun _ _ _ h => by simp at h, fun _ _ h => by simp at h⟩
theorem OwnQ.below {w w' : World} {base : Nat} {v : Value} {Ls : List (List Nat)} (h : OwnQ w base v Ls) (hb : Below w.heap.size w w') : OwnQ w' base v Ls := by
 obtain ⟨A, h1, h2, h3, h4, h5⟩ := h; exact ⟨A, h1, own_later h2 hb, fun t ht => (h3 t ht).below hb, h4, h5⟩
theorem OwnQ.le {w : World} {base base' : Nat} {v : Value} {Ls : List (List Nat)} (h : OwnQ w base v Ls) (hb : base' <= base) : OwnQ w base' v Ls := by
 obtain ⟨A, h1, h2, h3, h4, h5⟩ := h; exact ⟨A, h1, own_le h2 hb, h3, h4, fun t k ht hk => Nat.le_trans hb (h5 t k ht hk)⟩
theorem OwnQ.lt {w : World} {base : Nat} {v : Value} {Ls : List (List Nat)} (h : OwnQ w base v Ls) : ∀ g, v.ownBlock = some g -> base <= g ∧ g < w.heap.size := by
 obtain ⟨A, h1, h2, h3, h4, h5⟩ := h; exact fun g hg => h2.lt g hg
theorem OwnQ.form {w : World} {base : Nat} {v : Value} {Ls : List (List Nat)} (h : OwnQ w base v Ls) : ∃ a cap, v = .slice a Ls.length cap ∧ (0 < Ls.length -> ∃ g, a = some ⟨g, 0, none⟩) ∧ Ls.length <= cap := by
 obtain ⟨A, h1, h2, h3, h4, h5⟩ := h; exact own_form h2
theorem OwnQ.cell {w : World} {base g n cap : Nat} {Ls : List (List Nat)} (h : OwnQ w base (.slice (some ⟨g, 0, none⟩) n cap) Ls) {t : Nat} (ht : t < Ls.length) : ∃ a c, w.cell? ⟨g, t, none⟩ = some (.slice a (Ls.getD t []).length c) ∧ RowQ w (.slice a (Ls.getD t []).length c) (Ls.getD t []) ∧ ∀ h, (Value.slice a (Ls.getD t []).length c).ownBlock = some h -> base <= h := by
 obtain ⟨a0, cap2, hv, _, _⟩ := h.form; obtain ⟨A, h1, h2, h3, h4, h6⟩ := h; have e : n = Ls.length := by cases hv; rfl
 subst e; have h5 := h3 t ht; obtain ⟨a, c, hs, _⟩ := h5.form; rw [hs] at h5; refine ⟨a, c, ?_, h5, fun k hk => h6 t k ht (by rw [hs]; exact hk)⟩; rw [own_cell h2 ht, <- hs, zg, List.getElem?_eq_getElem (by omega)]; rfl
theorem wpList_pushQ {w0 : World} {ops : Array Oper} {rest : List Oper} {o : Oper} {a : Act} {Q : Exit -> Act -> World -> Prop} (hgd : o.guard = none) (s x : Operand)
 (ho : o.op = .call { callee := .builtin .append, args := #[s, x], argTypes := #[39, 39] })
 (base : Nat) (v : Value) (Ls : List (List Nat)) (y : Value) (q : List Nat) (hs : a.eval s = v) (hown : OwnQ w0 base v Ls) (hbase : base <= w0.heap.size) (hy : RowQ w0 y q) (hd : ∀ g, v.ownBlock = some g -> y.ownBlock ≠ some g) (hlo : ∀ g, y.ownBlock = some g -> base <= g) (c : Nat)
 (hx : a.eval x = .slice (some ⟨w0.heap.size, 0, none⟩) 1 c) (hL : Ls.length <= 100000000)
 (h : ∀ g cap w', OwnQ w' base (.slice (some ⟨g, 0, none⟩) (Ls ++ [q]).length cap) (Ls ++ [q]) -> Only (fun k => v.ownBlock = some k) w0 w' -> (v.ownBlock = some g ∨ w0.heap.size <= g) -> wpList Tryz.prog ops Q rest (a.put o.dst (.slice (some ⟨g, 0, none⟩) (Ls ++ [q]).length cap)) w') :
 wpList Tryz.prog ops Q (o :: rest) a (w0.alloc (.cells #[y] 23)) := by
 obtain ⟨i0, hi0, hi1, hi2, hi3⟩ := info_parts Tryz.infoSl; obtain ⟨A, h1, h2, h3, h4, h5⟩ := hown; obtain ⟨ya, yc, hyv, _⟩ := hy.form; have hown1 := own_keep (w' := w0.alloc (.cells #[y] 23)) h2 (fun g _ hg _ => Below.heap_alloc _ _ _ hg); have hown2 := h2; refine wpList_append_lies _ hgd s x _ ho base 23 i0 _ 1 24 Tryz.underlying39 hi0 hi1 hi2 hi3 rfl (by omega) v Ls.length A hs hown1 _ 1 c [y] hx rfl (fun j u hj => ?_) (fun u hu => ?_) (by omega) (by unfold maxLen; omega) (by omega) (by simp; omega) (w0.heap.size + 1) (by simp) ?_
 . match j, hj with
   | 0, hj => simp at hj; subst hj; simp [Addr.add]
   | j + 1, hj => simp at hj
 . simp at hu; subst hu; rw [hyv]; rfl
 . intro g cap w' ho9 hg9 hl9 _; have e1 : (Ls ++ [q]).length = Ls.length + 1 := by simp
   rw [e1] at h; have hon : Only (fun k => v.ownBlock = some k) w0 w' := ⟨hg9.os, hg9.tape, hg9.output, Nat.le_trans (by simp) hg9.size, fun k hk hn => by
    rw [hg9.block k (by simp; omega) (fun e => hn e.symm)]; exact Below.heap_alloc _ _ _ hk⟩
   have hat : v.ownBlock = some g ∨ w0.heap.size <= g := hl9.imp id (fun e => by omega); refine h g cap w' ⟨A ++ [y], by simp [h1], by rw [e1]; exact ho9, fun t ht => ?_, fun g' t hg' ht => ?_, fun t k ht hk => ?_⟩ hon hat
   . by_cases htl : t < Ls.length
     . rw [getD_snoc_old (by omega), getD_snoc_old htl]; exact (h3 t htl).only hon (fun b hb hv => h4 b t hv htl hb)
     . have e : t = Ls.length := by rw [List.length_append] at ht; simp at ht; omega
       rw [getD_snoc_new (by omega), getD_snoc_new e]; exact hy.only hon (fun b hb hv => hd b hv hb)
   . have eg : g = g' := Option.some.inj hg'; subst eg; by_cases htl : t < Ls.length
     . rw [getD_snoc_old (by omega)]; rcases hat with hh | hh
       . exact h4 g t hh htl
       . intro hb; have := (h3 t htl).lt g hb; omega
     . have e : t = Ls.length := by rw [List.length_append] at ht; simp at ht; omega
       rw [getD_snoc_new (by omega)]; rcases hat with hh | hh
       . exact hd g hh
       . intro hb; have := hy.lt g hb; omega
   . by_cases htl : t < Ls.length
     . rw [getD_snoc_old (by omega)] at hk; exact h5 t k htl hk
     . have e : t = Ls.length := by rw [List.length_append] at ht; simp at ht; omega
       rw [getD_snoc_new (by omega)] at hk; exact hlo k hk
theorem own_oneQ (w : World) (k : Nat) (hk : k = w.heap.size) : OwnQ (w.alloc (.cells #[.slice none 0 0] 23)) k (.slice (some ⟨k, 0, none⟩) 1 1) [[]] := by
 subst hk; refine ⟨[.slice none 0 0], rfl, ⟨rfl, .inr ⟨w.heap.size, 1, #[.slice none 0 0], rfl, zl, ?_, zl, by unfold maxLen; omega, rfl, rfl⟩⟩, fun t ht => ?_, fun g t hg ht => ?_, fun t k ht => ?_⟩
 . show (w.heap.push _)[w.heap.size]? = _; simp
 . have e : t = 0 := by simp at ht; omega
   subst e; exact ⟨⟨none, 0, rfl, fun h => by simp at h⟩, fun h hh => by cases hh⟩
 . have e : t = 0 := by simp at ht; omega
   subst e; intro hb; cases hb
 . have e : t = 0 := by simp at ht; omega
   subst e; intro hb; cases hb
end
end Go.Proofs.YtnkgpinadgacgaaGreatDoor
