/- Ds, Di, Dv. -/
import Derived.Test.YtnkgpinadgacgaaGreatDoorQk
import Derived.Test.YtnkgpinadgacgaaGreatDoorQzb
set_option maxRecDepth 1000000
set_option maxHeartbeats 4000000
namespace Go.Proofs.YtnkgpinadgacgaaGreatDoor
section
open Go.RowKit M
theorem results_cell_one {fn : Func} {p : Tmp} {ty : TypeId} (h : fn.results = #[.cell p ty]) (tmps : Array Value) (P : Program) (w : World) :
 (results fn tmps).run P w = ((asAddr (tmps.getD p undef)).run P w).andThen fun a w₁ => (loadVar ty a).run P w₁ := by
 simp only [results, h]; simp [Sem.run_bind, Result.andThen]
theorem tabled_any (ro co bu : Int) (cs : ByteArray) (ac : Option Addr) (m cc : Nat) (w : World) (hs : cs.size <= 36) (hm : m <= 4) (hF : 0 < (frees (frB cs) cs.size).length) :
 Calls Tryz.prog 32 #[.agg #[.int .i64 ro, .int .i64 co, .string cs, .slice ac m cc, .int .i64 bu]] w fun e w' => ∃ gf cf gr cr : Nat, e = .returned (tabV ro co bu cs ac m cc gf cf gr cr ((frees (frB cs) cs.size).length ^ m)) ∧ TabIn w' cs gf gr ∧ Below w.heap.size w w' := by
 have hsm : cs.size <= maxLen := by unfold maxLen; omega
 go_enter Tryz.func32, Tryz.ntmps32; go_wp2; have B0 : Hid (Below w.heap.size w (((w.alloc (.cells #[.int .i64 ro, .int .i64 co, .string cs, .slice ac m cc, .int .i64 bu] 34)).alloc (.cells #[.int .i64 0, Value.int .i64 0, Value.string { data := #[] }, .slice none 0 0, Value.int .i64 0, .slice none 0 0, .slice none 0 0, Value.int .i64 0] 79)).alloc (.cells #[.int .i64 ro, .int .i64 co, .string cs, .slice ac m cc, .int .i64 bu, .slice none 0 0, .slice none 0 0, .int .i64 1] 79))) := (((Below.refl _ w).alloc zl _).alloc (by simp) _).alloc (by simp; omega) _
 have x0 : ∀ o, (((w.alloc (.cells #[.int .i64 ro, .int .i64 co, .string cs, .slice ac m cc, .int .i64 bu] 34)).alloc (.cells #[.int .i64 0, Value.int .i64 0, Value.string { data := #[] }, .slice none 0 0, Value.int .i64 0, .slice none 0 0, .slice none 0 0, Value.int .i64 0] 79)).alloc (.cells #[.int .i64 ro, .int .i64 co, .string cs, .slice ac m cc, .int .i64 bu, .slice none 0 0, .slice none 0 0, .int .i64 1] 79)).cell? ⟨w.heap.size, o, none⟩ = #[Value.int .i64 ro, .int .i64 co, .string cs, .slice ac m cc, .int .i64 bu][o]? := by
  intro o; go_simp
 have x1 : ∀ o, (((w.alloc (.cells #[.int .i64 ro, .int .i64 co, .string cs, .slice ac m cc, .int .i64 bu] 34)).alloc (.cells #[.int .i64 0, Value.int .i64 0, Value.string { data := #[] }, .slice none 0 0, Value.int .i64 0, .slice none 0 0, .slice none 0 0, Value.int .i64 0] 79)).alloc (.cells #[.int .i64 ro, .int .i64 co, .string cs, .slice ac m cc, .int .i64 bu, .slice none 0 0, .slice none 0 0, .int .i64 1] 79)).cell? ⟨w.heap.size + 1, o, none⟩ = #[Value.int .i64 0, Value.int .i64 0, Value.string { data := #[] }, .slice none 0 0, Value.int .i64 0, .slice none 0 0, .slice none 0 0, Value.int .i64 0][o]? := by
  intro o; go_simp
 have f1 : ∀ o, (((w.alloc (.cells #[.int .i64 ro, .int .i64 co, .string cs, .slice ac m cc, .int .i64 bu] 34)).alloc (.cells #[.int .i64 0, Value.int .i64 0, Value.string { data := #[] }, .slice none 0 0, Value.int .i64 0, .slice none 0 0, .slice none 0 0, Value.int .i64 0] 79)).alloc (.cells #[.int .i64 ro, .int .i64 co, .string cs, .slice ac m cc, .int .i64 bu, .slice none 0 0, .slice none 0 0, .int .i64 1] 79)).frozen? ⟨w.heap.size + 1, o, none⟩ = false := by
  intro o; go_simp
 have x2 : ∀ o, (((w.alloc (.cells #[.int .i64 ro, .int .i64 co, .string cs, .slice ac m cc, .int .i64 bu] 34)).alloc (.cells #[.int .i64 0, Value.int .i64 0, Value.string { data := #[] }, .slice none 0 0, Value.int .i64 0, .slice none 0 0, .slice none 0 0, Value.int .i64 0] 79)).alloc (.cells #[.int .i64 ro, .int .i64 co, .string cs, .slice ac m cc, .int .i64 bu, .slice none 0 0, .slice none 0 0, .int .i64 1] 79)).cell? ⟨w.heap.size + 1 + 1, o, none⟩ = #[Value.int .i64 ro, .int .i64 co, .string cs, .slice ac m cc, .int .i64 bu, .slice none 0 0, .slice none 0 0, .int .i64 1][o]? := by
  intro o; go_simp
 have f2 : ∀ o, (((w.alloc (.cells #[.int .i64 ro, .int .i64 co, .string cs, .slice ac m cc, .int .i64 bu] 34)).alloc (.cells #[.int .i64 0, Value.int .i64 0, Value.string { data := #[] }, .slice none 0 0, Value.int .i64 0, .slice none 0 0, .slice none 0 0, Value.int .i64 0] 79)).alloc (.cells #[.int .i64 ro, .int .i64 co, .string cs, .slice ac m cc, .int .i64 bu, .slice none 0 0, .slice none 0 0, .int .i64 1] 79)).frozen? ⟨w.heap.size + 1 + 1, o, none⟩ = false := by
  intro o; go_simp
 have hz : (((w.alloc (.cells #[.int .i64 ro, .int .i64 co, .string cs, .slice ac m cc, .int .i64 bu] 34)).alloc (.cells #[.int .i64 0, Value.int .i64 0, Value.string { data := #[] }, .slice none 0 0, Value.int .i64 0, .slice none 0 0, .slice none 0 0, Value.int .i64 0] 79)).alloc (.cells #[.int .i64 ro, .int .i64 co, .string cs, .slice ac m cc, .int .i64 bu, .slice none 0 0, .slice none 0 0, .int .i64 1] 79)).heap.size = w.heap.size + 3 := by simp
 generalize (((w.alloc (.cells #[.int .i64 ro, .int .i64 co, .string cs, .slice ac m cc, .int .i64 bu] 34)).alloc (.cells #[.int .i64 0, Value.int .i64 0, Value.string { data := #[] }, .slice none 0 0, Value.int .i64 0, .slice none 0 0, .slice none 0 0, Value.int .i64 0] 79)).alloc (.cells #[.int .i64 ro, .int .i64 co, .string cs, .slice ac m cc, .int .i64 bu, .slice none 0 0, .slice none 0 0, .int .i64 1] 79)) = w0 at *; have X0 := zx x0; have X1 := zx x1; have F1 := zx f1
 have T0 : Hid (TabAt w0 (w.heap.size + 1 + 1) ro co bu cs ac m cc (.slice none 0 0) (.slice none 0 0) 1) := ⟨x2, f2⟩
 have HF := zx hF; clear x0 x1 x2 f1 f2 hF; go_loopw [4] (fun v4 wr => ∃ (k : Nat) (V5 V6 : Value), v4 = .int .i64 k ∧ k <= cs.size ∧ TabAt wr (w.heap.size + 1 + 1) ro co bu cs ac m cc V5 V6 1 ∧ OwnN wr (w.heap.size + 3) V5 (frees (frB cs) k) ∧ OwnZ wr (w.heap.size + 3) V6 (ranksTo (frB cs) k) ∧ (∀ g, V5.ownBlock = some g -> V6.ownBlock ≠ some g) ∧ Only (fun b => b = w.heap.size + 1 + 1) w0 wr) (fun v4 _ => cs.size - (intOf v4).toNat)
 case atStart => exact ⟨0, _, _, rfl, Nat.zero_le _, T0.out, OwnN.nil _ _, OwnZ.nil _ _, (fun g h => (by cases h)), Only.refl _ _⟩
 case round =>
  obtain ⟨w1, rfl⟩ : ∃ q, q = wr := ⟨_, rfl⟩
  obtain ⟨k, V5, V6, rfl, hk, ht, h5, h6, hd, ho⟩ := hrel; obtain ⟨a5, c5, hv5, ha5, hc5⟩ := h5.form; obtain ⟨a6, c6, hv6, ha6, hc6⟩ := h6.form; obtain ⟨n5, hn5⟩ : ∃ n, n = (frees (frB cs) k).length := ⟨_, rfl⟩
  obtain ⟨n6, hn6⟩ : ∃ n, n = (ranksTo (frB cs) k).length := ⟨_, rfl⟩
  rw [<- hn5] at hv5; rw [<- hn6] at hv6; have HN5 := zx hn5; have HN6 := zx hn6; subst hv5; subst hv6; rw [<- hn5] at ha5; rw [<- hn6] at ha6; clear hn5 hn6 hc5 hc6; have hzr := ho.size; have y0 : w1.cell? ⟨w.heap.size, 0, none⟩ = some (.int .i64 ro) := (ho.cell (p := ⟨w.heap.size, 0, none⟩) (by show w.heap.size < _; omega) (by show ¬ (w.heap.size = w.heap.size + 1 + 1); omega)).trans (X0.out 0)
  have y1 : w1.cell? ⟨w.heap.size, 1, none⟩ = some (.int .i64 co) := (ho.cell (p := ⟨w.heap.size, 1, none⟩) (by show w.heap.size < _; omega) (by show ¬ (w.heap.size = w.heap.size + 1 + 1); omega)).trans (X0.out 1); have y2 : w1.cell? ⟨w.heap.size, 2, none⟩ = some (.string cs) := (ho.cell (p := ⟨w.heap.size, 2, none⟩) (by show w.heap.size < _; omega) (by show ¬ (w.heap.size = w.heap.size + 1 + 1); omega)).trans (X0.out 2)
  have y3 : w1.cell? ⟨w.heap.size, 3, none⟩ = some (.slice ac m cc) := (ho.cell (p := ⟨w.heap.size, 3, none⟩) (by show w.heap.size < _; omega) (by show ¬ (w.heap.size = w.heap.size + 1 + 1); omega)).trans (X0.out 3); have y4 : w1.cell? ⟨w.heap.size, 4, none⟩ = some (.int .i64 bu) := (ho.cell (p := ⟨w.heap.size, 4, none⟩) (by show w.heap.size < _; omega) (by show ¬ (w.heap.size = w.heap.size + 1 + 1); omega)).trans (X0.out 4); by_cases hlt : k < cs.size
  . have HT := zx ht; have H5 := zx h5; have H6 := zx h6; have HD := zx hd; have HO := zx ho; clear ht h5 h6 hd ho ha5 ha6; go_upto_region 6 with (go_at_call 61; refine (rfree_any ro co bu k cs _ _ hsm).mono ?_; rintro e w2 ⟨he2, hb2⟩; obtain ⟨fb, hfb⟩ : ∃ fb, fb = freeB cs k := ⟨_, rfl⟩; rw [<- hfb] at he2; subst he2; have HFB := zx hfb; clear hfb)
    have HB2 := zx hb2; have hz2 := hb2.size; have t2 : Hid (TabAt w2 (w.heap.size + 1 + 1) ro co bu cs ac m cc (.slice a5 n5 c5) (.slice a6 n6 c6) 1) := HT.out.below hb2; have O5 : Hid (OwnN w2 (w.heap.size + 3) (.slice a5 n5 c5) (frees (frB cs) k)) := H5.out.below hb2; have O6 : Hid (OwnZ w2 (w.heap.size + 3) (.slice a6 n6 c6) (ranksTo (frB cs) k)) := H6.out.below hb2; have hO2 : Hid (Only (fun b => b = w.heap.size + 1 + 1) w0 w2) := HO.out.trans (Only.of_below hb2 : Only (fun _ => False) w1 w2) (fun _ _ e => e.elim)
    have hown5 : ∀ g, (Value.slice a5 n5 c5).ownBlock = some g -> w.heap.size + 3 <= g ∧ g < w2.heap.size := fun g hg => O5.out.lt g hg
    have hown6 : ∀ g, (Value.slice a6 n6 c6).ownBlock = some g -> w.heap.size + 3 <= g ∧ g < w2.heap.size := fun g hg => O6.out.lt g hg
    have nT6 : ¬ ((Value.slice a6 n6 c6).ownBlock = some (w.heap.size + 1 + 1)) := fun hh => by have := (hown6 _ hh).1; omega
    have nT5 : ¬ ((Value.slice a5 n5 c5).ownBlock = some (w.heap.size + 1 + 1)) := fun hh => by have := (hown5 _ hh).1; omega
    have hz2' : w.heap.size + 3 <= w2.heap.size := by omega
    have LZ : Hid ((ranksTo (frB cs) k).length <= 100000000) := by unfold Hid; rw [ranksTo_len]; omega
    have LN : Hid ((frees (frB cs) k).length <= 100000000) := by
     unfold Hid frees; exact Nat.le_trans (List.length_filter_le _ _) (by simp; omega)
    clear y0 y1 y2 y3 y4 hb2; have z5 := t2.out.cells 5; have z6 := t2.out.cells 6; have f6 := t2.out.frozen 6; cases fb with
    | true =>
      have ER : Hid (ranksTo (frB cs) (k + 1) = ranksTo (frB cs) k ++ [((n5 : Nat) : Int)]) := by
       unfold Hid; rw [ranksTo_next, if_pos (show frB cs k = true from HFB.out.symm), HN5.out]; rfl
      have EF : Hid (frees (frB cs) (k + 1) = frees (frB cs) k ++ [k]) := frees_succ_in (show frB cs k = true from HFB.out.symm); go_upto_region 8 with (at_builtin; go_must (refine wpList_pushZ rfl _ _ rfl (w.heap.size + 3) (.slice a6 n6 c6) (ranksTo (frB cs) k) (n5 : Int) rfl O6.out (by exact hz2') _ rfl LZ.out ?_; intro g6 cap6 w3 hn6 hon6 hat6; have hT3 := t2.out.only hon6 (by exact nT6); have z5 := hT3.cells 5; have z6 := hT3.cells 6; have f5 := hT3.frozen 5; have f6 := hT3.frozen 6))
      have N6 : OwnZ w3 (w.heap.size + 3) (.slice (some ⟨g6, 0, none⟩) ((ranksTo (frB cs) k).length + 1) cap6) (ranksTo (frB cs) (k + 1)) := by
       have h := hn6; rw [List.length_append] at h; rw [ER.out]; exact h
      have hg6 : w.heap.size + 3 <= g6 ∧ g6 < w3.heap.size := N6.lt g6 rfl; have hz3 := hon6.size; have N5 : OwnN w3 (w.heap.size + 3) (.slice a5 n5 c5) (frees (frB cs) k) := own_keep O5.out fun g _ hg hv => hon6.block g hg (fun hh => HD.out g hv hh)
      have O3 : Only (fun b => b = w.heap.size + 1 + 1) w0 w3 := hO2.out.trans hon6 (fun i hi e => by have := (hown6 i e).1; omega); have D6 : ∀ g, (Value.slice a5 n5 c5).ownBlock = some g -> g ≠ g6 := fun g hg e => by
       subst e; rcases hat6 with h | h
       . exact HD.out g hg h
       . have := (hown5 g hg).2; omega
      clear z5 z6 f5 f6; have T4 : TabAt (w3.setCell ⟨w.heap.size + 1 + 1, 6, none⟩ (.slice (some ⟨g6, 0, none⟩) ((ranksTo (frB cs) k).length + 1) cap6)) (w.heap.size + 1 + 1) ro co bu cs ac m cc (.slice a5 n5 c5) (.slice (some ⟨g6, 0, none⟩) ((ranksTo (frB cs) k).length + 1) cap6) 1 := hT3.set6
      have N64 : OwnZ (w3.setCell ⟨w.heap.size + 1 + 1, 6, none⟩ (.slice (some ⟨g6, 0, none⟩) ((ranksTo (frB cs) k).length + 1) cap6)) (w.heap.size + 3) (.slice (some ⟨g6, 0, none⟩) ((ranksTo (frB cs) k).length + 1) cap6) (ranksTo (frB cs) (k + 1)) := own_keep N6 fun g hg _ _ => Below.heap_setCell w3 ⟨w.heap.size + 1 + 1, 6, none⟩ _ g (by show g ≠ w.heap.size + 1 + 1; omega)
      have N54 : OwnN (w3.setCell ⟨w.heap.size + 1 + 1, 6, none⟩ (.slice (some ⟨g6, 0, none⟩) ((ranksTo (frB cs) k).length + 1) cap6)) (w.heap.size + 3) (.slice a5 n5 c5) (frees (frB cs) k) := own_keep N5 fun g hg _ _ => Below.heap_setCell w3 ⟨w.heap.size + 1 + 1, 6, none⟩ _ g (by show g ≠ w.heap.size + 1 + 1; omega)
      have O4 : Only (fun b => b = w.heap.size + 1 + 1) w0 (w3.setCell ⟨w.heap.size + 1 + 1, 6, none⟩ (.slice (some ⟨g6, 0, none⟩) ((ranksTo (frB cs) k).length + 1) cap6)) := O3.setCell (p := ⟨w.heap.size + 1 + 1, 6, none⟩) (fun _ => rfl) _; have hz4 : (w3.setCell ⟨w.heap.size + 1 + 1, 6, none⟩ (.slice (some ⟨g6, 0, none⟩) ((ranksTo (frB cs) k).length + 1) cap6)).heap.size = w3.heap.size := by simp [World.setCell]
      generalize (w3.setCell ⟨w.heap.size + 1 + 1, 6, none⟩ (.slice (some ⟨g6, 0, none⟩) ((ranksTo (frB cs) k).length + 1) cap6)) = w4 at *; have HT4 := zx T4; have HN64 := zx N64; have HN54 := zx N54; have HO4 := zx O4; have HD6 := zx D6; have z5 := T4.cells 5; have hz4' : w.heap.size + 3 <= w4.heap.size := by omega
      clear T4 N64 N54 O4 D6 hn6 hon6 hT3 N6 N5 O3 hat6; go_wp2_with (at_builtin; go_must (refine wpList_pushN rfl _ _ rfl (w.heap.size + 3) (.slice a5 n5 c5) (frees (frB cs) k) k rfl HN54.out (by exact hz4') _ (by rw [hz4]; exact rfl) LN.out ?_; intro g5 cap5 w5 hn5 hon5 hat5; have hT5 := HT4.out.only hon5 (by exact nT5); have z5 := hT5.cells 5; have f5 := hT5.frozen 5))
      go_roundw; case rel =>
       have hz5 := hon5.size; have N5 : OwnN w5 (w.heap.size + 3) (.slice (some ⟨g5, 0, none⟩) ((frees (frB cs) k).length + 1) cap5) (frees (frB cs) (k + 1)) := by
        have h := hn5; rw [List.length_append] at h; rw [EF.out]; exact h
       have hg5 : w.heap.size + 3 <= g5 ∧ g5 < w5.heap.size := N5.lt g5 rfl; have N6 : OwnZ w5 (w.heap.size + 3) (.slice (some ⟨g6, 0, none⟩) ((ranksTo (frB cs) k).length + 1) cap6) (ranksTo (frB cs) (k + 1)) := own_keep HN64.out fun g _ hg hv => hon5.block g hg (fun hh => HD6.out g hh (Option.some.inj hv).symm)
       refine ⟨k + 1, _, _, by go_num, by omega, hT5.set5, own_keep N5 fun g hg _ _ => Below.heap_setCell w5 ⟨w.heap.size + 1 + 1, 5, none⟩ _ g (by show g ≠ w.heap.size + 1 + 1; omega), own_keep N6 fun g hg _ _ => Below.heap_setCell w5 ⟨w.heap.size + 1 + 1, 5, none⟩ _ g (by show g ≠ w.heap.size + 1 + 1; omega), fun g hg hh => ?_, (HO4.out.trans hon5 (fun i hi e => by have := (hown5 i e).1; omega)).setCell (p := ⟨w.heap.size + 1 + 1, 5, none⟩) (fun _ => rfl) _⟩; have e1 : g5 = g := Option.some.inj hg; have e2 : g6 = g := Option.some.inj hh; rcases hat5 with h | h
       . exact HD6.out g5 h (by omega)
       . omega
      case measure => simp [intOf]; omega
    | false =>
      have ER : Hid (ranksTo (frB cs) (k + 1) = ranksTo (frB cs) k ++ [(-1 : Int)]) := by
       unfold Hid; rw [ranksTo_next, if_neg (by rw [show frB cs k = false from HFB.out.symm]; simp)]
      have EF : Hid (frees (frB cs) (k + 1) = frees (frB cs) k) := frees_succ_out (show frB cs k = false from HFB.out.symm); go_wp2_with (at_builtin; go_must (refine wpList_pushZ rfl _ _ rfl (w.heap.size + 3) (.slice a6 n6 c6) (ranksTo (frB cs) k) (-1 : Int) rfl O6.out (by exact hz2') _ rfl LZ.out ?_; intro g6 cap6 w3 hn6 hon6 hat6; have hT3 := t2.out.only hon6 (by exact nT6); have z6 := hT3.cells 6; have f6 := hT3.frozen 6))
      go_roundw; case rel =>
       have hz3 := hon6.size; have N6 : OwnZ w3 (w.heap.size + 3) (.slice (some ⟨g6, 0, none⟩) ((ranksTo (frB cs) k).length + 1) cap6) (ranksTo (frB cs) (k + 1)) := by
        have h := hn6; rw [List.length_append] at h; rw [ER.out]; exact h
       have hg6 : w.heap.size + 3 <= g6 ∧ g6 < w3.heap.size := N6.lt g6 rfl; have N5 : OwnN w3 (w.heap.size + 3) (.slice a5 n5 c5) (frees (frB cs) (k + 1)) := by
        rw [EF.out]; exact own_keep O5.out fun g _ hg hv => hon6.block g hg (fun hh => HD.out g hv hh)
       refine ⟨k + 1, _, _, by go_num, by omega, hT3.set6, own_keep N5 fun g hg _ _ => Below.heap_setCell w3 ⟨w.heap.size + 1 + 1, 6, none⟩ _ g (by show g ≠ w.heap.size + 1 + 1; omega), own_keep N6 fun g hg _ _ => Below.heap_setCell w3 ⟨w.heap.size + 1 + 1, 6, none⟩ _ g (by show g ≠ w.heap.size + 1 + 1; omega), fun g hg hh => ?_, (hO2.out.trans hon6 (fun i hi e => by have := (hown6 i e).1; omega)).setCell (p := ⟨w.heap.size + 1 + 1, 6, none⟩) (fun _ => rfl) _⟩; have e2 : g6 = g := Option.some.inj hh; rcases hat6 with h | h
       . exact HD.out g hg (by rw [h, e2])
       . have := (hown5 g hg).2; omega
      case measure => simp [intOf]; omega
  . have e : k = cs.size := by omega
    subst e; obtain ⟨g5, rfl⟩ := ha5 (by rw [HN5.out]; exact HF.out); obtain ⟨g6, rfl⟩ := ha6 (by rw [HN6.out, ranksTo_len]; have := frees_le cs; have := HF.out; omega); have e6 : n6 = cs.size := by rw [HN6.out, ranksTo_len]
    subst e6; have H5 := zx h5; have H6 := zx h6; have HO := zx ho; have HT := zx ht; have hg5 : w.heap.size + 3 <= g5 := (h5.lt g5 rfl).1; have hg6 : w.heap.size + 3 <= g6 := (h6.lt g6 rfl).1; clear h5 h6 hd ho ht ha5 ha6 y0 y1 y4; have hn5le : n5 <= 36 := by rw [HN5.out]; have := frees_le cs; omega
    go_wp2; go_loopw [6] (fun v6 wr => ∃ j : Nat, v6 = .int .i64 j ∧ j <= m ∧ TabAt wr (w.heap.size + 1 + 1) ro co bu cs ac m cc (.slice (some ⟨g5, 0, none⟩) n5 c5) (.slice (some ⟨g6, 0, none⟩) cs.size c6) (n5 ^ j) ∧ Only (fun b => b = w.heap.size + 1 + 1) w1 wr) (fun v6 _ => m - (intOf v6).toNat)
    case atStart => exact ⟨0, rfl, Nat.zero_le _, HT.out, Only.refl _ _⟩
    case round =>
     obtain ⟨w2, rfl⟩ : ∃ q, q = wr := ⟨_, rfl⟩
     obtain ⟨j, rfl, hj, ht2, ho2⟩ := hrel; have hz2 := ho2.size; have y3 : w2.cell? ⟨w.heap.size, 3, none⟩ = some (.slice ac m cc) := (ho2.cell (p := ⟨w.heap.size, 3, none⟩) (by show w.heap.size < _; omega) (by show ¬ (w.heap.size = w.heap.size + 1 + 1); omega)).trans y3; have HT2 := zx ht2; have HO2 := zx ho2; by_cases hjl : j < m
     . have z7 := ht2.cells 7; have z5 := ht2.cells 5; have f7 := ht2.frozen 7; obtain ⟨P, hP⟩ : ∃ P, P = n5 ^ j := ⟨_, rfl⟩
       have hPn : Hid (n5 ^ (j + 1) = P * n5) := by unfold Hid; rw [hP, Nat.pow_succ]
       have hPb : P * n5 <= 36 ^ 4 := by
        rw [<- hPn.out]; exact Nat.le_trans (Nat.pow_le_pow_left hn5le _) (Nat.pow_le_pow_right (by omega) (by omega))
       rw [<- hP] at z7 z5; obtain ⟨R, hR⟩ : ∃ R, R = P * n5 := ⟨_, rfl⟩
       rw [<- hR] at hPb; have hmul : ((P : Nat) : Int) * ((n5 : Nat) : Int) = ((R : Nat) : Int) := by rw [hR]; exact (Int.natCast_mul P n5).symm
       have hw1 : IntKind.i64.wrap ((P : Int) * (n5 : Int)) = ((R : Nat) : Int) := by rw [hmul]; simp [IntKind.wrap, IntKind.signed, IntKind.bits]; omega
       have HR := zx hR; have HP := zx hP; clear ht2 ho2 hR hP hmul; go_wp2; go_roundw; case rel =>
        refine ⟨j + 1, by go_num, by omega, ?_, HO2.out.setCell (p := ⟨w.heap.size + 1 + 1, 7, none⟩) (fun _ => rfl) _⟩; have h := HT2.out.set7 (n7 := R); rw [hPn.out, <- HR.out]; exact h
       case measure => simp [intOf]; omega
     . have e : j = m := by omega
       subst e; obtain ⟨P, hP⟩ : ∃ P, P = n5 ^ j := ⟨_, rfl⟩
       rw [<- hP] at ht2; have HP := zx hP; clear hP; have z0 := ht2.cells 0; have z1 := ht2.cells 1; have z2 := ht2.cells 2; have z3 := ht2.cells 3; have z4 := ht2.cells 4; have z5 := ht2.cells 5; have z6 := ht2.cells 6; have z7 := ht2.cells 7; have HO12 : Only (fun b => b = w.heap.size + 1 + 1) w0 w2 := HO.out.trans HO2.out (fun _ _ e => e); have x0 := (HO12.cell (p := ⟨w.heap.size + 1, 0, none⟩) (by show w.heap.size + 1 < _; omega) (by show ¬ (w.heap.size + 1 = w.heap.size + 1 + 1); omega)).trans (X1.out 0)
       have x1 := (HO12.cell (p := ⟨w.heap.size + 1, 1, none⟩) (by show w.heap.size + 1 < _; omega) (by show ¬ (w.heap.size + 1 = w.heap.size + 1 + 1); omega)).trans (X1.out 1); have x2 := (HO12.cell (p := ⟨w.heap.size + 1, 2, none⟩) (by show w.heap.size + 1 < _; omega) (by show ¬ (w.heap.size + 1 = w.heap.size + 1 + 1); omega)).trans (X1.out 2); have x3 := (HO12.cell (p := ⟨w.heap.size + 1, 3, none⟩) (by show w.heap.size + 1 < _; omega) (by show ¬ (w.heap.size + 1 = w.heap.size + 1 + 1); omega)).trans (X1.out 3)
       have x4 := (HO12.cell (p := ⟨w.heap.size + 1, 4, none⟩) (by show w.heap.size + 1 < _; omega) (by show ¬ (w.heap.size + 1 = w.heap.size + 1 + 1); omega)).trans (X1.out 4); have x5 := (HO12.cell (p := ⟨w.heap.size + 1, 5, none⟩) (by show w.heap.size + 1 < _; omega) (by show ¬ (w.heap.size + 1 = w.heap.size + 1 + 1); omega)).trans (X1.out 5); have x6 := (HO12.cell (p := ⟨w.heap.size + 1, 6, none⟩) (by show w.heap.size + 1 < _; omega) (by show ¬ (w.heap.size + 1 = w.heap.size + 1 + 1); omega)).trans (X1.out 6)
       have x7 := (HO12.cell (p := ⟨w.heap.size + 1, 7, none⟩) (by show w.heap.size + 1 < _; omega) (by show ¬ (w.heap.size + 1 = w.heap.size + 1 + 1); omega)).trans (X1.out 7); have xf : ∀ o, w2.frozen? ⟨w.heap.size + 1, o, none⟩ = false := fun o => (HO12.frozen (p := ⟨w.heap.size + 1, o, none⟩) (by show w.heap.size + 1 < _; omega) (by show ¬ (w.heap.size + 1 = w.heap.size + 1 + 1); omega)).trans (F1.out o)
       have HO12 := zx HO12; clear ht2 ho2; go_wp2; have OF : ∀ {S : Nat -> Prop} {a u : World}, (∀ b, b = w.heap.size + 1 -> S b) -> Only S a u -> ∀ (o : Nat) (v : Value), Only S a (u.setCell ⟨w.heap.size + 1, o, none⟩ v) := fun hS hu o v => hu.setCell (p := ⟨w.heap.size + 1, o, none⟩) (fun _ => hS _ rfl) v
       have HON := OF (S := fun b => b = w.heap.size + 1 ∨ b = w.heap.size + 1 + 1) (fun _ e => .inl e) (OF (fun _ e => .inl e) (OF (fun _ e => .inl e) (OF (fun _ e => .inl e) (OF (fun _ e => .inl e) (OF (fun _ e => .inl e) (OF (fun _ e => .inl e) (OF (fun _ e => .inl e) (HO2.out.mono (S' := fun b => b = w.heap.size + 1 ∨ b = w.heap.size + 1 + 1) (fun _ _ e => .inr e)) 0 (.int .i64 ro)) 1 (.int .i64 co)) 2 (.string cs)) 3 (.slice ac j cc)) 4 (.int .i64 bu)) 5 (.slice (some ⟨g5, 0, none⟩) n5 c5)) 6 (.slice (some ⟨g6, 0, none⟩) cs.size c6)) 7 (.int .i64 (P : Nat))
       refine bodyPost_ret (v := .agg #[.int .i64 ro, .int .i64 co, .string cs, .slice ac j cc, .int .i64 bu, .slice (some ⟨g5, 0, none⟩) n5 c5, .slice (some ⟨g6, 0, none⟩) cs.size c6, .int .i64 (P : Nat)]) ?_ rfl ⟨g5, c5, g6, c6, ?_, ⟨fun i hi => ?_, fun c hc => ?_⟩, ?_⟩
       . rw [results_cell_one rfl]; go_simp
       . unfold tabV; rw [<- HN5.out, <- HP.out]
       . rw [HON.cell (p := ⟨g5, i, none⟩) (H5.out.lt g5 rfl).2 (by show ¬ (g5 = w.heap.size + 1 ∨ g5 = w.heap.size + 1 + 1); omega)]; exact H5.out.cell hi
       . rw [HON.cell (p := ⟨g6, c, none⟩) (H6.out.lt g6 rfl).2 (by show ¬ (g6 = w.heap.size + 1 ∨ g6 = w.heap.size + 1 + 1); omega), H6.out.cell (by rw [ranksTo_len]; exact hc), ranksTo_at hc]
       . exact B0.out.trans (((HO.out.mono (fun _ _ e => .inr e)).trans HON (fun _ _ e => e)).below (by omega) (fun i e => by rcases e with e | e <;> omega))
end
section
open Go.RowKit M
theorem check_bu {ro co bu : Int} {cs : ByteArray} {m : Nat} {fr tt : Nat -> Int} (h : (checkM ro co cs m fr tt bu).1 = 0) : 1 <= bu ∧ bu <= 20000 ∧ 1 <= m := by
 unfold checkM at h; by_cases h1 : (sideB ro && sideB co) = false
 . rw [if_pos h1] at h; simp at h
 . rw [if_neg h1] at h; by_cases h2 : 0 <= cellsM ro co cs
   . rw [if_pos h2] at h; simp at h
   . rw [if_neg h2] at h; by_cases h3 : m < 1 ∨ 4 < m
     . rw [if_pos h3] at h; simp at h
     . rw [if_neg h3] at h; by_cases h4 : firstOf (fun i => !(cartM cs fr tt i == 0)) m < m
       . rw [if_pos h4] at h; have := M.firstOf_is (p := fun i => !(cartM cs fr tt i == 0)) m h4; simp only [] at h this; rw [h] at this; cases this
       . rw [if_neg h4] at h; by_cases h5 : bu < 1 ∨ 20000 < bu
         . rw [if_pos h5] at h; simp at h
         . omega
theorem free_pos {cs : ByteArray} {z : Int} (h : freeB cs z = true) : 0 <= z := by
 obtain ⟨n, e, _⟩ := free_nat h; omega
def posE (ro co bu : Int) (cs : ByteArray) (m : Nat) (fr tt : Nat -> Int) (x y z : Value) : Prop :=
 ((checkM ro co cs m fr tt bu).1 ≠ 0 ∧ x = .int .i64 0 ∧ y = .bool false ∧ z = .int .i64 (checkM ro co cs m fr tt bu).1) ∨
 ((checkM ro co cs m fr tt bu).1 = 0 ∧ ∃ (n : Nat) (d : Bool), M.Told (stepP ro co cs m) (cellsOf fr m) (cellsOf tt m) bu n d ∧
   ((bu < n ∧ x = .int .i64 0 ∧ y = .bool false ∧ z = .int .i64 10) ∨ (¬ bu < n ∧ x = .int .i64 n ∧ y = .bool d ∧ z = .int .i64 0)))
theorem positions_any (ro co bu : Int) (cs : ByteArray) (a : Option Addr) (m cc : Nat) (fr tt : Nat -> Int) (w : World) (hs : cs.size <= maxLen) (hn : m <= maxLen) (hcap : m <= cc) (hsd : SidesIn w)
 (ha : 0 < m -> ∃ b off, a = some ⟨b, off, none⟩ ∧ CartsIn w b off m fr tt) :
 Calls Tryz.prog 21 #[.agg #[.int .i64 ro, .int .i64 co, .string cs, .slice a m cc, .int .i64 bu]] w fun e w' => ∃ x y z, e = .returned (.tuple #[x, y, z]) ∧ posE ro co bu cs m fr tt x y z ∧ Below w.heap.size w w' := by
 have HSD := zx hsd; have HA := zx ha; clear hsd ha; go_enter Tryz.func21, Tryz.ntmps21; go_wp2_with fail; have B1 : Hid (Below w.heap.size w (w.alloc (.cells #[.int .i64 ro, .int .i64 co, .string cs, .slice a m cc, .int .i64 bu] 34))) := (Below.refl _ w).alloc zl _; have yc : ∀ o, (w.alloc (.cells #[.int .i64 ro, .int .i64 co, .string cs, .slice a m cc, .int .i64 bu] 34)).cell? ⟨w.heap.size, o, none⟩ = #[Value.int .i64 ro, .int .i64 co, .string cs, .slice a m cc, .int .i64 bu][o]? := by
  intro o; go_simp
 have hz1 : (w.alloc (.cells #[.int .i64 ro, .int .i64 co, .string cs, .slice a m cc, .int .i64 bu] 34)).heap.size = w.heap.size + 1 := by simp
 generalize w.alloc (.cells #[.int .i64 ro, .int .i64 co, .string cs, .slice a m cc, .int .i64 bu] 34) = w1 at *; refine (fault_any ro co bu cs a m cc fr tt _ hs hn hcap (by exact opt_below HA.out B1.out)).mono ?_; rintro e w2 ⟨rfl, hb2⟩; have hz2 := hb2.size; have y0 := zj hb2 (yc 0); have y1 := zj hb2 (yc 1); have y2 := zj hb2 (yc 2); have y3 := zj hb2 (yc 3); have y4 := zj hb2 (yc 4); have B2 := zx (B1.out.trans (hb2.mono (by omega))); clear yc hb2; by_cases hck : (checkM ro co cs m fr tt bu).1 = 0
 . obtain ⟨s1, s2, s3⟩ := checkM_good hck; obtain ⟨r1, r2⟩ := side_bd s1; obtain ⟨r3, r4⟩ := side_bd s2; obtain ⟨hp1, hp2⟩ := mul_bd r1 r2 r3 r4; have hs6 : cs.size <= 36 := by omega
   obtain ⟨hm4, hfree⟩ := carts_free hck; obtain ⟨hb1, hb2, hm1⟩ := check_bu hck; have HCK := zx hck; obtain ⟨b, off, rfl, hcs⟩ := HA.out (by omega); have HCS := zx hcs; have HFR := zx hfree; rw [hck]; clear hck hcs hfree s3 hp1 hp2; go_wp2_with fail; refine (count_any ro co bu cs b off m cc fr tt _ hs6 r1 r2 r3 r4 hm4 (by omega) (HSD.out.below B2.out) (HCS.out.below B2.out) (fun k hk => ⟨free_pos (HFR.out k hk).1, (HFR.out k hk).1⟩) (fun k hk => ⟨free_pos (HFR.out k hk).2, (HFR.out k hk).2⟩)).mono ?_; rintro e w3 ⟨n, d, rfl, hn2, htd, hb3⟩; have TD := zx htd
   have z4 := zj hb3 y4; have B3 := zx (B2.out.trans (hb3.mono (by omega))); clear hb3 y0 y1 y2 y3 y4 htd; by_cases hlt : bu < n
   . go_wp2; go_ret3
     exact ⟨_, _, _, rfl, .inr ⟨HCK.out, n, d, TD.out, .inl ⟨hlt, rfl, rfl, rfl⟩⟩, B3.out⟩
   . go_wp2; go_ret3
     exact ⟨_, _, _, rfl, .inr ⟨HCK.out, n, d, TD.out, .inr ⟨by omega, rfl, rfl, rfl⟩⟩, B3.out⟩
 . clear y0 y1 y2 y3 y4; obtain ⟨z, hz⟩ : ∃ z, z = (checkM ro co cs m fr tt bu).1 := ⟨_, rfl⟩
   have HZ := zx hz; rw [<- hz] at hck ⊢; clear hz; go_wp2; go_ret3
   exact ⟨_, _, _, rfl, .inl ⟨by rw [<- HZ.out]; exact hck, rfl, rfl, congrArg (Value.int .i64) HZ.out⟩, B2.out⟩
end
section
open Go.RowKit M
def seenB (cs : ByteArray) (L : List (List Nat)) (n : Nat) : Bool := L.any fun q => numOf (frB cs) cs.size q == n
def nums (cs : ByteArray) (L : List (List Nat)) : List Nat := L.map (numOf (frB cs) cs.size)
theorem nums_len (cs : ByteArray) (L : List (List Nat)) : (nums cs L).length = L.length := by simp [nums]
theorem nums_snoc (cs : ByteArray) (L : List (List Nat)) (q : List Nat) : nums cs (L ++ [q]) = nums cs L ++ [numOf (frB cs) cs.size q] := by simp [nums]
theorem nums_at {cs : ByteArray} {L : List (List Nat)} {i : Nat} (h : i < L.length) : (nums cs L).getD i 0 = numOf (frB cs) cs.size (L.getD i []) := by
 unfold nums; rw [zg, List.getElem?_map, zg, List.getElem?_eq_getElem h]; rfl
theorem seenB_snoc (cs : ByteArray) (L : List (List Nat)) (q : List Nat) (n : Nat) : seenB cs (L ++ [q]) n = if n = numOf (frB cs) cs.size q then true else seenB cs L n := by
 unfold seenB; rw [List.any_append]; by_cases e : n = numOf (frB cs) cs.size q
 . rw [if_pos e]; simp [e]
 . rw [if_neg e]; have e2 : ¬ (numOf (frB cs) cs.size q = n) := fun h => e h.symm
   simp [e2]
theorem good_mem {cs : ByteArray} {m : Nat} {q : List Nat} (h : Good cs m q) : ∀ c, c ∈ q -> c < cs.size ∧ frB cs c = true := by
 intro c hc; obtain ⟨k, hk, rfl⟩ := List.mem_iff_getElem.1 hc; have h2 := h.2 k (by rw [<- h.1]; exact hk); rw [zg, List.getElem?_eq_getElem hk] at h2; exact h2
theorem good_lt {cs : ByteArray} {m : Nat} {q : List Nat} (h : Good cs m q) : numOf (frB cs) cs.size q < (frees (frB cs) cs.size).length ^ m := by
 have h2 := numOf_lt (good_mem h); rw [h.1] at h2; exact h2
theorem seenB_iff {cs : ByteArray} {m : Nat} {L : List (List Nat)} {q : List Nat} (hL : ∀ x, x ∈ L -> Good cs m x) (hq : Good cs m q) : seenB cs L (numOf (frB cs) cs.size q) = decide (q ∈ L) := by
 rw [Bool.eq_iff_iff, decide_eq_true_eq]; unfold seenB; rw [List.any_eq_true]; constructor
 . rintro ⟨x, hx, e⟩; have e2 : numOf (frB cs) cs.size x = numOf (frB cs) cs.size q := by simpa using e
   rw [<- numOf_inj (by rw [(hL x hx).1, hq.1]) (good_mem (hL x hx)) (good_mem hq) e2]; exact hx
 . exact fun h => ⟨q, h, by simp⟩
theorem good_step {co : Int} {cs : ByteArray} {m : Nat} {p q : List Nat} (hq : stepR co cs m p q) : Good cs m q := by
 obtain ⟨h1, h2⟩ := growL_mem.1 hq; refine ⟨h1, fun k hk => ?_⟩; obtain ⟨h3, h4⟩ := mayN_mem.1 (h2 k hk).1; refine ⟨h3, ?_⟩; unfold mayM at h4; simp only [Bool.and_eq_true] at h4; exact h4.1
theorem own_oneN (w : World) (n k : Nat) (hk : k = w.heap.size) : OwnN (w.alloc (.cells #[.int .i64 n] 3)) k (.slice (some ⟨k, 0, none⟩) 1 1) [n] := by
 subst hk; refine ⟨rfl, .inr ⟨w.heap.size, 1, #[.int .i64 n], rfl, zl, ?_, zl, by unfold maxLen; omega, rfl, rfl⟩⟩; show (w.heap.push _)[w.heap.size]? = _; simp
def posR (ro co bu : Int) (cs : ByteArray) (m : Nat) (fr tt : Nat -> Int) (x y z : Value) : Prop :=
 ((checkM ro co cs m fr tt bu).1 ≠ 0 ∧ x = .int .i64 0 ∧ y = .bool false ∧ z = .int .i64 (checkM ro co cs m fr tt bu).1) ∨
 ((checkM ro co cs m fr tt bu).1 = 0 ∧ ∃ (n : Nat) (d : Bool), M.Told (stepR co cs m) (cellsOf fr m) (cellsOf tt m) bu n d ∧
   ((bu < n ∧ x = .int .i64 0 ∧ y = .bool false ∧ z = .int .i64 10) ∨ (¬ bu < n ∧ x = .int .i64 n ∧ y = .bool d ∧ z = .int .i64 0)))
theorem rank_pos {cs : ByteArray} {m : Nat} {q : List Nat} (hm : 1 <= m) (h : Good cs m q) : 0 < (frees (frB cs) cs.size).length := by
 have h2 := h.2 0 hm; exact Nat.lt_of_le_of_lt (Nat.zero_le _) (rank_at (f := frB cs) h2.2 h2.1).1
theorem good_cellsOf {cs : ByteArray} {m : Nat} {f : Nat -> Int} (h : ∀ k, k < m -> freeB cs (f k) = true) : Good cs m (cellsOf f m) := by
 refine ⟨cellsOf_len _ _, fun k hk => ?_⟩; obtain ⟨n, e1, e2⟩ := free_nat (h k hk); have h3 := h k hk; rw [cellsOf_at hk, e1]; rw [e1] at h3; exact ⟨by simpa using e2, by simpa using h3⟩
end
end Go.Proofs.YtnkgpinadgacgaaGreatDoor
