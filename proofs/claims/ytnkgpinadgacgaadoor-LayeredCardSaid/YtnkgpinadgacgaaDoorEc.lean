/- Walk of after. -/
import Derived.Test.YtnkgpinadgacgaaDoorEb
namespace Go.Proofs.YtnkgpinadgacgaaDoor
open Go.RowKit Go.Maps M

theorem contains_take_next {L : List Int} {k : Nat} {z : Int} (hk : k < L.length) : (L.take (k + 1)).contains z = ((L.take k).contains z || z == L.getD k 0) := by
  rw [Bool.eq_iff_iff, Bool.or_eq_true, List.contains_iff_mem, List.contains_iff_mem, beq_iff_eq, List.take_succ_eq_append_getElem hk, List.mem_append, List.mem_singleton, List.getD_eq_getElem?_getD, List.getElem?_eq_getElem hk]
  rfl

set_option maxRecDepth 100000 in
set_option maxHeartbeats 8000000 in
theorem after_any (ro co bu : Int) (cs : ByteArray) (ac : Option Addr) (mc cc : Nat) (f c S : Int) (bs bt n b t : Nat) (R : Nat → RuleM) (f0 : Nat → Bool) (w : World) (hsd : SidesIn w) (r1 : 1 ≤ ro) (r2 : ro ≤ 6) (r3 : 1 ≤ co) (r4 : co ≤ 6) (hs : cs.size ≤ 36) (hsz : (cs.size : Int) = ro * co) (ht : t ≤ 1000) (hb : BansIn w bs bt cs.size n R)
    (hc : CellSet w b f0) (hf : ∀ z, f0 z = true → z < cs.size ∧ freeB cs z = true) :
    Calls Tryd.prog 159 #[tripV ro co bu cs ac mc cc f c bs bt S, .map (some b), .int .i64 t] w fun e w' =>
      ∃ b2, e = .returned (.map (some b2)) ∧ CellSet w' b2 (fun z => anyB (fun a => f0 a && goesM co cs n R a z t) cs.size) ∧ w.heap.size ≤ b2 ∧ Below w.heap.size w w' := by
  obtain ⟨D, hD, hk, hDf⟩ := hc
  have HSD := Hid.mk hsd
  have HB := Hid.mk hb
  have HD := Hid.mk hD
  have HK := Hid.mk hk
  have HDF := Hid.mk hDf
  have HF := Hid.mk hf
  have hbl : b < w.heap.size := own_map_lt hD
  have hmm := @run_makeMap Tryd.prog
  clear hsd hb hD hk hDf hf
  unfold tripV
  go_enter Tryd.func159, Tryd.ntmps159
  go_upto_region 2 with fail
  have B0 : Hid (Below w.heap.size w ((w.alloc (Obj.cells #[Value.int IntKind.i64 ro, Value.int IntKind.i64 co, Value.string cs, Value.slice ac mc cc, Value.int IntKind.i64 bu, Value.int IntKind.i64 f, Value.int IntKind.i64 c, Value.map (some bs), Value.map (some bt), Value.int IntKind.i64 S] 156)).alloc (Obj.map #[] 0))) := ((Below.refl _ w).alloc (Nat.le_refl _) _).alloc (by simp) _
  have x0 : ∀ o, ((w.alloc (Obj.cells #[Value.int IntKind.i64 ro, Value.int IntKind.i64 co, Value.string cs, Value.slice ac mc cc, Value.int IntKind.i64 bu, Value.int IntKind.i64 f, Value.int IntKind.i64 c, Value.map (some bs), Value.map (some bt), Value.int IntKind.i64 S] 156)).alloc (Obj.map #[] 0)).cell? ⟨w.heap.size, o, none⟩ = #[Value.int IntKind.i64 ro, Value.int IntKind.i64 co, Value.string cs, Value.slice ac mc cc, Value.int IntKind.i64 bu, Value.int IntKind.i64 f, Value.int IntKind.i64 c, Value.map (some bs), Value.map (some bt), Value.int IntKind.i64 S][o]? := by
    intro o; go_simp
  have C0 : Hid (CellSet ((w.alloc (Obj.cells #[Value.int IntKind.i64 ro, Value.int IntKind.i64 co, Value.string cs, Value.slice ac mc cc, Value.int IntKind.i64 bu, Value.int IntKind.i64 f, Value.int IntKind.i64 c, Value.map (some bs), Value.map (some bt), Value.int IntKind.i64 S] 156)).alloc (Obj.map #[] 0)) (w.heap.size + 1) (fun _ => false)) := cellSet_made _ _ (by simp)
  have hz : ((w.alloc (Obj.cells #[Value.int IntKind.i64 ro, Value.int IntKind.i64 co, Value.string cs, Value.slice ac mc cc, Value.int IntKind.i64 bu, Value.int IntKind.i64 f, Value.int IntKind.i64 c, Value.map (some bs), Value.map (some bt), Value.int IntKind.i64 S] 156)).alloc (Obj.map #[] 0)).heap.size = w.heap.size + 2 := by simp
  generalize ((w.alloc (Obj.cells #[Value.int IntKind.i64 ro, Value.int IntKind.i64 co, Value.string cs, Value.slice ac mc cc, Value.int IntKind.i64 bu, Value.int IntKind.i64 f, Value.int IntKind.i64 c, Value.map (some bs), Value.map (some bt), Value.int IntKind.i64 S] 156)).alloc (Obj.map #[] 0)) = w0 at *
  have X0 := Hid.mk x0
  have hzl : w.heap.size + 2 ≤ w0.heap.size := by omega
  have hzr : w0.heap.size ≤ w.heap.size + 2 := by omega
  have HD0 := Hid.mk (own_map_block HD.out (B0.out.block b hbl))
  clear x0 hz
  go_wp2_with (first
    | (at_range; refine wpList_range_own (H := Unit) _ rfl _ 166 rfl 3 171 Tryd.lawInt Tryd.underlying166 unitElem b (Maps.size D) D rfl HD0.out ?_; intro w1 hrg hg1 hs1)
    | go_in)
  go_frame
  have HRG := Hid.mk hrg
  have O1 : Hid (Only (fun k => k = w.heap.size + 1) w0 w1) := ⟨hg1.os, hg1.tape, hg1.output, by omega, fun k hk _ => hg1.block k hk (by simp)⟩
  have C1 : Hid (CellSet w1 (w.heap.size + 1) (fun _ => false)) := C0.out.block (hg1.block _ (by omega) (by simp))
  obtain ⟨G, hG⟩ : ∃ G : Nat → Nat → Bool, G = fun a z => goesM co cs n R a z t := ⟨_, rfl⟩
  have HG := Hid.mk hG
  clear hrg hg1 hG
  go_loopw [8] (fun _ wr => ∃ (left : Lit → Bool) (cnt : Nat), wr.ranges Tryd.prog 3 (unitElem (H := Unit)) b w0.heap.size (Maps.size D) D left cnt ∧ CellSet wr (w.heap.size + 1) (aftB f0 G left) ∧ Only (fun k => k = w.heap.size + 1) w0 wr) (fun _ wr => wr.rangeLeft b w0.heap.size)
  case atStart => exact ⟨_, _, HRG.out, C1.out.same (fun z _ => (aft_start HDF.out z).symm), O1.out⟩
  case round =>
    obtain ⟨w2, rfl⟩ : ∃ q, q = wr := ⟨_, rfl⟩
    obtain ⟨left, cnt, hrg, hcs, ho⟩ := hrel
    have HO := Hid.mk ho
    have HCS := Hid.mk hcs
    have HRG2 := Hid.mk hrg
    clear hrg hcs ho
    go_wp2_with (first
      | (at_next; refine wpList_next_cells rfl _ rfl b w0.heap.size (Maps.size D) D left cnt rfl HRG2.out HK.out ?_ ?_)
      | go_in)
    · intro hl0
      have HL0 := Hid.mk hl0
      clear hl0
      go_wp2
      go_ret
      exact ⟨_, rfl, HCS.out.same (fun z _ => by rw [aft_end HL0.out hs (fun c hc => (HF.out c hc).1) z, HG.out]), by omega, B0.out.trans (HO.out.below (by omega) (fun i e => by omega))⟩
    · intro x w3 cnt3 hx hxD hlx hrg3 hlt3 hg3 hs3 hen
      have hfx : f0 x = true := by rw [← HDF.out x hx]; exact hxD
      obtain ⟨hxs, hxf⟩ := HF.out x hfx
      have O3 : Hid (Only (fun k => k = w.heap.size + 1) w0 w3) := HO.out.trans (Only.of_grown hg3) (fun i hi e => by omega)
      have C3 : Hid (CellSet w3 (w.heap.size + 1) (aftB f0 G left)) := HCS.out.block (hg3.block _ HCS.out.lt (by intro e; have := Option.some.inj e; omega))
      have HRG3 := Hid.mk hrg3
      have HFX := Hid.mk hfx
      have HLX := Hid.mk hlx
      have y0 := (O3.out.cell (p := ⟨w.heap.size, 0, none⟩) (by show w.heap.size < _; omega) (by show ¬ (w.heap.size = w.heap.size + 1); omega)).trans (X0.out 0)
      have y1 := (O3.out.cell (p := ⟨w.heap.size, 1, none⟩) (by show w.heap.size < _; omega) (by show ¬ (w.heap.size = w.heap.size + 1); omega)).trans (X0.out 1)
      have y2 := (O3.out.cell (p := ⟨w.heap.size, 2, none⟩) (by show w.heap.size < _; omega) (by show ¬ (w.heap.size = w.heap.size + 1); omega)).trans (X0.out 2)
      have y3 := (O3.out.cell (p := ⟨w.heap.size, 3, none⟩) (by show w.heap.size < _; omega) (by show ¬ (w.heap.size = w.heap.size + 1); omega)).trans (X0.out 3)
      have y4 := (O3.out.cell (p := ⟨w.heap.size, 4, none⟩) (by show w.heap.size < _; omega) (by show ¬ (w.heap.size = w.heap.size + 1); omega)).trans (X0.out 4)
      have y5 := (O3.out.cell (p := ⟨w.heap.size, 5, none⟩) (by show w.heap.size < _; omega) (by show ¬ (w.heap.size = w.heap.size + 1); omega)).trans (X0.out 5)
      have y6 := (O3.out.cell (p := ⟨w.heap.size, 6, none⟩) (by show w.heap.size < _; omega) (by show ¬ (w.heap.size = w.heap.size + 1); omega)).trans (X0.out 6)
      have y7 := (O3.out.cell (p := ⟨w.heap.size, 7, none⟩) (by show w.heap.size < _; omega) (by show ¬ (w.heap.size = w.heap.size + 1); omega)).trans (X0.out 7)
      have y8 := (O3.out.cell (p := ⟨w.heap.size, 8, none⟩) (by show w.heap.size < _; omega) (by show ¬ (w.heap.size = w.heap.size + 1); omega)).trans (X0.out 8)
      have y9 := (O3.out.cell (p := ⟨w.heap.size, 9, none⟩) (by show w.heap.size < _; omega) (by show ¬ (w.heap.size = w.heap.size + 1); omega)).trans (X0.out 9)
      clear hrg3 hg3 hfx hlx hxD
      have BW3 : Hid (Below w.heap.size w w3) := B0.out.trans (O3.out.below (by omega) (fun i e => by omega))
      go_wp2_with fail
      refine (nexts_any ro co bu cs ac mc cc f c S bs bt n x t R w3 (HSD.out.below BW3.out) r1 r2 r3 r4 hs hxs hxf (by omega) (HB.out.below BW3.out)).mono ?_
      rintro e w4 ⟨v, rfl, hov, hb4⟩
      obtain ⟨L, hL⟩ : ∃ L, L = nxL ro co cs n R x t := ⟨_, rfl⟩
      rw [← hL] at hov
      obtain ⟨aL, cL, rfl, haL, _⟩ := own_form hov
      have hLn : L.length ≤ 5 := by
        rw [hL]
        unfold nxL
        exact Nat.le_trans (List.length_filter_le _ _) (mvL_len (ro := ro) (co := co) (cs := cs) (c := (x : Int))).1
      have LNAT : Hid (∀ k, k < L.length → ∃ z : Nat, L.getD k 0 = z ∧ z < cs.size) := fun k hk => nx_nat hxf (by rw [← hL]; exact at_mem hk)
      have LIFF : Hid (∀ z : Nat, L.contains (z : Int) = G x z) := fun z => by
        rw [Bool.eq_iff_iff, List.contains_iff_mem, hL, HG.out]
        exact nx_mem r3 r4 hsz hxs hxf
      have hz4 := hb4.size
      have hs13 := O3.out.size
      have RG4 : Hid (w4.ranges Tryd.prog 3 (unitElem (H := Unit)) b w0.heap.size (Maps.size D) D (fun k => left k && !k.sameKey (.int .i64 (x : Int))) cnt3) := HRG3.out.kept (row := none) ⟨hb4.os, hb4.tape, hb4.output, hb4.size, fun i hi _ => hb4.block i hi⟩ (by simp) (by simp)
      have C4 : Hid (CellSet w4 (w.heap.size + 1) (aftB f0 G left)) := C3.out.below hb4
      have O4 : Hid (Only (fun k => k = w.heap.size + 1) w0 w4) := O3.out.trans (Only.of_below hb4 : Only (fun _ => False) w3 w4) (fun _ _ e => e.elim)
      have HOV := Hid.mk hov
      have HAL := Hid.mk haL
      clear hL hov hb4 haL y0 y1 y2 y3 y4 y5 y6 y7 y8 y9 hen
      go_wp2
      go_loopw [24] (fun v24 wr => ∃ k : Nat, v24 = .int .i64 k ∧ k ≤ L.length ∧ wr.ranges Tryd.prog 3 (unitElem (H := Unit)) b w0.heap.size (Maps.size D) D (fun k => left k && !k.sameKey (.int .i64 (x : Int))) cnt3 ∧ CellSet wr (w.heap.size + 1) (fun z => aftB f0 G left z || (L.take k).contains (z : Int)) ∧ Only (fun k => k = w.heap.size + 1) w4 wr) (fun v24 _ => L.length - (intOf v24).toNat)
      case atStart => exact ⟨0, rfl, Nat.zero_le _, RG4.out, C4.out.same (fun z _ => by simp), Only.refl _ _⟩
      case round =>
        obtain ⟨w5, rfl⟩ : ∃ q, q = wr := ⟨_, rfl⟩
        obtain ⟨k, rfl, hk, hrg5, hc5, ho5⟩ := hrel
        have RG5 := Hid.mk hrg5
        have C5 := Hid.mk hc5
        have O5 := Hid.mk ho5
        clear hrg5 hc5 ho5
        by_cases hlt : k < L.length
        · obtain ⟨gL, rfl⟩ := HAL.out (by omega)
          obtain ⟨z, hz, hzs⟩ := LNAT.out k hlt
          have hlg := own_lt HOV.out
          have d0 : w5.cell? ⟨gL, k, none⟩ = some (.int .i64 (z : Int)) := by
            rw [cell_block (O5.out.block gL hlg.2 (by omega)), own_cell HOV.out hlt, ints_at' hlt, hz]
          have HZ := Hid.mk hz
          clear hz
          go_wp2_with (first
            | (at_mapUpdate; refine wpList_put_cell rfl _ _ _ rfl (w.heap.size + 1) _ rfl C5.out z (by omega) rfl rfl ?_; intro w6 hc6 hg6)
            | go_in)
          go_roundw
          case rel =>
            refine ⟨k + 1, by go_num, by omega, RG5.out.kept hg6 (by intro e; have := Option.some.inj e; omega) (by intro e; have := Option.some.inj e; omega), hc6.same (fun y _ => ?_), O5.out.trans (Only.of_grown hg6) (fun _ _ e => e)⟩
            rw [contains_take_next hlt, HZ.out, Bool.or_assoc]
            congr 2
            rw [Bool.eq_iff_iff, beq_iff_eq, beq_iff_eq]
            omega
          case measure => simp [intOf]; omega
        · have hd : k = L.length := by omega
          subst hd
          go_wp2
          go_roundw
          case rel =>
            refine ⟨_, cnt3, RG5.out, C5.out.same (fun y _ => ?_), O4.out.trans O5.out (fun _ _ e => e)⟩
            rw [List.take_length, LIFF.out]
            exact aft_step hx HFX.out y
          case measure => rw [RG5.out.left_eq, HRG2.out.left_eq]; omega

end Go.Proofs.YtnkgpinadgacgaaDoor
