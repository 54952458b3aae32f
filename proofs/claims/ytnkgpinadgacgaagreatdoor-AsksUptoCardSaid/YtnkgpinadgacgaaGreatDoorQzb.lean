/- Du. -/
import Derived.Test.YtnkgpinadgacgaaGreatDoorQza
set_option maxRecDepth 1000000
set_option maxHeartbeats 8000000
namespace Go.Proofs.YtnkgpinadgacgaaGreatDoor
section
open Go.RowKit M
def rowsTo (co : Int) (cs : ByteArray) (p : List Nat) (i : Nat) (q : List Nat) (c : Nat) : List (List Nat) := (((List.range c).filter fun z : Nat => mayM co cs (p.getD i 0 : Nat) z).filter fun z => fitB p (q ++ [z]) i).map fun z => q ++ [z]
theorem rowsTo_zero (co : Int) (cs : ByteArray) (p : List Nat) (i : Nat) (q : List Nat) : rowsTo co cs p i q 0 = [] := rfl
theorem rowsTo_in {co : Int} {cs : ByteArray} {p : List Nat} {i c : Nat} {q : List Nat} (h1 : mayM co cs (p.getD i 0 : Nat) c = true) (h2 : fitB p (q ++ [c]) i = true) : rowsTo co cs p i q (c + 1) = rowsTo co cs p i q c ++ [q ++ [c]] := by
 unfold rowsTo; generalize p.getD i 0 = x at *; rw [List.range_succ, List.filter_append, List.filter_append, List.map_append]; simp [h1, h2]
theorem rowsTo_out {co : Int} {cs : ByteArray} {p : List Nat} {i c : Nat} {q : List Nat} (h : mayM co cs (p.getD i 0 : Nat) c = false ∨ fitB p (q ++ [c]) i = false) : rowsTo co cs p i q (c + 1) = rowsTo co cs p i q c := by
 unfold rowsTo; generalize p.getD i 0 = x at *; rw [List.range_succ, List.filter_append, List.filter_append, List.map_append]; rcases h with h | h
 . simp [h]
 . by_cases h1 : mayM co cs (x : Nat) c = true
   . simp [h, h1]
   . simp [h1]
theorem rowsTo_all {co : Int} {cs : ByteArray} {p : List Nat} {i : Nat} {q : List Nat} : rowsTo co cs p i q cs.size = growM (mayN co cs) p i q (mayN co cs (p.getD i 0)).length := by
 unfold rowsTo growM; rw [List.take_length]; rfl
theorem rowsTo_le {co : Int} {cs : ByteArray} {p : List Nat} {i : Nat} {q : List Nat} (c : Nat) : (rowsTo co cs p i q c).length <= c := by
 unfold rowsTo; rw [List.length_map]; refine Nat.le_trans (List.length_filter_le _ _) (Nat.le_trans (List.length_filter_le _ _) (by simp))
theorem mayN_le {co : Int} {cs : ByteArray} {B : Nat} (hs : cs.size <= B) (c : Nat) : (mayN co cs c).length <= B := by
 unfold mayN; exact Nat.le_trans (List.length_filter_le _ _) (by simp; exact hs)
theorem growQ_le {step : Nat -> List Nat} {p : List Nat} {i t : Nat} (h : ∀ c, (step c).length <= 36) (hi : i < 4) : (growP step p i t).length <= 1679616 := by
 have h1 : growL step p (i + 1) = growP step p i t ++ ((growL step p i).drop t).flatMap fun q => growM step p i q (step (p.getD i 0)).length := by
  rw [<- growP_all rfl]; unfold growP; rw [List.take_length, <- List.flatMap_append, List.take_append_drop]
 have h2 := growL_len (p := p) h (i + 1); have h3 : (growP step p i t).length <= (growL step p (i + 1)).length := by rw [h1, List.length_append]; omega
 have h4 : 36 ^ (i + 1) <= 36 ^ 4 := Nat.pow_le_pow_right (by omega) (by omega); omega
theorem zero_row (m : Nat) (w : World) (t : TypeId) (k : Nat) (hk : k = w.heap.size) : (w.alloc (.cells (madeCells #[.int .i64 0] m) t)).rowIs k t m (fun _ => .int .i64 0) := by
 subst hk; exact rowIs_made _ _ _ _ fun i hi => by simp [Nat.mod_one]
theorem row_more {w : World} {g i c : Nat} {q : List Nat} {t : TypeId} (hq : q.length = i) (h : w.rowIs g t (i + 1) (fun j => if j < i then (fun j => Value.int .i64 (q.getD j 0 : Nat)) j else Value.int .i64 0)) :
 (w.setCell ⟨g, i, none⟩ (.int .i64 c)).rowIs g t (i + 1) (fun j => .int .i64 ((q ++ [c]).getD j 0 : Nat)) := by
 refine (h.set i _).congr fun j hj => ?_
 by_cases e : j = i
 . subst e; rw [if_pos rfl, getD_snoc_new hq.symm]
 . rw [if_neg e, if_pos (by omega), getD_snoc_old (by omega)]
theorem rowQ_of {w : World} {g n : Nat} {q : List Nat} {t : TypeId} (hn : q.length = n) (h : w.rowIs g t n (fun j => .int .i64 (q.getD j 0 : Nat))) (c : Nat) : RowQ w (.slice (some ⟨g, 0, none⟩) n c) q := by
 subst hn; exact ⟨⟨some ⟨g, 0, none⟩, c, rfl, fun _ => ⟨g, rfl, fun j hj => h.cell hj⟩⟩, fun b hb => by cases hb; exact h.lt⟩
theorem Tryz.sizeInt2 : (Tryz.prog.info? 3).map (·.size) = some 1 := by kernel_rfl
theorem rnext_any (ro co bu : Int) (cs : ByteArray) (ac : Option Addr) (m cc gf cf gr cr cnt : Nat) (b off cq : Nat) (p : List Nat) (w : World) (hs : cs.size <= 36) (h1 : 1 <= co) (h2 : co <= 6) (hm : m <= 4)
 (hp : ∀ k, k < m -> w.cell? ⟨b, off + k, none⟩ = some (.int .i64 (p.getD k 0 : Nat))) :
 Calls Tryz.prog 59 #[tabV ro co bu cs ac m cc gf cf gr cr cnt, .slice (some ⟨b, off, none⟩) m cq, .int .i64 0] w fun e w' => ∃ v, e = .returned v ∧ OwnQ w' w.heap.size v (growL (mayN co cs) p m) ∧ Below w.heap.size w w' := by
 have HP := zx hp; obtain ⟨S, hS⟩ : ∃ S, S = mayN co cs := ⟨_, rfl⟩
 rw [<- hS]; have HS := zx hS; have HSL : Hid (∀ c, (S c).length <= 36) := fun c => by rw [HS.out]; exact mayN_le hs c
 obtain ⟨F, hF⟩ : ∃ F, F = (frees (frB cs) cs.size).length := ⟨_, rfl⟩
 unfold tabV; rw [<- hF]; clear hp hS hF; go_enter Tryz.func59, Tryz.ntmps59; go_wp2; have B0 : Hid (Below w.heap.size w ((w.alloc (.cells #[.int .i64 ro, .int .i64 co, .string cs, .slice ac m cc, .int .i64 bu, .slice (some ⟨gf, 0, none⟩) F cf, .slice (some ⟨gr, 0, none⟩) cs.size cr, .int .i64 (cnt : Nat)] 79)).alloc (.cells #[.slice none 0 0] 23))) := ((Below.refl _ w).alloc zl _).alloc (by simp) _
 have x0 : ∀ o, ((w.alloc (.cells #[.int .i64 ro, .int .i64 co, .string cs, .slice ac m cc, .int .i64 bu, .slice (some ⟨gf, 0, none⟩) F cf, .slice (some ⟨gr, 0, none⟩) cs.size cr, .int .i64 (cnt : Nat)] 79)).alloc (.cells #[.slice none 0 0] 23)).cell? ⟨w.heap.size, o, none⟩ = #[Value.int .i64 ro, .int .i64 co, .string cs, .slice ac m cc, .int .i64 bu, .slice (some ⟨gf, 0, none⟩) F cf, .slice (some ⟨gr, 0, none⟩) cs.size cr, .int .i64 (cnt : Nat)][o]? := by
  intro o; go_simp
 have L0 : Hid (OwnQ ((w.alloc (.cells #[.int .i64 ro, .int .i64 co, .string cs, .slice ac m cc, .int .i64 bu, .slice (some ⟨gf, 0, none⟩) F cf, .slice (some ⟨gr, 0, none⟩) cs.size cr, .int .i64 (cnt : Nat)] 79)).alloc (.cells #[.slice none 0 0] 23)) (w.heap.size + 1) (.slice (some ⟨w.heap.size + 1, 0, none⟩) 1 1) [[]]) := own_oneQ _ _ (by simp)
 have hz : ((w.alloc (.cells #[.int .i64 ro, .int .i64 co, .string cs, .slice ac m cc, .int .i64 bu, .slice (some ⟨gf, 0, none⟩) F cf, .slice (some ⟨gr, 0, none⟩) cs.size cr, .int .i64 (cnt : Nat)] 79)).alloc (.cells #[.slice none 0 0] 23)).heap.size = w.heap.size + 2 := by simp
 generalize ((w.alloc (.cells #[.int .i64 ro, .int .i64 co, .string cs, .slice ac m cc, .int .i64 bu, .slice (some ⟨gf, 0, none⟩) F cf, .slice (some ⟨gr, 0, none⟩) cs.size cr, .int .i64 (cnt : Nat)] 79)).alloc (.cells #[.slice none 0 0] 23)) = w0 at *; have X0 := zx x0; have HZ := zx hz; clear x0 hz; go_loopw [7, 8] (fun v7 v8 wr => ∃ (i : Nat) (V : Value), i <= m ∧ V = v7 ∧ v8 = .int .i64 i ∧ OwnQ wr (w.heap.size + 1) V (growL S p i) ∧ Below (w.heap.size + 1) w0 wr) (fun _ v8 _ => m - (intOf v8).toNat)
 case atStart => exact ⟨0, _, Nat.zero_le _, rfl, rfl, L0.out, Below.refl _ _⟩
 case round =>
  obtain ⟨w1, rfl⟩ : ∃ q, q = wr := ⟨_, rfl⟩
  obtain ⟨i, V7, hi, rfl, rfl, hl, hbr⟩ := hrel; have HBR := zx hbr; have hzr := hbr.size; have hz := HZ.out; by_cases hlt : i < m
  . obtain ⟨L, hL⟩ : ∃ L, L = growL S p i := ⟨_, rfl⟩
    rw [<- hL] at hl; obtain ⟨a7, cap7, rfl, ha7, hcap7⟩ := hl.form; have HL := zx hl; have HLq := zx hL; have HA7 := zx ha7; have hLen : L.length <= 100000000 := by
     have h1 := growL_len (p := p) HSL.out i; have h2 : 36 ^ i <= 36 ^ 4 := Nat.pow_le_pow_right (by omega) (by omega); rw [hL]; omega
    clear hl hbr hL ha7; go_wp2; go_loopw [9, 10] (fun v9 v10 wr => ∃ (t : Nat) (V : Value), t <= L.length ∧ V = v9 ∧ v10 = .int .i64 t ∧ OwnQ wr w1.heap.size V (growP S p i t) ∧ Below w1.heap.size w1 wr) (fun _ v10 _ => L.length - (intOf v10).toNat)
    case atStart => exact ⟨0, _, Nat.zero_le _, rfl, rfl, by rw [growP_zero]; exact OwnQ.nil _ _, Below.refl _ _⟩
    case round =>
     obtain ⟨w2, rfl⟩ : ∃ q, q = wr := ⟨_, rfl⟩
     obtain ⟨t, V9, ht, rfl, rfl, hf9, hbq⟩ := hrel; have HBQ := zx hbq; have hzq := hbq.size; have HF9 := zx hf9; by_cases htl : t < L.length
     . obtain ⟨g7, rfl⟩ := HA7.out (by omega); obtain ⟨q, hq⟩ : ∃ q, q = L.getD t [] := ⟨_, rfl⟩
       have hqi : q.length = i := by
        have hLL := HLq.out; subst hLL; rw [hq, zg, List.getElem?_eq_getElem htl]; exact growL_at htl
       obtain ⟨sa, sc, hsrc, hsq, _⟩ := HL.out.cell htl; rw [<- hq, hqi] at hsrc hsq; have HQ := zx hq; have HQI := zx hqi; have HSQ := zx hsq; have HSRC := zx hsrc; clear hq hqi hf9 hbq hsq hsrc; go_wp2; go_loopw [9, 11] (fun v9 v11 wr => ∃ (c : Nat) (V : Value), c <= cs.size ∧ V = v9 ∧ v11 = .int .i64 c ∧ OwnQ wr w1.heap.size V (growP S p i t ++ rowsTo co cs p i q c) ∧ Below w1.heap.size w1 wr) (fun _ v11 _ => cs.size - (intOf v11).toNat)
       case atStart => exact ⟨0, _, Nat.zero_le _, rfl, rfl, by rw [rowsTo_zero, List.append_nil]; exact HF9.out, HBQ.out⟩
       case round =>
        obtain ⟨w3, rfl⟩ : ∃ q, q = wr := ⟨_, rfl⟩
        obtain ⟨c, V9, hc, rfl, rfl, hf9, hb3⟩ := hrel; have HF3 := zx hf9; have HB3 := zx hb3; have hz3 := hb3.size; have BF3 := zx (HBR.out.trans (hb3.mono (by omega))); have y0 := (BF3.out.cell (p := ⟨w.heap.size, 0, none⟩) (by show w.heap.size < w.heap.size + 1; omega)).trans (X0.out 0); have y1 := (BF3.out.cell (p := ⟨w.heap.size, 1, none⟩) (by show w.heap.size < w.heap.size + 1; omega)).trans (X0.out 1); have y2 := (BF3.out.cell (p := ⟨w.heap.size, 2, none⟩) (by show w.heap.size < w.heap.size + 1; omega)).trans (X0.out 2)
        have y3 := (BF3.out.cell (p := ⟨w.heap.size, 3, none⟩) (by show w.heap.size < w.heap.size + 1; omega)).trans (X0.out 3); have y4 := (BF3.out.cell (p := ⟨w.heap.size, 4, none⟩) (by show w.heap.size < w.heap.size + 1; omega)).trans (X0.out 4); clear hf9 hb3; by_cases hcl : c < cs.size
        . obtain ⟨pi, hpi⟩ : ∃ v, v = p.getD i 0 := ⟨_, rfl⟩
          have BW3 := zx (B0.out.trans (BF3.out.mono (by omega))); have d0 := zj BW3.out (HP.out i hlt); rw [<- hpi] at d0; have HPI := zx hpi; clear hpi; obtain ⟨mb, hmb⟩ : ∃ mb, mb = mayM co cs (pi : Nat) (c : Nat) := ⟨_, rfl⟩
          have MAY : Hid (∀ u : World, Calls Tryz.prog 86 #[.agg #[.int .i64 ro, .int .i64 co, .string cs, .slice ac m cc, .int .i64 bu], .int .i64 (pi : Nat), .int .i64 (c : Nat)] u fun e w' => e = .returned (.bool mb) ∧ Below u.heap.size u w') := fun u => by
           rw [hmb]; exact may_any ro co bu pi c cs _ u hs h1 h2 (by omega) (by omega)
          have HMB := zx hmb; clear hmb; go_upto_region 12 with fail; go_region_held3 (fun w' => w'.cell? ⟨w.heap.size, 0, none⟩ = some (Value.int .i64 ro) ∧ w'.cell? ⟨w.heap.size, 1, none⟩ = some (.int .i64 co) ∧ w'.cell? ⟨w.heap.size, 2, none⟩ = some (.string cs) ∧ w'.cell? ⟨w.heap.size, 3, none⟩ = some (.slice ac m cc) ∧ w'.cell? ⟨w.heap.size, 4, none⟩ = some (.int .i64 bu) ∧ w'.cell? ⟨b, off + i, none⟩ = some (.int .i64 (pi : Nat))) (go_keep)
           (first
            | (go_at_call 86; refine (MAY.out _).mono ?_; rintro e w4 ⟨rfl, hb4⟩; have HB4 := zx hb4; have p0 : w4.cell? ⟨w.heap.size, 0, none⟩ = some (Value.int .i64 ro) := zj hb4 y0; have p1 : w4.cell? ⟨w.heap.size, 1, none⟩ = some (.int .i64 co) := zj hb4 y1; have p2 : w4.cell? ⟨w.heap.size, 2, none⟩ = some (.string cs) := zj hb4 y2; have p3 : w4.cell? ⟨w.heap.size, 3, none⟩ = some (.slice ac m cc) := zj hb4 y3; have p4 : w4.cell? ⟨w.heap.size, 4, none⟩ = some (.int .i64 bu) := zj hb4 y4; have p5 : w4.cell? ⟨b, off + i, none⟩ = some (.int .i64 (pi : Nat)) := zj hb4 d0; clear hb4)
            )
          have hb34 : Below w3.heap.size w3 w4 := (Below.refl _ w3).drew.trans (by exact HB4.out); have hz4 := hb34.size; have HF4 : Hid (OwnQ w4 w1.heap.size V9 (growP S p i t ++ rowsTo co cs p i q c)) := HF3.out.below hb34; have BQ4 := zx (HB3.out.trans (hb34.mono (by omega))); have BW4 := zx (BW3.out.trans (hb34.mono (by have := BW3.out.size; omega))); have s1 : w4.cell? ⟨g7, t, none⟩ = some (.slice sa i sc) := zj BQ4.out HSRC.out; have hg7l : g7 < w4.heap.size := World.block_lt_of_cell? (a := ⟨g7, t, none⟩) w4 s1; have hw14 : w1.heap.size <= w4.heap.size := by omega
          have SRC : Hid (0 < i -> ∃ b, sa = some ⟨b, 0, none⟩ ∧ ∀ j, j < i -> w4.cell? ⟨b, 0 + j, none⟩ = some (.int .i64 (q.getD j 0 : Nat))) := fun h0 => by
           obtain ⟨a2, c2, e2, h2⟩ := HSQ.out.form; obtain ⟨b2, hb2, hc2⟩ := h2 (by rw [HQI.out]; exact h0); refine ⟨b2, by injection e2 with e3 _ _; rw [e3, hb2], fun j hj => ?_⟩; rw [Nat.zero_add]; exact zj BQ4.out (hc2 j (by rw [HQI.out]; exact hj))
          clear hb34 p0 p1 p2 p3 p4 y0 y1 y2 y3 y4 d0; cases mb with
          | false =>
            have hgm2 : Hid (rowsTo co cs p i q (c + 1) = rowsTo co cs p i q c) := rowsTo_out (.inl (by rw [<- HPI.out]; exact HMB.out.symm)); clear p5 s1; go_wp2; go_roundw; case rel => exact ⟨c + 1, _, by omega, rfl, by go_num, by rw [hgm2.out]; exact HF4.out, BQ4.out⟩
            case measure => simp [intOf]; omega
          | true =>
            have hi4 : i < 4 := by omega
            have B45 : Hid (Below w4.heap.size w4 (w4.alloc (.cells (madeCells #[Value.int .i64 0] (i + 1)) 3))) := (Below.refl _ _).alloc zl _; go_wp2_with (first | (at_make; go_must (refine wpList_make_all _ rfl _ _ 23 rfl 3 _ _ _ Tryz.underlying23 Tryz.infoInt2 _ _ _ _ (i + 1) rfl rfl (by simp) (by simp) (by omega) (by omega) ?_)) | ((refine wpList_copy_rowsS rfl _ _ _ _ rfl 3 Tryz.underlying23 1 Tryz.sizeInt2 _ _ _ _ _ _ rfl rfl 3 (i + 1) (fun _ => .int .i64 0) (zero_row _ _ _ _ rfl) i ?hm ?hmN (fun j => .int .i64 (q.getD j 0 : Nat)) (fun _ => rfl) ?hsrc ?_)))
            case hm => show min i (i + 1) * 1 = i; rw [Nat.min_eq_left (by omega)]; omega
            case hmN => omega
            case hsrc =>
             intro h0; obtain ⟨b2, hb2, hc2⟩ := SRC.out h0; exact ⟨b2, 0, hb2, fun j hj => zj B45.out (hc2 j hj)⟩
            intro w5 hrow hb5 hsz5; have hrow2 : Hid ((w5.setCell ⟨w4.heap.size, i, none⟩ (.int .i64 c)).rowIs w4.heap.size 3 (i + 1) (fun j => .int .i64 ((q ++ [c]).getD j 0 : Nat))) := row_more HQI.out hrow; have z1 := hrow.cell (i := i) (by omega); have z2 := hrow.frozen; have B5 : Below w4.heap.size w4 w5 := B45.out.trans (hb5.mono zl); have B6 : Hid (Below w4.heap.size w4 (w5.setCell ⟨w4.heap.size, i, none⟩ (.int .i64 c))) := B5.setCell zl _; clear hrow hb5 hsz5 B5 p5 s1; go_upto_region 17 with fail; generalize (w5.setCell ⟨w4.heap.size, i, none⟩ (.int .i64 c)) = w6 at *
            have hz6 := B6.out.size; obtain ⟨fb, hfb⟩ : ∃ fb, fb = fitB p (q ++ [c]) i := ⟨_, rfl⟩
            have FIT : Hid (Calls Tryz.prog 87 #[.slice (some ⟨b, off, none⟩) m cq, .slice (some ⟨w4.heap.size, 0, none⟩) (i + 1) (i + 1), .int .i64 (i : Nat)] w6 fun e w' => e = .returned (.bool fb) ∧ Below w6.heap.size w6 w') := by
             rw [hfb]; exact rapart_any p (q ++ [c]) b off m cq w4.heap.size 0 (i + 1) (i + 1) i w6 hlt (by omega) hi4 (fun j hj => zj (BW4.out.trans (B6.out.mono (by have := BW4.out.size; omega))) (HP.out j hj)) (fun j hj => by rw [Nat.zero_add]; exact hrow2.out.cell hj)
            have HFB := zx hfb; clear hfb z1 z2; go_wp2_with fail; refine FIT.out.mono ?_; rintro e w7 ⟨rfl, hb7⟩; have B47 := zx (B6.out.trans (hb7.mono (by omega))); have hz7 := B47.out.size; have OWN7 : Hid (OwnQ w7 w1.heap.size V9 (growP S p i t ++ rowsTo co cs p i q c)) := HF4.out.below B47.out; have ROW7 : Hid (RowQ w7 (.slice (some ⟨w4.heap.size, 0, none⟩) (i + 1) (i + 1)) (q ++ [c])) := (rowQ_of (by rw [List.length_append, HQI.out]; rfl) hrow2.out (i + 1)).below hb7
            have D7 : ∀ g, V9.ownBlock = some g -> (Value.slice (some ⟨w4.heap.size, 0, none⟩) (i + 1) (i + 1)).ownBlock ≠ some g := fun g hg hh => by
             have e := Option.some.inj hh; have := (HF4.out.lt g hg).2; simp at e; omega
            have HD7 := zx D7; have HLO7 : Hid (∀ g, (Value.slice (some ⟨w4.heap.size, 0, none⟩) (i + 1) (i + 1)).ownBlock = some g -> w1.heap.size <= g) := fun g hh => by
             have e := Option.some.inj hh; simp at e; omega
            have BQ7 := zx (BQ4.out.trans (B47.out.mono (by omega))); clear D7 hb7; cases fb with
            | true =>
              have FL : Hid ((growP S p i t ++ rowsTo co cs p i q c).length <= 100000000) := by
               have h1 := growQ_le (p := p) (t := t) HSL.out hi4; have h2 := rowsTo_le (co := co) (cs := cs) (p := p) (i := i) (q := q) c; unfold Hid; rw [List.length_append]; omega
              have hgm2 : Hid (growP S p i t ++ rowsTo co cs p i q (c + 1) = (growP S p i t ++ rowsTo co cs p i q c) ++ [q ++ [c]]) := by
               unfold Hid; rw [rowsTo_in (by rw [<- HPI.out]; exact HMB.out.symm) HFB.out.symm, List.append_assoc]
              go_wp2_with (at_builtin; go_must (refine wpList_pushQ rfl _ _ rfl w1.heap.size V9 (growP S p i t ++ rowsTo co cs p i q c) (.slice (some ⟨w4.heap.size, 0, none⟩) (i + 1) (i + 1)) (q ++ [c]) rfl OWN7.out (by exact BQ7.out.size) ROW7.out HD7.out HLO7.out _ rfl FL.out ?_; intro g9 c9 w9 ho9 hon9 hg9))
              go_roundw; case rel =>
               have el : (growP S p i t ++ rowsTo co cs p i q c ++ [q ++ [c]]).length = (growP S p i t).length + ((rowsTo co cs p i q c).length + 1) := by simp
               rw [el] at ho9; refine ⟨c + 1, _, by omega, rfl, by go_num, by rw [hgm2.out]; exact ho9, ?_⟩; refine BQ7.out.trans ⟨hon9.os, hon9.tape, hon9.output, hon9.size, fun k hk => hon9.block k (by have := BQ7.out.size; omega) fun hh => ?_⟩; have := (OWN7.out.lt _ hh).1; omega
              case measure => simp [intOf]; omega
            | false =>
              have hgm2 : Hid (rowsTo co cs p i q (c + 1) = rowsTo co cs p i q c) := rowsTo_out (.inr HFB.out.symm); go_wp2; go_roundw; case rel => exact ⟨c + 1, _, by omega, rfl, by go_num, by rw [hgm2.out]; exact OWN7.out, BQ7.out⟩
              case measure => simp [intOf]; omega
        . have hd : c = cs.size := by omega
          have HFN : Hid (OwnQ w3 w1.heap.size V9 (growP S p i (t + 1))) := by
           have h := HF3.out; have hLL := HLq.out; have hSS := HS.out; subst hLL; rw [hd, rowsTo_all, <- hSS, HQ.out, zg, List.getElem?_eq_getElem htl] at h; rw [growP_next htl]; exact h
          clear y0 y1 y3 y4; go_wp2; go_roundw; case rel => exact ⟨t + 1, _, by omega, rfl, by go_num, HFN.out, HB3.out⟩
          case measure => simp [intOf]; omega
     . have hd : t = L.length := by omega
       have HFN : Hid (OwnQ w2 w1.heap.size V9 (growL S p (i + 1))) := by
        rw [<- growP_all (t := t) (by rw [hd, HLq.out])]; exact HF9.out
       go_wp2; go_roundw; case rel => exact ⟨i + 1, _, by omega, rfl, by go_num, HFN.out.le (by omega), HBR.out.trans (HBQ.out.mono (by omega))⟩
       case measure => simp [intOf]; omega
  . have hd : i = m := by omega
    subst hd; go_wp2; go_ret; exact ⟨_, rfl, OwnQ.le hl (by omega), B0.out.trans (HBR.out.mono (by omega))⟩
end
end Go.Proofs.YtnkgpinadgacgaaGreatDoor
