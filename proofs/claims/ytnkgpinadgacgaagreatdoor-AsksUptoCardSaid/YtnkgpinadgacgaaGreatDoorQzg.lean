/- Dw. -/
import Derived.Test.YtnkgpinadgacgaaGreatDoorQzd
set_option maxRecDepth 1000000
set_option maxHeartbeats 8000000
namespace Go.Proofs.YtnkgpinadgacgaaGreatDoor
section
open Go.RowKit M
theorem rpositions_any (ro co bu : Int) (cs : ByteArray) (a : Option Addr) (m cc : Nat) (fr tt : Nat -> Int) (w : World) (hs : cs.size <= maxLen) (hn : m <= maxLen)
 (ha : 0 < m -> ∃ b off, a = some ⟨b, off, none⟩ ∧ CartsIn w b off m fr tt) :
 Calls Tryz.prog 31 #[.agg #[.int .i64 ro, .int .i64 co, .string cs, .slice a m cc, .int .i64 bu]] w fun e w' => ∃ x y z, e = .returned (.tuple #[x, y, z]) ∧ posR ro co bu cs m fr tt x y z ∧ Below w.heap.size w w' := by
 have HA := zx ha; clear ha; go_enter Tryz.func31, Tryz.ntmps31; go_wp2_with fail; have B1 : Hid (Below w.heap.size w (w.alloc (.cells #[.int .i64 ro, .int .i64 co, .string cs, .slice a m cc, .int .i64 bu] 34))) := (Below.refl _ w).alloc zl _; have yc : ∀ o, (w.alloc (.cells #[.int .i64 ro, .int .i64 co, .string cs, .slice a m cc, .int .i64 bu] 34)).cell? ⟨w.heap.size, o, none⟩ = #[Value.int .i64 ro, .int .i64 co, .string cs, .slice a m cc, .int .i64 bu][o]? := by
  intro o; go_simp
 have hz1 : (w.alloc (.cells #[.int .i64 ro, .int .i64 co, .string cs, .slice a m cc, .int .i64 bu] 34)).heap.size = w.heap.size + 1 := by simp
 generalize w.alloc (.cells #[.int .i64 ro, .int .i64 co, .string cs, .slice a m cc, .int .i64 bu] 34) = w1 at *; refine (rcheck_any ro co bu cs a m cc fr tt _ hs hn (by exact opt_below HA.out B1.out)).mono ?_; rintro e w2 ⟨rfl, hb2⟩; have hz2 := hb2.size; have y0 := zj hb2 (yc 0); have y1 := zj hb2 (yc 1); have y2 := zj hb2 (yc 2); have y3 := zj hb2 (yc 3); have y4 := zj hb2 (yc 4); have B2 := zx (B1.out.trans (hb2.mono (by omega))); obtain ⟨e2, he2⟩ : ∃ v, v = (checkM ro co cs m fr tt bu).2 := ⟨_, rfl⟩
 rw [<- he2]; clear yc hb2 he2; by_cases hck : (checkM ro co cs m fr tt bu).1 = 0
 . obtain ⟨s1, s2, s3⟩ := checkM_good hck; obtain ⟨r1, r2⟩ := side_bd s1; obtain ⟨r3, r4⟩ := side_bd s2; obtain ⟨hp1, hp2⟩ := mul_bd r1 r2 r3 r4; have hs6 : cs.size <= 36 := by omega
   obtain ⟨hm4, hfree⟩ := carts_free hck; obtain ⟨hb1, hb2, hm1⟩ := check_bu hck; have HCK := zx hck; obtain ⟨b, off, rfl, hcs⟩ := HA.out (by omega); have HCS := zx hcs; have HFR := zx hfree; have GS : Hid (Good cs m (cellsOf fr m)) := good_cellsOf fun k hk => (hfree k hk).1
   have GT : Hid (Good cs m (cellsOf tt m)) := good_cellsOf fun k hk => (hfree k hk).2
   rw [hck]; clear hck hcs hfree s3 hp1 hp2 s1 s2; obtain ⟨F, hF⟩ : ∃ F, F = (frees (frB cs) cs.size).length := ⟨_, rfl⟩
   have hF36 : F <= 36 := by rw [hF]; have := frees_le cs; omega
   obtain ⟨T, hT⟩ : ∃ T, T = F ^ m := ⟨_, rfl⟩
   have hT36 : T <= 1679616 := by
    rw [hT]; exact Nat.le_trans (Nat.pow_le_pow_left hF36 _) (Nat.pow_le_pow_right (by omega) hm4)
   have GLT : Hid (∀ q, Good cs m q -> numOf (frB cs) cs.size q < T) := fun q hq => by rw [hT, hF]; exact good_lt hq
   have TAB : Hid (∀ u : World, Calls Tryz.prog 32 #[.agg #[.int .i64 ro, .int .i64 co, .string cs, .slice (some ⟨b, off, none⟩) m cc, .int .i64 bu]] u fun e w' => ∃ gf cf gr cr : Nat, e = .returned (.agg #[.int .i64 ro, .int .i64 co, .string cs, .slice (some ⟨b, off, none⟩) m cc, .int .i64 bu, .slice (some ⟨gf, 0, none⟩) F cf, .slice (some ⟨gr, 0, none⟩) cs.size cr, .int .i64 (T : Nat)]) ∧ TabIn w' cs gf gr ∧ Below u.heap.size u w') := fun u => by
    have h := tabled_any ro co bu cs (some ⟨b, off, none⟩) m cc u hs6 hm4 (rank_pos hm1 GS.out); unfold tabV at h; rw [<- hF, <- hT] at h; exact h
   have NUM : Hid (∀ (gf cf gr cr b2 o2 c2 : Nat) (q : List Nat) (u : World), Good cs m q -> TabIn u cs gf gr -> (∀ k, k < m -> u.cell? ⟨b2, o2 + k, none⟩ = some (.int .i64 (q.getD k 0 : Nat))) ->
    Calls Tryz.prog 60 #[.agg #[.int .i64 ro, .int .i64 co, .string cs, .slice (some ⟨b, off, none⟩) m cc, .int .i64 bu, .slice (some ⟨gf, 0, none⟩) F cf, .slice (some ⟨gr, 0, none⟩) cs.size cr, .int .i64 (T : Nat)], .slice (some ⟨b2, o2, none⟩) m c2] u fun e w' => e = .returned (.int .i64 (numOf (frB cs) cs.size q : Nat)) ∧ Below u.heap.size u w') := fun gf cf gr cr b2 o2 c2 q u h1 h2 h3 => by
    have h := number_any ro co bu cs (some ⟨b, off, none⟩) m cc gf cf gr cr T m b2 o2 c2 q u hs6 hm4 h1 h2 h3; unfold tabV at h; rw [<- hF] at h; exact h
   have POS : Hid (∀ (gf cf gr cr : Nat) (q : List Nat) (n : Nat) (u : World), n = numOf (frB cs) cs.size q -> Good cs m q -> TabIn u cs gf gr ->
    Calls Tryz.prog 58 #[.agg #[.int .i64 ro, .int .i64 co, .string cs, .slice (some ⟨b, off, none⟩) m cc, .int .i64 bu, .slice (some ⟨gf, 0, none⟩) F cf, .slice (some ⟨gr, 0, none⟩) cs.size cr, .int .i64 (T : Nat)], .int .i64 (n : Nat)] u fun e w' => ∃ g, e = .returned (.slice (some ⟨g, 0, none⟩) m m) ∧ u.heap.size <= g ∧ w'.rowIs g 3 m (fun k => .int .i64 (q.getD k 0 : Nat)) ∧ Below u.heap.size u w') := fun gf cf gr cr q n u hnq h1 h2 => by
    have h := position_any ro co bu cs (some ⟨b, off, none⟩) m cc gf cf gr cr T q u hs6 hm4 h1 h2; unfold tabV at h; rw [<- hF, <- hnq] at h; exact h
   have NXT : Hid (∀ (gf cf gr cr b2 c2 : Nat) (p : List Nat) (u : World), (∀ k, k < m -> u.cell? ⟨b2, 0 + k, none⟩ = some (.int .i64 (p.getD k 0 : Nat))) ->
    Calls Tryz.prog 59 #[.agg #[.int .i64 ro, .int .i64 co, .string cs, .slice (some ⟨b, off, none⟩) m cc, .int .i64 bu, .slice (some ⟨gf, 0, none⟩) F cf, .slice (some ⟨gr, 0, none⟩) cs.size cr, .int .i64 (T : Nat)], .slice (some ⟨b2, 0, none⟩) m c2, .int .i64 0] u fun e w' => ∃ v, e = .returned v ∧ OwnQ w' u.heap.size v (growL (mayN co cs) p m) ∧ Below u.heap.size u w') := fun gf cf gr cr b2 c2 p u h1 => by
    have h := rnext_any ro co bu cs (some ⟨b, off, none⟩) m cc gf cf gr cr T b2 0 c2 p u hs6 r3 r4 hm4 h1; unfold tabV at h; rw [<- hF] at h; exact h
   have ENDS : Hid (∀ (gf cf gr cr : Nat) (u : World), TabIn u cs gf gr -> CartsIn u b off m fr tt ->
    Calls Tryz.prog 33 #[.agg #[.int .i64 ro, .int .i64 co, .string cs, .slice (some ⟨b, off, none⟩) m cc, .int .i64 bu, .slice (some ⟨gf, 0, none⟩) F cf, .slice (some ⟨gr, 0, none⟩) cs.size cr, .int .i64 (T : Nat)]] u fun e w' => e = .returned (.tuple #[.int .i64 (numOf (frB cs) cs.size (cellsOf fr m) : Nat), .int .i64 (numOf (frB cs) cs.size (cellsOf tt m) : Nat)]) ∧ Below u.heap.size u w') := fun gf cf gr cr u h1 h2 => by
    have h := ends_any ro co bu cs b off m cc gf cf gr cr T fr tt u hs6 hm4 hm1 GS.out GT.out h1 h2 (fun k hk => ⟨free_pos (HFR.out k hk).1, free_pos (HFR.out k hk).2⟩); unfold tabV at h; rw [<- hF] at h; exact h
   obtain ⟨ns, hns⟩ : ∃ n, n = numOf (frB cs) cs.size (cellsOf fr m) := ⟨_, rfl⟩
   obtain ⟨ng, hng⟩ : ∃ n, n = numOf (frB cs) cs.size (cellsOf tt m) := ⟨_, rfl⟩
   rw [<- hns, <- hng] at ENDS; have hnsT : ns < T := by rw [hns]; exact GLT.out _ GS.out
   have hngT : ng < T := by rw [hng]; exact GLT.out _ GT.out
   have HNS := zx hns; have HNG := zx hng; obtain ⟨s, hss⟩ : ∃ s, s = cellsOf fr m := ⟨_, rfl⟩
   have HSS := zx hss; clear hF hT hns hng hss; go_wp2_with fail; refine (TAB.out _).mono ?_; rintro e w3 ⟨gf, cf, gr, cr, rfl, htab, hb3⟩; have B3 := zx (B2.out.trans (hb3.mono (by omega))); have hz3 := B3.out.size; have HTAB := zx htab; have y4 := zj hb3 y4; have hz3' : w.heap.size < w3.heap.size := by have := hb3.size; omega
   clear hb3 htab y0 y1 y2 y3; go_upto_region 5 with fail; go_upto_region 6 with (at_make; go_must (refine wpList_make_all _ rfl _ _ 81 rfl 4 _ _ _ Tryz.underlying81 Tryz.infoBool _ _ _ _ T rfl rfl rfl rfl (by omega) (by omega) ?_))
   have ROW0 := zx (brow_zero T (w3.alloc (.cells #[.int .i64 ro, .int .i64 co, .string cs, .slice (some ⟨b, off, none⟩) m cc, .int .i64 bu, .slice (some ⟨gf, 0, none⟩) F cf, .slice (some ⟨gr, 0, none⟩) cs.size cr, .int .i64 (T : Nat)] 79)) 4 (w3.heap.size + 1) (by simp))
   have B4 : Hid (Below w3.heap.size w3 ((w3.alloc (.cells #[.int .i64 ro, .int .i64 co, .string cs, .slice (some ⟨b, off, none⟩) m cc, .int .i64 bu, .slice (some ⟨gf, 0, none⟩) F cf, .slice (some ⟨gr, 0, none⟩) cs.size cr, .int .i64 (T : Nat)] 79)).alloc (.cells (madeCells #[Value.bool false] T) 4))) := ((Below.refl _ w3).alloc zl _).alloc (by simp) _
   have x7 : ∀ o, ((w3.alloc (.cells #[.int .i64 ro, .int .i64 co, .string cs, .slice (some ⟨b, off, none⟩) m cc, .int .i64 bu, .slice (some ⟨gf, 0, none⟩) F cf, .slice (some ⟨gr, 0, none⟩) cs.size cr, .int .i64 (T : Nat)] 79)).alloc (.cells (madeCells #[Value.bool false] T) 4)).cell? ⟨w3.heap.size, o, none⟩ = #[Value.int .i64 ro, .int .i64 co, .string cs, .slice (some ⟨b, off, none⟩) m cc, .int .i64 bu, .slice (some ⟨gf, 0, none⟩) F cf, .slice (some ⟨gr, 0, none⟩) cs.size cr, .int .i64 (T : Nat)][o]? := by
    intro o; go_simp
   have hz4 : ((w3.alloc (.cells #[.int .i64 ro, .int .i64 co, .string cs, .slice (some ⟨b, off, none⟩) m cc, .int .i64 bu, .slice (some ⟨gf, 0, none⟩) F cf, .slice (some ⟨gr, 0, none⟩) cs.size cr, .int .i64 (T : Nat)] 79)).alloc (.cells (madeCells #[Value.bool false] T) 4)).heap.size = w3.heap.size + 2 := by simp
   generalize ((w3.alloc (.cells #[.int .i64 ro, .int .i64 co, .string cs, .slice (some ⟨b, off, none⟩) m cc, .int .i64 bu, .slice (some ⟨gf, 0, none⟩) F cf, .slice (some ⟨gr, 0, none⟩) cs.size cr, .int .i64 (T : Nat)] 79)).alloc (.cells (madeCells #[Value.bool false] T) 4)) = w4 at *; have z4 := zj B4.out y4; have BW4 := zx (B3.out.trans (B4.out.mono (by omega))); have q0 := x7 0; have q1 := x7 1; have q2 := x7 2; have q3 := x7 3; have q4 := x7 4; have q5 := x7 5; have q6 := x7 6; have q7 := x7 7; have X7 := zx x7; clear x7 y4; go_wp2_with fail
   refine (ENDS.out gf cf gr cr _ (HTAB.out.below (by exact B4.out)) (HCS.out.below (by exact BW4.out))).mono ?_; rintro e w5 ⟨rfl, hb5⟩; have HB5 := zx hb5; have hz5 := hb5.size; have ROW5 := zx (rowIs_below ROW0.out hb5); have rc : w5.cell? ⟨w3.heap.size + 1, ns, none⟩ = some (.bool false) := ROW5.out.cell (i := ns) hnsT; have rf := ROW5.out.frozen; have Z4 := zx z4; clear q0 q1 q2 q3 q4 q5 q6 q7 z4 hb5; go_upto_region 9 with fail
   have BX4 : Hid (Below (w3.heap.size + 1) w4 ((w5.setCell ⟨w3.heap.size + 1, ns, none⟩ (.bool true)).alloc (.cells #[.int .i64 (ns : Nat)] 3))) := ((HB5.out.mono (by omega) : Below (w3.heap.size + 1) w4 w5).setCell (p := ⟨w3.heap.size + 1, ns, none⟩) zl _).alloc (by simp [World.setCell]; omega) _; have ROWX : Hid (((w5.setCell ⟨w3.heap.size + 1, ns, none⟩ (.bool true)).alloc (.cells #[.int .i64 (ns : Nat)] 3)).rowIs (w3.heap.size + 1) 4 T (boolV (seenB cs [s]))) := by
    refine row_block (brow_store ROW5.out ns true fun j _ => ?_) (Below.heap_alloc _ _ _ (by simp [World.setCell]; omega)); rw [show [s] = [] ++ [s] from rfl, seenB_snoc, HSS.out, <- HNS.out]; rfl
   have LX : Hid (OwnN ((w5.setCell ⟨w3.heap.size + 1, ns, none⟩ (.bool true)).alloc (.cells #[.int .i64 (ns : Nat)] 3)) w4.heap.size (.slice (some ⟨w5.heap.size, 0, none⟩) 1 1) (nums cs [s])) := by
    have h := own_oneN (w5.setCell ⟨w3.heap.size + 1, ns, none⟩ (.bool true)) ns w5.heap.size (by simp [World.setCell]); have e : nums cs [s] = [ns] := by unfold nums; rw [HSS.out]; simp [HNS.out]
    rw [e]; exact OwnN.le h (by omega)
   have hzx : ((w5.setCell ⟨w3.heap.size + 1, ns, none⟩ (.bool true)).alloc (.cells #[.int .i64 (ns : Nat)] 3)).heap.size = w5.heap.size + 1 := by simp [World.setCell]
   generalize ((w5.setCell ⟨w3.heap.size + 1, ns, none⟩ (.bool true)).alloc (.cells #[.int .i64 (ns : Nat)] 3)) = wx at *; have B3X := zx (B4.out.trans (BX4.out.mono (by omega))); have BWX := zx (B3.out.trans (B3X.out.mono (by omega))); clear rc rf; go_wp2
   go_loopw [11, 12] (fun v11 v12 wr => ∃ (L : List (List Nat)) (i : Nat) (V : Value), V = v11 ∧ v12 = .int .i64 i ∧ Work (stepR co cs m) s L i ∧ (∀ q, q ∈ L -> Good cs m q) ∧ (L.length : Int) <= bu ∧ wr.rowIs (w3.heap.size + 1) 4 T (boolV (seenB cs L)) ∧ OwnN wr w4.heap.size V (nums cs L) ∧ Below (w3.heap.size + 1) wx wr) (fun _ v12 _ => (bu.toNat + 1) - (intOf v12).toNat)
   case atStart => exact ⟨[s], 0, _, rfl, rfl, Work.one, fun q hq => by simp at hq; subst hq; rw [HSS.out]; exact GS.out, by simp; omega, ROWX.out, LX.out, Below.refl _ _⟩
   case round =>
    obtain ⟨w6, rfl⟩ : ∃ q, q = wr := ⟨_, rfl⟩
    obtain ⟨L, i, V, rfl, rfl, hwk, hgd, hlen, hrow, hown, hbx⟩ := hrel; obtain ⟨a11, c11, hv11, ha11, _⟩ := hown.form; rw [nums_len] at hv11 ha11; subst hv11; have WK := zx hwk; have GD := zx hgd; have ROW6 := zx hrow; have OWN6 := zx hown; have BX6 := zx hbx; have hz6 := hbx.size; have b46 := zx (BX4.out.trans hbx); have TAB6 : Hid (TabIn w6 cs gf gr) := HTAB.out.below (B3X.out.trans (hbx.mono (by omega))); have z4 := (b46.out.cell (p := ⟨w.heap.size, 4, none⟩) (by show w.heap.size < _; omega)).trans Z4.out
    have q0 := (b46.out.cell (p := ⟨w3.heap.size, 0, none⟩) (by show w3.heap.size < _; omega)).trans (X7.out 0); have q1 := (b46.out.cell (p := ⟨w3.heap.size, 1, none⟩) (by show w3.heap.size < _; omega)).trans (X7.out 1); have q2 := (b46.out.cell (p := ⟨w3.heap.size, 2, none⟩) (by show w3.heap.size < _; omega)).trans (X7.out 2); have q3 := (b46.out.cell (p := ⟨w3.heap.size, 3, none⟩) (by show w3.heap.size < _; omega)).trans (X7.out 3); have q4 := (b46.out.cell (p := ⟨w3.heap.size, 4, none⟩) (by show w3.heap.size < _; omega)).trans (X7.out 4)
    have q5 := (b46.out.cell (p := ⟨w3.heap.size, 5, none⟩) (by show w3.heap.size < _; omega)).trans (X7.out 5); have q6 := (b46.out.cell (p := ⟨w3.heap.size, 6, none⟩) (by show w3.heap.size < _; omega)).trans (X7.out 6); have q7 := (b46.out.cell (p := ⟨w3.heap.size, 7, none⟩) (by show w3.heap.size < _; omega)).trans (X7.out 7); clear hwk hgd hrow hown hbx; by_cases hlt : i < L.length
    . obtain ⟨g11, rfl⟩ := ha11 (by omega); obtain ⟨p, hp⟩ : ∃ p, p = L.getD i [] := ⟨_, rfl⟩
      have hpm : p ∈ L := by rw [hp, zg, List.getElem?_eq_getElem hlt]; exact List.getElem_mem hlt
      have GP := zx (GD.out p hpm); obtain ⟨np, hnp⟩ : ∃ n, n = numOf (frB cs) cs.size p := ⟨_, rfl⟩
      have c1 : w6.cell? ⟨g11, i, none⟩ = some (.int .i64 (np : Nat)) := by rw [OWN6.out.cell (by rw [nums_len]; exact hlt), nums_at hlt, <- hp, <- hnp]
      have HNP := zx hnp; have HP := zx hp; have HPM := zx hpm; clear hnp hp hpm ha11; go_upto_region 12 with fail
      go_region_held3 (fun w' => w'.cell? ⟨w3.heap.size, 0, none⟩ = some (Value.int .i64 ro) ∧ w'.cell? ⟨w3.heap.size, 1, none⟩ = some (.int .i64 co) ∧ w'.cell? ⟨w3.heap.size, 2, none⟩ = some (.string cs) ∧ w'.cell? ⟨w3.heap.size, 3, none⟩ = some (.slice (some ⟨b, off, none⟩) m cc) ∧ w'.cell? ⟨w3.heap.size, 4, none⟩ = some (.int .i64 bu) ∧ w'.cell? ⟨w3.heap.size, 5, none⟩ = some (.slice (some ⟨gf, 0, none⟩) F cf) ∧ w'.cell? ⟨w3.heap.size, 6, none⟩ = some (.slice (some ⟨gr, 0, none⟩) cs.size cr) ∧ w'.cell? ⟨w3.heap.size, 7, none⟩ = some (.int .i64 (T : Nat)) ∧ w'.cell? ⟨g11, i, none⟩ = some (.int .i64 (np : Nat))) (go_keep)
       (first
        | (go_at_call 58; refine (POS.out gf cf gr cr p np _ HNP.out GP.out (TAB6.out.below (by exact (Below.refl _ _).drew))).mono ?_; rintro e w7 ⟨gp, rfl, hgp, hrp, hb7⟩; have HB7 := zx hb7; have HRP := zx hrp; have p0 : w7.cell? ⟨w3.heap.size, 0, none⟩ = some (Value.int .i64 ro) := zj hb7 q0; have p1 : w7.cell? ⟨w3.heap.size, 1, none⟩ = some (.int .i64 co) := zj hb7 q1; have p2 : w7.cell? ⟨w3.heap.size, 2, none⟩ = some (.string cs) := zj hb7 q2; have p3 : w7.cell? ⟨w3.heap.size, 3, none⟩ = some (.slice (some ⟨b, off, none⟩) m cc) := zj hb7 q3; have p4 : w7.cell? ⟨w3.heap.size, 4, none⟩ = some (.int .i64 bu) := zj hb7 q4; have p5 : w7.cell? ⟨w3.heap.size, 5, none⟩ = some (.slice (some ⟨gf, 0, none⟩) F cf) := zj hb7 q5; have p6 : w7.cell? ⟨w3.heap.size, 6, none⟩ = some (.slice (some ⟨gr, 0, none⟩) cs.size cr) := zj hb7 q6; have p7 : w7.cell? ⟨w3.heap.size, 7, none⟩ = some (.int .i64 (T : Nat)) := zj hb7 q7; have pc : w7.cell? ⟨g11, i, none⟩ = some (.int .i64 (np : Nat)) := zj hb7 c1; clear hb7 hrp)
        | (fail "none"))
      have B67 : Below w6.heap.size w6 w7 := (Below.refl _ w6).drew.trans (by exact HB7.out); have HB67 := zx B67; have hz7 := B67.size; clear B67 q0 q1 q2 q3 q4 q5 q6 q7 c1; go_wp2_with fail; refine (NXT.out gf cf gr cr gp m p _ (fun k hk => by rw [Nat.zero_add]; exact HRP.out.cell hk)).mono ?_; rintro e w8 ⟨v, rfl, hov, hb8⟩; have hz8 := hb8.size; obtain ⟨N, hN⟩ : ∃ N, N = growL (mayN co cs) p m := ⟨_, rfl⟩
      rw [<- hN] at hov; obtain ⟨an, capn, rfl, han, _⟩ := hov.form; have HN := zx hN; have HOV := zx hov; have HAN := zx han; have b68 : Below w6.heap.size w6 w8 := HB67.out.trans (hb8.mono hz7); have ROW8 : Hid (w8.rowIs (w3.heap.size + 1) 4 T (boolV (seenB cs L))) := rowIs_below ROW6.out b68; have OWN8 : Hid (OwnN w8 w4.heap.size (.slice (some ⟨g11, 0, none⟩) L.length c11) (nums cs L)) := OWN6.out.below b68; have hg11 : g11 < w7.heap.size := by
       have := (OWN6.out.lt g11 rfl).2; omega
      have BX8 := zx (BX6.out.trans (b68.mono (by omega))); have NLE : N.length <= 1679616 := by
       rw [hN]; exact Nat.le_trans (growL_len (p := p) (fun c => mayN_le hs6 c) m) (Nat.pow_le_pow_right (by omega) hm4)
      clear hN hov han b68 hb8 p0 p1 p2 p3 p4 p5 p6 p7 pc z4; go_wp2
      go_loopw [11, 15] (fun v11 v15 wr => ∃ (L2 : List (List Nat)) (t : Nat) (V : Value), V = v11 ∧ v15 = .int .i64 t ∧ t <= N.length ∧ Work (stepR co cs m) s L2 i ∧ (i < L2.length ∧ L2.getD i [] = p) ∧ (∀ q, q ∈ L2 -> Good cs m q) ∧ L2.length <= L.length + t ∧ (∀ k, k < t -> N.getD k [] ∈ L2) ∧ wr.rowIs (w3.heap.size + 1) 4 T (boolV (seenB cs L2)) ∧ OwnN wr w4.heap.size V (nums cs L2) ∧ (∀ g, V.ownBlock = some g -> g < w7.heap.size ∨ w8.heap.size <= g) ∧ (∀ k, w7.heap.size <= k -> k < w8.heap.size -> wr.heap[k]? = w8.heap[k]?) ∧ w8.heap.size <= wr.heap.size ∧ Below (w3.heap.size + 1) wx wr) (fun _ v15 _ => N.length - (intOf v15).toNat)
      case atStart => exact ⟨L, 0, _, rfl, rfl, Nat.zero_le _, WK.out, ⟨hlt, HP.out.symm⟩, GD.out, by omega, fun k hk => absurd hk (Nat.not_lt_zero k), ROW8.out, OWN8.out, fun g hg => .inl (by have e := Option.some.inj hg; simp at e; omega), fun _ _ _ => rfl, zl, BX8.out⟩
      case round =>
       obtain ⟨wa, rfl⟩ : ∃ q, q = wr := ⟨_, rfl⟩
       obtain ⟨L2, t, V, rfl, rfl, htn, hwk, hip, hgd, hl2, hall, hrow, hown, hvb, hfr, hza, hba⟩ := hrel; have WK2 := zx hwk; have IP2 := zx hip; have GD2 := zx hgd; have AL2 := zx hall; have ROWA := zx hrow; have OWNA := zx hown; have VB := zx hvb; have FR := zx hfr; have BA := zx hba; have b4a := zx (BX4.out.trans hba); have TABA : Hid (TabIn wa cs gf gr) := HTAB.out.below (B3X.out.trans (hba.mono (by omega))); clear hwk hip hgd hall hrow hown hvb hfr hba; by_cases htl : t < N.length
       . obtain ⟨gn, rfl⟩ := HAN.out (by omega); obtain ⟨q, hq⟩ : ∃ q, q = N.getD t [] := ⟨_, rfl⟩
         have hqN : q ∈ N := by rw [hq, zg, List.getElem?_eq_getElem htl]; exact List.getElem_mem htl
         have hst : stepR co cs m p q := by unfold stepR; rw [<- HN.out]; exact hqN
         have GQ : Hid (Good cs m q) := good_step hst; have hql : q.length = m := GQ.out.1; obtain ⟨sa, sc, hcell, hrq, hlo⟩ := HOV.out.cell htl; rw [<- hq, hql] at hcell hrq hlo; obtain ⟨h, hsa, hcells⟩ : ∃ h, sa = some ⟨h, 0, none⟩ ∧ ∀ j, j < m -> w8.cell? ⟨h, j, none⟩ = some (.int .i64 (q.getD j 0 : Nat)) := by
          obtain ⟨a2, c2, e2, h2⟩ := hrq.form; obtain ⟨h, ha2, hc⟩ := h2 (by omega); refine ⟨h, ?_, fun j hj => hc j (by omega)⟩; injection e2 with e3 _ _; rw [e3, ha2]
         subst hsa; have hh1 := hlo h rfl; have hh2 := hrq.lt h rfl; have hg12 := HOV.out.lt gn rfl; have d0 : wa.cell? ⟨gn, t, none⟩ = some (.slice (some ⟨h, 0, none⟩) m sc) := (cell_block (FR.out gn hg12.1 hg12.2)).trans hcell; have dk : Hid (∀ k, k < m -> wa.cell? ⟨h, 0 + k, none⟩ = some (.int .i64 (q.getD k 0 : Nat))) := fun k hk => by
          rw [Nat.zero_add]; exact (cell_block (FR.out h hh1 hh2)).trans (hcells k hk)
         obtain ⟨nq, hnq⟩ : ∃ n, n = numOf (frB cs) cs.size q := ⟨_, rfl⟩
         have hnqT : nq < T := by rw [hnq]; exact GLT.out _ GQ.out
         have NUMQ : Hid (∀ u : World, TabIn u cs gf gr -> (∀ k, k < m -> u.cell? ⟨h, 0 + k, none⟩ = some (.int .i64 (q.getD k 0 : Nat))) -> Calls Tryz.prog 60 #[.agg #[.int .i64 ro, .int .i64 co, .string cs, .slice (some ⟨b, off, none⟩) m cc, .int .i64 bu, .slice (some ⟨gf, 0, none⟩) F cf, .slice (some ⟨gr, 0, none⟩) cs.size cr, .int .i64 (T : Nat)], .slice (some ⟨h, 0, none⟩) m sc] u fun e w' => e = .returned (.int .i64 (nq : Nat)) ∧ Below u.heap.size u w') := fun u h1 h2 => by
          rw [hnq]; exact NUM.out gf cf gr cr h 0 sc q u GQ.out h1 h2
         have HNQ := zx hnq; have HQ := zx hq; have HQN := zx hqN; have HST := zx hst; have q0 := (b4a.out.cell (p := ⟨w3.heap.size, 0, none⟩) (by show w3.heap.size < _; omega)).trans (X7.out 0); have q1 := (b4a.out.cell (p := ⟨w3.heap.size, 1, none⟩) (by show w3.heap.size < _; omega)).trans (X7.out 1); have q2 := (b4a.out.cell (p := ⟨w3.heap.size, 2, none⟩) (by show w3.heap.size < _; omega)).trans (X7.out 2); have q3 := (b4a.out.cell (p := ⟨w3.heap.size, 3, none⟩) (by show w3.heap.size < _; omega)).trans (X7.out 3)
         have q4 := (b4a.out.cell (p := ⟨w3.heap.size, 4, none⟩) (by show w3.heap.size < _; omega)).trans (X7.out 4); have q5 := (b4a.out.cell (p := ⟨w3.heap.size, 5, none⟩) (by show w3.heap.size < _; omega)).trans (X7.out 5); have q6 := (b4a.out.cell (p := ⟨w3.heap.size, 6, none⟩) (by show w3.heap.size < _; omega)).trans (X7.out 6); have q7 := (b4a.out.cell (p := ⟨w3.heap.size, 7, none⟩) (by show w3.heap.size < _; omega)).trans (X7.out 7); clear hnq hq hqN hst hcell hrq hlo hcells hql; go_upto_region 17 with fail
         go_region_held3 (fun w' => w'.cell? ⟨w3.heap.size, 0, none⟩ = some (Value.int .i64 ro) ∧ w'.cell? ⟨w3.heap.size, 1, none⟩ = some (.int .i64 co) ∧ w'.cell? ⟨w3.heap.size, 2, none⟩ = some (.string cs) ∧ w'.cell? ⟨w3.heap.size, 3, none⟩ = some (.slice (some ⟨b, off, none⟩) m cc) ∧ w'.cell? ⟨w3.heap.size, 4, none⟩ = some (.int .i64 bu) ∧ w'.cell? ⟨w3.heap.size, 5, none⟩ = some (.slice (some ⟨gf, 0, none⟩) F cf) ∧ w'.cell? ⟨w3.heap.size, 6, none⟩ = some (.slice (some ⟨gr, 0, none⟩) cs.size cr) ∧ w'.cell? ⟨w3.heap.size, 7, none⟩ = some (.int .i64 (T : Nat)) ∧ w'.cell? ⟨gn, t, none⟩ = some (.slice (some ⟨h, 0, none⟩) m sc)) (go_keep)
          (first
           | (go_at_call 60; refine (NUMQ.out _ (TABA.out.below (by exact (Below.refl _ _).drew)) (fun k hk => (by exact dk.out k hk))).mono ?_; rintro e w9 ⟨rfl, hb9⟩; have HB9 := zx hb9; have p0 : w9.cell? ⟨w3.heap.size, 0, none⟩ = some (Value.int .i64 ro) := zj hb9 q0; have p1 : w9.cell? ⟨w3.heap.size, 1, none⟩ = some (.int .i64 co) := zj hb9 q1; have p2 : w9.cell? ⟨w3.heap.size, 2, none⟩ = some (.string cs) := zj hb9 q2; have p3 : w9.cell? ⟨w3.heap.size, 3, none⟩ = some (.slice (some ⟨b, off, none⟩) m cc) := zj hb9 q3; have p4 : w9.cell? ⟨w3.heap.size, 4, none⟩ = some (.int .i64 bu) := zj hb9 q4; have p5 : w9.cell? ⟨w3.heap.size, 5, none⟩ = some (.slice (some ⟨gf, 0, none⟩) F cf) := zj hb9 q5; have p6 : w9.cell? ⟨w3.heap.size, 6, none⟩ = some (.slice (some ⟨gr, 0, none⟩) cs.size cr) := zj hb9 q6; have p7 : w9.cell? ⟨w3.heap.size, 7, none⟩ = some (.int .i64 (T : Nat)) := zj hb9 q7; have pd : w9.cell? ⟨gn, t, none⟩ = some (.slice (some ⟨h, 0, none⟩) m sc) := zj hb9 d0; clear hb9)
           | (fail "none"))
         have b9 : Below wa.heap.size wa w9 := (Below.refl _ wa).drew.trans (by exact HB9.out); have hz9 := b9.size; have ROW9 : Hid (w9.rowIs (w3.heap.size + 1) 4 T (boolV (seenB cs L2))) := rowIs_below ROWA.out b9; have OWN9 : Hid (OwnN w9 w4.heap.size V (nums cs L2)) := OWNA.out.below b9; have FR9 : Hid (∀ k, w7.heap.size <= k -> k < w8.heap.size -> w9.heap[k]? = w8.heap[k]?) := fun k h1 h2 => (b9.block k (by omega)).trans (FR.out k h1 h2)
         have BX9 := zx (BA.out.trans (b9.mono (by have := BA.out.size; omega))); have hz9' : w8.heap.size <= w9.heap.size := by omega
         have hnqI : (nq : Int) < (T : Int) := by omega
         have rc : w9.cell? ⟨w3.heap.size + 1, nq, none⟩ = some (.bool (seenB cs L2 nq)) := ROW9.out.cell (i := nq) hnqT; have rf := ROW9.out.frozen; have SIF : seenB cs L2 nq = decide (q ∈ L2) := by rw [HNQ.out]; exact seenB_iff GD2.out GQ.out
         clear b9 q0 q1 q2 q3 q4 q5 q6 q7 p0 p1 p2 p3 p4 p5 p6 p7 d0 pd; have ALNH : ∀ L3 : List (List Nat), (∀ x, x ∈ L2 -> x ∈ L3) -> q ∈ L3 -> ∀ k, k < t + 1 -> N.getD k [] ∈ L3 := fun L3 hs3 hq3 k hk => by
          by_cases e : k = t
          . rw [e, <- HQ.out]; exact hq3
          . exact hs3 _ (AL2.out k (by omega))
         have ALNH := zx ALNH; by_cases hin : q ∈ L2
         . rw [SIF, show decide (q ∈ L2) = true from decide_eq_true hin] at rc; have HIN := zx hin; clear SIF hin; go_wp2; go_roundw; case rel => exact ⟨L2, t + 1, _, rfl, by go_num, by omega, WK2.out, IP2.out, GD2.out, by omega, ALNH.out L2 (fun _ h => h) HIN.out, ROW9.out, OWN9.out, VB.out, FR9.out, hz9', BX9.out⟩
           case measure => simp [intOf]; omega
         . rw [SIF, show decide (q ∈ L2) = false from decide_eq_false hin] at rc; have HIN := zx hin; clear SIF hin; go_upto_region 20 with fail; have ROW10 : Hid ((w9.setCell ⟨w3.heap.size + 1, nq, none⟩ (.bool true)).rowIs (w3.heap.size + 1) 4 T (boolV (seenB cs (L2 ++ [q])))) := brow_store ROW9.out nq true fun j _ => by rw [seenB_snoc, <- HNQ.out]
           have OWN10 : Hid (OwnN (w9.setCell ⟨w3.heap.size + 1, nq, none⟩ (.bool true)) w4.heap.size V (nums cs L2)) := own_keep OWN9.out fun g hg _ _ => Below.heap_setCell w9 ⟨w3.heap.size + 1, nq, none⟩ _ g (by show g ≠ w3.heap.size + 1; omega)
           have FR10 : Hid (∀ k, w7.heap.size <= k -> k < w8.heap.size -> (w9.setCell ⟨w3.heap.size + 1, nq, none⟩ (.bool true)).heap[k]? = w8.heap[k]?) := fun k h1 h2 => (Below.heap_setCell w9 ⟨w3.heap.size + 1, nq, none⟩ _ k (by show k ≠ w3.heap.size + 1; omega)).trans (FR9.out k h1 h2)
           have BX10 : Hid (Below (w3.heap.size + 1) wx (w9.setCell ⟨w3.heap.size + 1, nq, none⟩ (.bool true))) := BX9.out.setCell (p := ⟨w3.heap.size + 1, nq, none⟩) zl _; have hz10 : (w9.setCell ⟨w3.heap.size + 1, nq, none⟩ (.bool true)).heap.size = w9.heap.size := by simp [World.setCell]
           generalize (w9.setCell ⟨w3.heap.size + 1, nq, none⟩ (.bool true)) = w10 at *; have hz10' : w4.heap.size <= w10.heap.size := by omega
           have LN : Hid ((nums cs L2).length <= 100000000) := by unfold Hid; rw [nums_len]; omega
           clear rc rf; go_wp2_with (at_builtin; go_must (refine wpList_pushN rfl _ _ rfl w4.heap.size V (nums cs L2) nq rfl OWN10.out (by exact hz10') _ (by rw [hz10]; exact rfl) LN.out ?_; intro g5 c5 w11 ho5 hon5 hat5))
           go_roundw; case rel =>
            have hz11 := hon5.size; have hVlo : ∀ g, V.ownBlock = some g -> w4.heap.size <= g := fun g hg => (OWN10.out.lt g hg).1
            have hrl := ROW10.out.lt; refine ⟨L2 ++ [q], t + 1, _, rfl, by go_num, by omega, WK2.out.add IP2.out.1 ?_ HIN.out, ⟨by rw [List.length_append]; have := IP2.out.1; omega, ?_⟩, fun x hx => ?_, by rw [List.length_append]; simp; omega, ALNH.out (L2 ++ [q]) (fun x hx => List.mem_append_left _ hx) (by simp), row_block ROW10.out (hon5.block _ (by omega) (fun hh => by have := hVlo _ hh; omega)), ?_, fun g hg => ?_, fun k h1 h2 => (hon5.block k (by omega) (fun hh => by have := VB.out k hh; omega)).trans (FR10.out k h1 h2), by omega, ?_⟩
            . have e : L2[i]'IP2.out.1 = p := by
               have h := IP2.out.2; rw [zg, List.getElem?_eq_getElem IP2.out.1] at h; exact h
              rw [e]; exact HST.out
            . rw [getD_snoc_old IP2.out.1]; exact IP2.out.2
            . rcases List.mem_append.1 hx with hx | hx
              . exact GD2.out x hx
              . simp at hx; subst hx; exact GQ.out
            . have h := ho5; rw [List.length_append] at h; rw [nums_snoc, <- HNQ.out]; exact h
            . have e : g5 = g := Option.some.inj hg; rcases hat5 with h | h
              . exact VB.out g (by rw [h, e])
              . omega
            . exact BX10.out.trans ⟨hon5.os, hon5.tape, hon5.output, hon5.size, fun k hk => hon5.block k (by have := BX10.out.size; omega) fun hh => by have := hVlo _ hh; omega⟩
           case measure => simp [intOf]; omega
       . have hd : t = N.length := by omega
         have WKN : Hid (Work (stepR co cs m) s L2 (i + 1)) := by
          refine WK2.out.next IP2.out.1 fun q hq => ?_
          have e : L2[i]'IP2.out.1 = p := by
           have h := IP2.out.2; rw [zg, List.getElem?_eq_getElem IP2.out.1] at h; exact h
          rw [e] at hq; have hq2 : q ∈ N := by rw [HN.out]; exact hq
          obtain ⟨k, hk, rfl⟩ := List.mem_iff_getElem.1 hq2; have h := AL2.out k (by omega); rw [zg, List.getElem?_eq_getElem hk] at h; exact h
         obtain ⟨a12, c12, hv12, _, _⟩ := OWNA.out.form; rw [nums_len] at hv12; subst hv12; have z4 := (b4a.out.cell (p := ⟨w.heap.size, 4, none⟩) (by show w.heap.size < _; omega)).trans Z4.out; by_cases hbig : bu < L2.length
         . go_wp2; go_ret3
           exact ⟨_, _, _, rfl, .inr ⟨HCK.out, L2.length, false, by rw [<- HSS.out]; exact .inr ⟨L2, i + 1, WKN.out, rfl, hbig⟩, .inl ⟨hbig, rfl, rfl, rfl⟩⟩, BWX.out.trans (BA.out.mono (by omega))⟩
         . go_wp2; go_roundw; case rel => exact ⟨L2, i + 1, _, rfl, by go_num, WKN.out, GD2.out, by omega, ROWA.out, OWNA.out, BA.out⟩
           case measure => simp [intOf]; omega
    . have hd : i = L.length := by have := WK.out.le; omega
      have rc : w6.cell? ⟨w3.heap.size + 1, ng, none⟩ = some (.bool (seenB cs L ng)) := ROW6.out.cell (i := ng) hngT; have SIF : seenB cs L ng = decide (cellsOf tt m ∈ L) := by rw [HNG.out]; exact seenB_iff GD.out GT.out
      obtain ⟨bb, hbb⟩ : ∃ bb, bb = decide (cellsOf tt m ∈ L) := ⟨_, rfl⟩
      rw [SIF, <- hbb] at rc; have HBB := zx hbb; have hngI : (ng : Int) < (T : Int) := by omega
      subst hd; clear SIF hbb q0 q1 q2 q3 q4 q5 q6 q7; go_wp2; go_quiet (fail); go_wp2; go_ret3
      exact ⟨_, _, _, rfl, .inr ⟨HCK.out, L.length, bb, by rw [<- HSS.out]; exact .inl ⟨L, WK.out, rfl, HBB.out⟩, .inr ⟨by omega, rfl, rfl, rfl⟩⟩, below_drewN (BWX.out.trans (BX6.out.mono (by omega))) _⟩
 . clear y0 y1 y2 y3 y4; obtain ⟨z, hz⟩ : ∃ z, z = (checkM ro co cs m fr tt bu).1 := ⟨_, rfl⟩
   have HZ := zx hz; rw [<- hz] at hck ⊢; clear hz; go_wp2; go_ret3
   exact ⟨_, _, _, rfl, .inl ⟨by rw [<- HZ.out]; exact hck, rfl, rfl, congrArg (Value.int .i64) HZ.out⟩, B2.out⟩
end
end Go.Proofs.YtnkgpinadgacgaaGreatDoor
