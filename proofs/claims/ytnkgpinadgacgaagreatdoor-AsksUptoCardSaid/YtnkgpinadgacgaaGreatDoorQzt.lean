/- Cg, Ch. -/
import Derived.Test.YtnkgpinadgacgaaGreatDoorQzs
set_option maxRecDepth 1000000
set_option maxHeartbeats 4000000
namespace Go.Proofs.YtnkgpinadgacgaaGreatDoor
section
open Go.RowKit M
theorem rsteps_any (ro co bu : Int) (cs : ByteArray) (ac : Option Addr) (mc cc : Nat) (a : Option Addr) (n cap : Nat) (p : PlanM) (w : World) (hs : cs.size <= 36) (h1 : 1 <= co) (h2 : co <= 6)
 (hn : n <= 4) (hB : ∀ i, i < n -> p.len i <= 1048576) (hp : PlanAt w a n p) :
 Calls Tryz.prog 63 #[.agg #[.int .i64 ro, .int .i64 co, .string cs, .slice ac mc cc, .int .i64 bu], .slice a n cap] w fun e w' => ∃ v, e = .returned v ∧ OwnF w' w.heap.size v (stepsF co cs p.len p.num n) ∧ Below w.heap.size w w' := by
 have HP := zx hp; have HB := zx hB; have hsm : cs.size <= maxLen := by unfold maxLen; omega
 clear hp hB; go_enter Tryz.func63, Tryz.ntmps63; go_wp2; have B0 : Hid (Below w.heap.size w (w.alloc (.cells #[.int .i64 ro, .int .i64 co, .string cs, .slice ac mc cc, .int .i64 bu] 34))) := (Below.refl _ w).alloc zl _; have y0 : ∀ o, (w.alloc (.cells #[.int .i64 ro, .int .i64 co, .string cs, .slice ac mc cc, .int .i64 bu] 34)).cell? ⟨w.heap.size, o, none⟩ = #[Value.int .i64 ro, .int .i64 co, .string cs, .slice ac mc cc, .int .i64 bu][o]? := by
  intro o; go_simp
 have hz0 : w.heap.size + 1 = (w.alloc (.cells #[.int .i64 ro, .int .i64 co, .string cs, .slice ac mc cc, .int .i64 bu] 34)).heap.size := by simp
 generalize w.alloc (.cells #[.int .i64 ro, .int .i64 co, .string cs, .slice ac mc cc, .int .i64 bu] 34) = w0 at *; have Y0 := zx y0; have YALL : Hid (∀ wx, Below (w.heap.size + 1) w0 wx -> (∀ o, wx.cell? ⟨w.heap.size, o, none⟩ = #[Value.int .i64 ro, .int .i64 co, .string cs, .slice ac mc cc, .int .i64 bu][o]?) ∧ Below w.heap.size w wx ∧ w.heap.size < wx.heap.size ∧ w.heap.size + 1 <= wx.heap.size) := by
  intro wx hb; have := hb.size; exact ⟨fun o => (hb.cell (p := ⟨w.heap.size, o, none⟩) (by show w.heap.size < _; omega)).trans (Y0.out o), B0.out.trans (hb.mono (by omega)), by omega, by omega⟩
 clear y0 hz0; go_loopw [5, 6] (fun v5 v6 wr => ∃ (i : Nat) (L : Value), i <= n ∧ L = v5 ∧ v6 = .int .i64 i ∧ OwnF wr (w.heap.size + 1) L (stepsF co cs p.len p.num i) ∧ Below (w.heap.size + 1) w0 wr) (fun _ v6 _ => n - (intOf v6).toNat)
 case atStart => exact ⟨0, _, Nat.zero_le _, rfl, rfl, OwnF.nil _ _, Below.refl _ _⟩
 case round =>
  obtain ⟨wo, rfl⟩ : ∃ q, q = wr := ⟨_, rfl⟩
  obtain ⟨i, L, hi, rfl, rfl, hown, hbr⟩ := hrel; have OWN := zx hown; have BR := zx hbr; clear hown hbr; by_cases hlt : i < n
  . obtain ⟨b, off, rfl, hpi⟩ := HP.out (by omega); have NI := zx (hpi i hlt).2; have BI := HB.out i hlt; have E1 : Hid (stepsF co cs p.len p.num (i + 1) = stepsF co cs p.len p.num i ++ cellsF co cs i (p.len i) (p.num i) (p.len i)) := rfl; obtain ⟨ai, hai⟩ : ∃ q, q = p.ad i := ⟨_, rfl⟩
    obtain ⟨li, hli⟩ : ∃ q, q = p.len i := ⟨_, rfl⟩
    obtain ⟨ci, hci⟩ : ∃ q, q = p.cap i := ⟨_, rfl⟩
    have C1 : Hid (w.cell? ⟨b, off + i, none⟩ = some (.slice ai li ci)) := by rw [hai, hli, hci]; exact (hpi i hlt).1
    rw [<- hai, <- hli] at NI; rw [<- hli] at BI E1; have LP := zx (steps_bd (co := co) (cs := cs) (num := p.num) hn HB.out hi); clear hpi hai hli hci; go_wp2; go_loopw [5, 7] (fun v5 v7 wr => ∃ (t : Nat) (L : Value), t <= li ∧ L = v5 ∧ v7 = .int .i64 t ∧ OwnF wr (w.heap.size + 1) L (stepsF co cs p.len p.num i ++ cellsF co cs i li (p.num i) t) ∧ Below (w.heap.size + 1) w0 wr) (fun _ v7 _ => li - (intOf v7).toNat)
    case atStart => exact ⟨0, _, Nat.zero_le _, rfl, rfl, by simp only [cellsF]; rw [List.append_nil]; exact OWN.out, BR.out⟩
    case round =>
     obtain ⟨wt, rfl⟩ : ∃ q, q = wr := ⟨_, rfl⟩
     obtain ⟨t, L2, ht, rfl, rfl, hown2, hbr2⟩ := hrel; have OWN2 := zx hown2; have BR2 := zx hbr2; clear hown2 hbr2; obtain ⟨yt, bwt, ztw, ztw1⟩ := YALL.out wt BR2.out; have c1 := zj bwt C1.out; by_cases hlt2 : t < li
     . obtain ⟨bi, oi, rfl, hnc⟩ := NI.out (by omega); have HNC := zx hnc; obtain ⟨pv, hpv⟩ : ∃ q, q = p.num i t := ⟨_, rfl⟩
       obtain ⟨qv, hqv⟩ : ∃ q, q = p.num i (t + 1) := ⟨_, rfl⟩
       have d1 := zj bwt (hnc t hlt2); rw [<- (show pv = p.num i t from hpv)] at d1; have y0 := yt 0; have y1 := yt 1; have y2 := yt 2; have y3 := yt 3; have y4 := yt 4; simp only [zA, zB, zC] at y0 y1 y2 y3 y4; have zb : b < wt.heap.size := World.block_lt_of_cell? _ _ c1; have zi : bi < wt.heap.size := World.block_lt_of_cell? _ _ d1; have HLENX : Hid ((stepsF co cs p.len p.num i ++ cellsF co cs i li (p.num i) t).length <= 100000000) := by
        have h1 := LP.out; have h3 := cellsF_len co cs i li (p.num i) t; unfold Hid; simp only [List.length_append]; omega
       have PV := zx hpv; have QV := zx hqv; clear hnc yt hpv hqv bwt; go_wp2_with fail; go_region_held3 (fun w' => w'.cell? ⟨w.heap.size, 0, none⟩ = some (.int .i64 ro) ∧ w'.cell? ⟨w.heap.size, 1, none⟩ = some (.int .i64 co) ∧ w'.cell? ⟨w.heap.size, 2, none⟩ = some (.string cs) ∧ w'.cell? ⟨w.heap.size, 3, none⟩ = some (.slice ac mc cc) ∧ w'.cell? ⟨w.heap.size, 4, none⟩ = some (.int .i64 bu) ∧ w'.cell? ⟨b, off + i, none⟩ = some (.slice (some ⟨bi, oi, none⟩) li ci) ∧ w'.cell? ⟨bi, oi + t, none⟩ = some (.int .i64 pv)) (go_keep)
        (first
         | (go_at_call 61; refine (rfree_any ro co bu pv cs _ _ hsm).mono ?_; rintro e w6 ⟨he6, hb6⟩; obtain ⟨fb, hfb⟩ : ∃ fb, fb = freeB cs pv := ⟨_, rfl⟩; rw [<- hfb] at he6; subst he6; have FB := zx hfb; clear hfb; have q0 : w6.cell? ⟨w.heap.size, 0, none⟩ = some (.int .i64 ro) := (hb6.cell (p := ⟨w.heap.size, 0, none⟩) ztw).trans y0; have q1 : w6.cell? ⟨w.heap.size, 1, none⟩ = some (.int .i64 co) := (hb6.cell (p := ⟨w.heap.size, 1, none⟩) ztw).trans y1; have q2 : w6.cell? ⟨w.heap.size, 2, none⟩ = some (.string cs) := (hb6.cell (p := ⟨w.heap.size, 2, none⟩) ztw).trans y2; have q3 : w6.cell? ⟨w.heap.size, 3, none⟩ = some (.slice ac mc cc) := (hb6.cell (p := ⟨w.heap.size, 3, none⟩) ztw).trans y3; have q4 : w6.cell? ⟨w.heap.size, 4, none⟩ = some (.int .i64 bu) := (hb6.cell (p := ⟨w.heap.size, 4, none⟩) ztw).trans y4; have q6 : w6.cell? ⟨b, off + i, none⟩ = some (.slice (some ⟨bi, oi, none⟩) li ci) := (hb6.cell (p := ⟨b, off + i, none⟩) zb).trans c1; have q7 : w6.cell? ⟨bi, oi + t, none⟩ = some (.int .i64 pv) := (hb6.cell (p := ⟨bi, oi + t, none⟩) zi).trans d1))
       have OWN6 : Hid (OwnF w6 (w.heap.size + 1) L2 (stepsF co cs p.len p.num i ++ cellsF co cs i li (p.num i) t)) := OwnF.below (show OwnF wt.drew (w.heap.size + 1) L2 (stepsF co cs p.len p.num i ++ cellsF co cs i li (p.num i) t) from OWN2.out) hb6; have BR6 : Hid (Below (w.heap.size + 1) w0 w6) := BR2.out.drew.trans (hb6.mono ztw1); clear hb6 q0 q1 q2 q3 q4 q6 q7 y0 y1 y2 y3 y4 c1 d1 OWN2 BR2 zb zi ztw ztw1; obtain ⟨y6, bw6, z6, z6w⟩ := YALL.out w6 BR6.out; have BWX := zx bw6; have y60 := y6 0; have y61 := y6 1; have y62 := y6 2; have y63 := y6 3; have y64 := y6 4
       simp only [zA, zB, zC] at y60 y61 y62 y63 y64; have c16 := zj bw6 C1.out; have d16 : w6.cell? ⟨bi, oi + t, none⟩ = some (.int .i64 pv) := by have h := zj bw6 (HNC.out t hlt2); rw [h, <- PV.out]
       have z6b : b < w6.heap.size := World.block_lt_of_cell? _ _ c16; have z6i : bi < w6.heap.size := World.block_lt_of_cell? _ _ d16; clear y6 bw6; by_cases tEq : t = 0
       . have tI : ((t : Int) == 0) = true := by simp [tEq]
         have D0 : Hid (decide (t = 0) = true) := decide_eq_true tEq; clear tEq; cases fb
         . by_cases hn2 : t + 1 < li
           . have D1 : Hid (decide (t + 1 < li) = true) := decide_eq_true hn2; have hnI : (t : Int) + 1 < (li : Int) := by omega
             have j1 : (0 : Int) <= (t : Int) + 1 := by omega
             have j2 : ((t : Int) + 1).toNat = t + 1 := by omega
             have j4 : IntKind.i64.wrap ((t : Int) + 1) = (t : Int) + 1 := wrap_mid (by omega) (by omega); have d2 : w6.cell? ⟨bi, oi + (t + 1), none⟩ = some (.int .i64 qv) := by have h := zj BWX.out (HNC.out (t + 1) hn2); rw [h, <- QV.out]
             go_wp2_with fail; go_region_held3 (fun w' => w'.cell? ⟨w.heap.size, 0, none⟩ = some (.int .i64 ro) ∧ w'.cell? ⟨w.heap.size, 1, none⟩ = some (.int .i64 co) ∧ w'.cell? ⟨w.heap.size, 2, none⟩ = some (.string cs) ∧ w'.cell? ⟨w.heap.size, 3, none⟩ = some (.slice ac mc cc) ∧ w'.cell? ⟨w.heap.size, 4, none⟩ = some (.int .i64 bu) ∧ w'.cell? ⟨b, off + i, none⟩ = some (.slice (some ⟨bi, oi, none⟩) li ci) ∧ w'.cell? ⟨bi, oi + t, none⟩ = some (.int .i64 pv) ∧ w'.cell? ⟨bi, oi + (t + 1), none⟩ = some (.int .i64 qv)) (go_keep)
              (first
               | (go_at_call 86; refine (may_all ro co bu pv qv cs _ _ hs h1 h2).mono ?_; rintro e w7 ⟨he7, hb7⟩; obtain ⟨mb, hmb⟩ : ∃ mb, mb = mayM co cs pv qv := ⟨_, rfl⟩; rw [<- hmb] at he7; subst he7; have MB := zx hmb; clear hmb; have s0 : w7.cell? ⟨w.heap.size, 0, none⟩ = some (.int .i64 ro) := (hb7.cell (p := ⟨w.heap.size, 0, none⟩) z6).trans y60; have s1 : w7.cell? ⟨w.heap.size, 1, none⟩ = some (.int .i64 co) := (hb7.cell (p := ⟨w.heap.size, 1, none⟩) z6).trans y61; have s2 : w7.cell? ⟨w.heap.size, 2, none⟩ = some (.string cs) := (hb7.cell (p := ⟨w.heap.size, 2, none⟩) z6).trans y62; have s3 : w7.cell? ⟨w.heap.size, 3, none⟩ = some (.slice ac mc cc) := (hb7.cell (p := ⟨w.heap.size, 3, none⟩) z6).trans y63; have s4 : w7.cell? ⟨w.heap.size, 4, none⟩ = some (.int .i64 bu) := (hb7.cell (p := ⟨w.heap.size, 4, none⟩) z6).trans y64; have s6 : w7.cell? ⟨b, off + i, none⟩ = some (.slice (some ⟨bi, oi, none⟩) li ci) := (hb7.cell (p := ⟨b, off + i, none⟩) z6b).trans c16; have s7 : w7.cell? ⟨bi, oi + t, none⟩ = some (.int .i64 pv) := (hb7.cell (p := ⟨bi, oi + t, none⟩) z6i).trans d16; have s8 : w7.cell? ⟨bi, oi + (t + 1), none⟩ = some (.int .i64 qv) := (hb7.cell (p := ⟨bi, oi + (t + 1), none⟩) z6i).trans d2))
             have OWN7 : Hid (OwnF w7 (w.heap.size + 1) L2 (stepsF co cs p.len p.num i ++ cellsF co cs i li (p.num i) t)) := OwnF.below (show OwnF w6.drew (w.heap.size + 1) L2 (stepsF co cs p.len p.num i ++ cellsF co cs i li (p.num i) t) from OWN6.out) hb7; have BR7 : Hid (Below (w.heap.size + 1) w0 w7) := BR6.out.drew.trans (hb7.mono z6w); clear hb7 s0 s1 s2 s3 s4 s6 s7 s8 y60 y61 y62 y63 y64 c16 d16 d2; have SB : Hid (M.stepB co cs li (p.num i) t = true) := by unfold Hid M.stepB; rw [<- PV.out, <- FB.out, D1.out, D0.out]; simp
             have E2 := zx (cells_hit (i := i) SB.out); have hbs : Hid (w.heap.size + 1 <= w7.heap.size) := (YALL.out _ BR7.out).2.2.2; have HLEN := HLENX; go_wp2_with (at_builtin; go_must (refine wpList_pushF rfl _ _ rfl (w.heap.size + 1) L2 _ ⟨1, i, -1, t⟩ rfl OWN7.out hbs.out _ rfl HLEN.out ?_; intro v5 w5 hown5 hb5))
             have OWN8 := zx hown5; have BR8 := zx (BR7.out.trans hb5); clear hown5 hb5; go_wp2; go_roundw; case rel => exact ⟨t + 1, v5, by omega, rfl, by go_num, by rw [E2.out, <- List.append_assoc]; exact OWN8.out, BR8.out⟩
             case measure => simp [intOf]; omega
           . have D1 : Hid (decide (t + 1 < li) = false) := decide_eq_false hn2; have hnI : ¬ (t : Int) + 1 < (li : Int) := by omega
             have OWN7 := OWN6; have BR7 := BR6; have SB : Hid (M.stepB co cs li (p.num i) t = true) := by unfold Hid M.stepB; rw [<- PV.out, <- FB.out, D1.out, D0.out]; simp
             have E2 := zx (cells_hit (i := i) SB.out); have hbs : Hid (w.heap.size + 1 <= w6.heap.size) := (YALL.out _ BR7.out).2.2.2; have HLEN := HLENX; go_wp2_with (at_builtin; go_must (refine wpList_pushF rfl _ _ rfl (w.heap.size + 1) L2 _ ⟨1, i, -1, t⟩ rfl OWN7.out hbs.out _ rfl HLEN.out ?_; intro v5 w5 hown5 hb5))
             have OWN8 := zx hown5; have BR8 := zx (BR7.out.trans hb5); clear hown5 hb5; go_wp2; go_roundw; case rel => exact ⟨t + 1, v5, by omega, rfl, by go_num, by rw [E2.out, <- List.append_assoc]; exact OWN8.out, BR8.out⟩
             case measure => simp [intOf]; omega
         . by_cases hn2 : t + 1 < li
           . have D1 : Hid (decide (t + 1 < li) = true) := decide_eq_true hn2; have hnI : (t : Int) + 1 < (li : Int) := by omega
             have j1 : (0 : Int) <= (t : Int) + 1 := by omega
             have j2 : ((t : Int) + 1).toNat = t + 1 := by omega
             have j4 : IntKind.i64.wrap ((t : Int) + 1) = (t : Int) + 1 := wrap_mid (by omega) (by omega); have d2 : w6.cell? ⟨bi, oi + (t + 1), none⟩ = some (.int .i64 qv) := by have h := zj BWX.out (HNC.out (t + 1) hn2); rw [h, <- QV.out]
             go_wp2_with fail; go_region_held3 (fun w' => w'.cell? ⟨w.heap.size, 0, none⟩ = some (.int .i64 ro) ∧ w'.cell? ⟨w.heap.size, 1, none⟩ = some (.int .i64 co) ∧ w'.cell? ⟨w.heap.size, 2, none⟩ = some (.string cs) ∧ w'.cell? ⟨w.heap.size, 3, none⟩ = some (.slice ac mc cc) ∧ w'.cell? ⟨w.heap.size, 4, none⟩ = some (.int .i64 bu) ∧ w'.cell? ⟨b, off + i, none⟩ = some (.slice (some ⟨bi, oi, none⟩) li ci) ∧ w'.cell? ⟨bi, oi + t, none⟩ = some (.int .i64 pv) ∧ w'.cell? ⟨bi, oi + (t + 1), none⟩ = some (.int .i64 qv)) (go_keep)
              (first
               | (go_at_call 86; refine (may_all ro co bu pv qv cs _ _ hs h1 h2).mono ?_; rintro e w7 ⟨he7, hb7⟩; obtain ⟨mb, hmb⟩ : ∃ mb, mb = mayM co cs pv qv := ⟨_, rfl⟩; rw [<- hmb] at he7; subst he7; have MB := zx hmb; clear hmb; have s0 : w7.cell? ⟨w.heap.size, 0, none⟩ = some (.int .i64 ro) := (hb7.cell (p := ⟨w.heap.size, 0, none⟩) z6).trans y60; have s1 : w7.cell? ⟨w.heap.size, 1, none⟩ = some (.int .i64 co) := (hb7.cell (p := ⟨w.heap.size, 1, none⟩) z6).trans y61; have s2 : w7.cell? ⟨w.heap.size, 2, none⟩ = some (.string cs) := (hb7.cell (p := ⟨w.heap.size, 2, none⟩) z6).trans y62; have s3 : w7.cell? ⟨w.heap.size, 3, none⟩ = some (.slice ac mc cc) := (hb7.cell (p := ⟨w.heap.size, 3, none⟩) z6).trans y63; have s4 : w7.cell? ⟨w.heap.size, 4, none⟩ = some (.int .i64 bu) := (hb7.cell (p := ⟨w.heap.size, 4, none⟩) z6).trans y64; have s6 : w7.cell? ⟨b, off + i, none⟩ = some (.slice (some ⟨bi, oi, none⟩) li ci) := (hb7.cell (p := ⟨b, off + i, none⟩) z6b).trans c16; have s7 : w7.cell? ⟨bi, oi + t, none⟩ = some (.int .i64 pv) := (hb7.cell (p := ⟨bi, oi + t, none⟩) z6i).trans d16; have s8 : w7.cell? ⟨bi, oi + (t + 1), none⟩ = some (.int .i64 qv) := (hb7.cell (p := ⟨bi, oi + (t + 1), none⟩) z6i).trans d2))
             have OWN7 : Hid (OwnF w7 (w.heap.size + 1) L2 (stepsF co cs p.len p.num i ++ cellsF co cs i li (p.num i) t)) := OwnF.below (show OwnF w6.drew (w.heap.size + 1) L2 (stepsF co cs p.len p.num i ++ cellsF co cs i li (p.num i) t) from OWN6.out) hb7; have BR7 : Hid (Below (w.heap.size + 1) w0 w7) := BR6.out.drew.trans (hb7.mono z6w); clear hb7 s0 s1 s2 s3 s4 s6 s7 s8 y60 y61 y62 y63 y64 c16 d16 d2; cases mb
             . have SB : Hid (M.stepB co cs li (p.num i) t = true) := by unfold Hid M.stepB; rw [<- PV.out, <- QV.out, <- MB.out, D1.out, D0.out]; simp
               have E2 := zx (cells_hit (i := i) SB.out); have hbs : Hid (w.heap.size + 1 <= w7.heap.size) := (YALL.out _ BR7.out).2.2.2; have HLEN := HLENX; go_wp2_with (at_builtin; go_must (refine wpList_pushF rfl _ _ rfl (w.heap.size + 1) L2 _ ⟨1, i, -1, t⟩ rfl OWN7.out hbs.out _ rfl HLEN.out ?_; intro v5 w5 hown5 hb5))
               have OWN8 := zx hown5; have BR8 := zx (BR7.out.trans hb5); clear hown5 hb5; go_wp2; go_roundw; case rel => exact ⟨t + 1, v5, by omega, rfl, by go_num, by rw [E2.out, <- List.append_assoc]; exact OWN8.out, BR8.out⟩
               case measure => simp [intOf]; omega
             . have SB : Hid (M.stepB co cs li (p.num i) t = false) := by unfold Hid M.stepB; rw [<- PV.out, <- QV.out, <- MB.out, <- FB.out, D1.out, D0.out]; simp
               have E2 := zx (cells_miss (i := i) SB.out); go_wp2; go_roundw; case rel => exact ⟨t + 1, L2, by omega, rfl, by go_num, by rw [E2.out]; exact OWN7.out, BR7.out⟩
               case measure => simp [intOf]; omega
           . have D1 : Hid (decide (t + 1 < li) = false) := decide_eq_false hn2; have hnI : ¬ (t : Int) + 1 < (li : Int) := by omega
             have OWN7 := OWN6; have BR7 := BR6; have SB : Hid (M.stepB co cs li (p.num i) t = false) := by unfold Hid M.stepB; rw [<- PV.out, <- FB.out, D1.out, D0.out]; simp
             have E2 := zx (cells_miss (i := i) SB.out); clear hn2; go_wp2; go_roundw; case rel => exact ⟨t + 1, L2, by omega, rfl, by go_num, by rw [E2.out]; exact OWN7.out, BR7.out⟩
             case measure => simp [intOf]; omega
       . have tI : ((t : Int) == 0) = false := by simp; omega
         have D0 : Hid (decide (t = 0) = false) := decide_eq_false tEq; clear tEq; by_cases hn2 : t + 1 < li
         . have D1 : Hid (decide (t + 1 < li) = true) := decide_eq_true hn2; have hnI : (t : Int) + 1 < (li : Int) := by omega
           have j1 : (0 : Int) <= (t : Int) + 1 := by omega
           have j2 : ((t : Int) + 1).toNat = t + 1 := by omega
           have j4 : IntKind.i64.wrap ((t : Int) + 1) = (t : Int) + 1 := wrap_mid (by omega) (by omega); have d2 : w6.cell? ⟨bi, oi + (t + 1), none⟩ = some (.int .i64 qv) := by have h := zj BWX.out (HNC.out (t + 1) hn2); rw [h, <- QV.out]
           go_wp2_with fail; go_region_held3 (fun w' => w'.cell? ⟨w.heap.size, 0, none⟩ = some (.int .i64 ro) ∧ w'.cell? ⟨w.heap.size, 1, none⟩ = some (.int .i64 co) ∧ w'.cell? ⟨w.heap.size, 2, none⟩ = some (.string cs) ∧ w'.cell? ⟨w.heap.size, 3, none⟩ = some (.slice ac mc cc) ∧ w'.cell? ⟨w.heap.size, 4, none⟩ = some (.int .i64 bu) ∧ w'.cell? ⟨b, off + i, none⟩ = some (.slice (some ⟨bi, oi, none⟩) li ci) ∧ w'.cell? ⟨bi, oi + t, none⟩ = some (.int .i64 pv) ∧ w'.cell? ⟨bi, oi + (t + 1), none⟩ = some (.int .i64 qv)) (go_keep)
            (first
             | (go_at_call 86; refine (may_all ro co bu pv qv cs _ _ hs h1 h2).mono ?_; rintro e w7 ⟨he7, hb7⟩; obtain ⟨mb, hmb⟩ : ∃ mb, mb = mayM co cs pv qv := ⟨_, rfl⟩; rw [<- hmb] at he7; subst he7; have MB := zx hmb; clear hmb; have s0 : w7.cell? ⟨w.heap.size, 0, none⟩ = some (.int .i64 ro) := (hb7.cell (p := ⟨w.heap.size, 0, none⟩) z6).trans y60; have s1 : w7.cell? ⟨w.heap.size, 1, none⟩ = some (.int .i64 co) := (hb7.cell (p := ⟨w.heap.size, 1, none⟩) z6).trans y61; have s2 : w7.cell? ⟨w.heap.size, 2, none⟩ = some (.string cs) := (hb7.cell (p := ⟨w.heap.size, 2, none⟩) z6).trans y62; have s3 : w7.cell? ⟨w.heap.size, 3, none⟩ = some (.slice ac mc cc) := (hb7.cell (p := ⟨w.heap.size, 3, none⟩) z6).trans y63; have s4 : w7.cell? ⟨w.heap.size, 4, none⟩ = some (.int .i64 bu) := (hb7.cell (p := ⟨w.heap.size, 4, none⟩) z6).trans y64; have s6 : w7.cell? ⟨b, off + i, none⟩ = some (.slice (some ⟨bi, oi, none⟩) li ci) := (hb7.cell (p := ⟨b, off + i, none⟩) z6b).trans c16; have s7 : w7.cell? ⟨bi, oi + t, none⟩ = some (.int .i64 pv) := (hb7.cell (p := ⟨bi, oi + t, none⟩) z6i).trans d16; have s8 : w7.cell? ⟨bi, oi + (t + 1), none⟩ = some (.int .i64 qv) := (hb7.cell (p := ⟨bi, oi + (t + 1), none⟩) z6i).trans d2))
           have OWN7 : Hid (OwnF w7 (w.heap.size + 1) L2 (stepsF co cs p.len p.num i ++ cellsF co cs i li (p.num i) t)) := OwnF.below (show OwnF w6.drew (w.heap.size + 1) L2 (stepsF co cs p.len p.num i ++ cellsF co cs i li (p.num i) t) from OWN6.out) hb7; have BR7 : Hid (Below (w.heap.size + 1) w0 w7) := BR6.out.drew.trans (hb7.mono z6w); clear hb7 s0 s1 s2 s3 s4 s6 s7 s8 y60 y61 y62 y63 y64 c16 d16 d2; cases mb
           . have SB : Hid (M.stepB co cs li (p.num i) t = true) := by unfold Hid M.stepB; rw [<- PV.out, <- QV.out, <- MB.out, D1.out, D0.out]; simp
             have E2 := zx (cells_hit (i := i) SB.out); have hbs : Hid (w.heap.size + 1 <= w7.heap.size) := (YALL.out _ BR7.out).2.2.2; have HLEN := HLENX; go_wp2_with (at_builtin; go_must (refine wpList_pushF rfl _ _ rfl (w.heap.size + 1) L2 _ ⟨1, i, -1, t⟩ rfl OWN7.out hbs.out _ rfl HLEN.out ?_; intro v5 w5 hown5 hb5))
             have OWN8 := zx hown5; have BR8 := zx (BR7.out.trans hb5); clear hown5 hb5; go_wp2; go_roundw; case rel => exact ⟨t + 1, v5, by omega, rfl, by go_num, by rw [E2.out, <- List.append_assoc]; exact OWN8.out, BR8.out⟩
             case measure => simp [intOf]; omega
           . have SB : Hid (M.stepB co cs li (p.num i) t = false) := by unfold Hid M.stepB; rw [<- PV.out, <- QV.out, <- MB.out, <- FB.out, D1.out, D0.out]; simp
             have E2 := zx (cells_miss (i := i) SB.out); go_wp2; go_roundw; case rel => exact ⟨t + 1, L2, by omega, rfl, by go_num, by rw [E2.out]; exact OWN7.out, BR7.out⟩
             case measure => simp [intOf]; omega
         . have D1 : Hid (decide (t + 1 < li) = false) := decide_eq_false hn2; have hnI : ¬ (t : Int) + 1 < (li : Int) := by omega
           have OWN7 := OWN6; have BR7 := BR6; have SB : Hid (M.stepB co cs li (p.num i) t = false) := by unfold Hid M.stepB; rw [<- PV.out, <- FB.out, D1.out, D0.out]; simp
           have E2 := zx (cells_miss (i := i) SB.out); clear hn2; go_wp2; go_roundw; case rel => exact ⟨t + 1, L2, by omega, rfl, by go_num, by rw [E2.out]; exact OWN7.out, BR7.out⟩
           case measure => simp [intOf]; omega
     . have E3 : Hid (stepsF co cs p.len p.num (i + 1) = stepsF co cs p.len p.num i ++ cellsF co cs i li (p.num i) t) := by
        have e : t = li := by omega
        unfold Hid; rw [e, E1.out]
       go_wp2; go_roundw; case rel => exact ⟨i + 1, L2, by omega, rfl, by go_num, by rw [E3.out]; exact OWN2.out, BR2.out⟩
       case measure => simp [intOf]; omega
  . have E5 : Hid (stepsF co cs p.len p.num i = stepsF co cs p.len p.num n) := by
     have e : i = n := by omega
     unfold Hid; rw [e]
    go_wp2; go_ret; exact ⟨L, rfl, by rw [<- E5.out]; exact OWN.out.le (by omega), (YALL.out _ BR.out).2.1⟩
end
section
open Go.RowKit M
namespace M
def begunB (f : Int) (n : Nat) (x : Nat -> Int) : Bool := decide (0 < n) && (x 0 == f)
def overB (c : Int) (n : Nat) (x : Nat -> Int) : Bool := decide (n = 0) || ((x (n - 1) == c) && (decide (n = 1) || !(x (n - 2) == c)))
def endF (i : Nat) (f c : Int) (n : Nat) (x : Nat -> Int) : List FaultM :=
 (if begunB f n x = true then [] else [⟨0, i, -1, 0⟩]) ++ (if (!overB c n x && (decide (1 < n) || begunB f n x)) = true then [⟨0, i, -1, (n : Int) - 1⟩] else [])
def endsF (fr tt : Nat -> Int) (len : Nat -> Nat) (num : Nat -> Nat -> Int) : Nat -> List FaultM
 | 0 => []
 | i + 1 => endsF fr tt len num i ++ M.endF i (fr i) (tt i) (len i) (num i)
theorem endF_len (i : Nat) (f c : Int) (n : Nat) (x : Nat -> Int) : (M.endF i f c n x).length <= 2 := by
 unfold M.endF; rw [List.length_append]; split <;> split <;> simp
theorem endsF_len (fr tt : Nat -> Int) (len : Nat -> Nat) (num : Nat -> Nat -> Int) : ∀ i, (endsF fr tt len num i).length <= 2 * i
 | 0 => by simp [endsF]
 | i + 1 => by
   have := endsF_len fr tt len num i; have := endF_len i (fr i) (tt i) (len i) (num i); simp only [endsF, List.length_append]; omega
theorem endF_none {i n : Nat} {f c : Int} {x : Nat -> Int} (hn : n = 0) : M.endF i f c n x = [⟨0, i, -1, 0⟩] := by
 subst hn; simp [M.endF, begunB, overB]
theorem endF_of {i n : Nat} {f c : Int} {x : Nat -> Int} {ws we : Bool} (h1 : ws = !begunB f n x) (h2 : we = !overB c n x) (hn : 2 <= n) : M.endF i f c n x = (if ws = true then [⟨0, i, -1, 0⟩] else []) ++ (if we = true then [⟨0, i, -1, (n : Int) - 1⟩] else []) := by
 unfold M.endF; rw [h1, h2, show decide (1 < n) = true from decide_eq_true (by omega)]; cases begunB f n x <;> cases overB c n x <;> simp
theorem endF_one {i n : Nat} {f c : Int} {x : Nat -> Int} {ws we : Bool} (h1 : ws = !begunB f n x) (h2 : we = !overB c n x) (hn : n = 1) : M.endF i f c n x = (if (ws || we) = true then [⟨0, i, -1, 0⟩] else []) := by
 subst hn; unfold M.endF; rw [h1, h2]; cases begunB f 1 x <;> cases overB c 1 x <;> simp
end M
end
end Go.Proofs.YtnkgpinadgacgaaGreatDoor
