/- Cj, Cn, Ho. -/
import Derived.Test.YtnkgpinadgacgaaGreatDoorQzt
set_option maxRecDepth 1000000
set_option maxHeartbeats 4000000
namespace Go.Proofs.YtnkgpinadgacgaaGreatDoor
section
open Go.RowKit M
theorem rends_any (ro co bu : Int) (cs : ByteArray) (bc oc m cc : Nat) (fr tt : Nat -> Int) (a : Option Addr) (n cap : Nat) (p : PlanM) (w : World) (hcs : CartsIn w bc oc m fr tt) (hmn : n = m)
 (hn : n <= 4) (hB : ∀ i, i < n -> p.len i <= 1048576) (hp : PlanAt w a n p) :
 Calls Tryz.prog 64 #[.agg #[.int .i64 ro, .int .i64 co, .string cs, .slice (some ⟨bc, oc, none⟩) m cc, .int .i64 bu], .slice a n cap] w fun e w' => ∃ v, e = .returned v ∧ OwnF w' w.heap.size v (endsF fr tt p.len p.num n) ∧ Below w.heap.size w w' := by
 have HP := zx hp; have HB := zx hB; have HCS := zx hcs; have HMN : n <= m := by omega
 clear hp hB hcs hmn; go_enter Tryz.func64, Tryz.ntmps64; go_wp2; have B0 : Hid (Below w.heap.size w (w.alloc (.cells #[.int .i64 ro, .int .i64 co, .string cs, .slice (some ⟨bc, oc, none⟩) m cc, .int .i64 bu] 34))) := (Below.refl _ w).alloc zl _; have y0 : ∀ o, (w.alloc (.cells #[.int .i64 ro, .int .i64 co, .string cs, .slice (some ⟨bc, oc, none⟩) m cc, .int .i64 bu] 34)).cell? ⟨w.heap.size, o, none⟩ = #[Value.int .i64 ro, .int .i64 co, .string cs, .slice (some ⟨bc, oc, none⟩) m cc, .int .i64 bu][o]? := by
  intro o; go_simp
 have hz0 : w.heap.size + 1 = (w.alloc (.cells #[.int .i64 ro, .int .i64 co, .string cs, .slice (some ⟨bc, oc, none⟩) m cc, .int .i64 bu] 34)).heap.size := by simp
 generalize w.alloc (.cells #[.int .i64 ro, .int .i64 co, .string cs, .slice (some ⟨bc, oc, none⟩) m cc, .int .i64 bu] 34) = w0 at *; have Y0 := zx y0; have YALL : Hid (∀ wx, Below (w.heap.size + 1) w0 wx -> wx.cell? ⟨w.heap.size, 3, none⟩ = some (.slice (some ⟨bc, oc, none⟩) m cc) ∧ Below w.heap.size w wx ∧ w.heap.size < wx.heap.size ∧ w.heap.size + 1 <= wx.heap.size) := by
  intro wx hb; have := hb.size; exact ⟨(hb.cell (p := ⟨w.heap.size, 3, none⟩) (by show w.heap.size < _; omega)).trans (Y0.out 3), B0.out.trans (hb.mono (by omega)), by omega, by omega⟩
 clear y0 hz0; go_loopw [5, 6] (fun v5 v6 wr => ∃ (i : Nat) (L : Value), i <= n ∧ L = v5 ∧ v6 = .int .i64 i ∧ OwnF wr (w.heap.size + 1) L (endsF fr tt p.len p.num i) ∧ Below (w.heap.size + 1) w0 wr) (fun _ v6 _ => n - (intOf v6).toNat)
 case atStart => exact ⟨0, _, Nat.zero_le _, rfl, rfl, OwnF.nil _ _, Below.refl _ _⟩
 case round =>
  obtain ⟨wo, rfl⟩ : ∃ q, q = wr := ⟨_, rfl⟩
  obtain ⟨i, L, hi, rfl, rfl, hown, hbr⟩ := hrel; have OWN := zx hown; have BR := zx hbr; clear hown hbr; by_cases hlt : i < n
  . obtain ⟨b, off, rfl, hpi⟩ := HP.out (by omega); obtain ⟨y3, bw, zw, zw1⟩ := YALL.out wo BR.out; have c1 := zj bw (hpi i hlt).1; have NI := zx (hpi i hlt).2; have BI := HB.out i hlt; have E1 : Hid (endsF fr tt p.len p.num (i + 1) = endsF fr tt p.len p.num i ++ M.endF i (fr i) (tt i) (p.len i) (p.num i)) := rfl; obtain ⟨ai, hai⟩ : ∃ q, q = p.ad i := ⟨_, rfl⟩
    obtain ⟨li, hli⟩ : ∃ q, q = p.len i := ⟨_, rfl⟩
    obtain ⟨ci, hci⟩ : ∃ q, q = p.cap i := ⟨_, rfl⟩
    rw [<- hai, <- hli, <- hci] at c1; rw [<- hai, <- hli] at NI; rw [<- hli] at BI E1; have LP := endsF_len fr tt p.len p.num i; have HLEN0 : Hid ((endsF fr tt p.len p.num i).length <= 100000000) := by unfold Hid; omega
    have HLEN1 : Hid ((endsF fr tt p.len p.num i ++ [(⟨0, i, -1, 0⟩ : FaultM)]).length <= 100000000) := by unfold Hid; simp only [List.length_append, List.length_cons, List.length_nil]; omega
    have hcx := hpi; have k0 := zj bw (HCS.out i (Nat.lt_of_lt_of_le hlt HMN)).1; have k1 := zj bw (HCS.out i (Nat.lt_of_lt_of_le hlt HMN)).2; obtain ⟨f, hf⟩ : ∃ q, q = fr i := ⟨_, rfl⟩
    obtain ⟨c, hc⟩ : ∃ q, q = tt i := ⟨_, rfl⟩
    rw [<- hf] at k0; rw [<- hc] at k1; have him : i < m := by omega
    have himI : (i : Int) < (m : Int) := by omega
    have zb : b < wo.heap.size := World.block_lt_of_cell? _ _ c1; have zc : bc < wo.heap.size := World.block_lt_of_cell? _ _ k0; have HF := zx hf; have HCC := zx hc; have NIo := zx (NI.out.below bw); clear hpi hcx hai hli hci LP hf hc bw; go_upto_region 7 with fail; have BA : Hid (Below wo.heap.size wo (wo.alloc (.cells #[.int .i64 f, .int .i64 c] 75))) := (Below.refl _ _).alloc zl _; have x0 : (wo.alloc (.cells #[.int .i64 f, .int .i64 c] 75)).cell? ⟨wo.heap.size, 0, none⟩ = some (.int .i64 f) := by go_simp
    have x1 : (wo.alloc (.cells #[.int .i64 f, .int .i64 c] 75)).cell? ⟨wo.heap.size, 1, none⟩ = some (.int .i64 c) := by go_simp
    generalize wo.alloc (.cells #[.int .i64 f, .int .i64 c] 75) = wA at *; have BRA := zx (BR.out.trans (BA.out.mono zw1)); have OWNA : Hid (OwnF wA (w.heap.size + 1) L (endsF fr tt p.len p.num i)) := OWN.out.below BA.out; have NIA := zx (NIo.out.below BA.out); have c1A := zj BA.out c1; have zA1 : w.heap.size + 1 <= wA.heap.size := Nat.le_trans zw1 BA.out.size; clear c1 y3 k0 k1 OWN BR zb zc NIo BA; go_cut [9] (fun v9 wx => v9 = .bool (begunB (fr i) li (p.num i)) ∧ Below wA.heap.size wA wx)
    case first =>
     by_cases n0 : li = 0
     . have R : Hid (begunB (fr i) li (p.num i) = false) := by unfold Hid begunB; simp [n0]
       have g0 : decide (0 < li) = false := by simp [n0]
       clear n0; go_quiet (fail); go_wp2_with fail; go_meet; case rel => exact ⟨by rw [R.out], below_drewN (Below.refl _ _) _⟩
     . obtain ⟨bi, oi, rfl, hnc⟩ := NIA.out (by omega); have d := hnc 0 (by omega); rw [Nat.add_zero] at d; have nN : 0 < li := by omega
       have nI : (0 : Int) < (li : Int) := by omega
       have g0 : decide (0 < li) = true := by simp; omega
       obtain ⟨pv, hpv⟩ : ∃ q, q = p.num i 0 := ⟨_, rfl⟩
       rw [<- hpv] at d; have R : Hid (begunB (fr i) li (p.num i) = (pv == f)) := by unfold Hid begunB; rw [<- hpv, <- HF.out]; simp [nN]
       clear n0 hnc hpv; go_quiet (fail); go_wp2_with fail; go_meet; case rel => exact ⟨by rw [R.out], below_drewN (Below.refl _ _) _⟩
    case rest =>
     obtain ⟨wB, rfl⟩ : ∃ q, q = wc := ⟨_, rfl⟩
     obtain ⟨rfl, hbB⟩ := hcut; have BRB := zx (BRA.out.trans (hbB.mono zA1)); have OWNB : Hid (OwnF wB (w.heap.size + 1) L (endsF fr tt p.len p.num i)) := OWNA.out.below hbB; have NIB := zx (NIA.out.below hbB); have c1B := zj hbB c1A; have x1B := zj hbB x1; have zB1 : w.heap.size + 1 <= wB.heap.size := Nat.le_trans zA1 hbB.size; obtain ⟨bg, hbg⟩ : ∃ bg, bg = begunB (fr i) li (p.num i) := ⟨_, rfl⟩
     rw [<- hbg]; have BG := zx hbg; clear hbg hbB c1A x0 x1 OWNA BRA NIA; go_upto_region 8 with fail; go_cut [10] (fun v10 wx => v10 = .bool (overB (tt i) li (p.num i)) ∧ Below wB.heap.size wB wx)
     case first =>
      by_cases n0 : li = 0
      . have R : Hid (overB (tt i) li (p.num i) = true) := by unfold Hid overB; simp [n0]
        have g0 : ((li : Int) == 0) = true := by simp [n0]
        clear n0; go_quiet (fail); go_wp2_with fail; go_meet; case rel => exact ⟨by rw [R.out], below_drewN (Below.refl _ _) _⟩
      . obtain ⟨bi, oi, rfl, hnc⟩ := NIB.out (by omega); obtain ⟨n1, hn1⟩ : ∃ n1, li = n1 + 1 := ⟨li - 1, by omega⟩
        have hv : IntKind.i64.wrap ((li : Int) - 1) = (n1 : Int) := by
         rw [show (li : Int) - 1 = (n1 : Int) by omega]; exact wrap_mid (by omega) (by omega)
        have d := hnc n1 (by omega); have g0 : ((li : Int) == 0) = false := by simp; omega
        have i1 : n1 < li := by omega
        have i1I : (n1 : Int) < (li : Int) := by omega
        obtain ⟨pv, hpv⟩ : ∃ q, q = p.num i n1 := ⟨_, rfl⟩
        rw [<- hpv] at d; by_cases e1 : (pv == c) = true
        . by_cases h1 : n1 = 0
          . have g1 : ((li : Int) == 1) = true := by simp; omega
            have R : Hid (overB (tt i) li (p.num i) = true) := by unfold Hid overB; rw [hn1]; simp only [Nat.add_sub_cancel]; rw [<- hpv, <- HCC.out, e1, h1]; simp
            clear n0 hn1 h1 hnc hpv; go_quiet (fail); go_wp2_with fail; go_meet; case rel => exact ⟨by rw [R.out], below_drewN (Below.refl _ _) _⟩
          . obtain ⟨n2, hn2⟩ : ∃ n2, n1 = n2 + 1 := ⟨n1 - 1, by omega⟩
            have g1 : ((li : Int) == 1) = false := by simp; omega
            have hv2 : IntKind.i64.wrap ((li : Int) - 2) = (n2 : Int) := by
             rw [show (li : Int) - 2 = (n2 : Int) by omega]; exact wrap_mid (by omega) (by omega)
            have d2 := hnc n2 (by omega); have i2 : n2 < li := by omega
            have i2I : (n2 : Int) < (li : Int) := by omega
            obtain ⟨qv, hqv⟩ : ∃ q, q = p.num i n2 := ⟨_, rfl⟩
            rw [<- hqv] at d2; have R : Hid (overB (tt i) li (p.num i) = (qv != c)) := by
             unfold Hid overB; rw [hn1]; simp only [Nat.add_sub_cancel]; rw [<- hpv, <- HCC.out, e1, show n1 + 1 - 2 = n2 by omega, <- hqv]; simp [bne]; omega
            clear n0 hn1 hn2 h1 hnc hpv hqv; go_quiet (fail); go_wp2_with fail; go_meet; case rel => exact ⟨by rw [R.out], below_drewN (Below.refl _ _) _⟩
        . have e1f : (pv == c) = false := by simpa using e1
          have R : Hid (overB (tt i) li (p.num i) = false) := by unfold Hid overB; rw [hn1]; simp only [Nat.add_sub_cancel]; rw [<- hpv, <- HCC.out, e1f]; simp
          clear n0 e1 hn1 hnc hpv; go_quiet (fail); go_wp2_with fail; go_meet; case rel => exact ⟨by rw [R.out], below_drewN (Below.refl _ _) _⟩
     case rest =>
      obtain ⟨wx, rfl⟩ : ∃ q, q = wc := ⟨_, rfl⟩
      obtain ⟨rfl, hbX⟩ := hcut; have BR2 := zx (BRB.out.trans (hbX.mono zB1)); have OWN2 : Hid (OwnF wx (w.heap.size + 1) L (endsF fr tt p.len p.num i)) := OWNB.out.below hbX; have HBT0 : Hid (w.heap.size + 1 <= wx.heap.size) := (YALL.out _ BR2.out).2.2.2; obtain ⟨ov, hov⟩ : ∃ ov, ov = overB (tt i) li (p.num i) := ⟨_, rfl⟩
      rw [<- hov]; have OV := zx hov; have WS : Hid ((!bg) = !begunB (fr i) li (p.num i)) := by unfold Hid; rw [BG.out]
      have WE : Hid ((!ov) = !overB (tt i) li (p.num i)) := by unfold Hid; rw [hov]
      clear hov hbX c1B x1B OWNB BRB NIB zA1 zB1 zw zw1; by_cases n0 : li = 0
      . obtain rfl : bg = false := by rw [BG.out, n0]; rfl
        obtain rfl : ov = true := by rw [OV.out, n0]; rfl
        have N0 := zx n0; clear n0; have EE : Hid (M.endF i (fr i) (tt i) li (p.num i) = [⟨0, i, -1, 0⟩]) := by exact endF_none N0.out
        go_wp2_with (at_builtin; go_must (refine wpList_pushF rfl _ _ rfl (w.heap.size + 1) L _ ⟨0, i, -1, 0⟩ rfl OWN2.out HBT0.out _ rfl HLEN0.out ?_; intro v51 w51 hown51 hb51))
        have OW51 := zx hown51; have BR51 := zx (BR2.out.trans hb51); have HBT1 : Hid (w.heap.size + 1 <= w51.heap.size) := (YALL.out _ BR51.out).2.2.2; clear hown51 hb51; go_wp2; go_roundw; case rel => exact ⟨i + 1, v51, by omega, rfl, by go_num, by rw [show endsF fr tt p.len p.num (i + 1) = endsF fr tt p.len p.num i ++ M.endF i (fr i) (tt i) li (p.num i) from E1.out, EE.out]; exact OW51.out, BR51.out⟩
        case measure => simp [intOf]; omega
      . by_cases n1 : li = 1
        . have N1 := zx n1; have g1 : ¬ (1 : Int) < (li : Int) := by omega
          have hv : IntKind.i64.wrap ((li : Int) - 1) = 0 := by rw [n1]; rfl
          have hl : (li : Int) - 1 = 0 := by omega
          clear n1 n0; cases bg
          . cases ov
            . have EE : Hid (M.endF i (fr i) (tt i) li (p.num i) = [⟨0, i, -1, 0⟩]) := by (rw [endF_one WS.out WE.out N1.out]; rfl)
              go_wp2_with (at_builtin; go_must (refine wpList_pushF rfl _ _ rfl (w.heap.size + 1) L _ ⟨0, i, -1, 0⟩ rfl OWN2.out HBT0.out _ rfl HLEN0.out ?_; intro v51 w51 hown51 hb51))
              have OW51 := zx hown51; have BR51 := zx (BR2.out.trans hb51); have HBT1 : Hid (w.heap.size + 1 <= w51.heap.size) := (YALL.out _ BR51.out).2.2.2; clear hown51 hb51; go_wp2; clear hl; go_roundw; case rel => exact ⟨i + 1, v51, by omega, rfl, by go_num, by rw [show endsF fr tt p.len p.num (i + 1) = endsF fr tt p.len p.num i ++ M.endF i (fr i) (tt i) li (p.num i) from E1.out, EE.out]; exact OW51.out, BR51.out⟩
              case measure => simp [intOf]; omega
            . have EE : Hid (M.endF i (fr i) (tt i) li (p.num i) = [⟨0, i, -1, 0⟩]) := by (rw [endF_one WS.out WE.out N1.out]; rfl)
              go_wp2_with (at_builtin; go_must (refine wpList_pushF rfl _ _ rfl (w.heap.size + 1) L _ ⟨0, i, -1, 0⟩ rfl OWN2.out HBT0.out _ rfl HLEN0.out ?_; intro v51 w51 hown51 hb51))
              have OW51 := zx hown51; have BR51 := zx (BR2.out.trans hb51); have HBT1 : Hid (w.heap.size + 1 <= w51.heap.size) := (YALL.out _ BR51.out).2.2.2; clear hown51 hb51; go_wp2; clear hl; go_roundw; case rel => exact ⟨i + 1, v51, by omega, rfl, by go_num, by rw [show endsF fr tt p.len p.num (i + 1) = endsF fr tt p.len p.num i ++ M.endF i (fr i) (tt i) li (p.num i) from E1.out, EE.out]; exact OW51.out, BR51.out⟩
              case measure => simp [intOf]; omega
          . cases ov
            . have EE : Hid (M.endF i (fr i) (tt i) li (p.num i) = [⟨0, i, -1, 0⟩]) := by (rw [endF_one WS.out WE.out N1.out]; rfl)
              go_wp2_with (at_builtin; go_must (refine wpList_pushF rfl _ _ rfl (w.heap.size + 1) L _ ⟨0, i, -1, 0⟩ rfl OWN2.out HBT0.out _ rfl HLEN0.out ?_; intro v51 w51 hown51 hb51))
              have OW51 := zx hown51; have BR51 := zx (BR2.out.trans hb51); have HBT1 : Hid (w.heap.size + 1 <= w51.heap.size) := (YALL.out _ BR51.out).2.2.2; clear hown51 hb51; go_wp2; clear hl; go_roundw; case rel => exact ⟨i + 1, v51, by omega, rfl, by go_num, by rw [show endsF fr tt p.len p.num (i + 1) = endsF fr tt p.len p.num i ++ M.endF i (fr i) (tt i) li (p.num i) from E1.out, EE.out]; exact OW51.out, BR51.out⟩
              case measure => simp [intOf]; omega
            . have EE : Hid (M.endF i (fr i) (tt i) li (p.num i) = []) := by (rw [endF_one WS.out WE.out N1.out]; rfl)
              go_wp2; clear hl; go_roundw; case rel => exact ⟨i + 1, L, by omega, rfl, by go_num, by rw [show endsF fr tt p.len p.num (i + 1) = endsF fr tt p.len p.num i ++ M.endF i (fr i) (tt i) li (p.num i) from E1.out, EE.out, List.append_nil]; exact OWN2.out, BR2.out⟩
              case measure => simp [intOf]; omega
        . have N2 : Hid (2 <= li) := by unfold Hid; omega
          have g1 : (1 : Int) < (li : Int) := by omega
          clear n1 n0; cases bg
          . cases ov
            . have EE : Hid (M.endF i (fr i) (tt i) li (p.num i) = [⟨0, i, -1, 0⟩, ⟨0, i, -1, (li : Int) - 1⟩]) := by (rw [endF_of WS.out WE.out N2.out]; rfl)
              go_wp2_with (first
               | (at_builtin; refine wpList_pushF rfl _ _ rfl (w.heap.size + 1) L _ ⟨0, i, -1, 0⟩ rfl OWN2.out HBT0.out _ rfl HLEN0.out ?_; intro v51 w51 hown51 hb51; have OW51 := zx hown51; have BR51 : Hid (Below (w.heap.size + 1) w0 w51) := BR2.out.trans hb51; have HBT1 : Hid (w.heap.size + 1 <= w51.heap.size) := (YALL.out _ BR51.out).2.2.2; clear hown51 hb51)
               | (at_builtin; refine wpList_pushF rfl _ _ rfl (w.heap.size + 1) v51 _ ⟨0, i, -1, (li : Int) - 1⟩ rfl OW51.out HBT1.out _ rfl HLEN1.out ?_; intro v52 w52 hown52 hb52; have OW52 := zx hown52; have BR52 : Hid (Below (w.heap.size + 1) w0 w52) := BR51.out.trans hb52; have HBT2 : Hid (w.heap.size + 1 <= w52.heap.size) := (YALL.out _ BR52.out).2.2.2; clear hown52 hb52))
              go_wp2; go_roundw; case rel => exact ⟨i + 1, v52, by omega, rfl, by go_num, by rw [show endsF fr tt p.len p.num (i + 1) = endsF fr tt p.len p.num i ++ M.endF i (fr i) (tt i) li (p.num i) from E1.out, EE.out]; have h := OW52.out; simp only [List.append_assoc, List.cons_append, List.nil_append] at h; exact h, BR52.out⟩
              case measure => simp [intOf]; omega
            . have EE : Hid (M.endF i (fr i) (tt i) li (p.num i) = [⟨0, i, -1, 0⟩]) := by (rw [endF_of WS.out WE.out N2.out]; rfl)
              go_wp2_with (at_builtin; go_must (refine wpList_pushF rfl _ _ rfl (w.heap.size + 1) L _ ⟨0, i, -1, 0⟩ rfl OWN2.out HBT0.out _ rfl HLEN0.out ?_; intro v51 w51 hown51 hb51))
              have OW51 := zx hown51; have BR51 := zx (BR2.out.trans hb51); have HBT1 : Hid (w.heap.size + 1 <= w51.heap.size) := (YALL.out _ BR51.out).2.2.2; clear hown51 hb51; go_wp2; go_roundw; case rel => exact ⟨i + 1, v51, by omega, rfl, by go_num, by rw [show endsF fr tt p.len p.num (i + 1) = endsF fr tt p.len p.num i ++ M.endF i (fr i) (tt i) li (p.num i) from E1.out, EE.out]; exact OW51.out, BR51.out⟩
              case measure => simp [intOf]; omega
          . cases ov
            . have EE : Hid (M.endF i (fr i) (tt i) li (p.num i) = [⟨0, i, -1, (li : Int) - 1⟩]) := by (rw [endF_of WS.out WE.out N2.out]; rfl)
              go_wp2_with (at_builtin; go_must (refine wpList_pushF rfl _ _ rfl (w.heap.size + 1) L _ ⟨0, i, -1, (li : Int) - 1⟩ rfl OWN2.out HBT0.out _ rfl HLEN0.out ?_; intro v51 w51 hown51 hb51))
              have OW51 := zx hown51; have BR51 := zx (BR2.out.trans hb51); have HBT1 : Hid (w.heap.size + 1 <= w51.heap.size) := (YALL.out _ BR51.out).2.2.2; clear hown51 hb51; go_wp2; go_roundw; case rel => exact ⟨i + 1, v51, by omega, rfl, by go_num, by rw [show endsF fr tt p.len p.num (i + 1) = endsF fr tt p.len p.num i ++ M.endF i (fr i) (tt i) li (p.num i) from E1.out, EE.out]; exact OW51.out, BR51.out⟩
              case measure => simp [intOf]; omega
            . have EE : Hid (M.endF i (fr i) (tt i) li (p.num i) = []) := by (rw [endF_of WS.out WE.out N2.out]; rfl)
              go_wp2; go_roundw; case rel => exact ⟨i + 1, L, by omega, rfl, by go_num, by rw [show endsF fr tt p.len p.num (i + 1) = endsF fr tt p.len p.num i ++ M.endF i (fr i) (tt i) li (p.num i) from E1.out, EE.out, List.append_nil]; exact OWN2.out, BR2.out⟩
              case measure => simp [intOf]; omega
  . have E5 : Hid (endsF fr tt p.len p.num i = endsF fr tt p.len p.num n) := by
     have e : i = n := by omega
     unfold Hid; rw [e]
    go_wp2; go_ret; exact ⟨L, rfl, by rw [<- E5.out]; exact OWN.out.le (by omega), (YALL.out _ BR.out).2.1⟩
end
section
open Go.RowKit M
namespace M
def allF (lvl : Nat) (co : Int) (cs : ByteArray) (fr tt : Nat -> Int) (n : Nat) (len : Nat -> Nat) (num : Nat -> Nat -> Int) : List FaultM :=
 (((if 3 <= lvl then pairsF 3 n len num n else []) ++ (if 2 <= lvl then pairsF 2 n len num n else [])) ++ (if 1 <= lvl then stepsF co cs len num n else [])) ++ endsF fr tt len num n
end M
theorem own_oneF (w : World) (f : FaultM) (k : Nat) (hk : k = w.heap.size) : OwnF (w.alloc (.cells #[.int .i64 f.level, .int .i64 f.cart, .int .i64 f.other, .int .i64 f.at'] 134)) k (.slice (some ⟨k, 0, none⟩) 1 1) [f] := by
 subst hk; refine ⟨⟨rfl, .inr ⟨w.heap.size, 1, #[.int .i64 f.level, .int .i64 f.cart, .int .i64 f.other, .int .i64 f.at'], rfl, zl, ?_, zl, by unfold maxLen; omega, rfl, rfl⟩⟩, fun e => by cases e⟩; show (w.heap.push _)[w.heap.size]? = _; simp
theorem pairs_all {lvl n : Nat} {len : Nat -> Nat} {num : Nat -> Nat -> Int} (hn : n <= 4) (h : ∀ j, j < n -> len j <= 1048576) : (pairsF lvl n len num n).length <= 16777216 := pairs_bd hn h zl
theorem steps_all {co : Int} {cs : ByteArray} {n : Nat} {len : Nat -> Nat} {num : Nat -> Nat -> Int} (hn : n <= 4) (h : ∀ j, j < n -> len j <= 1048576) : (stepsF co cs len num n).length <= 4194304 := steps_bd hn h zl
theorem ends_all {fr tt : Nat -> Int} {n : Nat} {len : Nat -> Nat} {num : Nat -> Nat -> Int} (hn : n <= 4) : (endsF fr tt len num n).length <= 8 := by have := endsF_len fr tt len num n; omega
end
section
open M SM BM
section
variable {co : Int} {cs : ByteArray} {m : Nat} {fr tt : Nat → Int} {ln : Nat → Nat} {pt : Nat → Nat → Nat}
theorem posM_at {i t : Nat} : posM (ln i) (fun j => ((pt i j : Nat) : Int)) t = ((atT ln pt i t : Nat) : Int) := by
 unfold posM atT; by_cases h : t < ln i
 . rw [if_pos h, if_pos h]
 . rw [if_neg h, if_neg h]
theorem times_none {lvl i k : Nat} {x y : Nat -> Int} (h : ∀ t, pairB lvl (x t) (y t) (x (t + 1)) (y (t + 1)) = false) : ∀ t, timesF lvl i k x y t = []
 | 0 => rfl
 | t + 1 => by
   simp only [timesF]; rw [times_none h t, h t]; rfl
theorem pairs_none {lvl n : Nat} {len : Nat -> Nat} {num : Nat -> Nat -> Int} (h : ∀ i k, i < n -> k < n -> i < k -> ∀ t, pairB lvl (posM (len i) (num i) t) (posM (len k) (num k) t) (posM (len i) (num i) (t + 1)) (posM (len k) (num k) (t + 1)) = false) : ∀ i, i <= n -> pairsF lvl n len num i = []
 | 0, _ => rfl
 | i + 1, hi => by
   have key : ∀ k, k <= n -> othersF lvl i len num k = [] := by
    intro k; induction k with
    | zero => intro _; rfl
    | succ k ih =>
      intro hk; simp only [othersF]; rw [ih (by omega)]; by_cases e : i < k
      . rw [if_pos e, times_none (h i k (by omega) (by omega) e)]; rfl
      . rw [if_neg e]; rfl
   simp only [pairsF]; rw [pairs_none h i (by omega), key n (Nat.le_refl n)]; rfl
theorem cells_none {i n : Nat} {x : Nat -> Int} (h : ∀ t, t < n -> M.stepB co cs n x t = false) : ∀ t, t <= n -> cellsF co cs i n x t = []
 | 0, _ => rfl
 | t + 1, ht => by
   simp only [cellsF]; rw [cells_none h t (by omega), h t (by omega)]; rfl
theorem good_none {adj : Nat -> Nat -> Prop} {frN ttN : Nat -> Nat} (P : GoodP m adj frN ttN ln pt) (hfr : ∀ i, i < m -> fr i = (frN i : Nat)) (htt : ∀ i, i < m -> tt i = (ttN i : Nat)) (hadj : ∀ i, i < m -> ∀ j, j + 1 < ln i -> mayM co cs (pt i j : Nat) (pt i (j + 1) : Nat) = true) (hfree : ∀ i, i < m -> freeB cs (pt i 0 : Nat) = true) :
 allF 3 co cs fr tt m ln (fun i j => ((pt i j : Nat) : Int)) = [] := by
 have p3 : pairsF 3 m ln (fun i j => ((pt i j : Nat) : Int)) m = [] := pairs_none (fun i k hi hk hik t => by
  rw [posM_at, posM_at, posM_at, posM_at]; have h := P.swap i k hi hk (by omega) t; unfold pairB; rw [if_neg (by decide)]; by_cases e1 : atT ln pt i t = atT ln pt k (t + 1)
  . have e2 : ¬ atT ln pt k t = atT ln pt i (t + 1) := fun e2 => h ⟨e1, e2⟩
    simp; omega
  . simp; omega) m (Nat.le_refl m)
 have p2 : pairsF 2 m ln (fun i j => ((pt i j : Nat) : Int)) m = [] := pairs_none (fun i k hi hk hik t => by
  rw [posM_at, posM_at, posM_at, posM_at]; have h := P.meet i k hi hk (by omega) t; unfold pairB; rw [if_pos rfl]; simp; omega) m (Nat.le_refl m)
 have s1 : ∀ i, i <= m -> stepsF co cs ln (fun i j => ((pt i j : Nat) : Int)) i = [] := by
  intro i; induction i with
  | zero => intro _; rfl
  | succ i ih =>
    intro hi; simp only [stepsF]; rw [ih (by omega), cells_none (fun t ht => ?_) (ln i) zl]
    . rfl
    . unfold M.stepB; by_cases e : t + 1 < ln i
      . rw [hadj i (by omega) t e]; by_cases e2 : t = 0
        . subst e2; rw [hfree i (by omega)]; simp
        . simp [e2]
      . by_cases e2 : t = 0
        . subst e2; rw [hfree i (by omega)]; simp [e]
        . simp [e, e2]
 have e0 : ∀ i, i <= m -> endsF fr tt ln (fun i j => ((pt i j : Nat) : Int)) i = [] := by
  intro i; induction i with
  | zero => intro _; rfl
  | succ i ih =>
    intro hi; have h1 := P.pos i (by omega); have h2 := P.first i (by omega); have h3 := P.last i (by omega); have h4 := P.wait i (by omega); have b1 : begunB (fr i) (ln i) (fun j => ((pt i j : Nat) : Int)) = true := by
     unfold begunB; show (decide (0 < ln i) && (((pt i 0 : Nat) : Int) == fr i)) = true; rw [hfr i (by omega), h2]; simp [h1]
    have b2 : overB (tt i) (ln i) (fun j => ((pt i j : Nat) : Int)) = true := by
     unfold overB; show (decide (ln i = 0) || ((((pt i (ln i - 1) : Nat) : Int) == tt i) && (decide (ln i = 1) || !(((pt i (ln i - 2) : Nat) : Int) == tt i)))) = true; rw [htt i (by omega), h3]; by_cases e : ln i = 1
     . simp [e]
     . have h5 := h4 (by omega); have h6 : (((pt i (ln i - 2) : Nat) : Int) == ((ttN i : Nat) : Int)) = false := by simp; omega
       rw [h6]; simp
    simp only [endsF]; rw [ih (by omega)]; unfold M.endF; rw [b1, b2]; rfl
 unfold allF; rw [p3, p2, s1 m (Nat.le_refl m), e0 m (Nat.le_refl m)]; simp
end
section
variable {nx : List Nat → List (List Nat)} {h : List Nat → Nat} {m : Nat} {fr tt : List Nat} {L : List (List Nat)}
theorem way_nodup {s : SM.Srch} {X : List St} (R : Run nx h m fr tt L s X (fun _ _ => False)) : ∀ (f : Nat) (x : St) (g : Nat), (s.seen x).map (·.1) = some g -> (SM.wayF s.seen f x).Nodup ∧ ∀ y, y ∈ SM.wayF s.seen f x -> ∃ k, (s.seen y).map (·.1) = some k ∧ k <= g
 | 0, x, g, hx => by
   simp only [SM.wayF]; refine ⟨by simp, fun y hy => ?_⟩; rw [List.mem_singleton] at hy; exact ⟨g, hy ▸ hx, zl⟩
 | f + 1, x, g, hx => by
   simp only [SM.wayF]; by_cases e : 0 < costO (s.seen x)
   . rw [if_pos e]; obtain ⟨g0, h2, h3⟩ := way_back2 R hx e; obtain ⟨i1, i2⟩ := way_nodup R f _ g0 h2; refine ⟨List.nodup_cons.2 ⟨fun hm => ?_, i1⟩, fun y hy => ?_⟩
     . obtain ⟨k, k1, k2⟩ := i2 x hm; rw [hx] at k1; injection k1 with k1; omega
     . rcases List.mem_cons.1 hy with q | q
       . exact ⟨g, q ▸ hx, zl⟩
       . obtain ⟨k, k1, k2⟩ := i2 y q; exact ⟨k, k1, by omega⟩
   . rw [if_neg e]; refine ⟨by simp, fun y hy => ?_⟩; rw [List.mem_singleton] at hy; exact ⟨g, hy ▸ hx, zl⟩
end
theorem good_like {m : Nat} {adj : Nat -> Nat -> Prop} {fr tt ln ln' : Nat -> Nat} {pt pt' : Nat -> Nat -> Nat} (P : GoodP m adj fr tt ln pt) (hl : ∀ i, i < m -> ln' i = ln i) (hp : ∀ i, i < m -> ∀ j, pt' i j = pt i j) : GoodP m adj fr tt ln' pt' := by
 have ha : ∀ i, i < m -> ∀ t, atT ln' pt' i t = atT ln pt i t := fun i hi t => by unfold atT; rw [hl i hi, hp i hi]
 refine ⟨fun i hi => ?_, fun i hi => ?_, fun i hi => ?_, fun i hi => ?_, fun i hi => ?_, fun i k hi hk hn t => ?_, fun i k hi hk hn t => ?_⟩
 . rw [hl i hi]; exact P.pos i hi
 . rw [hp i hi]; exact P.first i hi
 . rw [hp i hi, hl i hi]; exact P.last i hi
 . rw [hp i hi, hl i hi]; exact P.wait i hi
 . rw [hl i hi]; intro j hj; rw [hp i hi, hp i hi]; exact P.step i hi j hj
 . rw [ha i hi, ha k hk]; exact P.meet i k hi hk hn t
 . rw [ha i hi, ha k hk, ha i hi, ha k hk]; exact P.swap i k hi hk hn t
section
variable {ro co bu : Int} {cs : ByteArray} {m : Nat} {fr tt : Nat → Int} {L : List (List Nat)} {F0 : Nat}
theorem sol_good (hF : 200400000 <= F0) (hck : (checkM ro co cs m fr tt bu).1 = 0) (hW : Work (stepP ro co cs m) (cellsOf fr m) L L.length) (hg : cellsOf tt m ∈ L) (hL : L.length <= 20000) {b : St} {s' : SM.Srch} (hsol : solY F0 ro co cs m fr tt = some (b, s')) {W : List St} (hWe : W = SM.wayF s'.seen (costO (s'.seen b)) b) {ln : Nat -> Nat} {pt : Nat -> Nat -> Nat} (hln : ∀ i, i < m -> ln i = (pathL i W).length) (hpt : ∀ i, i < m -> ∀ j, pt i j = (pathL i W).getD j 0) :
 allF 3 co cs fr tt m ln (fun i j => ((pt i j : Nat) : Int)) = [] ∧ costO (s'.seen b) = sumN (fun i => (pathL i W).length - 1) m ∧ (∀ i, i < m -> 0 < (pathL i W).length) ∧ (∀ i, (pathL i W).length <= W.length) ∧ W.length <= 320000 := by
 obtain ⟨s1, s2, s3⟩ := checkM_good hck; obtain ⟨r1, r2⟩ := side_bd s1; obtain ⟨r3, r4⟩ := side_bd s2; obtain ⟨hm4, hfree⟩ := carts_free hck; obtain ⟨hp1, hp2⟩ := cells_pos hck; obtain ⟨G, hpos, hway⟩ := sol_gnd hck hW hg hL; obtain ⟨R, hn⟩ := run_begin G; obtain ⟨hb1, _, hleast⟩ := sol_least hF hck hW hg hL hsol; obtain ⟨x, s2', X2, hcome, hx, ⟨s3', hseen, hR3⟩, g, hgx, _⟩ := come_ok G hway F0 _ [] R (by unfold left; rw [hn]; simp only [List.length_nil]; omega); have e : some (x, s2') = some (b, s') := hcome.symm.trans hsol; injection e with e; injection e with e1 e2; subst e1 e2
 have hk : costO (s2'.seen x) = g := by
  cases e : s2'.seen x with
  | none => rw [e] at hgx; cases hgx
  | some v => rw [e] at hgx; simp at hgx; exact hgx
 obtain ⟨c1, c2, ⟨j, c3⟩, c4, _⟩ := way_chain G hR3 g x g (hseen ▸ hgx) (Nat.le_refl g); have hmem := way_mem hR3 g x g (hseen ▸ hgx); rw [hseen, <- hk, <- hWe] at c1 c2 c3 c4 hmem; have hcost : costO (s2'.seen x) = costW W := Nat.le_antisymm (hleast j x _ c3 hx) (by rw [hk]; rw [hk] at c2; exact c2); have hd : ∀ i k, i < m -> k < m -> i ≠ k -> (cellsOf tt m).getD i 0 ≠ (cellsOf tt m).getD k 0 := hp2.2; have P := chain_good (adj := fun a b => a ∈ mvN ro co cs b) c1 c4 hx hd (fun a b h => h)
 have hcell : ∀ i, i < m -> ∀ t, t < (pathL i W).length -> (pathL i W).getD t 0 < cs.size ∧ freeB cs ((pathL i W).getD t 0 : Nat) = true := fun i hi t ht => by
  have h1 := path_at c1 hi t; rw [if_pos ht] at h1; have h2 : t < W.length := Nat.lt_of_lt_of_le ht path_len; have h3 := (hpos _ (hmem _ (List.getElem_mem h2)).1).1.1.2 i hi; have h4 : W.getD t (s0 m (cellsOf tt m)) = W[t] := by rw [zg, List.getElem?_eq_getElem h2]; rfl
  rw [h1, h4]; exact h3
 refine ⟨good_none (good_like P hln hpt) (fun i hi => ?_) (fun i hi => ?_) (fun i hi j hj => ?_) (fun i hi => by rw [hpt i hi]; exact (hcell i hi 0 (P.pos i hi)).2), ?_, P.pos, fun i => path_len, ?_⟩
 . rw [cellsOf_at hi]; have := free_pos (hfree i hi).1; omega
 . rw [cellsOf_at hi]; have := free_pos (hfree i hi).2; omega
 . rw [hln i hi] at hj; rw [hpt i hi, hpt i hi]; have h1 := P.step i hi j hj; obtain ⟨h2, h3⟩ := hcell i hi (j + 1) hj; obtain ⟨h4, h5⟩ := hcell i hi j (by omega); have h6 := (mvN_mem r3 r4 s3 h2 h3).1 h1; exact (mayN_mem.1 (mayN_turn h2 h3 h6)).2
 . rw [hcost]; exact path_cost (fun p q hq => (growL_mem.1 hq).1) (cellsOf_len _ _) c1
 . have h1 := (way_nodup hR3 g x g (hseen ▸ hgx)).1; rw [hseen, <- hk, <- hWe] at h1; have h2 := fine_few hm4 h1 hmem; omega
end
end
end Go.Proofs.YtnkgpinadgacgaaGreatDoor
