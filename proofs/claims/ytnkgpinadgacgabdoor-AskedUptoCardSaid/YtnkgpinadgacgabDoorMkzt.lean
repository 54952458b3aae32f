/- Several texts in one: Ci. -/
import Derived.Test.YtnkgpinadgacgabDoorMkzs
namespace Go.Proofs.YtnkgpinadgacgabDoor
open Go.RowKit M
set_option maxRecDepth 100000 in
set_option maxHeartbeats 4000000 in
theorem endFaults_any (ro co bu : Int) (cs : ByteArray) (bc oc m cc : Nat) (fr tt : Nat → Int) (a : Option Addr) (n cap : Nat) (p : PlanM) (w : World) (hcs : CartsIn w bc oc m fr tt) (hmn : n = m)
    (hn : n ≤ 4) (hB : ∀ i, i < n → p.len i ≤ 1048576) (hp : PlanAt w a n p) :
    Calls Tryd.prog 65 #[.agg #[.int .i64 ro, .int .i64 co, .string cs, .slice (some ⟨bc, oc, none⟩) m cc, .int .i64 bu], .slice a n cap] w fun e w' => ∃ v, e = .returned v ∧ OwnF w' w.heap.size v (endsF fr tt p.len p.num n) ∧ Below w.heap.size w w' := by
  have HP := Hid.mk hp
  have HB := Hid.mk hB
  have HCS := Hid.mk hcs
  have HMN : n ≤ m := by omega
  clear hp hB hcs hmn
  go_enter Tryd.func65, Tryd.ntmps65
  go_wp2
  have B0 : Hid (Below w.heap.size w (w.alloc (Obj.cells #[Value.int IntKind.i64 ro, Value.int IntKind.i64 co, Value.string cs, .slice (some ⟨bc, oc, none⟩) m cc, Value.int IntKind.i64 bu] 28))) := (Below.refl _ w).alloc (Nat.le_refl _) _
  have y0 : ∀ o, (w.alloc (Obj.cells #[Value.int IntKind.i64 ro, Value.int IntKind.i64 co, Value.string cs, .slice (some ⟨bc, oc, none⟩) m cc, Value.int IntKind.i64 bu] 28)).cell? ⟨w.heap.size, o, none⟩ = #[Value.int .i64 ro, .int .i64 co, .string cs, .slice (some ⟨bc, oc, none⟩) m cc, .int .i64 bu][o]? := by
    intro o; go_simp
  have hz0 : w.heap.size + 1 = (w.alloc (Obj.cells #[Value.int IntKind.i64 ro, Value.int IntKind.i64 co, Value.string cs, .slice (some ⟨bc, oc, none⟩) m cc, Value.int IntKind.i64 bu] 28)).heap.size := by simp
  generalize w.alloc (Obj.cells #[Value.int IntKind.i64 ro, Value.int IntKind.i64 co, Value.string cs, .slice (some ⟨bc, oc, none⟩) m cc, Value.int IntKind.i64 bu] 28) = w0 at *
  have Y0 := Hid.mk y0
  have YALL : Hid (∀ wx, Below (w.heap.size + 1) w0 wx → wx.cell? ⟨w.heap.size, 3, none⟩ = some (.slice (some ⟨bc, oc, none⟩) m cc) ∧ Below w.heap.size w wx ∧ w.heap.size < wx.heap.size ∧ w.heap.size + 1 ≤ wx.heap.size) := by
    intro wx hb
    have := hb.size
    exact ⟨(hb.cell (p := ⟨w.heap.size, 3, none⟩) (by show w.heap.size < _; omega)).trans (Y0.out 3), B0.out.trans (hb.mono (by omega)), by omega, by omega⟩
  clear y0 hz0
  go_loopw [5, 13] (fun v5 v13 wr => ∃ (i : Nat) (L : Value), i ≤ n ∧ L = v5 ∧ v13 = .int .i64 i ∧ OwnF wr (w.heap.size + 1) L (endsF fr tt p.len p.num i) ∧ Below (w.heap.size + 1) w0 wr) (fun _ v13 _ => n - (intOf v13).toNat)
  case atStart => exact ⟨0, _, Nat.zero_le _, rfl, rfl, OwnF.nil _ _, Below.refl _ _⟩
  case round =>
    obtain ⟨wo, rfl⟩ : ∃ q, q = wr := ⟨_, rfl⟩
    obtain ⟨i, L, hi, rfl, rfl, hown, hbr⟩ := hrel
    have OWN := Hid.mk hown
    have BR := Hid.mk hbr
    clear hown hbr
    by_cases hlt : i < n
    · obtain ⟨b, off, rfl, hpi⟩ := HP.out (by omega)
      obtain ⟨y3, bw, zw, zw1⟩ := YALL.out wo BR.out
      have c1 := cell_later bw (hpi i hlt).1
      have NI := Hid.mk (hpi i hlt).2
      have BI := HB.out i hlt
      have E1 : Hid (endsF fr tt p.len p.num (i + 1) = endsF fr tt p.len p.num i ++ M.endF i (fr i) (tt i) (p.len i) (p.num i)) := rfl
      obtain ⟨ai, hai⟩ : ∃ q, q = p.ad i := ⟨_, rfl⟩
      obtain ⟨li, hli⟩ : ∃ q, q = p.len i := ⟨_, rfl⟩
      obtain ⟨ci, hci⟩ : ∃ q, q = p.cap i := ⟨_, rfl⟩
      rw [← hai, ← hli, ← hci] at c1
      rw [← hai, ← hli] at NI
      rw [← hli] at BI E1
      have LP := endsF_len fr tt p.len p.num i
      have HLEN0 : Hid ((endsF fr tt p.len p.num i).length ≤ 100000000) := by unfold Hid; omega
      have HLEN1 : Hid ((endsF fr tt p.len p.num i ++ [(⟨0, i, -1, 0⟩ : FaultM)]).length ≤ 100000000) := by unfold Hid; simp only [List.length_append, List.length_cons, List.length_nil]; omega
      have hcx := hpi
      have k0 := cell_later bw (HCS.out i (Nat.lt_of_lt_of_le hlt HMN)).1
      have k1 := cell_later bw (HCS.out i (Nat.lt_of_lt_of_le hlt HMN)).2
      obtain ⟨f, hf⟩ : ∃ q, q = fr i := ⟨_, rfl⟩
      obtain ⟨c, hc⟩ : ∃ q, q = tt i := ⟨_, rfl⟩
      rw [← hf] at k0
      rw [← hc] at k1
      have him : i < m := by omega
      have himI : (i : Int) < (m : Int) := by omega
      have zb : b < wo.heap.size := World.block_lt_of_cell? _ _ c1
      have zc : bc < wo.heap.size := World.block_lt_of_cell? _ _ k0
      have HF := Hid.mk hf
      have HCC := Hid.mk hc
      have NIo := Hid.mk (NI.out.below bw)
      clear hpi hcx hai hli hci LP hf hc bw
      go_upto_region 6 with fail
      go_cut [9, 10] (fun v9 v10 wx => v9 = .bool (!begunB (fr i) li (p.num i)) ∧ v10 = .bool (!overB (tt i) li (p.num i)) ∧ Below wo.heap.size wo wx)
      case first =>
        go_region_held3 (fun w' => w'.cell? ⟨w.heap.size, 3, none⟩ = some (.slice (some ⟨bc, oc, none⟩) m cc) ∧ w'.cell? ⟨bc, oc + i * 2, none⟩ = some (.int .i64 f) ∧ w'.cell? ⟨bc, oc + i * 2 + 1, none⟩ = some (.int .i64 c)) (go_keep)
          (first
            | (go_at_call 89; refine (beginsWrong_any f c ai li ci (p.num i) _ BI (by first | exact NIo.out | exact (show NumsAt wo.drew ai li (p.num i) from NIo.out).below hbE)).mono ?_; rintro e wB ⟨rfl, hbB⟩; have q0 : wB.cell? ⟨w.heap.size, 3, none⟩ = some (.slice (some ⟨bc, oc, none⟩) m cc) := (by first | exact (hbB.cell (p := ⟨w.heap.size, 3, none⟩) zw).trans y3 | exact (hbB.cell (p := ⟨w.heap.size, 3, none⟩) zwE).trans s0); have q1 : wB.cell? ⟨bc, oc + i * 2, none⟩ = some (.int .i64 f) := (by first | exact (hbB.cell (p := ⟨bc, oc + i * 2, none⟩) zc).trans k0 | exact (hbB.cell (p := ⟨bc, oc + i * 2, none⟩) zcE).trans s1); have q2 : wB.cell? ⟨bc, oc + i * 2 + 1, none⟩ = some (.int .i64 c) := (by first | exact (hbB.cell (p := ⟨bc, oc + i * 2 + 1, none⟩) zc).trans k1 | exact (hbB.cell (p := ⟨bc, oc + i * 2 + 1, none⟩) zcE).trans s2); have zwB : w.heap.size < wB.heap.size := (by first | exact Nat.lt_of_lt_of_le zw hbB.size | exact Nat.lt_of_lt_of_le zwE hbB.size); have zcB : bc < wB.heap.size := (by first | exact Nat.lt_of_lt_of_le zc hbB.size | exact Nat.lt_of_lt_of_le zcE hbB.size))
            | (go_at_call 90; refine (endsWrong_any f c ai li ci (p.num i) _ BI (by first | exact NIo.out | exact (show NumsAt wo.drew ai li (p.num i) from NIo.out).below hbB)).mono ?_; rintro e wE ⟨rfl, hbE⟩; have s0 : wE.cell? ⟨w.heap.size, 3, none⟩ = some (.slice (some ⟨bc, oc, none⟩) m cc) := (by first | exact (hbE.cell (p := ⟨w.heap.size, 3, none⟩) zw).trans y3 | exact (hbE.cell (p := ⟨w.heap.size, 3, none⟩) zwB).trans q0); have s1 : wE.cell? ⟨bc, oc + i * 2, none⟩ = some (.int .i64 f) := (by first | exact (hbE.cell (p := ⟨bc, oc + i * 2, none⟩) zc).trans k0 | exact (hbE.cell (p := ⟨bc, oc + i * 2, none⟩) zcB).trans q1); have s2 : wE.cell? ⟨bc, oc + i * 2 + 1, none⟩ = some (.int .i64 c) := (by first | exact (hbE.cell (p := ⟨bc, oc + i * 2 + 1, none⟩) zc).trans k1 | exact (hbE.cell (p := ⟨bc, oc + i * 2 + 1, none⟩) zcB).trans q2); have zwE : w.heap.size < wE.heap.size := (by first | exact Nat.lt_of_lt_of_le zw hbE.size | exact Nat.lt_of_lt_of_le zwB hbE.size); have zcE : bc < wE.heap.size := (by first | exact Nat.lt_of_lt_of_le zc hbE.size | exact Nat.lt_of_lt_of_le zcB hbE.size)))
        all_goals (go_wp2_with fail)
        all_goals go_meet
        all_goals (case rel => exact ⟨by rw [← HF.out], by rw [← HCC.out], by first | exact (Below.refl _ wo).drew.trans (hbB.trans (hbE.mono hbB.size)) | exact (Below.refl _ wo).drew.trans (hbE.trans (hbB.mono hbE.size))⟩)
      case rest =>
        obtain ⟨wx, rfl⟩ : ∃ q, q = wc := ⟨_, rfl⟩
        obtain ⟨rfl, rfl, hb1⟩ := hcut
        have BR2 : Hid (Below (w.heap.size + 1) w0 wx) := BR.out.trans (hb1.mono zw1)
        have OWN2 : Hid (OwnF wx (w.heap.size + 1) L (endsF fr tt p.len p.num i)) := OWN.out.below hb1
        have HBT0 : Hid (w.heap.size + 1 ≤ wx.heap.size) := (YALL.out _ BR2.out).2.2.2
        obtain ⟨ws, hws⟩ : ∃ ws, ws = !begunB (fr i) li (p.num i) := ⟨_, rfl⟩
        obtain ⟨we, hwe⟩ : ∃ we, we = !overB (tt i) li (p.num i) := ⟨_, rfl⟩
        rw [← hws, ← hwe]
        have WS := Hid.mk hws
        have WE := Hid.mk hwe
        clear hws hwe hb1 y3 c1 k0 k1 OWN BR zw zw1 zb zc NIo
        obtain ⟨la, hla⟩ : ∃ la, la = (li : Int) - 1 := ⟨_, rfl⟩
        rw [← hla]
        have LA := Hid.mk hla
        clear hla
        by_cases n0 : li = 0
        · obtain rfl : la = -1 := by rw [LA.out, n0]; rfl
          obtain rfl : ws = true := by rw [WS.out, n0]; rfl
          obtain rfl : we = false := by rw [WE.out, n0]; rfl
          have N0 := Hid.mk n0
          clear n0
          have EE : Hid (M.endF i (fr i) (tt i) li (p.num i) = [⟨0, i, -1, 0⟩]) := by exact endF_none N0.out
          go_wp2_with (at_builtin; go_must (refine wpList_pushF rfl _ _ rfl (w.heap.size + 1) L _ ⟨0, i, -1, 0⟩ rfl OWN2.out HBT0.out _ rfl HLEN0.out ?_; intro v51 w51 hown51 hb51))
          have OW51 := Hid.mk hown51
          have BR51 : Hid (Below (w.heap.size + 1) w0 w51) := BR2.out.trans hb51
          have HBT1 : Hid (w.heap.size + 1 ≤ w51.heap.size) := (YALL.out _ BR51.out).2.2.2
          clear hown51 hb51
          go_wp2
          go_roundw
          case rel => exact ⟨i + 1, v51, by omega, rfl, by go_num, by rw [show endsF fr tt p.len p.num (i + 1) = endsF fr tt p.len p.num i ++ M.endF i (fr i) (tt i) li (p.num i) from E1.out, EE.out]; exact OW51.out, BR51.out⟩
          case measure => simp [intOf]; omega
        · by_cases n1 : li = 1
          · have N1 := Hid.mk n1
            obtain rfl : la = 0 := by rw [LA.out, n1]; rfl
            clear n1 n0
            cases ws
            · cases we
              · have EE : Hid (M.endF i (fr i) (tt i) li (p.num i) = []) := by (rw [endF_one WS.out WE.out N1.out]; rfl)
                go_wp2
                go_roundw
                case rel => exact ⟨i + 1, L, by omega, rfl, by go_num, by rw [show endsF fr tt p.len p.num (i + 1) = endsF fr tt p.len p.num i ++ M.endF i (fr i) (tt i) li (p.num i) from E1.out, EE.out, List.append_nil]; exact OWN2.out, BR2.out⟩
                case measure => simp [intOf]; omega
              · have EE : Hid (M.endF i (fr i) (tt i) li (p.num i) = [⟨0, i, -1, 0⟩]) := by (rw [endF_one WS.out WE.out N1.out]; rfl)
                go_wp2_with (at_builtin; go_must (refine wpList_pushF rfl _ _ rfl (w.heap.size + 1) L _ ⟨0, i, -1, 0⟩ rfl OWN2.out HBT0.out _ rfl HLEN0.out ?_; intro v51 w51 hown51 hb51))
                have OW51 := Hid.mk hown51
                have BR51 : Hid (Below (w.heap.size + 1) w0 w51) := BR2.out.trans hb51
                have HBT1 : Hid (w.heap.size + 1 ≤ w51.heap.size) := (YALL.out _ BR51.out).2.2.2
                clear hown51 hb51
                go_wp2
                go_roundw
                case rel => exact ⟨i + 1, v51, by omega, rfl, by go_num, by rw [show endsF fr tt p.len p.num (i + 1) = endsF fr tt p.len p.num i ++ M.endF i (fr i) (tt i) li (p.num i) from E1.out, EE.out]; exact OW51.out, BR51.out⟩
                case measure => simp [intOf]; omega
            · cases we
              · have EE : Hid (M.endF i (fr i) (tt i) li (p.num i) = [⟨0, i, -1, 0⟩]) := by (rw [endF_one WS.out WE.out N1.out]; rfl)
                go_wp2_with (at_builtin; go_must (refine wpList_pushF rfl _ _ rfl (w.heap.size + 1) L _ ⟨0, i, -1, 0⟩ rfl OWN2.out HBT0.out _ rfl HLEN0.out ?_; intro v51 w51 hown51 hb51))
                have OW51 := Hid.mk hown51
                have BR51 : Hid (Below (w.heap.size + 1) w0 w51) := BR2.out.trans hb51
                have HBT1 : Hid (w.heap.size + 1 ≤ w51.heap.size) := (YALL.out _ BR51.out).2.2.2
                clear hown51 hb51
                go_wp2
                go_roundw
                case rel => exact ⟨i + 1, v51, by omega, rfl, by go_num, by rw [show endsF fr tt p.len p.num (i + 1) = endsF fr tt p.len p.num i ++ M.endF i (fr i) (tt i) li (p.num i) from E1.out, EE.out]; exact OW51.out, BR51.out⟩
                case measure => simp [intOf]; omega
              · have EE : Hid (M.endF i (fr i) (tt i) li (p.num i) = [⟨0, i, -1, 0⟩]) := by (rw [endF_one WS.out WE.out N1.out]; rfl)
                go_wp2_with (at_builtin; go_must (refine wpList_pushF rfl _ _ rfl (w.heap.size + 1) L _ ⟨0, i, -1, 0⟩ rfl OWN2.out HBT0.out _ rfl HLEN0.out ?_; intro v51 w51 hown51 hb51))
                have OW51 := Hid.mk hown51
                have BR51 : Hid (Below (w.heap.size + 1) w0 w51) := BR2.out.trans hb51
                have HBT1 : Hid (w.heap.size + 1 ≤ w51.heap.size) := (YALL.out _ BR51.out).2.2.2
                clear hown51 hb51
                go_wp2
                go_roundw
                case rel => exact ⟨i + 1, v51, by omega, rfl, by go_num, by rw [show endsF fr tt p.len p.num (i + 1) = endsF fr tt p.len p.num i ++ M.endF i (fr i) (tt i) li (p.num i) from E1.out, EE.out]; exact OW51.out, BR51.out⟩
                case measure => simp [intOf]; omega
          · have N2 : Hid (2 ≤ li) := by unfold Hid; omega
            have z1 : (la == 0) = false := by have := LA.out; simp; omega
            have z2 : (0 : Int) < la := by have := LA.out; omega
            clear n1 n0
            cases ws
            · cases we
              · have EE : Hid (M.endF i (fr i) (tt i) li (p.num i) = []) := by (rw [endF_of WS.out WE.out N2.out, ← LA.out]; rfl)
                go_wp2
                go_roundw
                case rel => exact ⟨i + 1, L, by omega, rfl, by go_num, by rw [show endsF fr tt p.len p.num (i + 1) = endsF fr tt p.len p.num i ++ M.endF i (fr i) (tt i) li (p.num i) from E1.out, EE.out, List.append_nil]; exact OWN2.out, BR2.out⟩
                case measure => simp [intOf]; omega
              · have EE : Hid (M.endF i (fr i) (tt i) li (p.num i) = [⟨0, i, -1, la⟩]) := by (rw [endF_of WS.out WE.out N2.out, ← LA.out]; rfl)
                go_wp2_with (at_builtin; go_must (refine wpList_pushF rfl _ _ rfl (w.heap.size + 1) L _ ⟨0, i, -1, la⟩ rfl OWN2.out HBT0.out _ rfl HLEN0.out ?_; intro v51 w51 hown51 hb51))
                have OW51 := Hid.mk hown51
                have BR51 : Hid (Below (w.heap.size + 1) w0 w51) := BR2.out.trans hb51
                have HBT1 : Hid (w.heap.size + 1 ≤ w51.heap.size) := (YALL.out _ BR51.out).2.2.2
                clear hown51 hb51
                go_wp2
                go_roundw
                case rel => exact ⟨i + 1, v51, by omega, rfl, by go_num, by rw [show endsF fr tt p.len p.num (i + 1) = endsF fr tt p.len p.num i ++ M.endF i (fr i) (tt i) li (p.num i) from E1.out, EE.out]; exact OW51.out, BR51.out⟩
                case measure => simp [intOf]; omega
            · cases we
              · have EE : Hid (M.endF i (fr i) (tt i) li (p.num i) = [⟨0, i, -1, 0⟩]) := by (rw [endF_of WS.out WE.out N2.out, ← LA.out]; rfl)
                go_wp2_with (at_builtin; go_must (refine wpList_pushF rfl _ _ rfl (w.heap.size + 1) L _ ⟨0, i, -1, 0⟩ rfl OWN2.out HBT0.out _ rfl HLEN0.out ?_; intro v51 w51 hown51 hb51))
                have OW51 := Hid.mk hown51
                have BR51 : Hid (Below (w.heap.size + 1) w0 w51) := BR2.out.trans hb51
                have HBT1 : Hid (w.heap.size + 1 ≤ w51.heap.size) := (YALL.out _ BR51.out).2.2.2
                clear hown51 hb51
                go_wp2
                go_roundw
                case rel => exact ⟨i + 1, v51, by omega, rfl, by go_num, by rw [show endsF fr tt p.len p.num (i + 1) = endsF fr tt p.len p.num i ++ M.endF i (fr i) (tt i) li (p.num i) from E1.out, EE.out]; exact OW51.out, BR51.out⟩
                case measure => simp [intOf]; omega
              · have EE : Hid (M.endF i (fr i) (tt i) li (p.num i) = [⟨0, i, -1, 0⟩, ⟨0, i, -1, la⟩]) := by (rw [endF_of WS.out WE.out N2.out, ← LA.out]; rfl)
                go_wp2_with (first
                  | (at_builtin; refine wpList_pushF rfl _ _ rfl (w.heap.size + 1) L _ ⟨0, i, -1, 0⟩ rfl OWN2.out HBT0.out _ rfl HLEN0.out ?_; intro v51 w51 hown51 hb51; have OW51 := Hid.mk hown51; have BR51 : Hid (Below (w.heap.size + 1) w0 w51) := BR2.out.trans hb51; have HBT1 : Hid (w.heap.size + 1 ≤ w51.heap.size) := (YALL.out _ BR51.out).2.2.2; clear hown51 hb51)
                  | (at_builtin; refine wpList_pushF rfl _ _ rfl (w.heap.size + 1) v51 _ ⟨0, i, -1, la⟩ rfl OW51.out HBT1.out _ rfl HLEN1.out ?_; intro v52 w52 hown52 hb52; have OW52 := Hid.mk hown52; have BR52 : Hid (Below (w.heap.size + 1) w0 w52) := BR51.out.trans hb52; have HBT2 : Hid (w.heap.size + 1 ≤ w52.heap.size) := (YALL.out _ BR52.out).2.2.2; clear hown52 hb52))
                go_wp2
                go_roundw
                case rel => exact ⟨i + 1, v52, by omega, rfl, by go_num, by rw [show endsF fr tt p.len p.num (i + 1) = endsF fr tt p.len p.num i ++ M.endF i (fr i) (tt i) li (p.num i) from E1.out, EE.out]; have h := OW52.out; simp only [List.append_assoc, List.cons_append, List.nil_append] at h; exact h, BR52.out⟩
                case measure => simp [intOf]; omega
    · have E5 : Hid (endsF fr tt p.len p.num i = endsF fr tt p.len p.num n) := by
        have e : i = n := by omega
        unfold Hid
        rw [e]
      go_wp2
      go_ret
      exact ⟨L, rfl, by rw [← E5.out]; exact OWN.out.le (by omega), (YALL.out _ BR.out).2.1⟩

end Go.Proofs.YtnkgpinadgacgabDoor
