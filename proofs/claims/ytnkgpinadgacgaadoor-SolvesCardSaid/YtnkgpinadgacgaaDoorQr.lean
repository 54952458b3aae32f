/- Several texts in one: Ch, Cj, Cn. -/
import Derived.Test.YtnkgpinadgacgaaDoorQq
import Derived.Test.YtnkgpinadgacgaaDoorCd
namespace Go.Proofs.YtnkgpinadgacgaaDoor
open Go.RowKit M
namespace M
/-- Does a list begin at f? -/
def begunB (f : Int) (n : Nat) (x : Nat → Int) : Bool := decide (0 < n) && (x 0 == f)

/-- Does a list end at c, and not with waiting? -/
def overB (c : Int) (n : Nat) (x : Nat → Int) : Bool := decide (n = 0) || ((x (n - 1) == c) && (decide (n = 1) || !(x (n - 2) == c)))

/-- The faults of one list's ends. -/
def endF (i : Nat) (f c : Int) (n : Nat) (x : Nat → Int) : List FaultM :=
  (if begunB f n x = true then [] else [⟨0, i, -1, 0⟩]) ++ (if (!overB c n x && (decide (1 < n) || begunB f n x)) = true then [⟨0, i, -1, (n : Int) - 1⟩] else [])

/-- The faults of level 0. -/
def endsF (fr tt : Nat → Int) (len : Nat → Nat) (num : Nat → Nat → Int) : Nat → List FaultM
  | 0 => []
  | i + 1 => endsF fr tt len num i ++ M.endF i (fr i) (tt i) (len i) (num i)

theorem endF_len (i : Nat) (f c : Int) (n : Nat) (x : Nat → Int) : (M.endF i f c n x).length ≤ 2 := by
  unfold M.endF
  rw [List.length_append]
  split <;> split <;> simp

theorem endsF_len (fr tt : Nat → Int) (len : Nat → Nat) (num : Nat → Nat → Int) : ∀ i, (endsF fr tt len num i).length ≤ 2 * i
  | 0 => by simp [endsF]
  | i + 1 => by
    have := endsF_len fr tt len num i
    have := endF_len i (fr i) (tt i) (len i) (num i)
    simp only [endsF, List.length_append]
    omega

theorem endF_none {i n : Nat} {f c : Int} {x : Nat → Int} (hn : n = 0) : M.endF i f c n x = [⟨0, i, -1, 0⟩] := by
  subst hn; simp [M.endF, begunB, overB]

theorem endF_of {i n : Nat} {f c : Int} {x : Nat → Int} {ws we : Bool} (h1 : ws = !begunB f n x) (h2 : we = !overB c n x) (hn : 2 ≤ n) : M.endF i f c n x = (if ws = true then [⟨0, i, -1, 0⟩] else []) ++ (if we = true then [⟨0, i, -1, (n : Int) - 1⟩] else []) := by
  unfold M.endF
  rw [h1, h2, show decide (1 < n) = true from decide_eq_true (by omega)]
  cases begunB f n x <;> cases overB c n x <;> simp

theorem endF_one {i n : Nat} {f c : Int} {x : Nat → Int} {ws we : Bool} (h1 : ws = !begunB f n x) (h2 : we = !overB c n x) (hn : n = 1) : M.endF i f c n x = (if (ws || we) = true then [⟨0, i, -1, 0⟩] else []) := by
  subst hn
  unfold M.endF
  rw [h1, h2]
  cases begunB f 1 x <;> cases overB c 1 x <;> simp

end M
end Go.Proofs.YtnkgpinadgacgaaDoor

namespace Go.Proofs.YtnkgpinadgacgaaDoor
open Go.RowKit M
set_option maxRecDepth 100000 in
set_option maxHeartbeats 4000000 in
theorem rends_any (ro co bu : Int) (cs : ByteArray) (bc oc m cc : Nat) (fr tt : Nat → Int) (a : Option Addr) (n cap : Nat) (p : PlanM) (w : World) (hcs : CartsIn w bc oc m fr tt) (hmn : n = m)
    (hn : n ≤ 4) (hB : ∀ i, i < n → p.len i ≤ 1048576) (hp : PlanAt w a n p) :
    Calls Tryd.prog 83 #[.agg #[.int .i64 ro, .int .i64 co, .string cs, .slice (some ⟨bc, oc, none⟩) m cc, .int .i64 bu], .slice a n cap] w fun e w' => ∃ v, e = .returned v ∧ OwnF w' w.heap.size v (endsF fr tt p.len p.num n) ∧ Below w.heap.size w w' := by
  have HP := Hid.mk hp
  have HB := Hid.mk hB
  have HCS := Hid.mk hcs
  have HMN : n ≤ m := by omega
  clear hp hB hcs hmn
  go_enter Tryd.func83, Tryd.ntmps83
  go_wp2
  have B0 : Hid (Below w.heap.size w (w.alloc (Obj.cells #[Value.int IntKind.i64 ro, Value.int IntKind.i64 co, Value.string cs, .slice (some ⟨bc, oc, none⟩) m cc, Value.int IntKind.i64 bu] 24))) := (Below.refl _ w).alloc (Nat.le_refl _) _
  have y0 : ∀ o, (w.alloc (Obj.cells #[Value.int IntKind.i64 ro, Value.int IntKind.i64 co, Value.string cs, .slice (some ⟨bc, oc, none⟩) m cc, Value.int IntKind.i64 bu] 24)).cell? ⟨w.heap.size, o, none⟩ = #[Value.int .i64 ro, .int .i64 co, .string cs, .slice (some ⟨bc, oc, none⟩) m cc, .int .i64 bu][o]? := by
    intro o; go_simp
  have hz0 : w.heap.size + 1 = (w.alloc (Obj.cells #[Value.int IntKind.i64 ro, Value.int IntKind.i64 co, Value.string cs, .slice (some ⟨bc, oc, none⟩) m cc, Value.int IntKind.i64 bu] 24)).heap.size := by simp
  generalize w.alloc (Obj.cells #[Value.int IntKind.i64 ro, Value.int IntKind.i64 co, Value.string cs, .slice (some ⟨bc, oc, none⟩) m cc, Value.int IntKind.i64 bu] 24) = w0 at *
  have Y0 := Hid.mk y0
  have YALL : Hid (∀ wx, Below (w.heap.size + 1) w0 wx → wx.cell? ⟨w.heap.size, 3, none⟩ = some (.slice (some ⟨bc, oc, none⟩) m cc) ∧ Below w.heap.size w wx ∧ w.heap.size < wx.heap.size ∧ w.heap.size + 1 ≤ wx.heap.size) := by
    intro wx hb
    have := hb.size
    exact ⟨(hb.cell (p := ⟨w.heap.size, 3, none⟩) (by show w.heap.size < _; omega)).trans (Y0.out 3), B0.out.trans (hb.mono (by omega)), by omega, by omega⟩
  clear y0 hz0
  go_loopw [5, 6] (fun v5 v6 wr => ∃ (i : Nat) (L : Value), i ≤ n ∧ L = v5 ∧ v6 = .int .i64 i ∧ OwnF wr (w.heap.size + 1) L (endsF fr tt p.len p.num i) ∧ Below (w.heap.size + 1) w0 wr) (fun _ v6 _ => n - (intOf v6).toNat)
  case atStart => exact ⟨0, _, Nat.zero_le _, rfl, rfl, OwnF.nil _ _, Below.refl _ _⟩
  case round =>
    obtain ⟨wo, rfl⟩ : ∃ q, q = wr := ⟨_, rfl⟩
    obtain ⟨i, L, hi, rfl, rfl, hown, hbr⟩ := hrel
    have OWN := Hid.mk hown
    have BR := Hid.mk hbr
    clear hown hbr
    by_cases hlt : i < n
    · obtain ⟨b, off, rfl, hpi⟩ := HP.out (by omega)
      obtain ⟨y3, bw, zw, zw1⟩ := YALL.out wo BR.out
      have c1 := cell_later bw (hpi i hlt).1
      have NI := Hid.mk (hpi i hlt).2
      have BI := HB.out i hlt
      have E1 : Hid (endsF fr tt p.len p.num (i + 1) = endsF fr tt p.len p.num i ++ M.endF i (fr i) (tt i) (p.len i) (p.num i)) := rfl
      obtain ⟨ai, hai⟩ : ∃ q, q = p.ad i := ⟨_, rfl⟩
      obtain ⟨li, hli⟩ : ∃ q, q = p.len i := ⟨_, rfl⟩
      obtain ⟨ci, hci⟩ : ∃ q, q = p.cap i := ⟨_, rfl⟩
      rw [← hai, ← hli, ← hci] at c1
      rw [← hai, ← hli] at NI
      rw [← hli] at BI E1
      have LP := endsF_len fr tt p.len p.num i
      have HLEN0 : Hid ((endsF fr tt p.len p.num i).length ≤ 100000000) := by unfold Hid; omega
      have HLEN1 : Hid ((endsF fr tt p.len p.num i ++ [(⟨0, i, -1, 0⟩ : FaultM)]).length ≤ 100000000) := by unfold Hid; simp only [List.length_append, List.length_cons, List.length_nil]; omega
      have hcx := hpi
      have k0 := cell_later bw (HCS.out i (Nat.lt_of_lt_of_le hlt HMN)).1
      have k1 := cell_later bw (HCS.out i (Nat.lt_of_lt_of_le hlt HMN)).2
      obtain ⟨f, hf⟩ : ∃ q, q = fr i := ⟨_, rfl⟩
      obtain ⟨c, hc⟩ : ∃ q, q = tt i := ⟨_, rfl⟩
      rw [← hf] at k0
      rw [← hc] at k1
      have him : i < m := by omega
      have himI : (i : Int) < (m : Int) := by omega
      have zb : b < wo.heap.size := World.block_lt_of_cell? _ _ c1
      have zc : bc < wo.heap.size := World.block_lt_of_cell? _ _ k0
      have HF := Hid.mk hf
      have HCC := Hid.mk hc
      have NIo := Hid.mk (NI.out.below bw)
      clear hpi hcx hai hli hci LP hf hc bw
      go_upto_region 7 with fail
      have BA : Hid (Below wo.heap.size wo (wo.alloc (Obj.cells #[.int .i64 f, .int .i64 c] 87))) := (Below.refl _ _).alloc (Nat.le_refl _) _
      have x0 : (wo.alloc (Obj.cells #[.int .i64 f, .int .i64 c] 87)).cell? ⟨wo.heap.size, 0, none⟩ = some (.int .i64 f) := by go_simp
      have x1 : (wo.alloc (Obj.cells #[.int .i64 f, .int .i64 c] 87)).cell? ⟨wo.heap.size, 1, none⟩ = some (.int .i64 c) := by go_simp
      generalize wo.alloc (Obj.cells #[.int .i64 f, .int .i64 c] 87) = wA at *
      have BRA : Hid (Below (w.heap.size + 1) w0 wA) := BR.out.trans (BA.out.mono zw1)
      have OWNA : Hid (OwnF wA (w.heap.size + 1) L (endsF fr tt p.len p.num i)) := OWN.out.below BA.out
      have NIA := Hid.mk (NIo.out.below BA.out)
      have c1A := cell_later BA.out c1
      have zA1 : w.heap.size + 1 ≤ wA.heap.size := Nat.le_trans zw1 BA.out.size
      clear c1 y3 k0 k1 OWN BR zb zc NIo BA
      go_cut [9] (fun v9 wx => v9 = .bool (begunB (fr i) li (p.num i)) ∧ Below wA.heap.size wA wx)
      case first =>
        by_cases n0 : li = 0
        · have R : Hid (begunB (fr i) li (p.num i) = false) := by unfold Hid begunB; simp [n0]
          have g0 : decide (0 < li) = false := by simp [n0]
          clear n0
          go_quiet (fail)
          go_wp2_with fail
          go_meet
          case rel => exact ⟨by rw [R.out], below_drewN (Below.refl _ _) _⟩
        · obtain ⟨bi, oi, rfl, hnc⟩ := NIA.out (by omega)
          have d := hnc 0 (by omega)
          rw [Nat.add_zero] at d
          have nN : 0 < li := by omega
          have nI : (0 : Int) < (li : Int) := by omega
          have g0 : decide (0 < li) = true := by simp; omega
          obtain ⟨pv, hpv⟩ : ∃ q, q = p.num i 0 := ⟨_, rfl⟩
          rw [← hpv] at d
          have R : Hid (begunB (fr i) li (p.num i) = (pv == f)) := by unfold Hid begunB; rw [← hpv, ← HF.out]; simp [nN]
          clear n0 hnc hpv
          go_quiet (fail)
          go_wp2_with fail
          go_meet
          case rel => exact ⟨by rw [R.out], below_drewN (Below.refl _ _) _⟩
      case rest =>
        obtain ⟨wB, rfl⟩ : ∃ q, q = wc := ⟨_, rfl⟩
        obtain ⟨rfl, hbB⟩ := hcut
        have BRB : Hid (Below (w.heap.size + 1) w0 wB) := BRA.out.trans (hbB.mono zA1)
        have OWNB : Hid (OwnF wB (w.heap.size + 1) L (endsF fr tt p.len p.num i)) := OWNA.out.below hbB
        have NIB := Hid.mk (NIA.out.below hbB)
        have c1B := cell_later hbB c1A
        have x1B := cell_later hbB x1
        have zB1 : w.heap.size + 1 ≤ wB.heap.size := Nat.le_trans zA1 hbB.size
        obtain ⟨bg, hbg⟩ : ∃ bg, bg = begunB (fr i) li (p.num i) := ⟨_, rfl⟩
        rw [← hbg]
        have BG := Hid.mk hbg
        clear hbg hbB c1A x0 x1 OWNA BRA NIA
        go_upto_region 8 with fail
        go_cut [10] (fun v10 wx => v10 = .bool (overB (tt i) li (p.num i)) ∧ Below wB.heap.size wB wx)
        case first =>
          by_cases n0 : li = 0
          · have R : Hid (overB (tt i) li (p.num i) = true) := by unfold Hid overB; simp [n0]
            have g0 : ((li : Int) == 0) = true := by simp [n0]
            clear n0
            go_quiet (fail)
            go_wp2_with fail
            go_meet
            case rel => exact ⟨by rw [R.out], below_drewN (Below.refl _ _) _⟩
          · obtain ⟨bi, oi, rfl, hnc⟩ := NIB.out (by omega)
            obtain ⟨n1, hn1⟩ : ∃ n1, li = n1 + 1 := ⟨li - 1, by omega⟩
            have hv : IntKind.i64.wrap ((li : Int) - 1) = (n1 : Int) := by
              rw [show (li : Int) - 1 = (n1 : Int) by omega]; exact wrap_mid (by omega) (by omega)
            have d := hnc n1 (by omega)
            have g0 : ((li : Int) == 0) = false := by simp; omega
            have i1 : n1 < li := by omega
            have i1I : (n1 : Int) < (li : Int) := by omega
            obtain ⟨pv, hpv⟩ : ∃ q, q = p.num i n1 := ⟨_, rfl⟩
            rw [← hpv] at d
            by_cases e1 : (pv == c) = true
            · by_cases h1 : n1 = 0
              · have g1 : ((li : Int) == 1) = true := by simp; omega
                have R : Hid (overB (tt i) li (p.num i) = true) := by unfold Hid overB; rw [hn1]; simp only [Nat.add_sub_cancel]; rw [← hpv, ← HCC.out, e1, h1]; simp
                clear n0 hn1 h1 hnc hpv
                go_quiet (fail)
                go_wp2_with fail
                go_meet
                case rel => exact ⟨by rw [R.out], below_drewN (Below.refl _ _) _⟩
              · obtain ⟨n2, hn2⟩ : ∃ n2, n1 = n2 + 1 := ⟨n1 - 1, by omega⟩
                have g1 : ((li : Int) == 1) = false := by simp; omega
                have hv2 : IntKind.i64.wrap ((li : Int) - 2) = (n2 : Int) := by
                  rw [show (li : Int) - 2 = (n2 : Int) by omega]; exact wrap_mid (by omega) (by omega)
                have d2 := hnc n2 (by omega)
                have i2 : n2 < li := by omega
                have i2I : (n2 : Int) < (li : Int) := by omega
                obtain ⟨qv, hqv⟩ : ∃ q, q = p.num i n2 := ⟨_, rfl⟩
                rw [← hqv] at d2
                have R : Hid (overB (tt i) li (p.num i) = (qv != c)) := by
                  unfold Hid overB; rw [hn1]; simp only [Nat.add_sub_cancel]; rw [← hpv, ← HCC.out, e1, show n1 + 1 - 2 = n2 by omega, ← hqv]
                  simp [bne]; omega
                clear n0 hn1 hn2 h1 hnc hpv hqv
                go_quiet (fail)
                go_wp2_with fail
                go_meet
                case rel => exact ⟨by rw [R.out], below_drewN (Below.refl _ _) _⟩
            · have e1f : (pv == c) = false := by simpa using e1
              have R : Hid (overB (tt i) li (p.num i) = false) := by unfold Hid overB; rw [hn1]; simp only [Nat.add_sub_cancel]; rw [← hpv, ← HCC.out, e1f]; simp
              clear n0 e1 hn1 hnc hpv
              go_quiet (fail)
              go_wp2_with fail
              go_meet
              case rel => exact ⟨by rw [R.out], below_drewN (Below.refl _ _) _⟩
        case rest =>
          obtain ⟨wx, rfl⟩ : ∃ q, q = wc := ⟨_, rfl⟩
          obtain ⟨rfl, hbX⟩ := hcut
          have BR2 : Hid (Below (w.heap.size + 1) w0 wx) := BRB.out.trans (hbX.mono zB1)
          have OWN2 : Hid (OwnF wx (w.heap.size + 1) L (endsF fr tt p.len p.num i)) := OWNB.out.below hbX
          have HBT0 : Hid (w.heap.size + 1 ≤ wx.heap.size) := (YALL.out _ BR2.out).2.2.2
          obtain ⟨ov, hov⟩ : ∃ ov, ov = overB (tt i) li (p.num i) := ⟨_, rfl⟩
          rw [← hov]
          have OV := Hid.mk hov
          have WS : Hid ((!bg) = !begunB (fr i) li (p.num i)) := by unfold Hid; rw [BG.out]
          have WE : Hid ((!ov) = !overB (tt i) li (p.num i)) := by unfold Hid; rw [hov]
          clear hov hbX c1B x1B OWNB BRB NIB zA1 zB1 zw zw1
          by_cases n0 : li = 0
          · obtain rfl : bg = false := by rw [BG.out, n0]; rfl
            obtain rfl : ov = true := by rw [OV.out, n0]; rfl
            have N0 := Hid.mk n0
            clear n0
            have EE : Hid (M.endF i (fr i) (tt i) li (p.num i) = [⟨0, i, -1, 0⟩]) := by exact endF_none N0.out
            go_wp2_with (at_builtin; go_must (refine wpList_pushF rfl _ _ rfl (w.heap.size + 1) L _ ⟨0, i, -1, 0⟩ rfl OWN2.out HBT0.out _ rfl HLEN0.out ?_; intro v51 w51 hown51 hb51))
            have OW51 := Hid.mk hown51
            have BR51 : Hid (Below (w.heap.size + 1) w0 w51) := BR2.out.trans hb51
            have HBT1 : Hid (w.heap.size + 1 ≤ w51.heap.size) := (YALL.out _ BR51.out).2.2.2
            clear hown51 hb51
            go_wp2
            go_roundw
            case rel => exact ⟨i + 1, v51, by omega, rfl, by go_num, by rw [show endsF fr tt p.len p.num (i + 1) = endsF fr tt p.len p.num i ++ M.endF i (fr i) (tt i) li (p.num i) from E1.out, EE.out]; exact OW51.out, BR51.out⟩
            case measure => simp [intOf]; omega
          · by_cases n1 : li = 1
            · have N1 := Hid.mk n1
              have g1 : ¬ (1 : Int) < (li : Int) := by omega
              have hv : IntKind.i64.wrap ((li : Int) - 1) = 0 := by rw [n1]; rfl
              have hl : (li : Int) - 1 = 0 := by omega
              clear n1 n0
              cases bg
              · cases ov
                · have EE : Hid (M.endF i (fr i) (tt i) li (p.num i) = [⟨0, i, -1, 0⟩]) := by (rw [endF_one WS.out WE.out N1.out]; rfl)
                  go_wp2_with (at_builtin; go_must (refine wpList_pushF rfl _ _ rfl (w.heap.size + 1) L _ ⟨0, i, -1, 0⟩ rfl OWN2.out HBT0.out _ rfl HLEN0.out ?_; intro v51 w51 hown51 hb51))
                  have OW51 := Hid.mk hown51
                  have BR51 : Hid (Below (w.heap.size + 1) w0 w51) := BR2.out.trans hb51
                  have HBT1 : Hid (w.heap.size + 1 ≤ w51.heap.size) := (YALL.out _ BR51.out).2.2.2
                  clear hown51 hb51
                  go_wp2
                  clear hl
                  go_roundw
                  case rel => exact ⟨i + 1, v51, by omega, rfl, by go_num, by rw [show endsF fr tt p.len p.num (i + 1) = endsF fr tt p.len p.num i ++ M.endF i (fr i) (tt i) li (p.num i) from E1.out, EE.out]; exact OW51.out, BR51.out⟩
                  case measure => simp [intOf]; omega
                · have EE : Hid (M.endF i (fr i) (tt i) li (p.num i) = [⟨0, i, -1, 0⟩]) := by (rw [endF_one WS.out WE.out N1.out]; rfl)
                  go_wp2_with (at_builtin; go_must (refine wpList_pushF rfl _ _ rfl (w.heap.size + 1) L _ ⟨0, i, -1, 0⟩ rfl OWN2.out HBT0.out _ rfl HLEN0.out ?_; intro v51 w51 hown51 hb51))
                  have OW51 := Hid.mk hown51
                  have BR51 : Hid (Below (w.heap.size + 1) w0 w51) := BR2.out.trans hb51
                  have HBT1 : Hid (w.heap.size + 1 ≤ w51.heap.size) := (YALL.out _ BR51.out).2.2.2
                  clear hown51 hb51
                  go_wp2
                  clear hl
                  go_roundw
                  case rel => exact ⟨i + 1, v51, by omega, rfl, by go_num, by rw [show endsF fr tt p.len p.num (i + 1) = endsF fr tt p.len p.num i ++ M.endF i (fr i) (tt i) li (p.num i) from E1.out, EE.out]; exact OW51.out, BR51.out⟩
                  case measure => simp [intOf]; omega
              · cases ov
                · have EE : Hid (M.endF i (fr i) (tt i) li (p.num i) = [⟨0, i, -1, 0⟩]) := by (rw [endF_one WS.out WE.out N1.out]; rfl)
                  go_wp2_with (at_builtin; go_must (refine wpList_pushF rfl _ _ rfl (w.heap.size + 1) L _ ⟨0, i, -1, 0⟩ rfl OWN2.out HBT0.out _ rfl HLEN0.out ?_; intro v51 w51 hown51 hb51))
                  have OW51 := Hid.mk hown51
                  have BR51 : Hid (Below (w.heap.size + 1) w0 w51) := BR2.out.trans hb51
                  have HBT1 : Hid (w.heap.size + 1 ≤ w51.heap.size) := (YALL.out _ BR51.out).2.2.2
                  clear hown51 hb51
                  go_wp2
                  clear hl
                  go_roundw
                  case rel => exact ⟨i + 1, v51, by omega, rfl, by go_num, by rw [show endsF fr tt p.len p.num (i + 1) = endsF fr tt p.len p.num i ++ M.endF i (fr i) (tt i) li (p.num i) from E1.out, EE.out]; exact OW51.out, BR51.out⟩
                  case measure => simp [intOf]; omega
                · have EE : Hid (M.endF i (fr i) (tt i) li (p.num i) = []) := by (rw [endF_one WS.out WE.out N1.out]; rfl)
                  go_wp2
                  clear hl
                  go_roundw
                  case rel => exact ⟨i + 1, L, by omega, rfl, by go_num, by rw [show endsF fr tt p.len p.num (i + 1) = endsF fr tt p.len p.num i ++ M.endF i (fr i) (tt i) li (p.num i) from E1.out, EE.out, List.append_nil]; exact OWN2.out, BR2.out⟩
                  case measure => simp [intOf]; omega
            · have N2 : Hid (2 ≤ li) := by unfold Hid; omega
              have g1 : (1 : Int) < (li : Int) := by omega
              clear n1 n0
              cases bg
              · cases ov
                · have EE : Hid (M.endF i (fr i) (tt i) li (p.num i) = [⟨0, i, -1, 0⟩, ⟨0, i, -1, (li : Int) - 1⟩]) := by (rw [endF_of WS.out WE.out N2.out]; rfl)
                  go_wp2_with (first
                    | (at_builtin; refine wpList_pushF rfl _ _ rfl (w.heap.size + 1) L _ ⟨0, i, -1, 0⟩ rfl OWN2.out HBT0.out _ rfl HLEN0.out ?_; intro v51 w51 hown51 hb51; have OW51 := Hid.mk hown51; have BR51 : Hid (Below (w.heap.size + 1) w0 w51) := BR2.out.trans hb51; have HBT1 : Hid (w.heap.size + 1 ≤ w51.heap.size) := (YALL.out _ BR51.out).2.2.2; clear hown51 hb51)
                    | (at_builtin; refine wpList_pushF rfl _ _ rfl (w.heap.size + 1) v51 _ ⟨0, i, -1, (li : Int) - 1⟩ rfl OW51.out HBT1.out _ rfl HLEN1.out ?_; intro v52 w52 hown52 hb52; have OW52 := Hid.mk hown52; have BR52 : Hid (Below (w.heap.size + 1) w0 w52) := BR51.out.trans hb52; have HBT2 : Hid (w.heap.size + 1 ≤ w52.heap.size) := (YALL.out _ BR52.out).2.2.2; clear hown52 hb52))
                  go_wp2
                  go_roundw
                  case rel => exact ⟨i + 1, v52, by omega, rfl, by go_num, by rw [show endsF fr tt p.len p.num (i + 1) = endsF fr tt p.len p.num i ++ M.endF i (fr i) (tt i) li (p.num i) from E1.out, EE.out]; have h := OW52.out; simp only [List.append_assoc, List.cons_append, List.nil_append] at h; exact h, BR52.out⟩
                  case measure => simp [intOf]; omega
                · have EE : Hid (M.endF i (fr i) (tt i) li (p.num i) = [⟨0, i, -1, 0⟩]) := by (rw [endF_of WS.out WE.out N2.out]; rfl)
                  go_wp2_with (at_builtin; go_must (refine wpList_pushF rfl _ _ rfl (w.heap.size + 1) L _ ⟨0, i, -1, 0⟩ rfl OWN2.out HBT0.out _ rfl HLEN0.out ?_; intro v51 w51 hown51 hb51))
                  have OW51 := Hid.mk hown51
                  have BR51 : Hid (Below (w.heap.size + 1) w0 w51) := BR2.out.trans hb51
                  have HBT1 : Hid (w.heap.size + 1 ≤ w51.heap.size) := (YALL.out _ BR51.out).2.2.2
                  clear hown51 hb51
                  go_wp2
                  go_roundw
                  case rel => exact ⟨i + 1, v51, by omega, rfl, by go_num, by rw [show endsF fr tt p.len p.num (i + 1) = endsF fr tt p.len p.num i ++ M.endF i (fr i) (tt i) li (p.num i) from E1.out, EE.out]; exact OW51.out, BR51.out⟩
                  case measure => simp [intOf]; omega
              · cases ov
                · have EE : Hid (M.endF i (fr i) (tt i) li (p.num i) = [⟨0, i, -1, (li : Int) - 1⟩]) := by (rw [endF_of WS.out WE.out N2.out]; rfl)
                  go_wp2_with (at_builtin; go_must (refine wpList_pushF rfl _ _ rfl (w.heap.size + 1) L _ ⟨0, i, -1, (li : Int) - 1⟩ rfl OWN2.out HBT0.out _ rfl HLEN0.out ?_; intro v51 w51 hown51 hb51))
                  have OW51 := Hid.mk hown51
                  have BR51 : Hid (Below (w.heap.size + 1) w0 w51) := BR2.out.trans hb51
                  have HBT1 : Hid (w.heap.size + 1 ≤ w51.heap.size) := (YALL.out _ BR51.out).2.2.2
                  clear hown51 hb51
                  go_wp2
                  go_roundw
                  case rel => exact ⟨i + 1, v51, by omega, rfl, by go_num, by rw [show endsF fr tt p.len p.num (i + 1) = endsF fr tt p.len p.num i ++ M.endF i (fr i) (tt i) li (p.num i) from E1.out, EE.out]; exact OW51.out, BR51.out⟩
                  case measure => simp [intOf]; omega
                · have EE : Hid (M.endF i (fr i) (tt i) li (p.num i) = []) := by (rw [endF_of WS.out WE.out N2.out]; rfl)
                  go_wp2
                  go_roundw
                  case rel => exact ⟨i + 1, L, by omega, rfl, by go_num, by rw [show endsF fr tt p.len p.num (i + 1) = endsF fr tt p.len p.num i ++ M.endF i (fr i) (tt i) li (p.num i) from E1.out, EE.out, List.append_nil]; exact OWN2.out, BR2.out⟩
                  case measure => simp [intOf]; omega
    · have E5 : Hid (endsF fr tt p.len p.num i = endsF fr tt p.len p.num n) := by
        have e : i = n := by omega
        unfold Hid
        rw [e]
      go_wp2
      go_ret
      exact ⟨L, rfl, by rw [← E5.out]; exact OWN.out.le (by omega), (YALL.out _ BR.out).2.1⟩

end Go.Proofs.YtnkgpinadgacgaaDoor

namespace Go.Proofs.YtnkgpinadgacgaaDoor
open Go.RowKit M
namespace M
/-- The faults of a level and of all below it. -/
def allF (lvl : Nat) (co : Int) (cs : ByteArray) (fr tt : Nat → Int) (n : Nat) (len : Nat → Nat) (num : Nat → Nat → Int) : List FaultM :=
  (((if 3 ≤ lvl then pairsF 3 n len num n else []) ++ (if 2 ≤ lvl then pairsF 2 n len num n else [])) ++ (if 1 ≤ lvl then stepsF co cs len num n else [])) ++ endsF fr tt len num n

end M
theorem own_oneF (w : World) (f : FaultM) (k : Nat) (hk : k = w.heap.size) : OwnF (w.alloc (.cells #[.int .i64 f.level, .int .i64 f.cart, .int .i64 f.other, .int .i64 f.at'] 116)) k (.slice (some ⟨k, 0, none⟩) 1 1) [f] := by
  subst hk
  refine ⟨⟨rfl, .inr ⟨w.heap.size, 1, #[.int .i64 f.level, .int .i64 f.cart, .int .i64 f.other, .int .i64 f.at'], rfl, Nat.le_refl _, ?_, Nat.le_refl _, by unfold maxLen; omega, rfl, rfl⟩⟩, fun e => by cases e⟩
  show (w.heap.push _)[w.heap.size]? = _
  simp

theorem pairs_all {lvl n : Nat} {len : Nat → Nat} {num : Nat → Nat → Int} (hn : n ≤ 4) (h : ∀ j, j < n → len j ≤ 1048576) : (pairsF lvl n len num n).length ≤ 16777216 := pairs_bd hn h (Nat.le_refl _)

theorem steps_all {co : Int} {cs : ByteArray} {n : Nat} {len : Nat → Nat} {num : Nat → Nat → Int} (hn : n ≤ 4) (h : ∀ j, j < n → len j ≤ 1048576) : (stepsF co cs len num n).length ≤ 4194304 := steps_bd hn h (Nat.le_refl _)

theorem ends_all {fr tt : Nat → Int} {n : Nat} {len : Nat → Nat} {num : Nat → Nat → Int} (hn : n ≤ 4) : (endsF fr tt len num n).length ≤ 8 := by have := endsF_len fr tt len num n; omega

end Go.Proofs.YtnkgpinadgacgaaDoor
