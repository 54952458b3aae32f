/- Several texts in one: Cf, Ch. -/
import Derived.Test.YtnkgpinadgacgabDoorMkzr
namespace Go.Proofs.YtnkgpinadgacgabDoor
open Go.RowKit M
set_option maxRecDepth 100000 in
set_option maxHeartbeats 4000000 in
theorem wrongFrom_any (ro co bu : Int) (cs : ByteArray) (ac : Option Addr) (mc cc : Nat) (a : Option Addr) (n cap t : Nat) (x : Nat → Int) (w : World) (hs : cs.size ≤ 36) (r1 : 1 ≤ ro) (r2 : ro ≤ 6) (h1 : 1 ≤ co) (h2 : co ≤ 6) (hsz : (cs.size : Int) = ro * co) (hsd : SidesIn w)
    (ht : t < n) (hn : n ≤ 1048576) (hx : NumsAt w a n x) :
    Calls Tryd.prog 88 #[.agg #[.int .i64 ro, .int .i64 co, .string cs, .slice ac mc cc, .int .i64 bu], .slice a n cap, .int .i64 t] w fun e w' => e = .returned (.bool (M.stepB co cs n x t)) ∧ Below w.heap.size w w' := by
  obtain ⟨b, off, rfl, hc⟩ := hx (by omega)
  have HC := Hid.mk hc
  have HSD := Hid.mk hsd
  have HSZ := Hid.mk hsz
  have hsm : cs.size ≤ maxLen := by unfold maxLen; omega
  clear hx hc hsd hsz
  go_enter Tryd.func88, Tryd.ntmps88
  go_upto_region 1 with fail
  have B0 : Hid (Below w.heap.size w (w.alloc (Obj.cells #[Value.int IntKind.i64 ro, Value.int IntKind.i64 co, Value.string cs, .slice ac mc cc, Value.int IntKind.i64 bu] 28))) := (Below.refl _ w).alloc (Nat.le_refl _) _
  have y0 : ∀ o, (w.alloc (Obj.cells #[Value.int IntKind.i64 ro, Value.int IntKind.i64 co, Value.string cs, .slice ac mc cc, Value.int IntKind.i64 bu] 28)).cell? ⟨w.heap.size, o, none⟩ = #[Value.int .i64 ro, .int .i64 co, .string cs, .slice ac mc cc, .int .i64 bu][o]? := by
    intro o; go_simp
  have hz0 : w.heap.size < (w.alloc (Obj.cells #[Value.int IntKind.i64 ro, Value.int IntKind.i64 co, Value.string cs, .slice ac mc cc, Value.int IntKind.i64 bu] 28)).heap.size := by simp
  generalize w.alloc (Obj.cells #[Value.int IntKind.i64 ro, Value.int IntKind.i64 co, Value.string cs, .slice ac mc cc, Value.int IntKind.i64 bu] 28) = w0 at *
  have Y0 := Hid.mk y0
  clear y0
  go_cut [7] (fun v7 wx => v7 = .bool (decide (t + 1 < n) && !mayM co cs (x t) (x (t + 1))) ∧ Below w0.heap.size w0 wx)
  case first =>
    by_cases hlt : t + 1 < n
    · have hltI : (t : Int) + 1 < (n : Int) := by omega
      have hd : decide ((t : Int) + 1 < (n : Int)) = true := by simp; omega
      have j1 : (0 : Int) ≤ (t : Int) + 1 := by omega
      have j2 : ((t : Int) + 1).toNat = t + 1 := by omega
      have j3 : (t : Int) < (n : Int) := by omega
      have j4 : IntKind.i64.wrap ((t : Int) + 1) = (t : Int) + 1 := wrap_mid (by omega) (by omega)
      have d1 := cell_later B0.out (HC.out t ht)
      have d2 := cell_later B0.out (HC.out (t + 1) hlt)
      have y00 := Y0.out 0
      have y01 := Y0.out 1
      have y02 := Y0.out 2
      have y03 := Y0.out 3
      have y04 := Y0.out 4
      simp only [List.getElem?_toArray, List.getElem?_cons_zero, List.getElem?_cons_succ] at y00 y01 y02 y03 y04
      have HS0 := Hid.mk (HSD.out.below B0.out)
      obtain ⟨p, hp⟩ : ∃ p, p = x t := ⟨_, rfl⟩
      obtain ⟨q, hq⟩ : ∃ q, q = x (t + 1) := ⟨_, rfl⟩
      rw [← hp] at d1
      rw [← hq] at d2
      have RES : Hid ((decide (t + 1 < n) && !mayM co cs (x t) (x (t + 1))) = !mayM co cs p q) := by unfold Hid; rw [hp, hq]; simp [hlt]
      clear hp hq
      have hzb : b < w0.heap.size := World.block_lt_of_cell? _ _ d1
      go_region_held3 (fun w' => w'.cell? ⟨w.heap.size, 0, none⟩ = some (.int .i64 ro) ∧ w'.cell? ⟨w.heap.size, 1, none⟩ = some (.int .i64 co) ∧ w'.cell? ⟨w.heap.size, 2, none⟩ = some (.string cs) ∧ w'.cell? ⟨w.heap.size, 3, none⟩ = some (.slice ac mc cc) ∧ w'.cell? ⟨w.heap.size, 4, none⟩ = some (.int .i64 bu) ∧ w'.cell? ⟨b, off + t, none⟩ = some (.int .i64 p) ∧ w'.cell? ⟨b, off + (t + 1), none⟩ = some (.int .i64 q)) (go_keep)
        (first
          | (go_at_call 103; refine (mayGo_any ro co bu p q cs ac mc cc _ hs r1 r2 h1 h2 HSZ.out (by exact HS0.out)).mono ?_; rintro e w4 ⟨he4, hb4⟩; obtain ⟨mb, hmb⟩ : ∃ mb, mb = mayM co cs p q := ⟨_, rfl⟩; rw [← hmb] at he4; subst he4; have MB := Hid.mk hmb; clear hmb; have q0 : w4.cell? ⟨w.heap.size, 0, none⟩ = some (.int .i64 ro) := (hb4.cell (p := ⟨w.heap.size, 0, none⟩) hz0).trans y00; have q1 : w4.cell? ⟨w.heap.size, 1, none⟩ = some (.int .i64 co) := (hb4.cell (p := ⟨w.heap.size, 1, none⟩) hz0).trans y01; have q2 : w4.cell? ⟨w.heap.size, 2, none⟩ = some (.string cs) := (hb4.cell (p := ⟨w.heap.size, 2, none⟩) hz0).trans y02; have q3 : w4.cell? ⟨w.heap.size, 3, none⟩ = some (.slice ac mc cc) := (hb4.cell (p := ⟨w.heap.size, 3, none⟩) hz0).trans y03; have q4 : w4.cell? ⟨w.heap.size, 4, none⟩ = some (.int .i64 bu) := (hb4.cell (p := ⟨w.heap.size, 4, none⟩) hz0).trans y04; have q5 : w4.cell? ⟨b, off + t, none⟩ = some (.int .i64 p) := (hb4.cell (p := ⟨b, off + t, none⟩) hzb).trans d1; have q6 : w4.cell? ⟨b, off + (t + 1), none⟩ = some (.int .i64 q) := (hb4.cell (p := ⟨b, off + (t + 1), none⟩) hzb).trans d2))
      all_goals (go_wp2_with fail)
      all_goals go_meet
      all_goals (case rel => exact ⟨by rw [RES.out, ← MB.out], (Below.refl _ w0).drew.trans hb4⟩)
    · have hd : decide ((t : Int) + 1 < (n : Int)) = false := by simp; omega
      have RES : Hid ((decide (t + 1 < n) && !mayM co cs (x t) (x (t + 1))) = false) := by unfold Hid; simp [hlt]
      clear hlt
      go_quiet (fail)
      go_wp2_with fail
      go_meet
      case rel => exact ⟨by rw [RES.out], below_drewN (Below.refl _ _) _⟩
  case rest =>
    obtain ⟨wx, rfl⟩ : ∃ q, q = wc := ⟨_, rfl⟩
    obtain ⟨rfl, hb1⟩ := hcut
    have B1 : Hid (Below w0.heap.size w0 wx) := hb1
    have B1w : Hid (Below w.heap.size w wx) := B0.out.trans (hb1.mono (by omega))
    obtain ⟨sb, hsb⟩ : ∃ sb, sb = (decide (t + 1 < n) && !mayM co cs (x t) (x (t + 1))) := ⟨_, rfl⟩
    have SB := Hid.mk hsb
    rw [← hsb]
    clear hb1 hsb
    cases sb
    · by_cases t0 : t = 0
      · have tI : ((t : Int) == 0) = true := by simp [t0]
        have nI : (0 : Int) < (n : Int) := by omega
        have nN : 0 < n := by omega
        have d1 := cell_later B1w.out (HC.out 0 (by omega))
        rw [Nat.add_zero] at d1
        have RES : Hid (M.stepB co cs n x t = !freeB cs (x 0)) := by unfold Hid M.stepB; rw [← SB.out]; simp [t0]
        obtain ⟨p, hp⟩ : ∃ p, p = x 0 := ⟨_, rfl⟩
        rw [← hp] at d1 RES
        have y1 : ∀ o, wx.cell? ⟨w.heap.size, o, none⟩ = #[Value.int .i64 ro, .int .i64 co, .string cs, .slice ac mc cc, .int .i64 bu][o]? := fun o => (B1.out.cell (p := ⟨w.heap.size, o, none⟩) hz0).trans (Y0.out o)
        have y10 := y1 0
        have y11 := y1 1
        have y12 := y1 2
        have y13 := y1 3
        have y14 := y1 4
        simp only [List.getElem?_toArray, List.getElem?_cons_zero, List.getElem?_cons_succ] at y10 y11 y12 y13 y14
        have hzb : b < wx.heap.size := World.block_lt_of_cell? _ _ d1
        have hzw : w.heap.size < wx.heap.size := Nat.lt_of_lt_of_le hz0 B1.out.size
        clear y1 t0 hp
        go_wp2_with fail
        go_region_held3 (fun w' => w'.cell? ⟨w.heap.size, 0, none⟩ = some (.int .i64 ro) ∧ w'.cell? ⟨w.heap.size, 1, none⟩ = some (.int .i64 co) ∧ w'.cell? ⟨w.heap.size, 2, none⟩ = some (.string cs) ∧ w'.cell? ⟨w.heap.size, 3, none⟩ = some (.slice ac mc cc) ∧ w'.cell? ⟨w.heap.size, 4, none⟩ = some (.int .i64 bu) ∧ w'.cell? ⟨b, off, none⟩ = some (.int .i64 p)) (go_keep)
          (first
            | (go_at_call 52; refine (gfree_any ro co bu p cs _ _ hsm).mono ?_; rintro e w4 ⟨he4, hb4⟩; obtain ⟨mb, hmb⟩ : ∃ mb, mb = freeB cs p := ⟨_, rfl⟩; rw [← hmb] at he4; subst he4; have MB := Hid.mk hmb; clear hmb; have q0 : w4.cell? ⟨w.heap.size, 0, none⟩ = some (.int .i64 ro) := (hb4.cell (p := ⟨w.heap.size, 0, none⟩) hzw).trans y10; have q1 : w4.cell? ⟨w.heap.size, 1, none⟩ = some (.int .i64 co) := (hb4.cell (p := ⟨w.heap.size, 1, none⟩) hzw).trans y11; have q2 : w4.cell? ⟨w.heap.size, 2, none⟩ = some (.string cs) := (hb4.cell (p := ⟨w.heap.size, 2, none⟩) hzw).trans y12; have q3 : w4.cell? ⟨w.heap.size, 3, none⟩ = some (.slice ac mc cc) := (hb4.cell (p := ⟨w.heap.size, 3, none⟩) hzw).trans y13; have q4 : w4.cell? ⟨w.heap.size, 4, none⟩ = some (.int .i64 bu) := (hb4.cell (p := ⟨w.heap.size, 4, none⟩) hzw).trans y14; have q5 : w4.cell? ⟨b, off, none⟩ = some (.int .i64 p) := (hb4.cell (p := ⟨b, off, none⟩) hzb).trans d1; have B4 : Hid (Below w.heap.size w w4) := B1w.out.drew.trans (hb4.mono B1w.out.size); clear hb4))
        go_wp2
        go_ret
        exact ⟨ret_bool (by rw [RES.out, ← MB.out]), B4.out⟩
      · have tI : ((t : Int) == 0) = false := by simp; omega
        have RES : Hid (M.stepB co cs n x t = false) := by unfold Hid M.stepB; rw [← SB.out]; simp [t0]
        clear t0
        go_wp2_with fail
        go_quiet (fail)
        go_wp2
        go_ret
        exact ⟨ret_bool RES.out.symm, below_drewN B1w.out _⟩
    · have RES : Hid (M.stepB co cs n x t = true) := by unfold Hid M.stepB; rw [← SB.out]; rfl
      go_wp2_with fail
      go_quiet (fail)
      go_wp2
      go_ret
      exact ⟨ret_bool RES.out.symm, below_drewN B1w.out _⟩

set_option maxRecDepth 100000 in
set_option maxHeartbeats 4000000 in
theorem stepFaults_any (ro co bu : Int) (cs : ByteArray) (ac : Option Addr) (mc cc : Nat) (a : Option Addr) (n cap : Nat) (p : PlanM) (w : World) (hs : cs.size ≤ 36) (r1 : 1 ≤ ro) (r2 : ro ≤ 6) (h1 : 1 ≤ co) (h2 : co ≤ 6) (hsz : (cs.size : Int) = ro * co) (hsd : SidesIn w)
    (hn : n ≤ 4) (hB : ∀ i, i < n → p.len i ≤ 1048576) (hp : PlanAt w a n p) :
    Calls Tryd.prog 64 #[.agg #[.int .i64 ro, .int .i64 co, .string cs, .slice ac mc cc, .int .i64 bu], .slice a n cap] w fun e w' => ∃ v, e = .returned v ∧ OwnF w' w.heap.size v (stepsF co cs p.len p.num n) ∧ Below w.heap.size w w' := by
  have HP := Hid.mk hp
  have HB := Hid.mk hB
  have HSD := Hid.mk hsd
  have HSZ := Hid.mk hsz
  clear hp hB hsd hsz
  go_enter Tryd.func64, Tryd.ntmps64
  go_wp2
  have B0 : Hid (Below w.heap.size w (w.alloc (Obj.cells #[Value.int IntKind.i64 ro, Value.int IntKind.i64 co, Value.string cs, .slice ac mc cc, Value.int IntKind.i64 bu] 28))) := (Below.refl _ w).alloc (Nat.le_refl _) _
  have y0 : ∀ o, (w.alloc (Obj.cells #[Value.int IntKind.i64 ro, Value.int IntKind.i64 co, Value.string cs, .slice ac mc cc, Value.int IntKind.i64 bu] 28)).cell? ⟨w.heap.size, o, none⟩ = #[Value.int .i64 ro, .int .i64 co, .string cs, .slice ac mc cc, .int .i64 bu][o]? := by
    intro o; go_simp
  have hz0 : w.heap.size + 1 = (w.alloc (Obj.cells #[Value.int IntKind.i64 ro, Value.int IntKind.i64 co, Value.string cs, .slice ac mc cc, Value.int IntKind.i64 bu] 28)).heap.size := by simp
  generalize w.alloc (Obj.cells #[Value.int IntKind.i64 ro, Value.int IntKind.i64 co, Value.string cs, .slice ac mc cc, Value.int IntKind.i64 bu] 28) = w0 at *
  have Y0 := Hid.mk y0
  have HZ0 := Hid.mk hz0
  have YALL : Hid (∀ wx, Below (w.heap.size + 1) w0 wx → (∀ o, wx.cell? ⟨w.heap.size, o, none⟩ = #[Value.int .i64 ro, .int .i64 co, .string cs, .slice ac mc cc, .int .i64 bu][o]?) ∧ Below w.heap.size w wx ∧ w.heap.size < wx.heap.size ∧ w.heap.size + 1 ≤ wx.heap.size) := by
    intro wx hb
    have := hb.size
    exact ⟨fun o => (hb.cell (p := ⟨w.heap.size, o, none⟩) (by show w.heap.size < _; omega)).trans (Y0.out o), B0.out.trans (hb.mono (by omega)), by omega, by omega⟩
  clear y0 hz0
  go_loopw [5, 11] (fun v5 v11 wr => ∃ (i : Nat) (L : Value), i ≤ n ∧ L = v5 ∧ v11 = .int .i64 i ∧ OwnF wr (w.heap.size + 1) L (stepsF co cs p.len p.num i) ∧ Below (w.heap.size + 1) w0 wr) (fun _ v11 _ => n - (intOf v11).toNat)
  case atStart => exact ⟨0, _, Nat.zero_le _, rfl, rfl, OwnF.nil _ _, Below.refl _ _⟩
  case round =>
    obtain ⟨wo, rfl⟩ : ∃ q, q = wr := ⟨_, rfl⟩
    obtain ⟨i, L, hi, rfl, rfl, hown, hbr⟩ := hrel
    have OWN := Hid.mk hown
    have BR := Hid.mk hbr
    clear hown hbr
    by_cases hlt : i < n
    · obtain ⟨b, off, rfl, hpi⟩ := HP.out (by omega)
      obtain ⟨_, bw, _, _⟩ := YALL.out wo BR.out
      have c1 := cell_later bw (hpi i hlt).1
      have NI := Hid.mk (hpi i hlt).2
      have BI := HB.out i hlt
      have E1 : Hid (stepsF co cs p.len p.num (i + 1) = stepsF co cs p.len p.num i ++ cellsF co cs i (p.len i) (p.num i) (p.len i)) := rfl
      obtain ⟨ai, hai⟩ : ∃ q, q = p.ad i := ⟨_, rfl⟩
      obtain ⟨li, hli⟩ : ∃ q, q = p.len i := ⟨_, rfl⟩
      obtain ⟨ci, hci⟩ : ∃ q, q = p.cap i := ⟨_, rfl⟩
      rw [← hai, ← hli, ← hci] at c1
      rw [← hai, ← hli] at NI
      rw [← hli] at BI E1
      have LP := Hid.mk (steps_bd (co := co) (cs := cs) (num := p.num) hn HB.out hi)
      clear hpi hai hli hci bw
      go_wp2
      go_loopw [5, 18] (fun v5 v18 wr => ∃ (t : Nat) (L : Value), t ≤ li ∧ L = v5 ∧ v18 = .int .i64 t ∧ OwnF wr (w.heap.size + 1) L (stepsF co cs p.len p.num i ++ cellsF co cs i li (p.num i) t) ∧ Below (w.heap.size + 1) w0 wr) (fun _ v18 _ => li - (intOf v18).toNat)
      case atStart => exact ⟨0, _, Nat.zero_le _, rfl, rfl, by simp only [cellsF]; rw [List.append_nil]; exact OWN.out, BR.out⟩
      case round =>
        obtain ⟨wt, rfl⟩ : ∃ q, q = wr := ⟨_, rfl⟩
        obtain ⟨t, L2, ht, rfl, rfl, hown2, hbr2⟩ := hrel
        have OWN2 := Hid.mk hown2
        have BR2 := Hid.mk hbr2
        clear hown2 hbr2
        by_cases hlt2 : t < li
        · obtain ⟨y1, bw2, zw, zw1⟩ := YALL.out wt BR2.out
          have NI2 := Hid.mk (NI.out.below bw2)
          have HS2 := Hid.mk (HSD.out.below bw2)
          clear bw2
          go_wp2_with fail
          refine (wrongFrom_any ro co bu cs ac mc cc ai li ci t (p.num i) _ hs r1 r2 h1 h2 HSZ.out HS2.out hlt2 BI NI2.out).mono ?_
          rintro e w4 ⟨he, hb4⟩
          obtain ⟨sb, hsb⟩ : ∃ sb, sb = M.stepB co cs li (p.num i) t := ⟨_, rfl⟩
          rw [← hsb] at he
          subst he
          have SB := Hid.mk hsb
          have OWN4 := Hid.mk (OWN2.out.below hb4)
          have BR4 : Hid (Below (w.heap.size + 1) w0 w4) := BR2.out.trans (hb4.mono zw1)
          have LT := Hid.mk (cellsF_len co cs i li (p.num i) t)
          clear hb4 hsb y1 OWN2 BR2 NI2 HS2
          cases sb
          · have E2 := Hid.mk (cells_miss (i := i) SB.out.symm)
            go_wp2
            go_roundw
            case rel => exact ⟨t + 1, L2, by omega, rfl, by go_num, by rw [E2.out]; exact OWN4.out, BR4.out⟩
            case measure => simp [intOf]; omega
          · have E2 := Hid.mk (cells_hit (i := i) SB.out.symm)
            have hbs : Hid (w.heap.size + 1 ≤ w4.heap.size) := (YALL.out _ BR4.out).2.2.2
            have HLEN : Hid ((stepsF co cs p.len p.num i ++ cellsF co cs i li (p.num i) t).length ≤ 100000000) := by
              have h1 := LP.out; have h3 := LT.out; unfold Hid; simp only [List.length_append]; omega
            go_wp2_with (at_builtin; go_must (refine wpList_pushF rfl _ _ rfl (w.heap.size + 1) L2 _ ⟨1, i, -1, t⟩ rfl OWN4.out hbs.out _ rfl HLEN.out ?_; intro v5 w5 hown5 hb5))
            have OWN6 := Hid.mk hown5
            have BR6 : Hid (Below (w.heap.size + 1) w0 w5) := BR4.out.trans hb5
            clear hown5 hb5
            go_wp2
            go_roundw
            case rel => exact ⟨t + 1, v5, by omega, rfl, by go_num, by rw [E2.out, ← List.append_assoc]; exact OWN6.out, BR6.out⟩
            case measure => simp [intOf]; omega
        · have E3 : Hid (stepsF co cs p.len p.num (i + 1) = stepsF co cs p.len p.num i ++ cellsF co cs i li (p.num i) t) := by
            have e : t = li := by omega
            unfold Hid
            rw [e, E1.out]
          go_wp2
          go_roundw
          case rel => exact ⟨i + 1, L2, by omega, rfl, by go_num, by rw [E3.out]; exact OWN2.out, BR2.out⟩
          case measure => simp [intOf]; omega
    · have E5 : Hid (stepsF co cs p.len p.num i = stepsF co cs p.len p.num n) := by
        have e : i = n := by omega
        unfold Hid
        rw [e]
      go_wp2
      go_ret
      exact ⟨L, rfl, by rw [← E5.out]; exact OWN.out.le (by omega), (YALL.out _ BR.out).2.1⟩

end Go.Proofs.YtnkgpinadgacgabDoor

namespace Go.Proofs.YtnkgpinadgacgabDoor
open Go.RowKit M
namespace M
/-- Does a list begin at f? -/
def begunB (f : Int) (n : Nat) (x : Nat → Int) : Bool := decide (0 < n) && (x 0 == f)

/-- Does a list end at c, and not with waiting? -/
def overB (c : Int) (n : Nat) (x : Nat → Int) : Bool := decide (n = 0) || ((x (n - 1) == c) && (decide (n = 1) || !(x (n - 2) == c)))

/-- The faults of one list's ends. -/
def endF (i : Nat) (f c : Int) (n : Nat) (x : Nat → Int) : List FaultM :=
  (if begunB f n x = true then [] else [⟨0, i, -1, 0⟩]) ++ (if (!overB c n x && (decide (1 < n) || begunB f n x)) = true then [⟨0, i, -1, (n : Int) - 1⟩] else [])

/-- The faults of level 0. -/
def endsF (fr tt : Nat → Int) (len : Nat → Nat) (num : Nat → Nat → Int) : Nat → List FaultM
  | 0 => []
  | i + 1 => endsF fr tt len num i ++ M.endF i (fr i) (tt i) (len i) (num i)

theorem endF_len (i : Nat) (f c : Int) (n : Nat) (x : Nat → Int) : (M.endF i f c n x).length ≤ 2 := by
  unfold M.endF
  rw [List.length_append]
  split <;> split <;> simp

theorem endsF_len (fr tt : Nat → Int) (len : Nat → Nat) (num : Nat → Nat → Int) : ∀ i, (endsF fr tt len num i).length ≤ 2 * i
  | 0 => by simp [endsF]
  | i + 1 => by
    have := endsF_len fr tt len num i
    have := endF_len i (fr i) (tt i) (len i) (num i)
    simp only [endsF, List.length_append]
    omega

theorem endF_none {i n : Nat} {f c : Int} {x : Nat → Int} (hn : n = 0) : M.endF i f c n x = [⟨0, i, -1, 0⟩] := by
  subst hn; simp [M.endF, begunB, overB]

theorem endF_of {i n : Nat} {f c : Int} {x : Nat → Int} {ws we : Bool} (h1 : ws = !begunB f n x) (h2 : we = !overB c n x) (hn : 2 ≤ n) : M.endF i f c n x = (if ws = true then [⟨0, i, -1, 0⟩] else []) ++ (if we = true then [⟨0, i, -1, (n : Int) - 1⟩] else []) := by
  unfold M.endF
  rw [h1, h2, show decide (1 < n) = true from decide_eq_true (by omega)]
  cases begunB f n x <;> cases overB c n x <;> simp

theorem endF_one {i n : Nat} {f c : Int} {x : Nat → Int} {ws we : Bool} (h1 : ws = !begunB f n x) (h2 : we = !overB c n x) (hn : n = 1) : M.endF i f c n x = (if (ws || we) = true then [⟨0, i, -1, 0⟩] else []) := by
  subst hn
  unfold M.endF
  rw [h1, h2]
  cases begunB f 1 x <;> cases overB c 1 x <;> simp

end M
set_option maxRecDepth 100000 in
set_option maxHeartbeats 1000000 in
theorem beginsWrong_any (f c : Int) (a : Option Addr) (n cap : Nat) (x : Nat → Int) (w : World) (hn : n ≤ 1048576) (hx : NumsAt w a n x) :
    Calls Tryd.prog 89 #[.agg #[.int .i64 f, .int .i64 c], .slice a n cap] w fun e w' => e = .returned (.bool (!begunB f n x)) ∧ Below w.heap.size w w' := by
  have HB0 : Hid (∀ o, Below w.heap.size w (w.alloc o)) := fun _ => (Below.refl _ w).alloc (Nat.le_refl _) _
  by_cases h0 : n = 0
  · have hI : ((n : Int) == 0) = true := by simp [h0]
    have R : Hid ((!begunB f n x) = true) := by unfold Hid begunB; simp [h0]
    clear h0
    go_enter Tryd.func89, Tryd.ntmps89
    go_wp2_with fail
    go_quiet (fail)
    go_wp2
    go_ret
    exact ⟨ret_bool R.out.symm, below_drewN (HB0.out _) _⟩
  · obtain ⟨b, off, rfl, hc⟩ := hx (by omega)
    have d := cell_later (HB0.out (.cells #[.int .i64 f, .int .i64 c] 49)) (hc 0 (by omega))
    rw [Nat.add_zero] at d
    have hI : ((n : Int) == 0) = false := by simp; omega
    have nN : 0 < n := by omega
    have nI : (0 : Int) < (n : Int) := by omega
    obtain ⟨p, hp⟩ : ∃ p, p = x 0 := ⟨_, rfl⟩
    rw [← hp] at d
    have R : Hid ((!begunB f n x) = (p != f)) := by unfold Hid begunB; rw [hp]; simp [nN, bne]
    clear hx hc h0 hp
    go_enter Tryd.func89, Tryd.ntmps89
    go_wp2_with fail
    go_quiet (fail)
    go_wp2
    go_ret
    exact ⟨ret_bool R.out.symm, below_drewN (HB0.out _) _⟩

set_option maxRecDepth 100000 in
set_option maxHeartbeats 2000000 in
theorem endsWrong_any (f c : Int) (a : Option Addr) (n cap : Nat) (x : Nat → Int) (w : World) (hn : n ≤ 1048576) (hx : NumsAt w a n x) :
    Calls Tryd.prog 90 #[.agg #[.int .i64 f, .int .i64 c], .slice a n cap] w fun e w' => e = .returned (.bool (!overB c n x)) ∧ Below w.heap.size w w' := by
  have HB0 : Hid (∀ o, Below w.heap.size w (w.alloc o)) := fun _ => (Below.refl _ w).alloc (Nat.le_refl _) _
  by_cases h0 : n = 0
  · have hv : IntKind.i64.wrap ((n : Int) - 1) = -1 := by rw [h0]; rfl
    have R : Hid ((!overB c n x) = false) := by unfold Hid overB; simp [h0]
    clear h0
    go_enter Tryd.func90, Tryd.ntmps90
    go_wp2_with fail
    go_quiet (fail)
    go_wp2
    go_ret
    exact ⟨ret_bool R.out.symm, below_drewN (HB0.out _) _⟩
  · obtain ⟨b, off, rfl, hc⟩ := hx (by omega)
    obtain ⟨n1, hn1⟩ : ∃ n1, n = n1 + 1 := ⟨n - 1, by omega⟩
    have hv : IntKind.i64.wrap ((n : Int) - 1) = (n1 : Int) := by
      rw [show (n : Int) - 1 = (n1 : Int) by omega]; exact wrap_mid (by omega) (by omega)
    have d := cell_later (HB0.out (.cells #[.int .i64 f, .int .i64 c] 49)) (hc n1 (by omega))
    have i1 : n1 < n := by omega
    have i1I : (n1 : Int) < (n : Int) := by omega
    have i0I : (0 : Int) ≤ (n1 : Int) := by omega
    obtain ⟨p, hp⟩ : ∃ p, p = x n1 := ⟨_, rfl⟩
    rw [← hp] at d
    by_cases e1 : (p == c) = true
    · have e1n : (p != c) = false := by simp at e1 ⊢; exact e1
      by_cases h1 : n1 = 0
      · have g0 : decide (0 < n1) = false := by simp [h1]
        have R : Hid ((!overB c n x) = false) := by unfold Hid overB; rw [hn1]; simp only [Nat.add_sub_cancel]; rw [← hp, e1, h1]; simp
        clear h1 hn1 hc hx hp h0
        go_enter Tryd.func90, Tryd.ntmps90
        go_wp2_with fail
        go_quiet (fail)
        go_wp2
        go_ret
        exact ⟨ret_bool R.out.symm, below_drewN (HB0.out _) _⟩
      · obtain ⟨n2, hn2⟩ : ∃ n2, n1 = n2 + 1 := ⟨n1 - 1, by omega⟩
        have g0 : decide (0 < n1) = true := by simp; omega
        have hv2 : IntKind.i64.wrap ((n1 : Int) - 1) = (n2 : Int) := by
          rw [show (n1 : Int) - 1 = (n2 : Int) by omega]; exact wrap_mid (by omega) (by omega)
        have d2 := cell_later (HB0.out (.cells #[.int .i64 f, .int .i64 c] 49)) (hc n2 (by omega))
        have i2 : n2 < n := by omega
        have i2I : (n2 : Int) < (n : Int) := by omega
        have i20 : (0 : Int) ≤ (n2 : Int) := by omega
        obtain ⟨q, hq⟩ : ∃ q, q = x n2 := ⟨_, rfl⟩
        rw [← hq] at d2
        have R : Hid ((!overB c n x) = (q == c)) := by
          unfold Hid overB; rw [hn1]; simp only [Nat.add_sub_cancel]; rw [← hp, e1, show n1 + 1 - 2 = n2 by omega, ← hq]
          simp; omega
        clear h1 hn1 hn2 hc hx hp hq h0
        go_enter Tryd.func90, Tryd.ntmps90
        go_wp2_with fail
        go_quiet (fail)
        go_wp2
        go_ret
        exact ⟨ret_bool R.out.symm, below_drewN (HB0.out _) _⟩
    · have e1n : (p != c) = true := by simpa using e1
      have e1f : (p == c) = false := by simpa using e1
      have R : Hid ((!overB c n x) = true) := by unfold Hid overB; rw [hn1]; simp only [Nat.add_sub_cancel]; rw [← hp, e1f]; simp
      clear e1 hn1 hc hx hp h0
      go_enter Tryd.func90, Tryd.ntmps90
      go_wp2_with fail
      go_quiet (fail)
      go_wp2
      go_ret
      exact ⟨ret_bool R.out.symm, below_drewN (HB0.out _) _⟩

end Go.Proofs.YtnkgpinadgacgabDoor
