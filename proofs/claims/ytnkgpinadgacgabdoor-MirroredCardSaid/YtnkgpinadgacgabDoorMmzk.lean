/- Several texts in one: Ch, Ci. -/
import Derived.Test.YtnkgpinadgacgabDoorMmzj
namespace Go.Proofs.YtnkgpinadgacgabDoor
open Go.RowKit M
namespace M
/-- Does a list begin at f? -/
def begunB (f : Int) (n : Nat) (x : Nat → Int) : Bool := decide (0 < n) && (x 0 == f)

/-- Does a list end at c, and not with waiting? -/
def overB (c : Int) (n : Nat) (x : Nat → Int) : Bool := decide (n = 0) || ((x (n - 1) == c) && (decide (n = 1) || !(x (n - 2) == c)))

/-- The faults of one list's ends. -/
def endF (i : Nat) (f c : Int) (n : Nat) (x : Nat → Int) : List FaultM :=
  (if begunB f n x = true then [] else [⟨0, i, -1, 0⟩]) ++ (if (!overB c n x && (decide (1 < n) || begunB f n x)) = true then [⟨0, i, -1, (n : Int) - 1⟩] else [])

/-- The faults of level 0. -/
def endsF (fr tt : Nat → Int) (len : Nat → Nat) (num : Nat → Nat → Int) : Nat → List FaultM
  | 0 => []
  | i + 1 => endsF fr tt len num i ++ M.endF i (fr i) (tt i) (len i) (num i)

theorem endF_len (i : Nat) (f c : Int) (n : Nat) (x : Nat → Int) : (M.endF i f c n x).length ≤ 2 := by
  unfold M.endF
  rw [List.length_append]
  split <;> split <;> simp

theorem endsF_len (fr tt : Nat → Int) (len : Nat → Nat) (num : Nat → Nat → Int) : ∀ i, (endsF fr tt len num i).length ≤ 2 * i
  | 0 => by simp [endsF]
  | i + 1 => by
    have := endsF_len fr tt len num i
    have := endF_len i (fr i) (tt i) (len i) (num i)
    simp only [endsF, List.length_append]
    omega

theorem endF_none {i n : Nat} {f c : Int} {x : Nat → Int} (hn : n = 0) : M.endF i f c n x = [⟨0, i, -1, 0⟩] := by
  subst hn; simp [M.endF, begunB, overB]

theorem endF_of {i n : Nat} {f c : Int} {x : Nat → Int} {ws we : Bool} (h1 : ws = !begunB f n x) (h2 : we = !overB c n x) (hn : 2 ≤ n) : M.endF i f c n x = (if ws = true then [⟨0, i, -1, 0⟩] else []) ++ (if we = true then [⟨0, i, -1, (n : Int) - 1⟩] else []) := by
  unfold M.endF
  rw [h1, h2, show decide (1 < n) = true from decide_eq_true (by omega)]
  cases begunB f n x <;> cases overB c n x <;> simp

theorem endF_one {i n : Nat} {f c : Int} {x : Nat → Int} {ws we : Bool} (h1 : ws = !begunB f n x) (h2 : we = !overB c n x) (hn : n = 1) : M.endF i f c n x = (if (ws || we) = true then [⟨0, i, -1, 0⟩] else []) := by
  subst hn
  unfold M.endF
  rw [h1, h2]
  cases begunB f 1 x <;> cases overB c 1 x <;> simp

end M
set_option maxRecDepth 100000 in
set_option maxHeartbeats 1000000 in
theorem beginsWrong_any (f c : Int) (a : Option Addr) (n cap : Nat) (x : Nat → Int) (w : World) (hn : n ≤ 1048576) (hx : NumsAt w a n x) :
    Calls Tryd.prog 89 #[.agg #[.int .i64 f, .int .i64 c], .slice a n cap] w fun e w' => e = .returned (.bool (!begunB f n x)) ∧ Below w.heap.size w w' := by
  have HB0 : Hid (∀ o, Below w.heap.size w (w.alloc o)) := fun _ => (Below.refl _ w).alloc (Nat.le_refl _) _
  by_cases h0 : n = 0
  · have hI : ((n : Int) == 0) = true := by simp [h0]
    have R : Hid ((!begunB f n x) = true) := by unfold Hid begunB; simp [h0]
    clear h0
    go_enter Tryd.func89, Tryd.ntmps89
    go_wp2_with fail
    go_quiet (fail)
    go_wp2
    go_ret
    exact ⟨ret_bool R.out.symm, below_drewN (HB0.out _) _⟩
  · obtain ⟨b, off, rfl, hc⟩ := hx (by omega)
    have d := cell_later (HB0.out (.cells #[.int .i64 f, .int .i64 c] 49)) (hc 0 (by omega))
    rw [Nat.add_zero] at d
    have hI : ((n : Int) == 0) = false := by simp; omega
    have nN : 0 < n := by omega
    have nI : (0 : Int) < (n : Int) := by omega
    obtain ⟨p, hp⟩ : ∃ p, p = x 0 := ⟨_, rfl⟩
    rw [← hp] at d
    have R : Hid ((!begunB f n x) = (p != f)) := by unfold Hid begunB; rw [hp]; simp [nN, bne]
    clear hx hc h0 hp
    go_enter Tryd.func89, Tryd.ntmps89
    go_wp2_with fail
    go_quiet (fail)
    go_wp2
    go_ret
    exact ⟨ret_bool R.out.symm, below_drewN (HB0.out _) _⟩

set_option maxRecDepth 100000 in
set_option maxHeartbeats 2000000 in
theorem endsWrong_any (f c : Int) (a : Option Addr) (n cap : Nat) (x : Nat → Int) (w : World) (hn : n ≤ 1048576) (hx : NumsAt w a n x) :
    Calls Tryd.prog 90 #[.agg #[.int .i64 f, .int .i64 c], .slice a n cap] w fun e w' => e = .returned (.bool (!overB c n x)) ∧ Below w.heap.size w w' := by
  have HB0 : Hid (∀ o, Below w.heap.size w (w.alloc o)) := fun _ => (Below.refl _ w).alloc (Nat.le_refl _) _
  by_cases h0 : n = 0
  · have hv : IntKind.i64.wrap ((n : Int) - 1) = -1 := by rw [h0]; rfl
    have R : Hid ((!overB c n x) = false) := by unfold Hid overB; simp [h0]
    clear h0
    go_enter Tryd.func90, Tryd.ntmps90
    go_wp2_with fail
    go_quiet (fail)
    go_wp2
    go_ret
    exact ⟨ret_bool R.out.symm, below_drewN (HB0.out _) _⟩
  · obtain ⟨b, off, rfl, hc⟩ := hx (by omega)
    obtain ⟨n1, hn1⟩ : ∃ n1, n = n1 + 1 := ⟨n - 1, by omega⟩
    have hv : IntKind.i64.wrap ((n : Int) - 1) = (n1 : Int) := by
      rw [show (n : Int) - 1 = (n1 : Int) by omega]; exact wrap_mid (by omega) (by omega)
    have d := cell_later (HB0.out (.cells #[.int .i64 f, .int .i64 c] 49)) (hc n1 (by omega))
    have i1 : n1 < n := by omega
    have i1I : (n1 : Int) < (n : Int) := by omega
    have i0I : (0 : Int) ≤ (n1 : Int) := by omega
    obtain ⟨p, hp⟩ : ∃ p, p = x n1 := ⟨_, rfl⟩
    rw [← hp] at d
    by_cases e1 : (p == c) = true
    · have e1n : (p != c) = false := by simp at e1 ⊢; exact e1
      by_cases h1 : n1 = 0
      · have g0 : decide (0 < n1) = false := by simp [h1]
        have R : Hid ((!overB c n x) = false) := by unfold Hid overB; rw [hn1]; simp only [Nat.add_sub_cancel]; rw [← hp, e1, h1]; simp
        clear h1 hn1 hc hx hp h0
        go_enter Tryd.func90, Tryd.ntmps90
        go_wp2_with fail
        go_quiet (fail)
        go_wp2
        go_ret
        exact ⟨ret_bool R.out.symm, below_drewN (HB0.out _) _⟩
      · obtain ⟨n2, hn2⟩ : ∃ n2, n1 = n2 + 1 := ⟨n1 - 1, by omega⟩
        have g0 : decide (0 < n1) = true := by simp; omega
        have hv2 : IntKind.i64.wrap ((n1 : Int) - 1) = (n2 : Int) := by
          rw [show (n1 : Int) - 1 = (n2 : Int) by omega]; exact wrap_mid (by omega) (by omega)
        have d2 := cell_later (HB0.out (.cells #[.int .i64 f, .int .i64 c] 49)) (hc n2 (by omega))
        have i2 : n2 < n := by omega
        have i2I : (n2 : Int) < (n : Int) := by omega
        have i20 : (0 : Int) ≤ (n2 : Int) := by omega
        obtain ⟨q, hq⟩ : ∃ q, q = x n2 := ⟨_, rfl⟩
        rw [← hq] at d2
        have R : Hid ((!overB c n x) = (q == c)) := by
          unfold Hid overB; rw [hn1]; simp only [Nat.add_sub_cancel]; rw [← hp, e1, show n1 + 1 - 2 = n2 by omega, ← hq]
          simp; omega
        clear h1 hn1 hn2 hc hx hp hq h0
        go_enter Tryd.func90, Tryd.ntmps90
        go_wp2_with fail
        go_quiet (fail)
        go_wp2
        go_ret
        exact ⟨ret_bool R.out.symm, below_drewN (HB0.out _) _⟩
    · have e1n : (p != c) = true := by simpa using e1
      have e1f : (p == c) = false := by simpa using e1
      have R : Hid ((!overB c n x) = true) := by unfold Hid overB; rw [hn1]; simp only [Nat.add_sub_cancel]; rw [← hp, e1f]; simp
      clear e1 hn1 hc hx hp h0
      go_enter Tryd.func90, Tryd.ntmps90
      go_wp2_with fail
      go_quiet (fail)
      go_wp2
      go_ret
      exact ⟨ret_bool R.out.symm, below_drewN (HB0.out _) _⟩

end Go.Proofs.YtnkgpinadgacgabDoor

namespace Go.Proofs.YtnkgpinadgacgabDoor
open Go.RowKit M
set_option maxRecDepth 100000 in
set_option maxHeartbeats 4000000 in
theorem endFaults_any (ro co bu : Int) (cs : ByteArray) (bc oc m cc : Nat) (fr tt : Nat → Int) (a : Option Addr) (n cap : Nat) (p : PlanM) (w : World) (hcs : CartsIn w bc oc m fr tt) (hmn : n = m)
    (hn : n ≤ 4) (hB : ∀ i, i < n → p.len i ≤ 1048576) (hp : PlanAt w a n p) :
    Calls Tryd.prog 65 #[.agg #[.int .i64 ro, .int .i64 co, .string cs, .slice (some ⟨bc, oc, none⟩) m cc, .int .i64 bu], .slice a n cap] w fun e w' => ∃ v, e = .returned v ∧ OwnF w' w.heap.size v (endsF fr tt p.len p.num n) ∧ Below w.heap.size w w' := by
  have HP := Hid.mk hp
  have HB := Hid.mk hB
  have HCS := Hid.mk hcs
  have HMN : n ≤ m := by omega
  clear hp hB hcs hmn
  go_enter Tryd.func65, Tryd.ntmps65
  go_wp2
  have B0 : Hid (Below w.heap.size w (w.alloc (Obj.cells #[Value.int IntKind.i64 ro, Value.int IntKind.i64 co, Value.string cs, .slice (some ⟨bc, oc, none⟩) m cc, Value.int IntKind.i64 bu] 28))) := (Below.refl _ w).alloc (Nat.le_refl _) _
  have y0 : ∀ o, (w.alloc (Obj.cells #[Value.int IntKind.i64 ro, Value.int IntKind.i64 co, Value.string cs, .slice (some ⟨bc, oc, none⟩) m cc, Value.int IntKind.i64 bu] 28)).cell? ⟨w.heap.size, o, none⟩ = #[Value.int .i64 ro, .int .i64 co, .string cs, .slice (some ⟨bc, oc, none⟩) m cc, .int .i64 bu][o]? := by
    intro o; go_simp
  have hz0 : w.heap.size + 1 = (w.alloc (Obj.cells #[Value.int IntKind.i64 ro, Value.int IntKind.i64 co, Value.string cs, .slice (some ⟨bc, oc, none⟩) m cc, Value.int IntKind.i64 bu] 28)).heap.size := by simp
  generalize w.alloc (Obj.cells #[Value.int IntKind.i64 ro, Value.int IntKind.i64 co, Value.string cs, .slice (some ⟨bc, oc, none⟩) m cc, Value.int IntKind.i64 bu] 28) = w0 at *
  have Y0 := Hid.mk y0
  have YALL : Hid (∀ wx, Below (w.heap.size + 1) w0 wx → wx.cell? ⟨w.heap.size, 3, none⟩ = some (.slice (some ⟨bc, oc, none⟩) m cc) ∧ Below w.heap.size w wx ∧ w.heap.size < wx.heap.size ∧ w.heap.size + 1 ≤ wx.heap.size) := by
    intro wx hb
    have := hb.size
    exact ⟨(hb.cell (p := ⟨w.heap.size, 3, none⟩) (by show w.heap.size < _; omega)).trans (Y0.out 3), B0.out.trans (hb.mono (by omega)), by omega, by omega⟩
  clear y0 hz0
  go_loopw [5, 13] (fun v5 v13 wr => ∃ (i : Nat) (L : Value), i ≤ n ∧ L = v5 ∧ v13 = .int .i64 i ∧ OwnF wr (w.heap.size + 1) L (endsF fr tt p.len p.num i) ∧ Below (w.heap.size + 1) w0 wr) (fun _ v13 _ => n - (intOf v13).toNat)
  case atStart => exact ⟨0, _, Nat.zero_le _, rfl, rfl, OwnF.nil _ _, Below.refl _ _⟩
  case round =>
    obtain ⟨wo, rfl⟩ : ∃ q, q = wr := ⟨_, rfl⟩
    obtain ⟨i, L, hi, rfl, rfl, hown, hbr⟩ := hrel
    have OWN := Hid.mk hown
    have BR := Hid.mk hbr
    clear hown hbr
    by_cases hlt : i < n
    · obtain ⟨b, off, rfl, hpi⟩ := HP.out (by omega)
      obtain ⟨y3, bw, zw, zw1⟩ := YALL.out wo BR.out
      have c1 := cell_later bw (hpi i hlt).1
      have NI := Hid.mk (hpi i hlt).2
      have BI := HB.out i hlt
      have E1 : Hid (endsF fr tt p.len p.num (i + 1) = endsF fr tt p.len p.num i ++ M.endF i (fr i) (tt i) (p.len i) (p.num i)) := rfl
      obtain ⟨ai, hai⟩ : ∃ q, q = p.ad i := ⟨_, rfl⟩
      obtain ⟨li, hli⟩ : ∃ q, q = p.len i := ⟨_, rfl⟩
      obtain ⟨ci, hci⟩ : ∃ q, q = p.cap i := ⟨_, rfl⟩
      rw [← hai, ← hli, ← hci] at c1
      rw [← hai, ← hli] at NI
      rw [← hli] at BI E1
      have LP := endsF_len fr tt p.len p.num i
      have HLEN0 : Hid ((endsF fr tt p.len p.num i).length ≤ 100000000) := by unfold Hid; omega
      have HLEN1 : Hid ((endsF fr tt p.len p.num i ++ [(⟨0, i, -1, 0⟩ : FaultM)]).length ≤ 100000000) := by unfold Hid; simp only [List.length_append, List.length_cons, List.length_nil]; omega
      have hcx := hpi
      have k0 := cell_later bw (HCS.out i (Nat.lt_of_lt_of_le hlt HMN)).1
      have k1 := cell_later bw (HCS.out i (Nat.lt_of_lt_of_le hlt HMN)).2
      obtain ⟨f, hf⟩ : ∃ q, q = fr i := ⟨_, rfl⟩
      obtain ⟨c, hc⟩ : ∃ q, q = tt i := ⟨_, rfl⟩
      rw [← hf] at k0
      rw [← hc] at k1
      have him : i < m := by omega
      have himI : (i : Int) < (m : Int) := by omega
      have zb : b < wo.heap.size := World.block_lt_of_cell? _ _ c1
      have zc : bc < wo.heap.size := World.block_lt_of_cell? _ _ k0
      have HF := Hid.mk hf
      have HCC := Hid.mk hc
      have NIo := Hid.mk (NI.out.below bw)
      clear hpi hcx hai hli hci LP hf hc bw
      go_upto_region 6 with fail
      go_cut [9, 10] (fun v9 v10 wx => v9 = .bool (!begunB (fr i) li (p.num i)) ∧ v10 = .bool (!overB (tt i) li (p.num i)) ∧ Below wo.heap.size wo wx)
      case first =>
        go_region_held3 (fun w' => w'.cell? ⟨w.heap.size, 3, none⟩ = some (.slice (some ⟨bc, oc, none⟩) m cc) ∧ w'.cell? ⟨bc, oc + i * 2, none⟩ = some (.int .i64 f) ∧ w'.cell? ⟨bc, oc + i * 2 + 1, none⟩ = some (.int .i64 c)) (go_keep)
          (first
            | (go_at_call 89; refine (beginsWrong_any f c ai li ci (p.num i) _ BI (by first | exact NIo.out | exact (show NumsAt wo.drew ai li (p.num i) from NIo.out).below hbE)).mono ?_; rintro e wB ⟨rfl, hbB⟩; have q0 : wB.cell? ⟨w.heap.size, 3, none⟩ = some (.slice (some ⟨bc, oc, none⟩) m cc) := (by first | exact (hbB.cell (p := ⟨w.heap.size, 3, none⟩) zw).trans y3 | exact (hbB.cell (p := ⟨w.heap.size, 3, none⟩) zwE).trans s0); have q1 : wB.cell? ⟨bc, oc + i * 2, none⟩ = some (.int .i64 f) := (by first | exact (hbB.cell (p := ⟨bc, oc + i * 2, none⟩) zc).trans k0 | exact (hbB.cell (p := ⟨bc, oc + i * 2, none⟩) zcE).trans s1); have q2 : wB.cell? ⟨bc, oc + i * 2 + 1, none⟩ = some (.int .i64 c) := (by first | exact (hbB.cell (p := ⟨bc, oc + i * 2 + 1, none⟩) zc).trans k1 | exact (hbB.cell (p := ⟨bc, oc + i * 2 + 1, none⟩) zcE).trans s2); have zwB : w.heap.size < wB.heap.size := (by first | exact Nat.lt_of_lt_of_le zw hbB.size | exact Nat.lt_of_lt_of_le zwE hbB.size); have zcB : bc < wB.heap.size := (by first | exact Nat.lt_of_lt_of_le zc hbB.size | exact Nat.lt_of_lt_of_le zcE hbB.size))
            | (go_at_call 90; refine (endsWrong_any f c ai li ci (p.num i) _ BI (by first | exact NIo.out | exact (show NumsAt wo.drew ai li (p.num i) from NIo.out).below hbB)).mono ?_; rintro e wE ⟨rfl, hbE⟩; have s0 : wE.cell? ⟨w.heap.size, 3, none⟩ = some (.slice (some ⟨bc, oc, none⟩) m cc) := (by first | exact (hbE.cell (p := ⟨w.heap.size, 3, none⟩) zw).trans y3 | exact (hbE.cell (p := ⟨w.heap.size, 3, none⟩) zwB).trans q0); have s1 : wE.cell? ⟨bc, oc + i * 2, none⟩ = some (.int .i64 f) := (by first | exact (hbE.cell (p := ⟨bc, oc + i * 2, none⟩) zc).trans k0 | exact (hbE.cell (p := ⟨bc, oc + i * 2, none⟩) zcB).trans q1); have s2 : wE.cell? ⟨bc, oc + i * 2 + 1, none⟩ = some (.int .i64 c) := (by first | exact (hbE.cell (p := ⟨bc, oc + i * 2 + 1, none⟩) zc).trans k1 | exact (hbE.cell (p := ⟨bc, oc + i * 2 + 1, none⟩) zcB).trans q2); have zwE : w.heap.size < wE.heap.size := (by first | exact Nat.lt_of_lt_of_le zw hbE.size | exact Nat.lt_of_lt_of_le zwB hbE.size); have zcE : bc < wE.heap.size := (by first | exact Nat.lt_of_lt_of_le zc hbE.size | exact Nat.lt_of_lt_of_le zcB hbE.size)))
        all_goals (go_wp2_with fail)
        all_goals go_meet
        all_goals (case rel => exact ⟨by rw [← HF.out], by rw [← HCC.out], by first | exact (Below.refl _ wo).drew.trans (hbB.trans (hbE.mono hbB.size)) | exact (Below.refl _ wo).drew.trans (hbE.trans (hbB.mono hbE.size))⟩)
      case rest =>
        obtain ⟨wx, rfl⟩ : ∃ q, q = wc := ⟨_, rfl⟩
        obtain ⟨rfl, rfl, hb1⟩ := hcut
        have BR2 : Hid (Below (w.heap.size + 1) w0 wx) := BR.out.trans (hb1.mono zw1)
        have OWN2 : Hid (OwnF wx (w.heap.size + 1) L (endsF fr tt p.len p.num i)) := OWN.out.below hb1
        have HBT0 : Hid (w.heap.size + 1 ≤ wx.heap.size) := (YALL.out _ BR2.out).2.2.2
        obtain ⟨ws, hws⟩ : ∃ ws, ws = !begunB (fr i) li (p.num i) := ⟨_, rfl⟩
        obtain ⟨we, hwe⟩ : ∃ we, we = !overB (tt i) li (p.num i) := ⟨_, rfl⟩
        rw [← hws, ← hwe]
        have WS := Hid.mk hws
        have WE := Hid.mk hwe
        clear hws hwe hb1 y3 c1 k0 k1 OWN BR zw zw1 zb zc NIo
        obtain ⟨la, hla⟩ : ∃ la, la = (li : Int) - 1 := ⟨_, rfl⟩
        rw [← hla]
        have LA := Hid.mk hla
        clear hla
        by_cases n0 : li = 0
        · obtain rfl : la = -1 := by rw [LA.out, n0]; rfl
          obtain rfl : ws = true := by rw [WS.out, n0]; rfl
          obtain rfl : we = false := by rw [WE.out, n0]; rfl
          have N0 := Hid.mk n0
          clear n0
          have EE : Hid (M.endF i (fr i) (tt i) li (p.num i) = [⟨0, i, -1, 0⟩]) := by exact endF_none N0.out
          go_wp2_with (at_builtin; go_must (refine wpList_pushF rfl _ _ rfl (w.heap.size + 1) L _ ⟨0, i, -1, 0⟩ rfl OWN2.out HBT0.out _ rfl HLEN0.out ?_; intro v51 w51 hown51 hb51))
          have OW51 := Hid.mk hown51
          have BR51 : Hid (Below (w.heap.size + 1) w0 w51) := BR2.out.trans hb51
          have HBT1 : Hid (w.heap.size + 1 ≤ w51.heap.size) := (YALL.out _ BR51.out).2.2.2
          clear hown51 hb51
          go_wp2
          go_roundw
          case rel => exact ⟨i + 1, v51, by omega, rfl, by go_num, by rw [show endsF fr tt p.len p.num (i + 1) = endsF fr tt p.len p.num i ++ M.endF i (fr i) (tt i) li (p.num i) from E1.out, EE.out]; exact OW51.out, BR51.out⟩
          case measure => simp [intOf]; omega
        · by_cases n1 : li = 1
          · have N1 := Hid.mk n1
            obtain rfl : la = 0 := by rw [LA.out, n1]; rfl
            clear n1 n0
            cases ws
            · cases we
              · have EE : Hid (M.endF i (fr i) (tt i) li (p.num i) = []) := by (rw [endF_one WS.out WE.out N1.out]; rfl)
                go_wp2
                go_roundw
                case rel => exact ⟨i + 1, L, by omega, rfl, by go_num, by rw [show endsF fr tt p.len p.num (i + 1) = endsF fr tt p.len p.num i ++ M.endF i (fr i) (tt i) li (p.num i) from E1.out, EE.out, List.append_nil]; exact OWN2.out, BR2.out⟩
                case measure => simp [intOf]; omega
              · have EE : Hid (M.endF i (fr i) (tt i) li (p.num i) = [⟨0, i, -1, 0⟩]) := by (rw [endF_one WS.out WE.out N1.out]; rfl)
                go_wp2_with (at_builtin; go_must (refine wpList_pushF rfl _ _ rfl (w.heap.size + 1) L _ ⟨0, i, -1, 0⟩ rfl OWN2.out HBT0.out _ rfl HLEN0.out ?_; intro v51 w51 hown51 hb51))
                have OW51 := Hid.mk hown51
                have BR51 : Hid (Below (w.heap.size + 1) w0 w51) := BR2.out.trans hb51
                have HBT1 : Hid (w.heap.size + 1 ≤ w51.heap.size) := (YALL.out _ BR51.out).2.2.2
                clear hown51 hb51
                go_wp2
                go_roundw
                case rel => exact ⟨i + 1, v51, by omega, rfl, by go_num, by rw [show endsF fr tt p.len p.num (i + 1) = endsF fr tt p.len p.num i ++ M.endF i (fr i) (tt i) li (p.num i) from E1.out, EE.out]; exact OW51.out, BR51.out⟩
                case measure => simp [intOf]; omega
            · cases we
              · have EE : Hid (M.endF i (fr i) (tt i) li (p.num i) = [⟨0, i, -1, 0⟩]) := by (rw [endF_one WS.out WE.out N1.out]; rfl)
                go_wp2_with (at_builtin; go_must (refine wpList_pushF rfl _ _ rfl (w.heap.size + 1) L _ ⟨0, i, -1, 0⟩ rfl OWN2.out HBT0.out _ rfl HLEN0.out ?_; intro v51 w51 hown51 hb51))
                have OW51 := Hid.mk hown51
                have BR51 : Hid (Below (w.heap.size + 1) w0 w51) := BR2.out.trans hb51
                have HBT1 : Hid (w.heap.size + 1 ≤ w51.heap.size) := (YALL.out _ BR51.out).2.2.2
                clear hown51 hb51
                go_wp2
                go_roundw
                case rel => exact ⟨i + 1, v51, by omega, rfl, by go_num, by rw [show endsF fr tt p.len p.num (i + 1) = endsF fr tt p.len p.num i ++ M.endF i (fr i) (tt i) li (p.num i) from E1.out, EE.out]; exact OW51.out, BR51.out⟩
                case measure => simp [intOf]; omega
              · have EE : Hid (M.endF i (fr i) (tt i) li (p.num i) = [⟨0, i, -1, 0⟩]) := by (rw [endF_one WS.out WE.out N1.out]; rfl)
                go_wp2_with (at_builtin; go_must (refine wpList_pushF rfl _ _ rfl (w.heap.size + 1) L _ ⟨0, i, -1, 0⟩ rfl OWN2.out HBT0.out _ rfl HLEN0.out ?_; intro v51 w51 hown51 hb51))
                have OW51 := Hid.mk hown51
                have BR51 : Hid (Below (w.heap.size + 1) w0 w51) := BR2.out.trans hb51
                have HBT1 : Hid (w.heap.size + 1 ≤ w51.heap.size) := (YALL.out _ BR51.out).2.2.2
                clear hown51 hb51
                go_wp2
                go_roundw
                case rel => exact ⟨i + 1, v51, by omega, rfl, by go_num, by rw [show endsF fr tt p.len p.num (i + 1) = endsF fr tt p.len p.num i ++ M.endF i (fr i) (tt i) li (p.num i) from E1.out, EE.out]; exact OW51.out, BR51.out⟩
                case measure => simp [intOf]; omega
          · have N2 : Hid (2 ≤ li) := by unfold Hid; omega
            have z1 : (la == 0) = false := by have := LA.out; simp; omega
            have z2 : (0 : Int) < la := by have := LA.out; omega
            clear n1 n0
            cases ws
            · cases we
              · have EE : Hid (M.endF i (fr i) (tt i) li (p.num i) = []) := by (rw [endF_of WS.out WE.out N2.out, ← LA.out]; rfl)
                go_wp2
                go_roundw
                case rel => exact ⟨i + 1, L, by omega, rfl, by go_num, by rw [show endsF fr tt p.len p.num (i + 1) = endsF fr tt p.len p.num i ++ M.endF i (fr i) (tt i) li (p.num i) from E1.out, EE.out, List.append_nil]; exact OWN2.out, BR2.out⟩
                case measure => simp [intOf]; omega
              · have EE : Hid (M.endF i (fr i) (tt i) li (p.num i) = [⟨0, i, -1, la⟩]) := by (rw [endF_of WS.out WE.out N2.out, ← LA.out]; rfl)
                go_wp2_with (at_builtin; go_must (refine wpList_pushF rfl _ _ rfl (w.heap.size + 1) L _ ⟨0, i, -1, la⟩ rfl OWN2.out HBT0.out _ rfl HLEN0.out ?_; intro v51 w51 hown51 hb51))
                have OW51 := Hid.mk hown51
                have BR51 : Hid (Below (w.heap.size + 1) w0 w51) := BR2.out.trans hb51
                have HBT1 : Hid (w.heap.size + 1 ≤ w51.heap.size) := (YALL.out _ BR51.out).2.2.2
                clear hown51 hb51
                go_wp2
                go_roundw
                case rel => exact ⟨i + 1, v51, by omega, rfl, by go_num, by rw [show endsF fr tt p.len p.num (i + 1) = endsF fr tt p.len p.num i ++ M.endF i (fr i) (tt i) li (p.num i) from E1.out, EE.out]; exact OW51.out, BR51.out⟩
                case measure => simp [intOf]; omega
            · cases we
              · have EE : Hid (M.endF i (fr i) (tt i) li (p.num i) = [⟨0, i, -1, 0⟩]) := by (rw [endF_of WS.out WE.out N2.out, ← LA.out]; rfl)
                go_wp2_with (at_builtin; go_must (refine wpList_pushF rfl _ _ rfl (w.heap.size + 1) L _ ⟨0, i, -1, 0⟩ rfl OWN2.out HBT0.out _ rfl HLEN0.out ?_; intro v51 w51 hown51 hb51))
                have OW51 := Hid.mk hown51
                have BR51 : Hid (Below (w.heap.size + 1) w0 w51) := BR2.out.trans hb51
                have HBT1 : Hid (w.heap.size + 1 ≤ w51.heap.size) := (YALL.out _ BR51.out).2.2.2
                clear hown51 hb51
                go_wp2
                go_roundw
                case rel => exact ⟨i + 1, v51, by omega, rfl, by go_num, by rw [show endsF fr tt p.len p.num (i + 1) = endsF fr tt p.len p.num i ++ M.endF i (fr i) (tt i) li (p.num i) from E1.out, EE.out]; exact OW51.out, BR51.out⟩
                case measure => simp [intOf]; omega
              · have EE : Hid (M.endF i (fr i) (tt i) li (p.num i) = [⟨0, i, -1, 0⟩, ⟨0, i, -1, la⟩]) := by (rw [endF_of WS.out WE.out N2.out, ← LA.out]; rfl)
                go_wp2_with (first
                  | (at_builtin; refine wpList_pushF rfl _ _ rfl (w.heap.size + 1) L _ ⟨0, i, -1, 0⟩ rfl OWN2.out HBT0.out _ rfl HLEN0.out ?_; intro v51 w51 hown51 hb51; have OW51 := Hid.mk hown51; have BR51 : Hid (Below (w.heap.size + 1) w0 w51) := BR2.out.trans hb51; have HBT1 : Hid (w.heap.size + 1 ≤ w51.heap.size) := (YALL.out _ BR51.out).2.2.2; clear hown51 hb51)
                  | (at_builtin; refine wpList_pushF rfl _ _ rfl (w.heap.size + 1) v51 _ ⟨0, i, -1, la⟩ rfl OW51.out HBT1.out _ rfl HLEN1.out ?_; intro v52 w52 hown52 hb52; have OW52 := Hid.mk hown52; have BR52 : Hid (Below (w.heap.size + 1) w0 w52) := BR51.out.trans hb52; have HBT2 : Hid (w.heap.size + 1 ≤ w52.heap.size) := (YALL.out _ BR52.out).2.2.2; clear hown52 hb52))
                go_wp2
                go_roundw
                case rel => exact ⟨i + 1, v52, by omega, rfl, by go_num, by rw [show endsF fr tt p.len p.num (i + 1) = endsF fr tt p.len p.num i ++ M.endF i (fr i) (tt i) li (p.num i) from E1.out, EE.out]; have h := OW52.out; simp only [List.append_assoc, List.cons_append, List.nil_append] at h; exact h, BR52.out⟩
                case measure => simp [intOf]; omega
    · have E5 : Hid (endsF fr tt p.len p.num i = endsF fr tt p.len p.num n) := by
        have e : i = n := by omega
        unfold Hid
        rw [e]
      go_wp2
      go_ret
      exact ⟨L, rfl, by rw [← E5.out]; exact OWN.out.le (by omega), (YALL.out _ BR.out).2.1⟩

end Go.Proofs.YtnkgpinadgacgabDoor
