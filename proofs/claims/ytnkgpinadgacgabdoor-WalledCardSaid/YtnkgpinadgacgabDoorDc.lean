/- Walks of fits, starts, goals. -/
import Derived.Test.YtnkgpinadgacgabDoorDb
import Derived.Test.YtnkgpinadgacgabDoorBg
import Derived.Deep.RegionHeld3
import Derived.Deep.DeepCutAuto
import Derived.Deep.QuietTactic
import Derived.BigQuiet
namespace Go.Proofs.YtnkgpinadgacgabDoor
open Go.RowKit M
theorem fit_hit {p q : List Nat} {i k : Nat} (hk : k < i) (h : clashB p q i k = true) : fitB p q i = false := by
  unfold fitB; rw [anyB_of h hk]; rfl

theorem fit_miss {p q : List Nat} {i : Nat} (h : ∀ k, k < i → clashB p q i k = false) : fitB p q i = true := by
  unfold fitB; rw [anyB_false.2 h]; rfl

theorem pos_cell {w : World} {b : Nat} {q : List Nat} (h : ∀ o, w.cell? ⟨b, o, none⟩ = #[Value.int .u8 (q.getD 0 0 : Nat), .int .u8 (q.getD 1 0 : Nat), .int .u8 (q.getD 2 0 : Nat), .int .u8 (q.getD 3 0 : Nat)][o]?) {k : Nat} (hk : k < 4) : w.cell? ⟨b, k, none⟩ = some (.int .u8 (q.getD k 0 : Nat)) := by
  have hc : k = 0 ∨ k = 1 ∨ k = 2 ∨ k = 3 := by omega
  rcases hc with rfl | rfl | rfl | rfl <;> rw [h] <;> rfl

set_option maxRecDepth 100000 in
set_option maxHeartbeats 2000000 in
theorem fits_any (p q : List Nat) (i : Nat) (w : World) (hi : i < 4) :
    Calls Tryd.prog 100 #[posV p, posV q, .int .i64 i] w fun e w' => e = .returned (.bool (fitB p q i)) ∧ Below w.heap.size w w' := by
  obtain ⟨a0, ha0⟩ : ∃ v, v = p.getD 0 0 := ⟨_, rfl⟩
  obtain ⟨a1, ha1⟩ : ∃ v, v = p.getD 1 0 := ⟨_, rfl⟩
  obtain ⟨a2, ha2⟩ : ∃ v, v = p.getD 2 0 := ⟨_, rfl⟩
  obtain ⟨a3, ha3⟩ : ∃ v, v = p.getD 3 0 := ⟨_, rfl⟩
  obtain ⟨b0, hb0⟩ : ∃ v, v = q.getD 0 0 := ⟨_, rfl⟩
  obtain ⟨b1, hb1⟩ : ∃ v, v = q.getD 1 0 := ⟨_, rfl⟩
  obtain ⟨b2, hb2⟩ : ∃ v, v = q.getD 2 0 := ⟨_, rfl⟩
  obtain ⟨b3, hb3⟩ : ∃ v, v = q.getD 3 0 := ⟨_, rfl⟩
  unfold posV
  rw [← ha0, ← ha1, ← ha2, ← ha3, ← hb0, ← hb1, ← hb2, ← hb3]
  have HA := Hid.mk (And.intro ha0 (And.intro ha1 (And.intro ha2 ha3)))
  have HQ := Hid.mk (And.intro hb0 (And.intro hb1 (And.intro hb2 hb3)))
  clear ha0 ha1 ha2 ha3 hb0 hb1 hb2 hb3
  go_enter Tryd.func100, Tryd.ntmps100
  go_wp2
  have B0 : Hid (Below w.heap.size w ((w.alloc (Obj.cells #[Value.int .u8 (a0 : Nat), .int .u8 (a1 : Nat), .int .u8 (a2 : Nat), .int .u8 (a3 : Nat)] 102)).alloc (Obj.cells #[Value.int .u8 (b0 : Nat), .int .u8 (b1 : Nat), .int .u8 (b2 : Nat), .int .u8 (b3 : Nat)] 102))) := ((Below.refl _ w).alloc (Nat.le_refl _) _).alloc (by simp) _
  have x0 : ∀ o, ((w.alloc (Obj.cells #[Value.int .u8 (a0 : Nat), .int .u8 (a1 : Nat), .int .u8 (a2 : Nat), .int .u8 (a3 : Nat)] 102)).alloc (Obj.cells #[Value.int .u8 (b0 : Nat), .int .u8 (b1 : Nat), .int .u8 (b2 : Nat), .int .u8 (b3 : Nat)] 102)).cell? ⟨w.heap.size, o, none⟩ = #[Value.int .u8 (a0 : Nat), .int .u8 (a1 : Nat), .int .u8 (a2 : Nat), .int .u8 (a3 : Nat)][o]? := by
    intro o; go_simp
  have x1 : ∀ o, ((w.alloc (Obj.cells #[Value.int .u8 (a0 : Nat), .int .u8 (a1 : Nat), .int .u8 (a2 : Nat), .int .u8 (a3 : Nat)] 102)).alloc (Obj.cells #[Value.int .u8 (b0 : Nat), .int .u8 (b1 : Nat), .int .u8 (b2 : Nat), .int .u8 (b3 : Nat)] 102)).cell? ⟨w.heap.size + 1, o, none⟩ = #[Value.int .u8 (b0 : Nat), .int .u8 (b1 : Nat), .int .u8 (b2 : Nat), .int .u8 (b3 : Nat)][o]? := by
    intro o; go_simp
  have hz : ((w.alloc (Obj.cells #[Value.int .u8 (a0 : Nat), .int .u8 (a1 : Nat), .int .u8 (a2 : Nat), .int .u8 (a3 : Nat)] 102)).alloc (Obj.cells #[Value.int .u8 (b0 : Nat), .int .u8 (b1 : Nat), .int .u8 (b2 : Nat), .int .u8 (b3 : Nat)] 102)).heap.size = w.heap.size + 2 := by simp
  generalize ((w.alloc (Obj.cells #[Value.int .u8 (a0 : Nat), .int .u8 (a1 : Nat), .int .u8 (a2 : Nat), .int .u8 (a3 : Nat)] 102)).alloc (Obj.cells #[Value.int .u8 (b0 : Nat), .int .u8 (b1 : Nat), .int .u8 (b2 : Nat), .int .u8 (b3 : Nat)] 102)) = w0 at *
  have C0 : Hid (∀ k, k < 4 → w0.cell? ⟨w.heap.size, k, none⟩ = some (.int .u8 (p.getD k 0 : Nat))) := fun k hk => pos_cell (q := p) (by intro o; rw [x0, HA.out.1, HA.out.2.1, HA.out.2.2.1, HA.out.2.2.2]) hk
  have C1 : Hid (∀ k, k < 4 → w0.cell? ⟨w.heap.size + 1, k, none⟩ = some (.int .u8 (q.getD k 0 : Nat))) := fun k hk => pos_cell (q := q) (by intro o; rw [x1, HQ.out.1, HQ.out.2.1, HQ.out.2.2.1, HQ.out.2.2.2]) hk
  have HZ := Hid.mk hz
  clear x0 x1 hz
  go_loopw [11] (fun v11 wr => ∃ k : Nat, k ≤ i ∧ v11 = .int .i64 k ∧ (∀ j, j < k → clashB p q i j = false) ∧ Below w0.heap.size w0 wr) (fun v11 _ => i - (intOf v11).toNat)
  case atStart => exact ⟨0, Nat.zero_le _, rfl, fun j hj => absurd hj (Nat.not_lt_zero j), Below.refl _ _⟩
  case round =>
    obtain ⟨k, hk, rfl, hmiss, hbr⟩ := hrel
    have HM := Hid.mk hmiss
    have HB := Hid.mk hbr
    by_cases hlt : k < i
    · have hz := HZ.out
      have ha := (hbr.cell (p := ⟨w.heap.size + 1, i, none⟩) (by show w.heap.size + 1 < _; omega)).trans (C1.out i hi)
      have hb := (hbr.cell (p := ⟨w.heap.size + 1, k, none⟩) (by show w.heap.size + 1 < _; omega)).trans (C1.out k (by omega))
      have hc := (hbr.cell (p := ⟨w.heap.size, k, none⟩) (by show w.heap.size < _; omega)).trans (C0.out k (by omega))
      have hd := (hbr.cell (p := ⟨w.heap.size, i, none⟩) (by show w.heap.size < _; omega)).trans (C0.out i hi)
      have hiI : (i : Int) < 4 := by omega
      have hkI : (k : Int) < 4 := by omega
      have hk4 : k < 4 := by omega
      obtain ⟨va, hva⟩ : ∃ v, v = q.getD i 0 := ⟨_, rfl⟩
      obtain ⟨vb, hvb⟩ : ∃ v, v = q.getD k 0 := ⟨_, rfl⟩
      obtain ⟨vc, hvc⟩ : ∃ v, v = p.getD k 0 := ⟨_, rfl⟩
      obtain ⟨vd, hvd⟩ : ∃ v, v = p.getD i 0 := ⟨_, rfl⟩
      rw [← hva] at ha
      rw [← hvb] at hb
      rw [← hvc] at hc
      rw [← hvd] at hd
      have CL : Hid (clashB p q i k = ((va == vb) || (va == vc && vb == vd))) := by unfold Hid clashB; rw [hva, hvb, hvc, hvd]
      clear hva hvb hvc hvd hmiss hbr hz
      by_cases e2 : va = vc
      · have e2' : (((va : Nat) : Int) == ((vc : Nat) : Int)) = true := by simp [e2]
        by_cases e1 : va = vb
        · have e1' : (((va : Nat) : Int) == ((vb : Nat) : Int)) = true := by simp [e1]
          have RES : Hid (fitB p q i = false) := fit_hit hlt (by rw [CL.out]; simp [e1])
          have HW : Hid (Below w.heap.size w wr) := B0.out.trans (HB.out.mono (by have := HZ.out; omega))
          clear e1 e2
          go_wp2_with fail
          go_quiet (fail)
          go_wp2_with fail
          go_quiet (fail)
          go_wp2
          go_ret
          exact ⟨ret_bool RES.out.symm, below_drewN HW.out _⟩
        · have e1' : (((va : Nat) : Int) == ((vb : Nat) : Int)) = false := by simp; omega
          by_cases e3 : vb = vd
          · have e3' : (((vb : Nat) : Int) == ((vd : Nat) : Int)) = true := by simp [e3]
            have RES : Hid (fitB p q i = false) := fit_hit hlt (by rw [CL.out]; simp [e2, e3])
            have HW : Hid (Below w.heap.size w wr) := B0.out.trans (HB.out.mono (by have := HZ.out; omega))
            clear e1 e2 e3
            go_wp2_with fail
            go_quiet (fail)
            go_wp2_with fail
            go_quiet (fail)
            go_wp2
            go_ret
            exact ⟨ret_bool RES.out.symm, below_drewN HW.out _⟩
          · have e3' : (((vb : Nat) : Int) == ((vd : Nat) : Int)) = false := by simp; omega
            have RES : Hid (clashB p q i k = false) := by unfold Hid; rw [CL.out]; simp [e1, e3]
            clear e1 e2 e3
            go_wp2_with fail
            go_quiet (fail)
            go_wp2_with fail
            go_quiet (fail)
            go_wp2
            go_roundw
            case rel => exact ⟨k + 1, by omega, by go_num, upto_step RES.out HM.out, below_drewN HB.out _⟩
            case measure => simp [intOf]; omega
      · have e2' : (((va : Nat) : Int) == ((vc : Nat) : Int)) = false := by simp; omega
        by_cases e1 : va = vb
        · have e1' : (((va : Nat) : Int) == ((vb : Nat) : Int)) = true := by simp [e1]
          have RES : Hid (fitB p q i = false) := fit_hit hlt (by rw [CL.out]; simp [e1])
          have HW : Hid (Below w.heap.size w wr) := B0.out.trans (HB.out.mono (by have := HZ.out; omega))
          clear e1 e2
          go_wp2_with fail
          go_quiet (fail)
          go_wp2_with fail
          go_quiet (fail)
          go_wp2
          go_ret
          exact ⟨ret_bool RES.out.symm, below_drewN HW.out _⟩
        · have e1' : (((va : Nat) : Int) == ((vb : Nat) : Int)) = false := by simp; omega
          have RES : Hid (clashB p q i k = false) := by unfold Hid; rw [CL.out]; simp [e1, e2]
          clear e1 e2
          go_wp2_with fail
          go_quiet (fail)
          go_wp2_with fail
          go_quiet (fail)
          go_wp2
          go_roundw
          case rel => exact ⟨k + 1, by omega, by go_num, upto_step RES.out HM.out, below_drewN HB.out _⟩
          case measure => simp [intOf]; omega
    · have RES : Hid (fitB p q i = true) := fit_miss fun j hj => HM.out j (by omega)
      have HW : Hid (Below w.heap.size w wr) := B0.out.trans (HB.out.mono (by have := HZ.out; omega))
      clear hmiss hbr
      go_wp2
      go_ret
      exact ⟨ret_bool RES.out.symm, HW.out⟩

/-- The cells that a list of carts names. -/
def cellsOf (f : Nat → Int) (m : Nat) : List Nat := (List.range m).map fun k => (f k).toNat

theorem cellsOf_len (f : Nat → Int) (m : Nat) : (cellsOf f m).length = m := by simp [cellsOf]

theorem cellsOf_at {f : Nat → Int} {m k : Nat} (h : k < m) : (cellsOf f m).getD k 0 = (f k).toNat := by
  unfold cellsOf
  rw [List.getD_eq_getElem?_getD, List.getElem?_map, List.getElem?_range h]; rfl

theorem cellsOf_out {f : Nat → Int} {m k : Nat} (h : ¬ k < m) : (cellsOf f m).getD k 0 = 0 := by
  rw [List.getD_eq_getElem?_getD, List.getElem?_eq_none (by rw [cellsOf_len]; omega)]; rfl

theorem u8_wrap {x : Int} (h0 : 0 ≤ x) (h1 : x < 256) : IntKind.u8.wrap x = x := by
  simp [IntKind.wrap, IntKind.signed, IntKind.bits]; omega

end Go.Proofs.YtnkgpinadgacgabDoor
