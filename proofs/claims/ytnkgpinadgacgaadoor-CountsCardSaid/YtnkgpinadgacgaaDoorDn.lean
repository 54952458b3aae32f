/- Walk of the document's apart: does a cart neither meet nor swap with one ahead of it? -/
import Derived.Test.YtnkgpinadgacgaaDoorDm
import Derived.Deep.QuietTactic
import Derived.BigQuiet
namespace Go.Proofs.YtnkgpinadgacgaaDoor
open Go.RowKit M

set_option maxRecDepth 100000 in
set_option maxHeartbeats 4000000 in
theorem rapart_any (p q : List Nat) (bp op np cp bq oq nq cq k : Nat) (w : World) (hk1 : k < np) (hk2 : k < nq) (hk : k < 4)
    (hp : ∀ j, j < np → w.cell? ⟨bp, op + j, none⟩ = some (.int .i64 (p.getD j 0 : Nat))) (hq : ∀ j, j < nq → w.cell? ⟨bq, oq + j, none⟩ = some (.int .i64 (q.getD j 0 : Nat))) :
    Calls Tryd.prog 133 #[.slice (some ⟨bp, op, none⟩) np cp, .slice (some ⟨bq, oq, none⟩) nq cq, .int .i64 k] w fun e w' => e = .returned (.bool (fitB p q k)) ∧ Below w.heap.size w w' := by
  have HP := Hid.mk hp
  have HQ := Hid.mk hq
  clear hp hq
  go_enter Tryd.func133, Tryd.ntmps133
  go_wp2
  go_loopw [7] (fun v7 wr => ∃ o : Nat, o ≤ k ∧ v7 = .int .i64 o ∧ (∀ j, j < o → clashB p q k j = false) ∧ Below w.heap.size w wr) (fun v7 _ => k - (intOf v7).toNat)
  case atStart => exact ⟨0, Nat.zero_le _, rfl, fun j hj => absurd hj (Nat.not_lt_zero j), Below.refl _ _⟩
  case round =>
    obtain ⟨o, ho, rfl, hmiss, hbr⟩ := hrel
    have HM := Hid.mk hmiss
    have HB := Hid.mk hbr
    by_cases hlt : o < k
    · have ha := cell_later hbr (HQ.out k hk2)
      have hb := cell_later hbr (HQ.out o (by omega))
      have hc := cell_later hbr (HP.out o (by omega))
      have hd := cell_later hbr (HP.out k hk1)
      have i1 : (o : Int) < (np : Int) := by omega
      have i2 : (o : Int) < (nq : Int) := by omega
      have i3 : (k : Int) < (np : Int) := by omega
      have i4 : (k : Int) < (nq : Int) := by omega
      have j1 : o < np := by omega
      have j2 : o < nq := by omega
      obtain ⟨va, hva⟩ : ∃ v, v = q.getD k 0 := ⟨_, rfl⟩
      obtain ⟨vb, hvb⟩ : ∃ v, v = q.getD o 0 := ⟨_, rfl⟩
      obtain ⟨vc, hvc⟩ : ∃ v, v = p.getD o 0 := ⟨_, rfl⟩
      obtain ⟨vd, hvd⟩ : ∃ v, v = p.getD k 0 := ⟨_, rfl⟩
      rw [← hva] at ha
      rw [← hvb] at hb
      rw [← hvc] at hc
      rw [← hvd] at hd
      have CL : Hid (clashB p q k o = ((va == vb) || (va == vc && vb == vd))) := by unfold Hid clashB; rw [hva, hvb, hvc, hvd]
      clear hva hvb hvc hvd hmiss hbr
      by_cases e1 : vb = va
      · have e1' : (((vb : Nat) : Int) == ((va : Nat) : Int)) = true := by simp [e1]
        have RES : Hid (fitB p q k = false) := fit_hit hlt (by rw [CL.out]; simp [e1])
        clear e1
        go_wp2_with fail
        go_quiet (fail)
        go_wp2
        go_ret
        exact ⟨ret_bool RES.out.symm, below_drewN HB.out _⟩
      · have e1' : (((vb : Nat) : Int) == ((va : Nat) : Int)) = false := by simp; omega
        have e1n : ¬ va = vb := fun h => e1 h.symm
        by_cases e3 : vb = vd
        · have e3' : (((vb : Nat) : Int) == ((vd : Nat) : Int)) = true := by simp [e3]
          by_cases e2 : va = vc
          · have e2' : (((va : Nat) : Int) == ((vc : Nat) : Int)) = true := by simp [e2]
            have RES : Hid (fitB p q k = false) := fit_hit hlt (by rw [CL.out]; simp [e2, e3])
            clear e1 e1n e2 e3
            go_wp2_with fail
            go_quiet (fail)
            go_wp2
            go_ret
            exact ⟨ret_bool RES.out.symm, below_drewN HB.out _⟩
          · have e2' : (((va : Nat) : Int) == ((vc : Nat) : Int)) = false := by simp; omega
            have RES : Hid (clashB p q k o = false) := by unfold Hid; rw [CL.out]; simp [e1n, e2]
            clear e1 e1n e2 e3
            go_wp2_with fail
            go_quiet (fail)
            go_wp2
            go_roundw
            case rel => exact ⟨o + 1, by omega, by go_num, upto_step RES.out HM.out, below_drewN HB.out _⟩
            case measure => simp [intOf]; omega
        · have e3' : (((vb : Nat) : Int) == ((vd : Nat) : Int)) = false := by simp; omega
          have RES : Hid (clashB p q k o = false) := by unfold Hid; rw [CL.out]; simp [e1n, e3]
          clear e1 e1n e3
          go_wp2_with fail
          go_quiet (fail)
          go_wp2
          go_roundw
          case rel => exact ⟨o + 1, by omega, by go_num, upto_step RES.out HM.out, below_drewN HB.out _⟩
          case measure => simp [intOf]; omega
    · have RES : Hid (fitB p q k = true) := fit_miss fun j hj => HM.out j (by omega)
      clear hmiss hbr
      go_wp2
      go_ret
      exact ⟨ret_bool RES.out.symm, HB.out⟩

end Go.Proofs.YtnkgpinadgacgaaDoor
