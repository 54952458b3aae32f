/- Walks of ahead (which of two leads comes out first) and of rest (what is still to be paid at the least). -/
import Derived.Test.YtnkgpinadgacgabDoorGa
import Derived.Test.YtnkgpinadgacgabDoorDd
namespace Go.Proofs.YtnkgpinadgacgabDoor
open Go.RowKit M
/-- Of two leads the one that may come to less; of two that may come to the same the one that cost more. -/
def aheadB (ac aw bc bw : Int) : Bool := decide (aw < bw) || (aw == bw && decide (bc < ac))

set_option maxRecDepth 100000 in
theorem jahead_any (x0 x1 x2 x3 x4 x5 x6 x7 y0 y1 y2 y3 y4 y5 y6 y7 : Value) (ac aw bc bw : Int) (w : World) :
    Calls Tryd.prog 80 #[.agg #[x0, x1, x2, x3, x4, x5, x6, x7, .int .i64 ac, .int .i64 aw], .agg #[y0, y1, y2, y3, y4, y5, y6, y7, .int .i64 bc, .int .i64 bw]] w fun e w' =>
      e = .returned (.bool (aheadB ac aw bc bw)) ∧ Below w.heap.size w w' := by
  have B0 : Hid (∀ o p, Below w.heap.size w ((w.alloc o).alloc p)) := fun o p => ((Below.refl _ w).alloc (Nat.le_refl _) o).alloc (by simp) p
  go_enter Tryd.func80, Tryd.ntmps80
  by_cases h1 : aw < bw
  · have d1 : decide (aw < bw) = true := by simp [h1]
    have R : Hid (aheadB ac aw bc bw = true) := by unfold Hid aheadB; simp [h1]
    go_wp2
    go_ret
    exact ⟨ret_bool R.out.symm, B0.out _ _⟩
  · have d1 : decide (aw < bw) = false := by simp; omega
    by_cases h2 : aw = bw
    · have d2 : (aw == bw) = true := by simp [h2]
      by_cases h3 : bc < ac
      · have d3 : decide (bc < ac) = true := by simp [h3]
        have R : Hid (aheadB ac aw bc bw = true) := by unfold Hid aheadB; simp [h2, h3]
        clear h2
        go_wp2
        go_ret
        exact ⟨ret_bool R.out.symm, B0.out _ _⟩
      · have d3 : decide (bc < ac) = false := by simp; omega
        have R : Hid (aheadB ac aw bc bw = false) := by unfold Hid aheadB; simp [h2]; omega
        clear h2
        go_wp2
        go_ret
        exact ⟨ret_bool R.out.symm, B0.out _ _⟩
    · have d2 : (aw == bw) = false := by simp [h2]
      have R : Hid (aheadB ac aw bc bw = false) := by unfold Hid aheadB; simp [h1, h2]
      go_wp2
      go_ret
      exact ⟨ret_bool R.out.symm, B0.out _ _⟩

def sumTo (f : Nat → Int) : Nat → Int
  | 0 => 0
  | n + 1 => sumTo f n + f n

theorem sumTo_bd {f : Nat → Int} : ∀ {n : Nat}, (∀ i, i < n → 0 ≤ f i ∧ f i ≤ 36) → 0 ≤ sumTo f n ∧ sumTo f n ≤ 36 * n
  | 0, _ => by simp [sumTo]
  | n + 1, h => by
    have h1 := sumTo_bd (n := n) (fun i hi => h i (by omega))
    have h2 := h n (by omega)
    show 0 ≤ sumTo f n + f n ∧ sumTo f n + f n ≤ _
    omega

set_option maxRecDepth 100000 in
set_option maxHeartbeats 1000000 in
theorem rest_any (S gf cf K N : Nat) (H c : Nat → Nat) (st : Nat → Nat → Int) (pf : Nat → Nat) (w : World) (hK : K ≤ 4) (hN : N ≤ 36) (hf : w.cell? ⟨S, 2, none⟩ = some (.slice (some ⟨gf, 0, none⟩) K cf)) (hr : ∀ t, t < K → w.cell? ⟨gf, t, none⟩ = some (.slice (some ⟨H t, 0, none⟩) N (c t)))
    (hc : ∀ t i, t < K → i < N → w.cell? ⟨H t, i, none⟩ = some (.int .i64 (st t i))) (hq : ∀ t, t < K → pf t < N) (hb : ∀ t, t < K → 0 ≤ st t (pf t) ∧ st t (pf t) ≤ 36) :
    Calls Tryd.prog 82 #[.pointer (some ⟨S, 0, none⟩), .agg #[.int .u8 (pf 0 : Nat), .int .u8 (pf 1 : Nat), .int .u8 (pf 2 : Nat), .int .u8 (pf 3 : Nat)]] w fun e w' =>
      e = .returned (.int .i64 (sumTo (fun t => st t (pf t)) K)) ∧ Below w.heap.size w w' := by
  have HR := Hid.mk hr
  have HC := Hid.mk hc
  have HQ := Hid.mk hq
  have HBD := Hid.mk hb
  have hSl := World.block_lt_of_cell? (a := ⟨S, 2, none⟩) _ hf
  clear hr hc hq hb
  go_enter Tryd.func82, Tryd.ntmps82
  have P0 : Hid (∀ k, k < 4 → (w.alloc (Obj.cells #[Value.int .u8 (pf 0 : Nat), .int .u8 (pf 1 : Nat), .int .u8 (pf 2 : Nat), .int .u8 (pf 3 : Nat)] 102)).cell? ⟨w.heap.size, k, none⟩ = some (.int .u8 (pf k : Nat))) := by
    intro k hk
    match k, hk with
    | 0, _ => go_simp
    | 1, _ => go_simp
    | 2, _ => go_simp
    | 3, _ => go_simp
  have B0 : Hid (Below w.heap.size w (w.alloc (Obj.cells #[Value.int .u8 (pf 0 : Nat), .int .u8 (pf 1 : Nat), .int .u8 (pf 2 : Nat), .int .u8 (pf 3 : Nat)] 102))) := (Below.refl _ _).alloc (Nat.le_refl _) _
  go_wp2
  generalize (w.alloc (Obj.cells #[Value.int .u8 (pf 0 : Nat), .int .u8 (pf 1 : Nat), .int .u8 (pf 2 : Nat), .int .u8 (pf 3 : Nat)] 102)) = w1 at *
  go_loopw [5, 6, 7, 13] (fun v5 _ _ v13 wr => ∃ k : Nat, v13 = .int .i64 k ∧ k ≤ K ∧ v5 = .int .i64 (sumTo (fun t => st t (pf t)) k) ∧ w1 = wr) (fun _ _ _ v13 _ => K - (intOf v13).toNat)
  case atStart => exact ⟨0, rfl, Nat.zero_le _, rfl, rfl⟩
  case round =>
    obtain ⟨k, rfl, hk, rfl, rfl⟩ := hrel
    have bd := sumTo_bd (f := fun t => st t (pf t)) (n := k) (fun i hi => HBD.out i (by omega))
    by_cases hlt : k < K
    · have hkI : (k : Int) < (K : Int) := by omega
      have hk4 : (k : Int) < 4 := by omega
      have d0 := cell_later B0.out (HR.out k hlt)
      have d1 := P0.out k (by omega)
      have d2 := cell_later B0.out (HC.out k (pf k) hlt (HQ.out k hlt))
      have hqN := HQ.out k hlt
      have bk := HBD.out k hlt
      have NX : Hid (sumTo (fun t => st t (pf t)) k + st k (pf k) = sumTo (fun t => st t (pf t)) (k + 1)) := rfl
      obtain ⟨z, hz⟩ : ∃ z, z = pf k := ⟨_, rfl⟩
      rw [← hz] at d1 d2 hqN bk NX
      obtain ⟨sm, hsm⟩ : ∃ sm, sm = sumTo (fun t => st t (pf t)) k := ⟨_, rfl⟩
      rw [← hsm] at bd NX ⊢
      have hzI : (z : Int) < (N : Int) := by omega
      have hz36 : (z : Int) < 256 := by omega
      clear hz hsm
      go_wp2
      go_roundw
      case rel => exact ⟨k + 1, by go_num, by omega, by rw [← NX.out], by first | rfl | trivial⟩
      case measure => simp [intOf]; omega
    · have hd : k = K := by omega
      subst hd
      go_wp2
      go_ret
      exact ⟨rfl, B0.out⟩

end Go.Proofs.YtnkgpinadgacgabDoor
