/- Walks of sameInts and of samePlans, for lists that can be read; both of nothing. -/
import Derived.Test.YtnkgpinadgacgaaDoorEs
import Derived.Deep.QuietTactic
import Derived.BigQuiet
namespace Go.Proofs.YtnkgpinadgacgaaDoor
open Go.RowKit M

theorem RowQ.drewN {w : World} {s : Value} {q : List Nat} (h : RowQ w s q) (n : Nat) : RowQ (w.drewN n) s q :=
  h.only ((Only.refl (fun _ => False) w).drewN n) (fun _ _ e => e)

set_option maxRecDepth 100000 in
set_option maxHeartbeats 1000000 in
theorem sameInts_q (v1 v2 : Value) (L : List Nat) (w : World) (hL : L.length ≤ 1000) (h1 : RowQ w v1 L) (h2 : RowQ w v2 L) :
    Calls Tryd.prog 17 #[v1, v2] w fun e w' => e = .returned (.bool true) ∧ ∃ m, w' = w.drewN m := by
  obtain ⟨a1, c1, rfl, k1⟩ := h1.form
  obtain ⟨a2, c2, rfl, k2⟩ := h2.form
  have K1 := Hid.mk k1
  have K2 := Hid.mk k2
  clear h1 h2 k1 k2
  obtain ⟨N, hN⟩ : ∃ N, N = L.length := ⟨_, rfl⟩
  rw [← hN] at K1 K2 hL ⊢
  clear hN
  go_enter Tryd.func17, Tryd.ntmps17
  go_wp2
  go_loopw [5] (fun s wr => ∃ k m : Nat, k ≤ N ∧ s = .int .i64 k ∧ wr = w.drewN m) (fun s _ => N - (intOf s).toNat)
  case atStart => exact ⟨0, 0, Nat.zero_le _, rfl, rfl⟩
  case round =>
    obtain ⟨k, m, hk, rfl, rfl⟩ := hrel
    by_cases hlt : k < N
    · obtain ⟨b1, rfl, e1⟩ := K1.out (by omega)
      obtain ⟨b2, rfl, e2⟩ := K2.out (by omega)
      have d1 := e1 k hlt
      have d2 := e2 k hlt
      have hkI : (k : Int) < (N : Int) := by omega
      clear e1 e2
      go_wp2
      go_quiet (fail)
      go_wp2
      go_roundw
      case rel => exact ⟨k + 1, _, by omega, by go_num, by first | rfl | rw [World.drewN_drewN]⟩
      case measure => simp [intOf]; omega
    · go_wp2
      go_ret
      exact ⟨rfl, m, rfl⟩

set_option maxRecDepth 100000 in
set_option maxHeartbeats 1000000 in
theorem samePlans_q (v1 v2 : Value) (Ls : List (List Nat)) (w : World) (hK : Ls.length ≤ 1000) (hL : ∀ t, t < Ls.length → (Ls.getD t []).length ≤ 1000) (h1 : PlanQ w v1 Ls) (h2 : PlanQ w v2 Ls) :
    Calls Tryd.prog 27 #[v1, v2] w fun e w' => e = .returned (.bool true) ∧ Below w.heap.size w w' := by
  obtain ⟨a1, c1, rfl, k1⟩ := h1
  obtain ⟨a2, c2, rfl, k2⟩ := h2
  have K1 := Hid.mk k1
  have K2 := Hid.mk k2
  have HL := Hid.mk hL
  clear hL k1 k2
  obtain ⟨N, hN⟩ : ∃ N, N = Ls.length := ⟨_, rfl⟩
  rw [← hN] at K1 K2 HL hK ⊢
  clear hN
  go_enter Tryd.func27, Tryd.ntmps27
  go_wp2
  go_loopw [5, 6] (fun s _ wr => ∃ k : Nat, k ≤ N ∧ s = .int .i64 k ∧ Below w.heap.size w wr) (fun s _ _ => N - (intOf s).toNat)
  case atStart => exact ⟨0, Nat.zero_le _, rfl, Below.refl _ _⟩
  case round =>
    obtain ⟨k, hk, rfl, hbr⟩ := hrel
    have HB := Hid.mk hbr
    by_cases hlt : k < N
    · obtain ⟨b1, rfl, e1⟩ := K1.out (by omega)
      obtain ⟨b2, rfl, e2⟩ := K2.out (by omega)
      obtain ⟨s1, c1', q1⟩ := e1 k hlt
      obtain ⟨s2, c2', q2⟩ := e2 k hlt
      have d1 := cell_later HB.out c1'
      have d2 := cell_later HB.out c2'
      have Q1 := Hid.mk (q1.below HB.out)
      have Q2 := Hid.mk (q2.below HB.out)
      have hkI : (k : Int) < (N : Int) := by omega
      have SI : Hid (∀ n, Calls Tryd.prog 17 #[s1, s2] (wr.drewN n) fun e w' => e = .returned (.bool true) ∧ ∃ j, w' = (wr.drewN n).drewN j) := fun n => sameInts_q s1 s2 _ _ (HL.out k hlt) (Q1.out.drewN n) (Q2.out.drewN n)
      clear e1 e2 q1 q2 c1' c2' hbr
      go_wp2_with fail
      go_quiet ((go_at_call 17; exact Calls.quiet_of (SI.out _)))
      go_wp2
      go_roundw
      case rel => exact ⟨k + 1, by omega, by go_num, below_drewN HB.out _⟩
      case measure => simp [intOf]; omega
    · clear hbr
      go_wp2
      go_ret
      exact ⟨rfl, HB.out⟩

set_option maxRecDepth 100000 in
set_option maxHeartbeats 4000000 in
theorem both_nil (w : World) : Calls Tryd.prog 28 #[.slice none 0 0, .slice none 0 0] w fun e w' => e = .returned (.bool true) ∧ Below w.heap.size w w' := by
  obtain ⟨i0, hi0, hi1, hi2, hi3⟩ := info_parts Tryd.infoSl
  have N0 : Hid (∀ u : World, u.ownsRow w.heap.size 26 1 (.slice none 0 0) 0 []) := fun u => ⟨rfl, .inl ⟨rfl, rfl⟩⟩
  have AP : Hid (∀ u : World, Calls Tryd.prog 18 #[.slice none 0 0] u fun e w' => e = .returned (.bool true) ∧ Below u.heap.size u w') := by
    intro u
    go_enter Tryd.func18, Tryd.ntmps18
    go_wp2
    go_loopw [4] (fun s wr => s = .int .i64 0 ∧ wr = u) (fun _ _ => 0)
    case atStart => exact ⟨rfl, rfl⟩
    case round =>
      obtain ⟨rfl, rfl⟩ := hrel
      go_wp2
      go_loopw [6] (fun s w9 => s = .int .i64 0 ∧ w9 = wr) (fun _ _ => 0)
      case atStart => exact ⟨rfl, rfl⟩
      case round =>
        obtain ⟨rfl, rfl⟩ := hrel
        go_wp2
        go_ret
        exact ⟨rfl, Below.refl _ _⟩
  go_enter Tryd.func28, Tryd.ntmps28
  go_wp2_with (at_builtin; go_must (refine wpList_append_own_none rfl _ _ _ rfl w.heap.size 26 i0 1 Tryd.underlying35 hi0 (.slice none 0 0) 0 [] rfl (N0.out _) rfl ?_))
  refine (AP.out _).mono ?_
  rintro e w1 ⟨rfl, hb1⟩
  have B1 := Hid.mk hb1
  have hz1 := hb1.size
  clear hb1
  go_wp2
  go_loopw [7] (fun s wr => s = .int .i64 0 ∧ wr = w1) (fun _ _ => 0)
  case atStart => exact ⟨rfl, rfl⟩
  case round =>
    obtain ⟨rfl, rfl⟩ := hrel
    have B1' := B1
    obtain ⟨u1, rfl⟩ : ∃ q, q = wr := ⟨_, rfl⟩
    have E1 : Hid (Only (fun _ => False) u1 (u1.alloc (Obj.cells #[Value.int .i64 (-101)] 3))) := (Only.refl _ _).alloc _
    have C1 : Hid ((u1.alloc (Obj.cells #[Value.int .i64 (-101)] 3)).cell? ⟨u1.heap.size, 0, none⟩ = some (.int .i64 (-101))) := by unfold Hid; go_simp
    have HZ9 : Hid ((u1.alloc (Obj.cells #[Value.int .i64 (-101)] 3)).heap.size = u1.heap.size + 1) := by unfold Hid; simp
    have HU : Hid (w.heap.size ≤ (u1.alloc (Obj.cells #[Value.int .i64 (-101)] 3)).heap.size) := by unfold Hid; rw [HZ9.out]; omega
    go_wp2_with (at_builtin; go_must (refine wpList_pushV rfl _ _ rfl w.heap.size (.slice none 0 0) 0 [] (some ⟨u1.heap.size, 0, none⟩) 1 1 rfl (N0.out _) HU.out _ (by rw [HZ9.out]; exact rfl) (Nat.zero_le _) ?_; intro gx cx w2 ho2 hon2 hat2))
    have d0 := own_cell ho2 (j := 0) (by omega)
    have d1 := (hon2.cell (p := ⟨u1.heap.size, 0, none⟩) (World.block_lt_of_cell? (a := ⟨u1.heap.size, 0, none⟩) _ C1.out) (fun e => by cases e)).trans C1.out
    have D0 : Hid (w2.cell? ⟨gx, 0, none⟩ = some (.slice (some ⟨u1.heap.size, 0, none⟩) 1 1)) := d0
    have D1 := Hid.mk d1
    have O2 : Hid (Only (fun _ => False) u1 w2) := E1.out.trans hon2 (fun i _ e => by cases e)
    have hgx := World.block_lt_of_cell? (a := ⟨gx, 0, none⟩) _ d0
    have hgy := World.block_lt_of_cell? (a := ⟨u1.heap.size, 0, none⟩) _ d1
    have hz2 := hon2.size
    rw [HZ9.out] at hz2
    clear d0 d1 ho2 hon2 hat2 E1 C1 HZ9 HU
    go_wp2
    go_loopw [9] (fun s wr => s = .int .i64 0 ∧ w2 = wr) (fun _ _ => 0)
    case atStart => exact ⟨rfl, rfl⟩
    case round =>
      obtain ⟨rfl, rfl⟩ := hrel
      have E1 : Hid (Only (fun _ => False) w2 (w2.alloc (Obj.cells #[Value.int .i64 (-102)] 3))) := (Only.refl _ _).alloc _
      have C1 : Hid ((w2.alloc (Obj.cells #[Value.int .i64 (-102)] 3)).cell? ⟨w2.heap.size, 0, none⟩ = some (.int .i64 (-102))) := by unfold Hid; go_simp
      have HZ9 : Hid ((w2.alloc (Obj.cells #[Value.int .i64 (-102)] 3)).heap.size = w2.heap.size + 1) := by unfold Hid; simp
      have HU : Hid (w.heap.size ≤ (w2.alloc (Obj.cells #[Value.int .i64 (-102)] 3)).heap.size) := by unfold Hid; rw [HZ9.out]; omega
      go_wp2_with (at_builtin; go_must (refine wpList_pushV rfl _ _ rfl w.heap.size (.slice none 0 0) 0 [] (some ⟨w2.heap.size, 0, none⟩) 1 1 rfl (N0.out _) HU.out _ (by rw [HZ9.out]; exact rfl) (Nat.zero_le _) ?_; intro gy cy w3 ho3 hon3 hat3))
      have f0 := own_cell ho3 (j := 0) (by omega)
      have f1 := (hon3.cell (p := ⟨w2.heap.size, 0, none⟩) (World.block_lt_of_cell? (a := ⟨w2.heap.size, 0, none⟩) _ C1.out) (fun e => by cases e)).trans C1.out
      have F0 : Hid (w3.cell? ⟨gy, 0, none⟩ = some (.slice (some ⟨w2.heap.size, 0, none⟩) 1 1)) := f0
      have F1 := Hid.mk f1
      have O3 : Hid (Only (fun _ => False) w2 w3) := E1.out.trans hon3 (fun i _ e => by cases e)
      have G0 : Hid (w3.cell? ⟨gx, 0, none⟩ = some (.slice (some ⟨u1.heap.size, 0, none⟩) 1 1)) := (O3.out.cell (p := ⟨gx, 0, none⟩) hgx (fun e => e)).trans D0.out
      have G1 : Hid (w3.cell? ⟨u1.heap.size, 0, none⟩ = some (.int .i64 (-101))) := (O3.out.cell (p := ⟨u1.heap.size, 0, none⟩) hgy (fun e => e)).trans D1.out
      have BB : Hid (Below w.heap.size w w3) := B1.out.trans ((O2.out.below (by omega) (fun _ e => e.elim)).trans (O3.out.below (by omega) (fun _ e => e.elim)))
      clear f0 f1 ho3 hon3 hat3 E1 C1 HZ9 HU
      go_wp2
      go_loopw [6, 11] (fun v6 vs wr => v6 = .bool true ∧ ∃ i : Nat, vs = .int .i64 i ∧ i ≤ 1 ∧ w3 = wr) (fun _ vs _ => 1 - (intOf vs).toNat)
      case atStart => exact ⟨rfl, 0, rfl, Nat.zero_le _, rfl⟩
      case round =>
        obtain ⟨rfl, j1, rfl, hj, rfl⟩ := hrel
        by_cases hlt : j1 < 1
        · have e : j1 = 0 := by omega
          subst e
          have d0 := G0.out
          have d1 := G1.out
          go_wp2
          go_roundw
          case rel => exact ⟨by first | rfl | trivial, 1, by first | go_num | rfl, by omega, by first | rfl | trivial⟩
          case measure => simp [intOf]
        · have e : j1 = 1 := by omega
          subst e
          go_wp2
          go_loopw [6, 12] (fun v6 vs wr => v6 = .bool true ∧ ∃ i : Nat, vs = .int .i64 i ∧ i ≤ 1 ∧ w3 = wr) (fun _ vs _ => 1 - (intOf vs).toNat)
          case atStart => exact ⟨rfl, 0, rfl, Nat.zero_le _, rfl⟩
          case round =>
            obtain ⟨rfl, j2, rfl, hj2, rfl⟩ := hrel
            by_cases hlt2 : j2 < 1
            · have e : j2 = 0 := by omega
              subst e
              have d0 := F0.out
              have d1 := F1.out
              go_wp2
              go_roundw
              case rel => exact ⟨by first | rfl | trivial, 1, by first | go_num | rfl, by omega, by first | rfl | trivial⟩
              case measure => simp [intOf]
            · have e : j2 = 1 := by omega
              subst e
              go_wp2
              go_ret
              exact ⟨rfl, BB.out⟩

end Go.Proofs.YtnkgpinadgacgaaDoor
