/- Walks of in, within and linked: what Lanes asks of layers. -/
import Derived.Test.YtnkgpinadgacgaaDoorEt
import Derived.Test.YtnkgpinadgacgaaDoorEw
import Derived.Test.YtnkgpinadgacgaaDoorBf
import Derived.Deep.DeepCutAuto
namespace Go.Proofs.YtnkgpinadgacgaaDoor
open Go.RowKit M

set_option maxRecDepth 100000 in
set_option maxHeartbeats 1000000 in
theorem in_q (v : Value) (L : List Nat) (x : Nat) (w : World) (hL : L.length ≤ 1000) (h : RowQ w v L) (hx : x ∈ L) :
    Calls Tryd.prog 107 #[v, .int .i64 x] w fun e w' => e = .returned (.bool true) ∧ w' = w := by
  obtain ⟨a1, c1, rfl, k1⟩ := h.form
  have K1 := Hid.mk k1
  have HX : Hid (∃ j, j < L.length ∧ L.getD j 0 = x) := by
    obtain ⟨j, hj, e⟩ := List.mem_iff_getElem.1 hx
    exact ⟨j, hj, by rw [List.getD_eq_getElem?_getD, List.getElem?_eq_getElem hj]; exact e⟩
  clear h k1 hx
  obtain ⟨N, hN⟩ : ∃ N, N = L.length := ⟨_, rfl⟩
  rw [← hN] at K1 HX hL ⊢
  clear hN
  go_enter Tryd.func107, Tryd.ntmps107
  go_wp2
  go_loopw [5] (fun s wr => ∃ k : Nat, k ≤ N ∧ s = .int .i64 k ∧ (∀ j, j < k → L.getD j 0 ≠ x) ∧ w = wr) (fun s _ => N - (intOf s).toNat)
  case atStart => exact ⟨0, Nat.zero_le _, rfl, fun j hj => absurd hj (Nat.not_lt_zero j), rfl⟩
  case round =>
    obtain ⟨k, hk, rfl, hno, rfl⟩ := hrel
    have NO := Hid.mk hno
    clear hno
    by_cases hlt : k < N
    · obtain ⟨b1, rfl, e1⟩ := K1.out (by omega)
      have d1 := e1 k hlt
      have hkI : (k : Int) < (N : Int) := by omega
      obtain ⟨y, hy⟩ : ∃ y, y = L.getD k 0 := ⟨_, rfl⟩
      rw [← hy] at d1
      have HY := Hid.mk hy
      clear e1 hy
      by_cases e : y = x
      · have hb : ((y : Int) == (x : Int)) = true := by simp [e]
        go_wp2
        go_ret
        exact ⟨rfl, rfl⟩
      · have hb : ((y : Int) == (x : Int)) = false := by simp; omega
        have E := Hid.mk e
        clear e
        go_wp2
        go_roundw
        case rel => exact ⟨k + 1, by omega, by go_num, fun j hj => by
          by_cases e : j = k
          · subst e; rw [← HY.out]; exact E.out
          · exact NO.out j (by omega), (by first | rfl | trivial)⟩
        case measure => simp [intOf]; omega
    · exfalso
      obtain ⟨j, hj, e⟩ := HX.out
      exact NO.out j (by omega) e

set_option maxRecDepth 100000 in
set_option maxHeartbeats 1000000 in
theorem within_q (v1 v2 : Value) (Ls : List (List Nat)) (P : List Nat) (w : World) (hK : Ls.length ≤ 1000) (hl : P.length = Ls.length) (hL : ∀ t, t < Ls.length → (Ls.getD t []).length ≤ 1000) (hin : ∀ t, t < Ls.length → P.getD t 0 ∈ Ls.getD t []) (h1 : PlanQ w v1 Ls) (h2 : RowQ w v2 P) :
    Calls Tryd.prog 58 #[v1, v2] w fun e w' => e = .returned (.bool true) ∧ Below w.heap.size w w' := by
  obtain ⟨a1, c1, rfl, k1⟩ := h1
  obtain ⟨a2, c2, rfl, k2⟩ := h2.form
  have K1 := Hid.mk k1
  have K2 := Hid.mk k2
  have HL := Hid.mk hL
  have HI := Hid.mk hin
  clear hL k1 k2 hin h2
  obtain ⟨N, hN⟩ : ∃ N, N = Ls.length := ⟨_, rfl⟩
  rw [hl] at K2 ⊢
  rw [← hN] at K1 K2 HL HI hK ⊢
  clear hN hl
  go_enter Tryd.func58, Tryd.ntmps58
  go_wp2
  go_loopw [5, 6] (fun s _ wr => ∃ k : Nat, k ≤ N ∧ s = .int .i64 k ∧ Below w.heap.size w wr) (fun s _ _ => N - (intOf s).toNat)
  case atStart => exact ⟨0, Nat.zero_le _, rfl, Below.refl _ _⟩
  case round =>
    obtain ⟨k, hk, rfl, hbr⟩ := hrel
    have HB := Hid.mk hbr
    by_cases hlt : k < N
    · obtain ⟨b1, rfl, e1⟩ := K1.out (by omega)
      obtain ⟨b2, rfl, e2⟩ := K2.out (by omega)
      obtain ⟨s1, c1', q1⟩ := e1 k hlt
      have d1 := cell_later HB.out c1'
      have d2 := cell_later HB.out (e2 k hlt)
      have Q1 := Hid.mk (q1.below HB.out)
      have hkI : (k : Int) < (N : Int) := by omega
      obtain ⟨y, hy⟩ : ∃ y, y = P.getD k 0 := ⟨_, rfl⟩
      rw [← hy] at d2
      have MEM : Hid (y ∈ Ls.getD k []) := by unfold Hid; rw [hy]; exact HI.out k hlt
      have SI : Hid (∀ n, Calls Tryd.prog 107 #[s1, .int .i64 y] (wr.drewN n) fun e w' => e = .returned (.bool true) ∧ w' = wr.drewN n) := fun n => in_q s1 _ y _ (HL.out k hlt) (Q1.out.drewN n) MEM.out
      clear e1 e2 q1 c1' hbr hy
      go_wp2_with fail
      go_quiet ((go_at_call 107; exact Calls.quiet_of_same (SI.out _)))
      go_wp2
      go_roundw
      case rel => exact ⟨k + 1, by omega, by go_num, below_drewN HB.out _⟩
      case measure => simp [intOf]; omega
    · clear hbr
      go_wp2
      go_ret
      exact ⟨rfl, HB.out⟩

/-- Lists of numbers, none empty, where they lie. -/
structure Grid (w : World) (g K : Nat) (B nn C : Nat → Nat) (X : Nat → Nat → Nat) : Prop where
  row : ∀ t, t < K → w.cell? ⟨g, t, none⟩ = some (.slice (some ⟨B t, 0, none⟩) (nn t) (C t))
  cell : ∀ t i, t < K → i < nn t → w.cell? ⟨B t, i, none⟩ = some (.int .i64 (X t i : Nat))

theorem Grid.below {w w' : World} {g K : Nat} {B nn C : Nat → Nat} {X : Nat → Nat → Nat} (h : Grid w g K B nn C X) (hb : Below w.heap.size w w') : Grid w' g K B nn C X :=
  ⟨fun t ht => cell_later hb (h.row t ht), fun t i ht hi => cell_later hb (h.cell t i ht hi)⟩

end Go.Proofs.YtnkgpinadgacgaaDoor
