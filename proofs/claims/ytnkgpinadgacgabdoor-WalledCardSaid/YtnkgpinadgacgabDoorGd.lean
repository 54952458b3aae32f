/- Walk of pathOf: the cells of one cart along a way until it comes to stay. -/
import Derived.Test.YtnkgpinadgacgabDoorGc
import Derived.Test.YtnkgpinadgacgabDoorDz
import Derived.Test.YtnkgpinadgacgabDoorDk
import Derived.Test.YtnkgpinadgacgabDoorBi
import Derived.Laws.AppendOwnNone
import Derived.Deep.RegionHeld3
import Derived.Deep.DeepCutAuto
import Derived.Deep.QuietTactic
import Derived.BigQuiet
import Derived.Test.YtnkgpinadgacgabDoorDb
namespace Go.Proofs.YtnkgpinadgacgabDoor
open Go.RowKit M
theorem map_range_snoc (f : Nat → Nat) (k : Nat) : (List.range (k + 1)).map f = (List.range k).map f ++ [f k] := by
  rw [List.range_succ, List.map_append]; rfl

set_option maxRecDepth 100000 in
set_option maxHeartbeats 2000000 in
theorem pathOf_any (gw n cw cart : Nat) (p : Nat → Nat → Nat) (u : Nat → Nat → Bool) (w : World) (hn : n ≤ 10000000) (hcart : cart < 4)
    (hp : ∀ i j, i < n → j < 4 → w.cell? ⟨gw, i * 8 + j, none⟩ = some (.int .u8 (p i j : Nat))) (hu : ∀ i j, i < n → j < 4 → w.cell? ⟨gw, i * 8 + 4 + j, none⟩ = some (.bool (u i j))) (h255 : ∀ i, i < n → p i cart ≤ 255) :
    Calls Tryd.prog 85 #[.int .i64 cart, .slice (some ⟨gw, 0, none⟩) n cw] w fun e w' =>
      ∃ k v, e = .returned v ∧ k ≤ n ∧ OwnN w' w.heap.size v ((List.range k).map fun i => p i cart) ∧ (∀ j, j + 1 < k → u j cart = true) ∧ (k = n ∨ (0 < k ∧ u (k - 1) cart = false)) ∧ Below w.heap.size w w' := by
  have HP := Hid.mk hp
  have HU := Hid.mk hu
  have H2 := Hid.mk h255
  clear hp hu h255
  go_enter Tryd.func85, Tryd.ntmps85
  go_wp2
  go_loopw [5, 7, 10] (fun v5 _ v10 wr => ∃ (k : Nat) (V : Value), V = v5 ∧ v10 = .int .i64 k ∧ k ≤ n ∧ OwnN wr w.heap.size V ((List.range k).map fun i => p i cart) ∧ (∀ j, j < k → u j cart = true) ∧ Below w.heap.size w wr) (fun _ _ v10 _ => n - (intOf v10).toNat)
  case atStart => exact ⟨0, _, rfl, rfl, Nat.zero_le _, OwnN.nil _ _, fun j hj => absurd hj (Nat.not_lt_zero j), Below.refl _ _⟩
  case round =>
    obtain ⟨k, V, rfl, rfl, hk, hown, hall, hb⟩ := hrel
    obtain ⟨wo, rfl⟩ : ∃ x, x = wr := ⟨_, rfl⟩
    have OWN := Hid.mk hown
    have ALL := Hid.mk hall
    have HB := Hid.mk hb
    have hz := hb.size
    clear hown hall hb
    by_cases hlt : k < n
    · have hkI : (k : Int) < (n : Int) := by omega
      have c0 := cell_later HB.out (HP.out k 0 hlt (by omega))
      have c1 := cell_later HB.out (HP.out k 1 hlt (by omega))
      have c2 := cell_later HB.out (HP.out k 2 hlt (by omega))
      have c3 := cell_later HB.out (HP.out k 3 hlt (by omega))
      have c4 := cell_later HB.out (HU.out k 0 hlt (by omega))
      have c5 := cell_later HB.out (HU.out k 1 hlt (by omega))
      have c6 := cell_later HB.out (HU.out k 2 hlt (by omega))
      have c7 := cell_later HB.out (HU.out k 3 hlt (by omega))
      simp only [Nat.add_zero, Nat.add_assoc, Nat.reduceAdd] at c0 c1 c2 c3 c4 c5 c6 c7
      have X0 : Hid (∀ j, j < 4 → (wo.alloc (Obj.cells #[Value.int .u8 (p k 0 : Nat), .int .u8 (p k 1 : Nat), .int .u8 (p k 2 : Nat), .int .u8 (p k 3 : Nat), .bool (u k 0), .bool (u k 1), .bool (u k 2), .bool (u k 3)] 108)).cell? ⟨wo.heap.size, j, none⟩ = some (.int .u8 (p k j : Nat))) := by
        intro j hj
        match j, hj with
        | 0, _ => go_simp
        | 1, _ => go_simp
        | 2, _ => go_simp
        | 3, _ => go_simp
      have X1 : Hid (∀ j, j < 4 → (wo.alloc (Obj.cells #[Value.int .u8 (p k 0 : Nat), .int .u8 (p k 1 : Nat), .int .u8 (p k 2 : Nat), .int .u8 (p k 3 : Nat), .bool (u k 0), .bool (u k 1), .bool (u k 2), .bool (u k 3)] 108)).cell? ⟨wo.heap.size, 4 + j, none⟩ = some (.bool (u k j))) := by
        intro j hj
        match j, hj with
        | 0, _ => go_simp
        | 1, _ => go_simp
        | 2, _ => go_simp
        | 3, _ => go_simp
      have BA : Hid (Below wo.heap.size wo (wo.alloc (Obj.cells #[Value.int .u8 (p k 0 : Nat), .int .u8 (p k 1 : Nat), .int .u8 (p k 2 : Nat), .int .u8 (p k 3 : Nat), .bool (u k 0), .bool (u k 1), .bool (u k 2), .bool (u k 3)] 108))) := (Below.refl _ _).alloc (Nat.le_refl _) _
      have hza : (wo.alloc (Obj.cells #[Value.int .u8 (p k 0 : Nat), .int .u8 (p k 1 : Nat), .int .u8 (p k 2 : Nat), .int .u8 (p k 3 : Nat), .bool (u k 0), .bool (u k 1), .bool (u k 2), .bool (u k 3)] 108)).heap.size = wo.heap.size + 1 := by simp
      go_upto_region 5 with fail
      generalize (wo.alloc (Obj.cells #[Value.int .u8 (p k 0 : Nat), .int .u8 (p k 1 : Nat), .int .u8 (p k 2 : Nat), .int .u8 (p k 3 : Nat), .bool (u k 0), .bool (u k 1), .bool (u k 2), .bool (u k 3)] 108)) = wa at *
      have d0 := X0.out cart hcart
      have d1 := X1.out cart hcart
      have hcI : (cart : Int) < 4 := by omega
      have h25 := H2.out k hlt
      have OWA : Hid (OwnN wa w.heap.size V ((List.range k).map fun i => p i cart)) := OWN.out.below BA.out
      obtain ⟨x, hx⟩ : ∃ x, x = p k cart := ⟨_, rfl⟩
      obtain ⟨ub, hub⟩ : ∃ ub, ub = u k cart := ⟨_, rfl⟩
      rw [← hx] at d0 h25
      rw [← hub] at d1
      have HXE := Hid.mk hx
      have HUB := Hid.mk hub
      have hbs : w.heap.size ≤ wa.heap.size := by omega
      have HBS := Hid.mk hbs
      have LL : Hid (((List.range k).map fun i => p i cart).length ≤ 100000000) := by unfold Hid; simp; omega
      have hVl : ∀ g, V.ownBlock = some g → g < wo.heap.size := fun g hg => (OWN.out.lt g hg).2
      have HVL := Hid.mk hVl
      clear c0 c1 c2 c3 c4 c5 c6 c7 hx hub hVl
      go_upto_region 6 with (at_builtin; go_must (refine wpList_pushN rfl _ _ rfl w.heap.size V ((List.range k).map fun i => p i cart) x rfl OWA.out HBS.out _ (by rw [hza]; exact rfl) LL.out ?_; intro g5 c5 w5 ho5 hon5 hat5; have d2 := (hon5.cell (p := ⟨wo.heap.size, 4 + cart, none⟩) (by show wo.heap.size < _; omega) (fun e => by have h9 : wo.heap.size < wo.heap.size := HVL.out _ e; omega)).trans d1; have e9 : (((List.range k).map fun i => p i cart) ++ [x]).length = k + 1 := (by simp); rw [e9] at ho5; rw [e9]; have HO5 := Hid.mk ho5; have HON5 := Hid.mk hon5; clear ho5 hon5 hat5 e9))
      all_goals
        have LST : Hid (OwnN w5 w.heap.size (.slice (some ⟨g5, 0, none⟩) (k + 1) c5) ((List.range (k + 1)).map fun i => p i cart)) := by unfold Hid; rw [map_range_snoc, ← HXE.out]; exact HO5.out
        have BW : Hid (Below w.heap.size w w5) := HB.out.trans ((BA.out.mono hz).trans (HON5.out.below hbs (fun i e => (OWN.out.lt i e).1)))
        cases ub
        · go_wp2
          go_ret
          exact ⟨k + 1, _, rfl, by omega, LST.out, fun j hj => ALL.out j (by omega), .inr ⟨by omega, by simpa using HUB.out.symm⟩, BW.out⟩
        · go_wp2
          go_roundw
          case rel => exact ⟨k + 1, _, rfl, by go_num, by omega, LST.out, fun j hj => by
            by_cases e : j = k
            · subst e; exact HUB.out.symm
            · exact ALL.out j (by omega), BW.out⟩
          case measure => simp [intOf]; omega
    · have hd : k = n := by omega
      subst hd
      go_wp2
      go_ret
      exact ⟨k, _, rfl, Nat.le_refl _, OWN.out, fun j hj => ALL.out j (by omega), .inl rfl, HB.out⟩

end Go.Proofs.YtnkgpinadgacgabDoor
