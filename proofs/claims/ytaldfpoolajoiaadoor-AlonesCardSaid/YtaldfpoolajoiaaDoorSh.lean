/- Walk of wayTo: the path back from a spot to the start. -/
import Derived.Test.YtaldfpoolajoiaaDoorRm
import Derived.Test.YtaldfpoolajoiaaDoorRi
namespace Go.Proofs.YtaldfpoolajoiaaDoor
open Go.RowKit M

def wayF (p : Nat → Nat) (k : Nat) : Nat → Value := fun i => if k ≤ i then .int .i64 (p i : Nat) else .int .i64 0

set_option maxRecDepth 100000 in
set_option maxHeartbeats 2000000 in
theorem wayTo_any (mb n N T : Nat) (f : Int → Int → Option Int) (p : Nat → Nat) (q : Int) (w : World) (hm : SpotMap w mb n f) (hN : N ≤ 36) (hT : T ≤ 1000) (hp : ∀ s, s ≤ T → p s < N) (hq : f (p 0 : Nat) 0 = some q) (hs : ∀ s, s < T → f (p (s + 1) : Nat) (s + 1 : Nat) = some (p s : Nat)) :
    Calls Tryd.prog 89 #[.agg #[.int .i64 (p T : Nat), .int .i64 T], .map (some mb)] w fun e w' =>
      ∃ g, e = .returned (.slice (some ⟨g, 0, none⟩) (T + 1) (T + 1)) ∧ w.heap.size ≤ g ∧ w'.rowIs g 3 (T + 1) (natV p) ∧ Below w.heap.size w w' := by
  have HM := Hid.mk hm
  have HP := Hid.mk hp
  have HQ := Hid.mk hq
  have HS := Hid.mk hs
  have hml := hm.lt
  clear hm hp hq hs
  have v1 : ((T + 1 : Nat) : Int) = (T : Int) + 1 := by omega
  go_enter Tryd.func89, Tryd.ntmps89
  go_wp2_with (at_make; go_must (refine wpList_make_all _ rfl _ _ 26 rfl 3 _ _ _ Tryd.underlying26 Tryd.infoInt _ _ _ _ (T + 1) rfl rfl (by omega) (by omega) (by omega) (by omega) ?_))
  have hrow0 : Hid (((w.alloc (Obj.cells #[.int .i64 (p T : Nat), .int .i64 (T : Int)] 130)).alloc (Obj.cells (madeCells #[Value.int IntKind.i64 0] (T + 1)) 3)).rowIs (w.heap.size + 1) 3 (T + 1) (wayF p (T + 1))) := by
    have h := row_zero (T + 1) (w.alloc (Obj.cells #[.int .i64 (p T : Nat), .int .i64 (T : Int)] 130)) 3 (w.heap.size + 1) (by simp)
    exact h.congr fun i hi => by unfold wayF intV fillF; rw [if_neg (by omega), if_neg (by omega)]
  have hB3 : Hid (Below w.heap.size w ((w.alloc (Obj.cells #[.int .i64 (p T : Nat), .int .i64 (T : Int)] 130)).alloc (Obj.cells (madeCells #[Value.int IntKind.i64 0] (T + 1)) 3))) := ((Below.refl _ w).alloc (Nat.le_refl _) _).alloc (by simp) _
  have HM3 := Hid.mk (HM.out.block (hB3.out.block _ hml))
  have hz3 : ((w.alloc (Obj.cells #[.int .i64 (p T : Nat), .int .i64 (T : Int)] 130)).alloc (Obj.cells (madeCells #[Value.int IntKind.i64 0] (T + 1)) 3)).heap.size = w.heap.size + 2 := by simp
  generalize (w.alloc (Obj.cells #[.int .i64 (p T : Nat), .int .i64 (T : Int)] 130)).alloc (Obj.cells (madeCells #[Value.int IntKind.i64 0] (T + 1)) 3) = w3 at *
  go_loopw [6, 7] (fun c s wr => ∃ (k : Nat) (x : Int), k ≤ T + 1 ∧ c = .int .i64 x ∧ (0 < k → x = (p (k - 1) : Nat)) ∧ s = .int .i64 ((k : Int) - 1) ∧ wr.rowIs (w.heap.size + 1) 3 (T + 1) (wayF p k) ∧ Below (w.heap.size + 1) w3 wr) (fun _ s _ => (intOf s + 1).toNat)
  case atStart => exact ⟨T + 1, _, Nat.le_refl _, rfl, fun _ => by rw [show T + 1 - 1 = T by omega], by go_num, hrow0.out, Below.refl _ _⟩
  case round =>
    obtain ⟨k, x, hk, rfl, hx, rfl, hrw, hbr⟩ := hrel
    have HR := Hid.mk hrw
    have HB := Hid.mk hbr
    have HX := Hid.mk hx
    clear hrw hbr hx
    by_cases h0 : 0 < k
    · obtain ⟨j, hj⟩ : ∃ j, k = j + 1 := ⟨k - 1, by omega⟩
      subst hj
      have e1 : (((j + 1 : Nat) : Int) - 1) = (j : Int) := by omega
      have hxj := HX.out h0
      rw [show j + 1 - 1 = j by omega] at hxj
      subst hxj
      rw [e1]
      have x1 := HR.out.cell (i := j) (by omega)
      have x3 := HR.out.frozen
      have hj1 : j < T + 1 := by omega
      have HN : SpotMap (wr.setCell ⟨w.heap.size + 1, j, none⟩ (.int .i64 (p j : Nat))) mb n f := (HM3.out.block (HB.out.block _ (by omega))).block (Below.heap_setCell _ _ _ _ (by show mb ≠ w.heap.size + 1; omega))
      have HNH := Hid.mk HN
      have hpj := HP.out j (by omega)
      have FIN : Hid ((wr.setCell ⟨w.heap.size + 1, j, none⟩ (.int .i64 (p j : Nat))).rowIs (w.heap.size + 1) 3 (T + 1) (wayF p j)) := by
        refine (HR.out.set j _).congr fun i hi => ?_
        unfold wayF
        by_cases e : i = j
        · subst e; rw [if_pos rfl, if_pos (Nat.le_refl _)]
        · rw [if_neg e]
          by_cases e2 : j + 1 ≤ i
          · rw [if_pos e2, if_pos (by omega)]
          · rw [if_neg e2, if_neg (by omega)]
      clear HN
      obtain ⟨y, hy, hy2⟩ : ∃ y : Int, f (p j : Nat) (j : Int) = some y ∧ (0 < j → y = (p (j - 1) : Nat)) := by
        by_cases ej : j = 0
        · subst ej; exact ⟨q, HQ.out, fun h => absurd h (Nat.lt_irrefl 0)⟩
        · refine ⟨(p (j - 1) : Nat), ?_, fun _ => rfl⟩
          have := HS.out (j - 1) (by omega)
          rw [show j - 1 + 1 = j by omega] at this; exact this
      have HY := Hid.mk hy
      have HY2 := Hid.mk hy2
      clear hy hy2
      go_wp2_with (at_lookup; refine wpList_get_map rfl _ _ rfl mb n f rfl HNH.out (p j : Nat) j y rfl (i64B_small (by omega) (by omega)) (i64B_small (by omega) (by omega)) HY.out ?_)
      go_roundw
      case rel => exact ⟨j, y, by omega, rfl, HY2.out, rfl, FIN.out, HB.out.setCell (by simp) _⟩
      case measure => simp [intOf]
    · have ek : k = 0 := by omega
      subst ek
      go_wp2
      go_ret
      exact ⟨w.heap.size + 1, rfl, by omega, HR.out.congr fun i _ => by unfold wayF natV; rw [if_pos (Nat.zero_le _)], hB3.out.trans (HB.out.mono (by omega))⟩

theorem wayTo_at (mb n N T c : Nat) (f : Int → Int → Option Int) (p : Nat → Nat) (q : Int) (w : World) (hc : p T = c) (hm : SpotMap w mb n f) (hN : N ≤ 36) (hT : T ≤ 1000) (hp : ∀ s, s ≤ T → p s < N) (hq : f (p 0 : Nat) 0 = some q) (hs : ∀ s, s < T → f (p (s + 1) : Nat) (s + 1 : Nat) = some (p s : Nat)) :
    Calls Tryd.prog 89 #[.agg #[.int .i64 c, .int .i64 T], .map (some mb)] w fun e w' =>
      ∃ g, e = .returned (.slice (some ⟨g, 0, none⟩) (T + 1) (T + 1)) ∧ w.heap.size ≤ g ∧ w'.rowIs g 3 (T + 1) (natV p) ∧ Below w.heap.size w w' := by
  subst hc
  exact wayTo_any mb n N T f p q w hm hN hT hp hq hs

end Go.Proofs.YtaldfpoolajoiaaDoor
