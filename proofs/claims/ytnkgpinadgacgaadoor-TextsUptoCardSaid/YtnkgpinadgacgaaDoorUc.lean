/- The document's look over a text, in memory: a row's byte, and the next byte of whatever part. -/
import Derived.Test.YtnkgpinadgacgaaDoorUb
namespace Go.Proofs.YtnkgpinadgacgaaDoor
open Go.RowKit Go.Deep M

set_option maxHeartbeats 1000000 in
theorem xrow_any (b M : Nat) (x : TX.Sc) (c : UInt8) (w : World) (hM : M ≤ 4000000) (hm : SmallS x M) (h : Box w b (scV x)) :
    Calls Tryd.prog 189 #[.pointer (some ⟨b, 0, none⟩), .int .u8 (c.toNat : Int)] w fun e w' =>
      e = .returned (.bool (TX.rowS x c).isSome) ∧ (∀ y, TX.rowS x c = some y → Box w' b (scV y)) ∧ Only (fun x => x = b) w w' := by
  have HX := Hid.mk h
  have c0 := h.c 0
  have c1 := h.c 1
  have c2 := h.c 2
  have fz := h.fz
  have hlb := h.lt
  simp only [scV, List.getElem?_toArray, List.getElem?_cons_zero, List.getElem?_cons_succ] at c0 c1 c2
  obtain ⟨p, a, wd, k, D, nt⟩ := x
  have hma := hm.at_
  have hmw := hm.wide
  simp only at c0 c1 c2 hma hmw
  have DG : Hid (∀ u, Box u b (scV ⟨2, a, wd, k, D, nt⟩) → Calls Tryd.prog 211 #[.pointer (some ⟨b, 0, none⟩), .int .u8 (c.toNat : Int)] u fun e w' =>
      e = .returned (.bool (TX.digitS ⟨2, a, wd, k, D, nt⟩ c).isSome) ∧ (∀ y, TX.digitS ⟨2, a, wd, k, D, nt⟩ c = some y → Box w' b (scV y)) ∧ Only (fun x => x = b) u w') :=
    Hid.mk fun u hu => xdigit_any b M ⟨2, a, wd, k, D, nt⟩ c u hM ⟨hm.at_, hm.wide, hm.count, hm.digs⟩ hu
  clear h hm
  go_enter Tryd.func189, Tryd.ntmps189
  have c1s : ∀ v, (w.setCell ⟨b, 1, none⟩ v).cell? ⟨b, 1, none⟩ = some v := fun v => World.cell?_setCell_same' _ _ _ (by rw [c1]; rfl)
  have c2s : ∀ v, (w.setCell ⟨b, 1, none⟩ v).cell? ⟨b, 2, none⟩ = some (.int .i64 (wd : Int)) := fun v => (World.cell?_setCell_other _ _ _ _ (by intro e; cases e)).trans c2
  have ho : ∀ v, Only (fun x => x = b) w (w.setCell ⟨b, 1, none⟩ v) := fun v => Only.setCell (S := fun x => x = b) (Only.refl _ w) (p := ⟨b, 1, none⟩) (fun _ => rfl) v
  have HO := Hid.mk ho
  clear ho
  by_cases hcell : TX.isCell c = true
  · have hS : TX.rowS ⟨p, a, wd, k, D, nt⟩ c = if wd = 0 ∨ a + 1 ≤ wd then some ⟨p, a + 1, wd, k, D, nt⟩ else none := if_pos hcell
    have HS := Hid.mk hS
    have hcc := (xcell_iff c).1 hcell
    clear hS hcell
    have hb : ((((c.toNat : Nat) : Int) == 46) = true) ∨ ((((c.toNat : Nat) : Int) == 46) = false ∧ (((c.toNat : Nat) : Int) == 35) = true) := by
      rcases hcc with rfl | rfl
      · exact .inl rfl
      · exact .inr ⟨rfl, rfl⟩
    clear hcc
    have GOOD : Hid (TX.rowS ⟨p, a, wd, k, D, nt⟩ c = some ⟨p, a + 1, wd, k, D, nt⟩ → (∀ n : Nat, ((.returned (.bool true) : Ending) = .returned (.bool (TX.rowS ⟨p, a, wd, k, D, nt⟩ c).isSome)) ∧ (∀ y, TX.rowS ⟨p, a, wd, k, D, nt⟩ c = some y → Box ((w.setCell ⟨b, 1, none⟩ (.int .i64 ((a : Int) + 1))).drewN n) b (scV y)) ∧ Only (fun x => x = b) w ((w.setCell ⟨b, 1, none⟩ (.int .i64 ((a : Int) + 1))).drewN n))) :=
      Hid.mk fun h n => ⟨by rw [h]; rfl, fun y hy => by rw [h] at hy; cases hy; exact (HX.out.set (i := 1) (by simp [scV]) (by simp [scV])).drewN n, (HO.out _).drewN n⟩
    by_cases h0 : wd = 0
    · have e3 : (((wd : Nat) : Int) == 0) = true := by simp; omega
      have hS := HS.out
      rw [if_pos (.inl h0)] at hS
      have HG := Hid.mk (GOOD.out hS)
      clear hS
      rcases hb with e1 | ⟨e1, e2⟩
      all_goals
        go_wp2
        go_quiet (fail)
        go_wp2
        go_ret
        exact HG.out nq
    · have e3 : (((wd : Nat) : Int) == 0) = false := by simp; omega
      by_cases h1 : a + 1 ≤ wd
      · have e4 : decide ((a : Int) + 1 ≤ (wd : Int)) = true := by simp; omega
        have hS := HS.out
        rw [if_pos (.inr h1)] at hS
        have HG := Hid.mk (GOOD.out hS)
        clear hS
        rcases hb with e1 | ⟨e1, e2⟩
        all_goals
          go_wp2
          go_quiet (fail)
          go_wp2
          go_ret
          exact HG.out nq
      · have e4 : decide ((a : Int) + 1 ≤ (wd : Int)) = false := by simp; omega
        have hS := HS.out
        rw [if_neg (by omega)] at hS
        have HN := Hid.mk hS
        clear hS
        rcases hb with e1 | ⟨e1, e2⟩
        all_goals
          go_wp2
          go_quiet (fail)
          go_wp2
          go_ret
          exact ⟨by rw [HN.out]; rfl, fun y hy => (by rw [HN.out] at hy; cases hy), (HO.out _).drewN nq⟩
  · have e1 : (((c.toNat : Nat) : Int) == 46) = false := byte_ne (d := 46) (fun h => hcell ((xcell_iff c).2 (.inl h)))
    have e2 : (((c.toNat : Nat) : Int) == 35) = false := byte_ne (d := 35) (fun h => hcell ((xcell_iff c).2 (.inr h)))
    have HC := Hid.mk hcell
    clear hcell
    by_cases h10 : c = 10
    · have f1 : (((c.toNat : Nat) : Int) == 10) = true := byte_eq (d := 10) h10
      have hS : TX.rowS ⟨p, a, wd, k, D, nt⟩ c = if 0 < a ∧ (wd = 0 ∨ a = wd) then some ⟨p, 0, a, 0, 0, false⟩ else none := by
        unfold TX.rowS
        rw [if_neg HC.out, if_pos h10]
        rfl
      have HS := Hid.mk hS
      clear hS h10
      have hval : ∀ (n : Nat), Box ((w.drewN n).setCell ⟨b, 2, none⟩ (.int .i64 (a : Int))) b (scV ⟨p, a, a, k, D, nt⟩) := fun n => (HX.out.drewN n).set (i := 2) (by simp [scV]) (by simp [scV])
      have HV := Hid.mk hval
      have ho2 : ∀ (n : Nat), Only (fun x => x = b) w ((w.drewN n).setCell ⟨b, 2, none⟩ (.int .i64 (a : Int))) := fun n => Only.setCell (S := fun x => x = b) ((Only.refl _ w).drewN n) (p := ⟨b, 2, none⟩) (fun _ => rfl) _
      have HO2 := Hid.mk ho2
      clear hval ho2
      have fin : ∀ ok : Bool, (ok = true ↔ 0 < a ∧ (wd = 0 ∨ a = wd)) → ∀ u, Box u b (scV (TX.overS ⟨p, a, a, k, D, nt⟩)) → Only (fun x => x = b) w u → ((.returned (.bool ok) : Ending) = .returned (.bool (TX.rowS ⟨p, a, wd, k, D, nt⟩ c).isSome)) ∧ (∀ y, TX.rowS ⟨p, a, wd, k, D, nt⟩ c = some y → Box u b (scV y)) ∧ Only (fun x => x = b) w u := by
        intro ok hok u hu hou
        rw [HS.out]
        cases ok with
        | true =>
          rw [if_pos (hok.1 rfl)]
          exact ⟨rfl, fun y hy => by cases hy; exact hu, hou⟩
        | false =>
          rw [if_neg (fun h => by have := hok.2 h; cases this)]
          exact ⟨rfl, fun y hy => (by cases hy), hou⟩
      have FIN := Hid.mk fin
      clear fin
      by_cases ha : 0 < a
      · have e3 : decide (0 < (a : Int)) = true := by simp; omega
        by_cases h0 : wd = 0
        · have e4 : (((wd : Nat) : Int) == 0) = true := by simp; omega
          have HQ : Hid (true = true ↔ 0 < a ∧ (wd = 0 ∨ a = wd)) := Hid.mk ⟨fun _ => ⟨ha, .inl h0⟩, fun _ => rfl⟩
          go_wp2
          go_quiet (fail)
          go_wp2_with fail
          refine (xover_any b _ _ (HV.out nq)).mono ?_
          rintro e w1 ⟨rfl, hb1, ho1⟩
          have B1 := Hid.mk hb1
          have O1 := Hid.mk ho1
          clear hb1 ho1
          go_wp2
          go_ret
          exact FIN.out true (by first | exact HQ.out | simpa using HQ.out) _ B1.out ((HO2.out nq).trans O1.out (fun _ _ h => h))
        · have e4 : (((wd : Nat) : Int) == 0) = false := by simp; omega
          by_cases h1 : a = wd
          · have e5 : (((a : Nat) : Int) == (wd : Int)) = true := by simp; omega
            have HQ : Hid (true = true ↔ 0 < a ∧ (wd = 0 ∨ a = wd)) := Hid.mk ⟨fun _ => ⟨ha, .inr h1⟩, fun _ => rfl⟩
            clear h1
            go_wp2
            go_quiet (fail)
            go_wp2_with fail
            refine (xover_any b _ _ (HV.out nq)).mono ?_
            rintro e w1 ⟨rfl, hb1, ho1⟩
            have B1 := Hid.mk hb1
            have O1 := Hid.mk ho1
            clear hb1 ho1
            go_wp2
            go_ret
            exact FIN.out true (by first | exact HQ.out | simpa using HQ.out) _ B1.out ((HO2.out nq).trans O1.out (fun _ _ h => h))
          · have e5 : (((a : Nat) : Int) == (wd : Int)) = false := by simp; omega
            have HQ : Hid (false = true ↔ 0 < a ∧ (wd = 0 ∨ a = wd)) := Hid.mk ⟨fun h => (by cases h), fun h => absurd h.2 (by omega)⟩
            go_wp2
            go_quiet (fail)
            go_wp2_with fail
            refine (xover_any b _ _ (HV.out nq)).mono ?_
            rintro e w1 ⟨rfl, hb1, ho1⟩
            have B1 := Hid.mk hb1
            have O1 := Hid.mk ho1
            clear hb1 ho1
            go_wp2
            go_ret
            exact FIN.out false (by first | exact HQ.out | simpa using HQ.out) _ B1.out ((HO2.out nq).trans O1.out (fun _ _ h => h))
      · have e3 : decide (0 < (a : Int)) = false := by simp; omega
        have HQ : Hid (false = true ↔ 0 < a ∧ (wd = 0 ∨ a = wd)) := Hid.mk ⟨fun h => (by cases h), fun h => absurd h.1 ha⟩
        go_wp2
        go_quiet (fail)
        go_wp2_with fail
        refine (xover_any b _ _ (HV.out nq)).mono ?_
        rintro e w1 ⟨rfl, hb1, ho1⟩
        have B1 := Hid.mk hb1
        have O1 := Hid.mk ho1
        clear hb1 ho1
        go_wp2
        go_ret
        exact FIN.out false (by first | exact HQ.out | simpa using HQ.out) _ B1.out ((HO2.out nq).trans O1.out (fun _ _ h => h))
    · have f1 : (((c.toNat : Nat) : Int) == 10) = false := byte_ne (d := 10) h10
      by_cases hz : 0 < a ∨ wd = 0
      · have hS : TX.rowS ⟨p, a, wd, k, D, nt⟩ c = none := by
          unfold TX.rowS
          rw [if_neg HC.out, if_neg h10, if_pos hz]
        have HN := Hid.mk hS
        clear hS h10
        by_cases ha : 0 < a
        · have e3 : decide (0 < (a : Int)) = true := by simp; omega
          clear hz
          go_wp2
          go_ret
          exact ⟨by rw [HN.out]; rfl, fun y hy => (by rw [HN.out] at hy; cases hy), Only.refl _ w⟩
        · have e3 : decide (0 < (a : Int)) = false := by simp; omega
          have h0 : wd = 0 := hz.resolve_left ha
          have e4 : (((wd : Nat) : Int) == 0) = true := by simp; omega
          clear hz
          go_wp2
          go_ret
          exact ⟨by rw [HN.out]; rfl, fun y hy => (by rw [HN.out] at hy; cases hy), Only.refl _ w⟩
      · have ha : ¬ 0 < a := fun h => hz (.inl h)
        have h0 : ¬ wd = 0 := fun h => hz (.inr h)
        have e3 : decide (0 < (a : Int)) = false := by simp; omega
        have e4 : (((wd : Nat) : Int) == 0) = false := by simp; omega
        have hS : TX.rowS ⟨p, a, wd, k, D, nt⟩ c = TX.digitS ⟨2, a, wd, k, D, nt⟩ c := by
          unfold TX.rowS
          rw [if_neg HC.out, if_neg h10, if_neg hz]
        rw [hS]
        clear hS h10 hz
        have B2 : Hid (Box (w.setCell ⟨b, 0, none⟩ (.int .i64 2)) b (scV ⟨2, a, wd, k, D, nt⟩)) := Hid.mk (HX.out.set (i := 0) (by simp [scV]) (by simp [scV]))
        have O2 : Hid (Only (fun x => x = b) w (w.setCell ⟨b, 0, none⟩ (.int .i64 2))) := Hid.mk (Only.setCell (S := fun x => x = b) (Only.refl _ w) (p := ⟨b, 0, none⟩) (fun _ => rfl) _)
        go_wp2_with fail
        refine (DG.out _ B2.out).mono ?_
        rintro e w1 ⟨rfl, hb1, ho1⟩
        have B1 := Hid.mk hb1
        have O1 := Hid.mk ho1
        clear hb1 ho1
        go_wp2
        go_ret
        exact ⟨rfl, B1.out, O2.out.trans O1.out (fun _ _ h => h)⟩

end Go.Proofs.YtnkgpinadgacgaaDoor
