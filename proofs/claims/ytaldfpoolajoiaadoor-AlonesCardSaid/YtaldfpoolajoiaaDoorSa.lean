/- Walks of the program's isRule, Good, loneFault. -/
import Derived.Test.YtaldfpoolajoiaaDoorRdRe
import Derived.Test.YtaldfpoolajoiaaDoorWn
namespace Go.Proofs.YtaldfpoolajoiaaDoor
open Go.RowKit M

set_option maxHeartbeats 1000000 in
theorem isRule_any (ro co bu : Int) (cs : ByteArray) (ca : Value) (kd ce ne ta : Int) (w : World) :
    Calls Tryd.prog 82 #[.agg #[.int .i64 ro, .int .i64 co, .string cs, ca, .int .i64 bu], .agg #[.int .i64 kd, .int .i64 ce, .int .i64 ne, .int .i64 ta]] w fun e w' => e = .returned (.bool (ruleB cs.size ⟨kd, ce, ne, ta⟩)) ∧ Below w.heap.size w w' := by
  have HB0 : Hid (∀ o1 o2, Below w.heap.size w ((w.alloc o1).alloc o2)) := fun _ _ => ((Below.refl _ _).alloc (Nat.le_refl _) _).alloc (by simp) _
  have KEY : Hid (∀ b, ruleB cs.size ⟨kd, ce, ne, ta⟩ = b → Ending.returned (.bool b) = Ending.returned (.bool (ruleB cs.size ⟨kd, ce, ne, ta⟩))) := fun b h => by rw [h]
  go_enter Tryd.func82, Tryd.ntmps82
  by_cases k0 : (kd == 0) = true
  · have e0 : kd = 0 := by simpa using k0
    subst e0
    clear k0
    by_cases p3 : 0 ≤ ce
    · by_cases p4 : ce < (cs.size : Int)
      · by_cases p5 : 0 ≤ ta
        · by_cases p6 : ta ≤ 60
          · go_wp2
            go_ret
            exact ⟨KEY.out true (by unfold ruleB; simp; omega), HB0.out _ _⟩
          · go_wp2
            go_ret
            exact ⟨KEY.out false (by unfold ruleB; simp; omega), HB0.out _ _⟩
        · go_wp2
          go_ret
          exact ⟨KEY.out false (by unfold ruleB; simp; omega), HB0.out _ _⟩
      · go_wp2
        go_ret
        exact ⟨KEY.out false (by unfold ruleB; simp; omega), HB0.out _ _⟩
    · go_wp2
      go_ret
      exact ⟨KEY.out false (by unfold ruleB; simp; omega), HB0.out _ _⟩
  · have k0' : (kd == 0) = false := by simpa using k0
    have e0 : kd ≠ 0 := by simpa using k0
    clear k0
    by_cases k1 : (kd == 1) = true
    · have e1 : kd = 1 := by simpa using k1
      subst e1
      clear k1
      by_cases p3 : 0 ≤ ce
      · by_cases p4 : ce < (cs.size : Int)
        · by_cases p5 : 0 ≤ ta
          · by_cases p6 : ta ≤ 60
            · go_wp2
              go_ret
              exact ⟨KEY.out true (by unfold ruleB; simp; omega), HB0.out _ _⟩
            · go_wp2
              go_ret
              exact ⟨KEY.out false (by unfold ruleB; simp; omega), HB0.out _ _⟩
          · go_wp2
            go_ret
            exact ⟨KEY.out false (by unfold ruleB; simp; omega), HB0.out _ _⟩
        · go_wp2
          go_ret
          exact ⟨KEY.out false (by unfold ruleB; simp; omega), HB0.out _ _⟩
      · go_wp2
        go_ret
        exact ⟨KEY.out false (by unfold ruleB; simp; omega), HB0.out _ _⟩
    · have k1' : (kd == 1) = false := by simpa using k1
      have e1 : kd ≠ 1 := by simpa using k1
      clear k1
      by_cases k2 : (kd == 2) = true
      · have e2 : kd = 2 := by simpa using k2
        subst e2
        clear k2
        by_cases p3 : 0 ≤ ce
        · by_cases p4 : ce < (cs.size : Int)
          · by_cases p5 : 0 ≤ ta
            · by_cases p6 : ta ≤ 60
              · go_wp2
                go_ret
                exact ⟨KEY.out true (by unfold ruleB; simp; omega), HB0.out _ _⟩
              · go_wp2
                go_ret
                exact ⟨KEY.out false (by unfold ruleB; simp; omega), HB0.out _ _⟩
            · go_wp2
              go_ret
              exact ⟨KEY.out false (by unfold ruleB; simp; omega), HB0.out _ _⟩
          · go_wp2
            go_ret
            exact ⟨KEY.out false (by unfold ruleB; simp; omega), HB0.out _ _⟩
        · go_wp2
          go_ret
          exact ⟨KEY.out false (by unfold ruleB; simp; omega), HB0.out _ _⟩
      · have k2' : (kd == 2) = false := by simpa using k2
        have e2 : kd ≠ 2 := by simpa using k2
        clear k2
        go_wp2
        go_ret
        exact ⟨KEY.out false (by unfold ruleB; simp; omega), HB0.out _ _⟩

theorem rulesB_true {N n : Nat} {R : Nat → RuleM} (h1 : n ≤ 40) (h : ∀ j, j < n → (!ruleB N (R j)) = false) : rulesB N n R = true := by
  rw [rulesB_fine h]; simp; omega

theorem rulesB_many {N n : Nat} {R : Nat → RuleM} (h1 : ¬ n ≤ 40) : rulesB N n R = false := by
  unfold rulesB; simp [h1]

set_option maxHeartbeats 1000000 in
theorem good_any (ro co bu : Int) (cs : ByteArray) (ca : Value) (a : Option Addr) (n cap : Nat) (R : Nat → RuleM) (w : World) (hn : n ≤ maxLen) (ha : RulesAt w a n R) :
    Calls Tryd.prog 69 #[.agg #[.int .i64 ro, .int .i64 co, .string cs, ca, .int .i64 bu], .slice a n cap] w fun e w' => e = .returned (.bool (rulesB cs.size n R)) ∧ Below w.heap.size w w' := by
  have HA := Hid.mk ha
  clear ha
  unfold maxLen at hn
  go_enter Tryd.func69, Tryd.ntmps69
  have HB0 : Hid (Below w.heap.size w (w.alloc (Obj.cells #[Value.int IntKind.i64 ro, Value.int IntKind.i64 co, Value.string cs, ca, Value.int IntKind.i64 bu] 24))) := (Below.refl _ w).alloc (Nat.le_refl _) _
  by_cases h40 : n ≤ 40
  · go_wp2
    have y0 : ∀ o, (w.alloc (Obj.cells #[Value.int IntKind.i64 ro, Value.int IntKind.i64 co, Value.string cs, ca, Value.int IntKind.i64 bu] 24)).cell? ⟨w.heap.size, o, none⟩ = #[Value.int .i64 ro, .int .i64 co, .string cs, ca, .int .i64 bu][o]? := by
      intro o; go_simp
    have hz0 : w.heap.size < (w.alloc (Obj.cells #[Value.int IntKind.i64 ro, Value.int IntKind.i64 co, Value.string cs, ca, Value.int IntKind.i64 bu] 24)).heap.size := by simp
    generalize w.alloc (Obj.cells #[Value.int IntKind.i64 ro, Value.int IntKind.i64 co, Value.string cs, ca, Value.int IntKind.i64 bu] 24) = w1 at *
    go_loopw [12] (fun s wr => ∃ k : Nat, k ≤ n ∧ s = .int .i64 k ∧ (∀ j, j < k → (!ruleB cs.size (R j)) = false) ∧ Below w1.heap.size w1 wr) (fun s _ => n - (intOf s).toNat)
    case atStart => exact ⟨0, Nat.zero_le _, rfl, fun j hj => absurd hj (Nat.not_lt_zero j), Below.refl _ _⟩
    case round =>
      obtain ⟨k, hk, rfl, hg0, hbr⟩ := hrel
      have hg := Hid.mk hg0
      have HB := Hid.mk hbr
      have hzr := hbr.size
      have hzw : w.heap.size < wr.heap.size := by omega
      have yr : ∀ o, wr.cell? ⟨w.heap.size, o, none⟩ = #[Value.int .i64 ro, .int .i64 co, .string cs, ca, .int .i64 bu][o]? := fun o => (hbr.cell (p := ⟨w.heap.size, o, none⟩) hz0).trans (y0 o)
      clear hg0 hbr y0
      by_cases hlt : k < n
      · obtain ⟨b, off, rfl, hrs⟩ := HA.out (by omega)
        obtain ⟨c0, c1, c2, c3⟩ := hrs k hlt
        have HBw : Hid (Below w.heap.size w wr) := HB0.out.trans (HB.out.mono (by omega))
        have c0 := cell_later HBw.out c0
        have c1 := cell_later HBw.out c1
        have c2 := cell_later HBw.out c2
        have c3 := cell_later HBw.out c3
        clear hrs
        obtain ⟨r, hr⟩ : ∃ r, r = R k := ⟨_, rfl⟩
        rw [← hr] at c0 c1 c2 c3
        obtain ⟨kd, ce, ne, ta⟩ := r
        have Hr := Hid.mk hr
        clear hr
        dsimp only at c0 c1 c2 c3
        go_wp2_with fail
        refine (isRule_any _ _ _ _ _ kd ce ne ta _).mono ?_
        rintro e w4 ⟨rfl, hb4⟩
        have HB4 : Hid (Below w1.heap.size w1 w4) := (HB.out.alloc HB.out.size _).trans (hb4.mono (by simp; omega))
        obtain ⟨g, hgg⟩ : ∃ g, g = ruleB cs.size ⟨kd, ce, ne, ta⟩ := ⟨_, rfl⟩
        rw [← hgg]
        have HG := Hid.mk hgg
        clear hgg hb4 c0 c1 c2 c3 yr
        cases g
        · go_wp2
          go_ret
          exact ⟨ret_bool (rulesB_bad hlt (by rw [← Hr.out, ← HG.out])).symm, HB0.out.trans (HB4.out.mono (by omega))⟩
        · go_wp2
          go_roundw
          case rel => exact ⟨k + 1, by omega, by go_num, upto_step (p := fun j => !ruleB cs.size (R j)) (by show (!ruleB cs.size (R k)) = false; rw [← Hr.out, ← HG.out]; rfl) hg.out, HB4.out⟩
          case measure => simp [intOf]; omega
      · have hd : k = n := by omega
        go_wp2
        go_ret
        subst hd
        exact ⟨ret_bool (rulesB_true h40 hg.out).symm, HB0.out.trans (HB.out.mono (by omega))⟩
  · go_wp2
    go_ret
    exact ⟨ret_bool (rulesB_many h40).symm, HB0.out⟩

end Go.Proofs.YtaldfpoolajoiaaDoor
