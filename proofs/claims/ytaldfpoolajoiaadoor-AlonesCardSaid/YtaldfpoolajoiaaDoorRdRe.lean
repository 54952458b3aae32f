/- Walks of the document's goes and stays. -/
import Derived.Test.YtaldfpoolajoiaaDoorRc
namespace Go.Proofs.YtaldfpoolajoiaaDoor
open Go.RowKit M

/-- May a cart go from a to b at an instant, by the yard and the rules? -/
def goesI (co : Int) (cs : ByteArray) (n : Nat) (R : Nat → RuleM) (a b : Nat) (t : Int) : Bool := mayM co cs a b && onM n R b (t + 1) && !noWayM n R a b t

theorem goesI_nat {co : Int} {cs : ByteArray} {n : Nat} {R : Nat → RuleM} {a b t : Nat} : goesI co cs n R a b t = goesM co cs n R a b t := by
  unfold goesI goesM adjM
  rw [show ((t : Int) + 1) = ((t + 1 : Nat) : Int) by omega]

theorem noWay_hit {n : Nat} {R : Nat → RuleM} {a b t : Int} {k : Nat} (hk : k < n) (h : brkGo (R k) a b t = true) : noWayM n R a b t = true := by
  unfold noWayM; exact anyB_of h hk

theorem noWay_miss {n : Nat} {R : Nat → RuleM} {a b t : Int} (h : ∀ j, j < n → brkGo (R j) a b t = false) : noWayM n R a b t = false := by
  unfold noWayM; exact anyB_false.2 h

set_option maxHeartbeats 1000000 in
theorem goes_any (ro co bu : Int) (cs : ByteArray) (ca : Value) (a : Option Addr) (n cap : Nat) (R : Nat → RuleM) (x y : Nat) (t : Int) (w : World) (hs : cs.size ≤ 36) (h1 : 1 ≤ co) (h2 : co ≤ 6) (hn : n ≤ maxLen) (hy : y ≤ 36) (ht0 : -1 ≤ t) (ht1 : t ≤ 1000) (ha : RulesAt w a n R) :
    Calls Tryd.prog 53 #[.agg #[.int .i64 ro, .int .i64 co, .string cs, ca, .int .i64 bu], .slice a n cap, .int .i64 x, .int .i64 y, .int .i64 t] w fun e w' => e = .returned (.bool (goesI co cs n R x y t)) ∧ Below w.heap.size w w' := by
  have HA := Hid.mk ha
  have hnm := hn
  clear ha
  unfold maxLen at hn
  go_enter Tryd.func53, Tryd.ntmps53
  go_wp2_with fail
  refine (may_any _ _ _ _ _ _ _ _ hs h1 h2 (by omega) (by omega)).mono ?_
  rintro e w1 ⟨rfl, hb1⟩
  have HB1 : Hid (Below w.heap.size w w1) := ((Below.refl _ _).alloc (Nat.le_refl _) _).trans (hb1.mono (by simp))
  clear hb1
  go_wp2_with fail
  refine (on_any _ _ _ R _ _ _ hnm (HA.out.below (by exact HB1.out))).mono ?_
  rintro e w2 ⟨rfl, hb2⟩
  have HB2 : Hid (Below w.heap.size w w2) := HB1.out.trans (hb2.mono HB1.out.size)
  clear hb2 HB1
  obtain ⟨g1, hg1⟩ : ∃ g, g = mayM co cs x y := ⟨_, rfl⟩
  obtain ⟨g2, hg2⟩ : ∃ g, g = onM n R y (t + 1) := ⟨_, rfl⟩
  rw [← hg1, ← hg2]
  have key : ∀ b, (g1 && g2 && !noWayM n R x y t) = b → goesI co cs n R x y t = b := fun b h => by unfold goesI; rw [← hg1, ← hg2]; exact h
  have KEY := Hid.mk key
  clear hg1 hg2 key
  cases g1
  · go_wp2
    go_ret
    exact ⟨ret_bool (KEY.out _ (by simp)).symm, HB2.out⟩
  · cases g2
    · go_wp2
      go_ret
      exact ⟨ret_bool (KEY.out _ (by simp)).symm, HB2.out⟩
    · go_wp2
      go_loopw [13] (fun s wr => ∃ k : Nat, k ≤ n ∧ s = .int .i64 k ∧ (∀ j, j < k → brkGo (R j) x y t = false) ∧ Below w.heap.size w wr) (fun s _ => n - (intOf s).toNat)
      case atStart => exact ⟨0, Nat.zero_le _, rfl, fun j hj => absurd hj (Nat.not_lt_zero j), HB2.out⟩
      case round =>
        obtain ⟨k, hk, rfl, hg0, hbr⟩ := hrel
        have hg := Hid.mk hg0
        have HB := Hid.mk hbr
        clear hg0 hbr
        by_cases hlt : k < n
        · obtain ⟨b, off, rfl, hrs⟩ := HA.out (by omega)
          obtain ⟨c0, c1, c2, c3⟩ := hrs k hlt
          have c0 := cell_later HB.out c0
          have c1 := cell_later HB.out c1
          have c2 := cell_later HB.out c2
          have c3 := cell_later HB.out c3
          clear hrs
          obtain ⟨r, hr⟩ : ∃ r, r = R k := ⟨_, rfl⟩
          rw [← hr] at c0 c1 c2 c3
          obtain ⟨kd, ce, ne, ta⟩ := r
          have Hr := Hid.mk hr
          clear hr
          dsimp only at c0 c1 c2 c3
          have GO : Hid (∀ b, brkGo ⟨kd, ce, ne, ta⟩ x y t = b → brkGo (R k) x y t = b) := fun b h => by rw [← Hr.out]; exact h
          by_cases q1 : (kd == 1) = true
          · by_cases q2 : (ta == t) = true
            · by_cases q3 : (ce == (x : Int)) = true
              · by_cases q4 : (ne == (y : Int)) = true
                · go_wp2
                  go_ret
                  exact ⟨ret_bool (KEY.out _ (by rw [noWay_hit hlt (GO.out true (by unfold brkGo; simp [q1, q2, q3, q4]))]; rfl)).symm, HB.out.alloc (HB.out.size) _⟩
                · have q4' : (ne == (y : Int)) = false := by simpa using q4
                  clear q4
                  go_wp2
                  go_roundw
                  case rel => exact ⟨k + 1, by omega, by go_num, upto_step (p := fun j => brkGo (R j) x y t) (GO.out _ (by unfold brkGo; simp [q4'])) hg.out, HB.out.alloc (HB.out.size) _⟩
                  case measure => simp [intOf]; omega
              · have q3' : (ce == (x : Int)) = false := by simpa using q3
                clear q3
                go_wp2
                go_roundw
                case rel => exact ⟨k + 1, by omega, by go_num, upto_step (p := fun j => brkGo (R j) x y t) (GO.out _ (by unfold brkGo; simp [q3'])) hg.out, HB.out.alloc (HB.out.size) _⟩
                case measure => simp [intOf]; omega
            · have q2' : (ta == t) = false := by simpa using q2
              clear q2
              go_wp2
              go_roundw
              case rel => exact ⟨k + 1, by omega, by go_num, upto_step (p := fun j => brkGo (R j) x y t) (GO.out _ (by unfold brkGo; simp [q2'])) hg.out, HB.out.alloc (HB.out.size) _⟩
              case measure => simp [intOf]; omega
          · have q1' : (kd == 1) = false := by simpa using q1
            clear q1
            go_wp2
            go_roundw
            case rel => exact ⟨k + 1, by omega, by go_num, upto_step (p := fun j => brkGo (R j) x y t) (GO.out _ (by unfold brkGo; simp [q1'])) hg.out, HB.out.alloc (HB.out.size) _⟩
            case measure => simp [intOf]; omega
        · have hd : k = n := by omega
          go_wp2
          go_ret
          subst hd
          exact ⟨ret_bool (KEY.out _ (by rw [noWay_miss hg.out]; rfl)).symm, HB.out⟩

theorem goes_nat (ro co bu : Int) (cs : ByteArray) (ca : Value) (a : Option Addr) (n cap : Nat) (R : Nat → RuleM) (x y t : Nat) (w : World) (hs : cs.size ≤ 36) (h1 : 1 ≤ co) (h2 : co ≤ 6) (hn : n ≤ maxLen) (hy : y ≤ 36) (ht1 : t ≤ 1000) (ha : RulesAt w a n R) :
    Calls Tryd.prog 53 #[.agg #[.int .i64 ro, .int .i64 co, .string cs, ca, .int .i64 bu], .slice a n cap, .int .i64 x, .int .i64 y, .int .i64 t] w fun e w' => e = .returned (.bool (goesM co cs n R x y t)) ∧ Below w.heap.size w w' := by
  rw [← goesI_nat]
  exact goes_any ro co bu cs ca a n cap R x y t w hs h1 h2 hn hy (by omega) (by omega) ha

theorem stays_miss {co : Int} {cs : ByteArray} {n : Nat} {R : Nat → RuleM} {c t s : Nat} (h1 : t ≤ s) (h2 : s < 61) (h : goesM co cs n R c c s = false) : staysM co cs n R c t = false := by
  cases e : staysM co cs n R c t with
  | false => rfl
  | true => rw [stays_iff.1 e s h1 h2] at h; cases h

set_option maxHeartbeats 1000000 in
theorem stays_any (ro co bu : Int) (cs : ByteArray) (ca : Value) (a : Option Addr) (n cap : Nat) (R : Nat → RuleM) (c t : Nat) (w : World) (hs : cs.size ≤ 36) (h1 : 1 ≤ co) (h2 : co ≤ 6) (hn : n ≤ maxLen) (hc : c ≤ 36) (ha : RulesAt w a n R) :
    Calls Tryd.prog 50 #[.agg #[.int .i64 ro, .int .i64 co, .string cs, ca, .int .i64 bu], .slice a n cap, .int .i64 c, .int .i64 t] w fun e w' => e = .returned (.bool (staysM co cs n R c t)) ∧ Below w.heap.size w w' := by
  have HA := Hid.mk ha
  clear ha
  go_enter Tryd.func50, Tryd.ntmps50
  go_wp2
  have HB0 : Hid (Below w.heap.size w (w.alloc (Obj.cells #[Value.int IntKind.i64 ro, Value.int IntKind.i64 co, Value.string cs, ca, Value.int IntKind.i64 bu] 24))) := (Below.refl _ w).alloc (Nat.le_refl _) _
  have y0 : ∀ o, (w.alloc (Obj.cells #[Value.int IntKind.i64 ro, Value.int IntKind.i64 co, Value.string cs, ca, Value.int IntKind.i64 bu] 24)).cell? ⟨w.heap.size, o, none⟩ = #[Value.int .i64 ro, .int .i64 co, .string cs, ca, .int .i64 bu][o]? := by
    intro o; go_simp
  have hz0 : w.heap.size < (w.alloc (Obj.cells #[Value.int IntKind.i64 ro, Value.int IntKind.i64 co, Value.string cs, ca, Value.int IntKind.i64 bu] 24)).heap.size := by simp
  generalize w.alloc (Obj.cells #[Value.int IntKind.i64 ro, Value.int IntKind.i64 co, Value.string cs, ca, Value.int IntKind.i64 bu] 24) = w1 at *
  go_loopw [9] (fun s wr => ∃ k : Nat, t ≤ k ∧ s = .int .i64 k ∧ (∀ j, t ≤ j → j < k → goesM co cs n R c c j = true) ∧ Below w1.heap.size w1 wr) (fun s _ => 61 - (intOf s).toNat)
  case atStart => exact ⟨t, Nat.le_refl _, rfl, fun j _ hj => by omega, Below.refl _ _⟩
  case round =>
    obtain ⟨k, hk, rfl, hg0, hbr⟩ := hrel
    have hg := Hid.mk hg0
    have HB := Hid.mk hbr
    have hzr := hbr.size
    have yr : ∀ o, wr.cell? ⟨w.heap.size, o, none⟩ = #[Value.int .i64 ro, .int .i64 co, .string cs, ca, .int .i64 bu][o]? := fun o => (hbr.cell (p := ⟨w.heap.size, o, none⟩) hz0).trans (y0 o)
    clear hg0 hbr y0
    by_cases hlt : k < 61
    · go_wp2_with fail
      refine (goes_nat _ _ _ _ _ _ _ _ R _ _ k _ hs h1 h2 hn hc (by omega) (HA.out.below (by exact HB0.out.trans (HB.out.mono (by omega))))).mono ?_
      rintro e w2 ⟨rfl, hb2⟩
      obtain ⟨g, hgg⟩ : ∃ g, g = goesM co cs n R c c k := ⟨_, rfl⟩
      rw [← hgg]
      have HG := Hid.mk hgg
      have HB2 := Hid.mk (HB.out.trans (hb2.mono hzr))
      clear hgg hb2
      cases g
      · go_wp2
        go_ret
        exact ⟨ret_bool (stays_miss hk hlt HG.out.symm).symm, HB0.out.trans (HB2.out.mono (by omega))⟩
      · go_wp2
        go_roundw
        case rel => exact ⟨k + 1, by omega, by go_num, fun j h1 h2 => by
          by_cases e : j = k
          · subst e; exact HG.out.symm
          · exact hg.out j h1 (by omega), HB2.out⟩
        case measure => simp [intOf]; omega
    · go_wp2
      go_ret
      exact ⟨ret_bool (stays_iff.2 fun s h1 h2 => hg.out s h1 (by omega)).symm, HB0.out.trans (HB.out.mono (by omega))⟩

end Go.Proofs.YtaldfpoolajoiaaDoor

/- Walks of the document's RulesRight, given. -/
namespace Go.Proofs.YtaldfpoolajoiaaDoor
open Go.RowKit M

theorem rulesB_bad {N n : Nat} {R : Nat → RuleM} {k : Nat} (hk : k < n) (h : ruleB N (R k) = false) : rulesB N n R = false := by
  unfold rulesB
  rw [anyB_of (p := fun i => !ruleB N (R i)) (i := k) (by simp [h]) hk]
  simp

theorem rulesB_fine {N n : Nat} {R : Nat → RuleM} (h : ∀ j, j < n → (!ruleB N (R j)) = false) : rulesB N n R = decide ((n : Int) ≤ 40) := by
  unfold rulesB
  rw [anyB_false.2 h]
  simp
  omega

set_option maxHeartbeats 1000000 in
theorem rulesRight_any (ro co bu : Int) (cs : ByteArray) (ca : Value) (a : Option Addr) (n cap : Nat) (R : Nat → RuleM) (w : World) (hn : n ≤ maxLen) (ha : RulesAt w a n R) :
    Calls Tryd.prog 73 #[.agg #[.int .i64 ro, .int .i64 co, .string cs, ca, .int .i64 bu], .slice a n cap] w fun e w' => e = .returned (.bool (rulesB cs.size n R)) ∧ Below w.heap.size w w' := by
  have HA := Hid.mk ha
  clear ha
  unfold maxLen at hn
  go_enter Tryd.func73, Tryd.ntmps73
  go_wp2
  have HB0 : Hid (Below w.heap.size w (w.alloc (Obj.cells #[Value.int IntKind.i64 ro, Value.int IntKind.i64 co, Value.string cs, ca, Value.int IntKind.i64 bu] 24))) := (Below.refl _ w).alloc (Nat.le_refl _) _
  have y0 : ∀ o, (w.alloc (Obj.cells #[Value.int IntKind.i64 ro, Value.int IntKind.i64 co, Value.string cs, ca, Value.int IntKind.i64 bu] 24)).cell? ⟨w.heap.size, o, none⟩ = #[Value.int .i64 ro, .int .i64 co, .string cs, ca, .int .i64 bu][o]? := by
    intro o; go_simp
  have hz0 : w.heap.size < (w.alloc (Obj.cells #[Value.int IntKind.i64 ro, Value.int IntKind.i64 co, Value.string cs, ca, Value.int IntKind.i64 bu] 24)).heap.size := by simp
  generalize w.alloc (Obj.cells #[Value.int IntKind.i64 ro, Value.int IntKind.i64 co, Value.string cs, ca, Value.int IntKind.i64 bu] 24) = w1 at *
  go_loopw [5] (fun s wr => ∃ k : Nat, k ≤ n ∧ s = .int .i64 k ∧ (∀ j, j < k → (!ruleB cs.size (R j)) = false) ∧ Below w1.heap.size w1 wr) (fun s _ => n - (intOf s).toNat)
  case atStart => exact ⟨0, Nat.zero_le _, rfl, fun j hj => absurd hj (Nat.not_lt_zero j), Below.refl _ _⟩
  case round =>
    obtain ⟨k, hk, rfl, hg0, hbr⟩ := hrel
    have hg := Hid.mk hg0
    have HB := Hid.mk hbr
    have hzr := hbr.size
    have hzw : w.heap.size < wr.heap.size := by omega
    have yr : wr.cell? ⟨w.heap.size, 2, none⟩ = some (.string cs) := ((hbr.cell (p := ⟨w.heap.size, 2, none⟩) hz0).trans (y0 2))
    clear hg0 hbr y0
    by_cases hlt : k < n
    · obtain ⟨b, off, rfl, hrs⟩ := HA.out (by omega)
      obtain ⟨c0, c1, c2, c3⟩ := hrs k hlt
      have HBw : Hid (Below w.heap.size w wr) := HB0.out.trans (HB.out.mono (by omega))
      have c0 := cell_later HBw.out c0
      have c1 := cell_later HBw.out c1
      have c2 := cell_later HBw.out c2
      have c3 := cell_later HBw.out c3
      clear hrs
      obtain ⟨r, hr⟩ : ∃ r, r = R k := ⟨_, rfl⟩
      rw [← hr] at c0 c1 c2 c3
      obtain ⟨kd, ce, ne, ta⟩ := r
      have Hr := Hid.mk hr
      clear hr
      dsimp only at c0 c1 c2 c3
      have YES : Hid (ruleB cs.size ⟨kd, ce, ne, ta⟩ = true → (!ruleB cs.size (R k)) = false) := fun h => by rw [← Hr.out, h]; rfl
      have NO : Hid (ruleB cs.size ⟨kd, ce, ne, ta⟩ = false → rulesB cs.size n R = false) := fun h => rulesB_bad hlt (by rw [← Hr.out, h])
      have HE : Hid (Below w.heap.size w (wr.alloc (Obj.cells #[.int .i64 kd, .int .i64 ce, .int .i64 ne, .int .i64 ta] 77))) := HBw.out.alloc HBw.out.size _
      by_cases p1 : kd < 0
      · go_wp2
        go_ret
        exact ⟨ret_bool (NO.out (by unfold ruleB; simp; omega)).symm, HE.out⟩
      · by_cases p2 : 2 < kd
        · go_wp2
          go_ret
          exact ⟨ret_bool (NO.out (by unfold ruleB; simp; omega)).symm, HE.out⟩
        · by_cases p3 : ce < 0
          · go_wp2
            go_ret
            exact ⟨ret_bool (NO.out (by unfold ruleB; simp; omega)).symm, HE.out⟩
          · by_cases p4 : (cs.size : Int) ≤ ce
            · go_wp2
              go_ret
              exact ⟨ret_bool (NO.out (by unfold ruleB; simp; omega)).symm, HE.out⟩
            · by_cases p5 : ta < 0
              · go_wp2
                go_ret
                exact ⟨ret_bool (NO.out (by unfold ruleB; simp; omega)).symm, HE.out⟩
              · by_cases p6 : 60 < ta
                · go_wp2
                  go_ret
                  exact ⟨ret_bool (NO.out (by unfold ruleB; simp; omega)).symm, HE.out⟩
                · go_wp2
                  go_roundw
                  case rel => exact ⟨k + 1, by omega, by go_num, upto_step (p := fun j => !ruleB cs.size (R j)) (YES.out (by unfold ruleB; simp; omega)) hg.out, HB.out.alloc HB.out.size _⟩
                  case measure => simp [intOf]; omega
    · have hd : k = n := by omega
      go_wp2
      go_ret
      subst hd
      exact ⟨ret_bool (rulesB_fine hg.out).symm, HB0.out.trans (HB.out.mono (by omega))⟩

/-- The error of what is given for one cart. -/
def givenE (ro co bu : Int) (cs : ByteArray) (m : Nat) (fr to : Nat → Int) (k : Int) (n : Nat) (R : Nat → RuleM) : Int :=
  if (checkM ro co cs m fr to bu).1 = 0 then (if 0 ≤ k ∧ k < m then (if rulesB cs.size n R = true then 0 else 8) else 7) else (checkM ro co cs m fr to bu).1

theorem given_any (ro co bu : Int) (cs : ByteArray) (a : Option Addr) (m cap : Nat) (fr to : Nat → Int) (k : Int) (ar : Option Addr) (n capr : Nat) (R : Nat → RuleM) (w : World) (hs : cs.size ≤ maxLen) (hm : m ≤ maxLen) (hn : n ≤ maxLen)
    (ha : 0 < m → ∃ b off, a = some ⟨b, off, none⟩ ∧ CartsIn w b off m fr to) (har : RulesAt w ar n R) :
    Calls Tryd.prog 48 #[.agg #[.int .i64 ro, .int .i64 co, .string cs, .slice a m cap, .int .i64 bu], .int .i64 k, .slice ar n capr] w fun e w' =>
      e = .returned (.int .i64 (givenE ro co bu cs m fr to k n R)) ∧ Below w.heap.size w w' := by
  have HA := Hid.mk har
  have HC := Hid.mk ha
  have hmm := hm
  clear har ha
  unfold maxLen at hm
  have HB0 : Hid (Below w.heap.size w (w.alloc (Obj.cells #[Value.int IntKind.i64 ro, Value.int IntKind.i64 co, Value.string cs, .slice a m cap, Value.int IntKind.i64 bu] 24))) := (Below.refl _ w).alloc (Nat.le_refl _) _
  go_enter Tryd.func48, Tryd.ntmps48
  go_wp2_with fail
  have y0 : ∀ o, (w.alloc (Obj.cells #[Value.int IntKind.i64 ro, Value.int IntKind.i64 co, Value.string cs, .slice a m cap, Value.int IntKind.i64 bu] 24)).cell? ⟨w.heap.size, o, none⟩ = #[Value.int .i64 ro, .int .i64 co, .string cs, .slice a m cap, .int .i64 bu][o]? := by
    intro o; go_simp
  have hz0 : w.heap.size < (w.alloc (Obj.cells #[Value.int IntKind.i64 ro, Value.int IntKind.i64 co, Value.string cs, .slice a m cap, Value.int IntKind.i64 bu] 24)).heap.size := by simp
  generalize w.alloc (Obj.cells #[Value.int IntKind.i64 ro, Value.int IntKind.i64 co, Value.string cs, .slice a m cap, Value.int IntKind.i64 bu] 24) = w1 at *
  refine (rcheck_any _ _ _ _ _ _ _ fr to _ hs hmm (by exact opt_below HC.out HB0.out)).mono ?_
  rintro e w2 ⟨rfl, hb2⟩
  have HB2 : Hid (Below w.heap.size w w2) := HB0.out.trans (hb2.mono (by omega))
  have y2 : ∀ o, w2.cell? ⟨w.heap.size, o, none⟩ = #[Value.int .i64 ro, .int .i64 co, .string cs, .slice a m cap, .int .i64 bu][o]? := fun o => (hb2.cell (p := ⟨w.heap.size, o, none⟩) hz0).trans (y0 o)
  have hz2 : w.heap.size < w2.heap.size := by have := hb2.size; omega
  clear y0 hb2
  by_cases hck : (checkM ro co cs m fr to bu).1 = 0
  · have hck' : ((checkM ro co cs m fr to bu).1 != 0) = false := by rw [hck]; rfl
    obtain ⟨sd1, sd2, hsz⟩ := checkM_good hck
    obtain ⟨r1, r2⟩ := side_bd sd1
    obtain ⟨r3, r4⟩ := side_bd sd2
    obtain ⟨hp1, hp2⟩ := mul_bd r1 r2 r3 r4
    have HCK := Hid.mk hck
    clear hck hsz sd1 sd2 hp1 hp2
    by_cases k1 : k < 0
    · go_wp2
      go_ret
      exact ⟨ret_int (by unfold givenE; rw [if_pos HCK.out, if_neg (by omega)]), HB2.out⟩
    · by_cases k2 : (m : Int) ≤ k
      · go_wp2
        go_ret
        exact ⟨ret_int (by unfold givenE; rw [if_pos HCK.out, if_neg (by omega)]), HB2.out⟩
      · go_wp2_with fail
        refine (rulesRight_any _ _ _ _ _ _ _ _ R _ hn (HA.out.below (by exact HB2.out))).mono ?_
        rintro e w3 ⟨rfl, hb3⟩
        have HB3 : Hid (Below w.heap.size w w3) := HB2.out.trans (hb3.mono (by omega))
        clear hb3
        obtain ⟨g, hg⟩ : ∃ g, g = rulesB cs.size n R := ⟨_, rfl⟩
        rw [← hg]
        have HG := Hid.mk hg
        clear hg
        cases g
        · go_wp2
          go_ret
          exact ⟨ret_int (by unfold givenE; rw [if_pos HCK.out, if_pos (by omega), ← HG.out]; rfl), HB3.out⟩
        · go_wp2
          go_ret
          exact ⟨ret_int (by unfold givenE; rw [if_pos HCK.out, if_pos (by omega), ← HG.out]; rfl), HB3.out⟩
  · have hck' : ((checkM ro co cs m fr to bu).1 != 0) = true := by simpa using hck
    have HCK := Hid.mk hck
    clear hck
    go_wp2
    go_ret
    exact ⟨ret_int (by unfold givenE; rw [if_neg HCK.out]), HB2.out⟩

end Go.Proofs.YtaldfpoolajoiaaDoor
