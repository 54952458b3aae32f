/- Walks of the document's goes and stays. -/
import Derived.Test.YtnkgpinadgacgaaDoorBg
import Derived.Deep.RegionHeld3
import Derived.Deep.DeepCutAuto
namespace Go.Proofs.YtnkgpinadgacgaaDoor
open Go.RowKit M

/-- May a cart go from a to b at an instant, by the yard and the rules? -/
def goesI (co : Int) (cs : ByteArray) (n : Nat) (R : Nat → RuleM) (a b : Nat) (t : Int) : Bool := mayM co cs a b && onM n R b (t + 1) && !noWayM n R a b t

theorem goesI_nat {co : Int} {cs : ByteArray} {n : Nat} {R : Nat → RuleM} {a b t : Nat} : goesI co cs n R a b t = goesM co cs n R a b t := by
  unfold goesI goesM adjM
  rw [show ((t : Int) + 1) = ((t + 1 : Nat) : Int) by omega]

theorem noWay_hit {n : Nat} {R : Nat → RuleM} {a b t : Int} {k : Nat} (hk : k < n) (h : brkGo (R k) a b t = true) : noWayM n R a b t = true := by
  unfold noWayM; exact anyB_of h hk

theorem noWay_miss {n : Nat} {R : Nat → RuleM} {a b t : Int} (h : ∀ j, j < n → brkGo (R j) a b t = false) : noWayM n R a b t = false := by
  unfold noWayM; exact anyB_false.2 h

set_option maxHeartbeats 1000000 in
theorem goes_any (ro co bu : Int) (cs : ByteArray) (ca : Value) (a : Option Addr) (n cap : Nat) (R : Nat → RuleM) (x y : Nat) (t : Int) (w : World) (hs : cs.size ≤ 36) (h1 : 1 ≤ co) (h2 : co ≤ 6) (hn : n ≤ maxLen) (hy : y ≤ 36) (ht0 : -1 ≤ t) (ht1 : t ≤ 1000) (ha : RulesAt w a n R) :
    Calls Tryd.prog 75 #[.agg #[.int .i64 ro, .int .i64 co, .string cs, ca, .int .i64 bu], .slice a n cap, .int .i64 x, .int .i64 y, .int .i64 t] w fun e w' => e = .returned (.bool (goesI co cs n R x y t)) ∧ Below w.heap.size w w' := by
  have HA := Hid.mk ha
  have hnm := hn
  clear ha
  unfold maxLen at hn
  go_enter Tryd.func75, Tryd.ntmps75
  go_wp2_with fail
  refine (may_any _ _ _ _ _ _ _ _ hs h1 h2 (by omega) (by omega)).mono ?_
  rintro e w1 ⟨rfl, hb1⟩
  have HB1 : Hid (Below w.heap.size w w1) := ((Below.refl _ _).alloc (Nat.le_refl _) _).trans (hb1.mono (by simp))
  clear hb1
  go_wp2_with fail
  refine (on_any _ _ _ R _ _ _ hnm (HA.out.below (by exact HB1.out))).mono ?_
  rintro e w2 ⟨rfl, hb2⟩
  have HB2 : Hid (Below w.heap.size w w2) := HB1.out.trans (hb2.mono HB1.out.size)
  clear hb2 HB1
  obtain ⟨g1, hg1⟩ : ∃ g, g = mayM co cs x y := ⟨_, rfl⟩
  obtain ⟨g2, hg2⟩ : ∃ g, g = onM n R y (t + 1) := ⟨_, rfl⟩
  rw [← hg1, ← hg2]
  have key : ∀ b, (g1 && g2 && !noWayM n R x y t) = b → goesI co cs n R x y t = b := fun b h => by unfold goesI; rw [← hg1, ← hg2]; exact h
  have KEY := Hid.mk key
  clear hg1 hg2 key
  cases g1
  · go_wp2
    go_ret
    exact ⟨ret_bool (KEY.out _ (by simp)).symm, HB2.out⟩
  · cases g2
    · go_wp2
      go_ret
      exact ⟨ret_bool (KEY.out _ (by simp)).symm, HB2.out⟩
    · go_wp2
      go_loopw [13] (fun s wr => ∃ k : Nat, k ≤ n ∧ s = .int .i64 k ∧ (∀ j, j < k → brkGo (R j) x y t = false) ∧ Below w.heap.size w wr) (fun s _ => n - (intOf s).toNat)
      case atStart => exact ⟨0, Nat.zero_le _, rfl, fun j hj => absurd hj (Nat.not_lt_zero j), HB2.out⟩
      case round =>
        obtain ⟨k, hk, rfl, hg0, hbr⟩ := hrel
        have hg := Hid.mk hg0
        have HB := Hid.mk hbr
        clear hg0 hbr
        by_cases hlt : k < n
        · obtain ⟨b, off, rfl, hrs⟩ := HA.out (by omega)
          obtain ⟨c0, c1, c2, c3⟩ := hrs k hlt
          have c0 := cell_later HB.out c0
          have c1 := cell_later HB.out c1
          have c2 := cell_later HB.out c2
          have c3 := cell_later HB.out c3
          clear hrs
          obtain ⟨r, hr⟩ : ∃ r, r = R k := ⟨_, rfl⟩
          rw [← hr] at c0 c1 c2 c3
          obtain ⟨kd, ce, ne, ta⟩ := r
          have Hr := Hid.mk hr
          clear hr
          dsimp only at c0 c1 c2 c3
          have GO : Hid (∀ b, brkGo ⟨kd, ce, ne, ta⟩ x y t = b → brkGo (R k) x y t = b) := fun b h => by rw [← Hr.out]; exact h
          by_cases q1 : (kd == 1) = true
          · by_cases q2 : (ta == t) = true
            · by_cases q3 : (ce == (x : Int)) = true
              · by_cases q4 : (ne == (y : Int)) = true
                · go_wp2
                  go_ret
                  exact ⟨ret_bool (KEY.out _ (by rw [noWay_hit hlt (GO.out true (by unfold brkGo; simp [q1, q2, q3, q4]))]; rfl)).symm, HB.out.alloc (HB.out.size) _⟩
                · have q4' : (ne == (y : Int)) = false := by simpa using q4
                  clear q4
                  go_wp2
                  go_roundw
                  case rel => exact ⟨k + 1, by omega, by go_num, upto_step (p := fun j => brkGo (R j) x y t) (GO.out _ (by unfold brkGo; simp [q4'])) hg.out, HB.out.alloc (HB.out.size) _⟩
                  case measure => simp [intOf]; omega
              · have q3' : (ce == (x : Int)) = false := by simpa using q3
                clear q3
                go_wp2
                go_roundw
                case rel => exact ⟨k + 1, by omega, by go_num, upto_step (p := fun j => brkGo (R j) x y t) (GO.out _ (by unfold brkGo; simp [q3'])) hg.out, HB.out.alloc (HB.out.size) _⟩
                case measure => simp [intOf]; omega
            · have q2' : (ta == t) = false := by simpa using q2
              clear q2
              go_wp2
              go_roundw
              case rel => exact ⟨k + 1, by omega, by go_num, upto_step (p := fun j => brkGo (R j) x y t) (GO.out _ (by unfold brkGo; simp [q2'])) hg.out, HB.out.alloc (HB.out.size) _⟩
              case measure => simp [intOf]; omega
          · have q1' : (kd == 1) = false := by simpa using q1
            clear q1
            go_wp2
            go_roundw
            case rel => exact ⟨k + 1, by omega, by go_num, upto_step (p := fun j => brkGo (R j) x y t) (GO.out _ (by unfold brkGo; simp [q1'])) hg.out, HB.out.alloc (HB.out.size) _⟩
            case measure => simp [intOf]; omega
        · have hd : k = n := by omega
          go_wp2
          go_ret
          subst hd
          exact ⟨ret_bool (KEY.out _ (by rw [noWay_miss hg.out]; rfl)).symm, HB.out⟩

theorem goes_nat (ro co bu : Int) (cs : ByteArray) (ca : Value) (a : Option Addr) (n cap : Nat) (R : Nat → RuleM) (x y t : Nat) (w : World) (hs : cs.size ≤ 36) (h1 : 1 ≤ co) (h2 : co ≤ 6) (hn : n ≤ maxLen) (hy : y ≤ 36) (ht1 : t ≤ 1000) (ha : RulesAt w a n R) :
    Calls Tryd.prog 75 #[.agg #[.int .i64 ro, .int .i64 co, .string cs, ca, .int .i64 bu], .slice a n cap, .int .i64 x, .int .i64 y, .int .i64 t] w fun e w' => e = .returned (.bool (goesM co cs n R x y t)) ∧ Below w.heap.size w w' := by
  rw [← goesI_nat]
  exact goes_any ro co bu cs ca a n cap R x y t w hs h1 h2 hn hy (by omega) (by omega) ha

theorem stays_miss {co : Int} {cs : ByteArray} {n : Nat} {R : Nat → RuleM} {c t s : Nat} (h1 : t ≤ s) (h2 : s < 61) (h : goesM co cs n R c c s = false) : staysM co cs n R c t = false := by
  cases e : staysM co cs n R c t with
  | false => rfl
  | true => rw [stays_iff.1 e s h1 h2] at h; cases h

set_option maxHeartbeats 1000000 in
theorem stays_any (ro co bu : Int) (cs : ByteArray) (ca : Value) (a : Option Addr) (n cap : Nat) (R : Nat → RuleM) (c t : Nat) (w : World) (hs : cs.size ≤ 36) (h1 : 1 ≤ co) (h2 : co ≤ 6) (hn : n ≤ maxLen) (hc : c ≤ 36) (ha : RulesAt w a n R) :
    Calls Tryd.prog 72 #[.agg #[.int .i64 ro, .int .i64 co, .string cs, ca, .int .i64 bu], .slice a n cap, .int .i64 c, .int .i64 t] w fun e w' => e = .returned (.bool (staysM co cs n R c t)) ∧ Below w.heap.size w w' := by
  have HA := Hid.mk ha
  clear ha
  go_enter Tryd.func72, Tryd.ntmps72
  go_wp2
  have HB0 : Hid (Below w.heap.size w (w.alloc (Obj.cells #[Value.int IntKind.i64 ro, Value.int IntKind.i64 co, Value.string cs, ca, Value.int IntKind.i64 bu] 24))) := (Below.refl _ w).alloc (Nat.le_refl _) _
  have y0 : ∀ o, (w.alloc (Obj.cells #[Value.int IntKind.i64 ro, Value.int IntKind.i64 co, Value.string cs, ca, Value.int IntKind.i64 bu] 24)).cell? ⟨w.heap.size, o, none⟩ = #[Value.int .i64 ro, .int .i64 co, .string cs, ca, .int .i64 bu][o]? := by
    intro o; go_simp
  have hz0 : w.heap.size < (w.alloc (Obj.cells #[Value.int IntKind.i64 ro, Value.int IntKind.i64 co, Value.string cs, ca, Value.int IntKind.i64 bu] 24)).heap.size := by simp
  generalize w.alloc (Obj.cells #[Value.int IntKind.i64 ro, Value.int IntKind.i64 co, Value.string cs, ca, Value.int IntKind.i64 bu] 24) = w1 at *
  go_loopw [9] (fun s wr => ∃ k : Nat, t ≤ k ∧ s = .int .i64 k ∧ (∀ j, t ≤ j → j < k → goesM co cs n R c c j = true) ∧ Below w1.heap.size w1 wr) (fun s _ => 61 - (intOf s).toNat)
  case atStart => exact ⟨t, Nat.le_refl _, rfl, fun j _ hj => by omega, Below.refl _ _⟩
  case round =>
    obtain ⟨k, hk, rfl, hg0, hbr⟩ := hrel
    have hg := Hid.mk hg0
    have HB := Hid.mk hbr
    have hzr := hbr.size
    have yr : ∀ o, wr.cell? ⟨w.heap.size, o, none⟩ = #[Value.int .i64 ro, .int .i64 co, .string cs, ca, .int .i64 bu][o]? := fun o => (hbr.cell (p := ⟨w.heap.size, o, none⟩) hz0).trans (y0 o)
    clear hg0 hbr y0
    by_cases hlt : k < 61
    · go_wp2_with fail
      refine (goes_nat _ _ _ _ _ _ _ _ R _ _ k _ hs h1 h2 hn hc (by omega) (HA.out.below (by exact HB0.out.trans (HB.out.mono (by omega))))).mono ?_
      rintro e w2 ⟨rfl, hb2⟩
      obtain ⟨g, hgg⟩ : ∃ g, g = goesM co cs n R c c k := ⟨_, rfl⟩
      rw [← hgg]
      have HG := Hid.mk hgg
      have HB2 := Hid.mk (HB.out.trans (hb2.mono hzr))
      clear hgg hb2
      cases g
      · go_wp2
        go_ret
        exact ⟨ret_bool (stays_miss hk hlt HG.out.symm).symm, HB0.out.trans (HB2.out.mono (by omega))⟩
      · go_wp2
        go_roundw
        case rel => exact ⟨k + 1, by omega, by go_num, fun j h1 h2 => by
          by_cases e : j = k
          · subst e; exact HG.out.symm
          · exact hg.out j h1 (by omega), HB2.out⟩
        case measure => simp [intOf]; omega
    · go_wp2
      go_ret
      exact ⟨ret_bool (stays_iff.2 fun s h1 h2 => hg.out s h1 (by omega)).symm, HB0.out.trans (HB.out.mono (by omega))⟩

end Go.Proofs.YtnkgpinadgacgaaDoor

/- Walks of the document's RulesRight, given. -/
namespace Go.Proofs.YtnkgpinadgacgaaDoor
open Go.RowKit M

theorem rulesB_bad {N n : Nat} {R : Nat → RuleM} {k : Nat} (hk : k < n) (h : ruleB N (R k) = false) : rulesB N n R = false := by
  unfold rulesB
  rw [anyB_of (p := fun i => !ruleB N (R i)) (i := k) (by simp [h]) hk]
  simp

theorem rulesB_fine {N n : Nat} {R : Nat → RuleM} (h : ∀ j, j < n → (!ruleB N (R j)) = false) : rulesB N n R = decide ((n : Int) ≤ 40) := by
  unfold rulesB
  rw [anyB_false.2 h]
  simp
  omega

set_option maxHeartbeats 1000000 in
theorem rulesRight_any (ro co bu : Int) (cs : ByteArray) (ca : Value) (a : Option Addr) (n cap : Nat) (R : Nat → RuleM) (w : World) (hn : n ≤ maxLen) (ha : RulesAt w a n R) :
    Calls Tryd.prog 118 #[.agg #[.int .i64 ro, .int .i64 co, .string cs, ca, .int .i64 bu], .slice a n cap] w fun e w' => e = .returned (.bool (rulesB cs.size n R)) ∧ Below w.heap.size w w' := by
  have HA := Hid.mk ha
  clear ha
  unfold maxLen at hn
  go_enter Tryd.func118, Tryd.ntmps118
  go_wp2
  have HB0 : Hid (Below w.heap.size w (w.alloc (Obj.cells #[Value.int IntKind.i64 ro, Value.int IntKind.i64 co, Value.string cs, ca, Value.int IntKind.i64 bu] 24))) := (Below.refl _ w).alloc (Nat.le_refl _) _
  have y0 : ∀ o, (w.alloc (Obj.cells #[Value.int IntKind.i64 ro, Value.int IntKind.i64 co, Value.string cs, ca, Value.int IntKind.i64 bu] 24)).cell? ⟨w.heap.size, o, none⟩ = #[Value.int .i64 ro, .int .i64 co, .string cs, ca, .int .i64 bu][o]? := by
    intro o; go_simp
  have hz0 : w.heap.size < (w.alloc (Obj.cells #[Value.int IntKind.i64 ro, Value.int IntKind.i64 co, Value.string cs, ca, Value.int IntKind.i64 bu] 24)).heap.size := by simp
  generalize w.alloc (Obj.cells #[Value.int IntKind.i64 ro, Value.int IntKind.i64 co, Value.string cs, ca, Value.int IntKind.i64 bu] 24) = w1 at *
  go_loopw [5] (fun s wr => ∃ k : Nat, k ≤ n ∧ s = .int .i64 k ∧ (∀ j, j < k → (!ruleB cs.size (R j)) = false) ∧ Below w1.heap.size w1 wr) (fun s _ => n - (intOf s).toNat)
  case atStart => exact ⟨0, Nat.zero_le _, rfl, fun j hj => absurd hj (Nat.not_lt_zero j), Below.refl _ _⟩
  case round =>
    obtain ⟨k, hk, rfl, hg0, hbr⟩ := hrel
    have hg := Hid.mk hg0
    have HB := Hid.mk hbr
    have hzr := hbr.size
    have hzw : w.heap.size < wr.heap.size := by omega
    have yr : wr.cell? ⟨w.heap.size, 2, none⟩ = some (.string cs) := ((hbr.cell (p := ⟨w.heap.size, 2, none⟩) hz0).trans (y0 2))
    clear hg0 hbr y0
    by_cases hlt : k < n
    · obtain ⟨b, off, rfl, hrs⟩ := HA.out (by omega)
      obtain ⟨c0, c1, c2, c3⟩ := hrs k hlt
      have HBw : Hid (Below w.heap.size w wr) := HB0.out.trans (HB.out.mono (by omega))
      have c0 := cell_later HBw.out c0
      have c1 := cell_later HBw.out c1
      have c2 := cell_later HBw.out c2
      have c3 := cell_later HBw.out c3
      clear hrs
      obtain ⟨r, hr⟩ : ∃ r, r = R k := ⟨_, rfl⟩
      rw [← hr] at c0 c1 c2 c3
      obtain ⟨kd, ce, ne, ta⟩ := r
      have Hr := Hid.mk hr
      clear hr
      dsimp only at c0 c1 c2 c3
      have YES : Hid (ruleB cs.size ⟨kd, ce, ne, ta⟩ = true → (!ruleB cs.size (R k)) = false) := fun h => by rw [← Hr.out, h]; rfl
      have NO : Hid (ruleB cs.size ⟨kd, ce, ne, ta⟩ = false → rulesB cs.size n R = false) := fun h => rulesB_bad hlt (by rw [← Hr.out, h])
      have HE : Hid (Below w.heap.size w (wr.alloc (Obj.cells #[.int .i64 kd, .int .i64 ce, .int .i64 ne, .int .i64 ta] 101))) := HBw.out.alloc HBw.out.size _
      by_cases p1 : kd < 0
      · go_wp2
        go_ret
        exact ⟨ret_bool (NO.out (by unfold ruleB; simp; omega)).symm, HE.out⟩
      · by_cases p2 : 2 < kd
        · go_wp2
          go_ret
          exact ⟨ret_bool (NO.out (by unfold ruleB; simp; omega)).symm, HE.out⟩
        · by_cases p3 : ce < 0
          · go_wp2
            go_ret
            exact ⟨ret_bool (NO.out (by unfold ruleB; simp; omega)).symm, HE.out⟩
          · by_cases p4 : (cs.size : Int) ≤ ce
            · go_wp2
              go_ret
              exact ⟨ret_bool (NO.out (by unfold ruleB; simp; omega)).symm, HE.out⟩
            · by_cases p5 : ta < 0
              · go_wp2
                go_ret
                exact ⟨ret_bool (NO.out (by unfold ruleB; simp; omega)).symm, HE.out⟩
              · by_cases p6 : 60 < ta
                · go_wp2
                  go_ret
                  exact ⟨ret_bool (NO.out (by unfold ruleB; simp; omega)).symm, HE.out⟩
                · go_wp2
                  go_roundw
                  case rel => exact ⟨k + 1, by omega, by go_num, upto_step (p := fun j => !ruleB cs.size (R j)) (YES.out (by unfold ruleB; simp; omega)) hg.out, HB.out.alloc HB.out.size _⟩
                  case measure => simp [intOf]; omega
    · have hd : k = n := by omega
      go_wp2
      go_ret
      subst hd
      exact ⟨ret_bool (rulesB_fine hg.out).symm, HB0.out.trans (HB.out.mono (by omega))⟩

/-- The error of what is given for one cart. -/
def givenE (ro co bu : Int) (cs : ByteArray) (m : Nat) (fr tt : Nat → Int) (k : Int) (n : Nat) (R : Nat → RuleM) : Int :=
  if (checkM ro co cs m fr tt bu).1 = 0 then (if 0 ≤ k ∧ k < m then (if rulesB cs.size n R = true then 0 else 8) else 7) else (checkM ro co cs m fr tt bu).1

theorem given_any (ro co bu : Int) (cs : ByteArray) (a : Option Addr) (m cap : Nat) (fr tt : Nat → Int) (k : Int) (ar : Option Addr) (n capr : Nat) (R : Nat → RuleM) (w : World) (hs : cs.size ≤ maxLen) (hm : m ≤ maxLen) (hn : n ≤ maxLen)
    (ha : 0 < m → ∃ b off, a = some ⟨b, off, none⟩ ∧ CartsIn w b off m fr tt) (har : RulesAt w ar n R) :
    Calls Tryd.prog 70 #[.agg #[.int .i64 ro, .int .i64 co, .string cs, .slice a m cap, .int .i64 bu], .int .i64 k, .slice ar n capr] w fun e w' =>
      e = .returned (.int .i64 (givenE ro co bu cs m fr tt k n R)) ∧ Below w.heap.size w w' := by
  have HA := Hid.mk har
  have HC := Hid.mk ha
  have hmm := hm
  clear har ha
  unfold maxLen at hm
  have HB0 : Hid (Below w.heap.size w (w.alloc (Obj.cells #[Value.int IntKind.i64 ro, Value.int IntKind.i64 co, Value.string cs, .slice a m cap, Value.int IntKind.i64 bu] 24))) := (Below.refl _ w).alloc (Nat.le_refl _) _
  go_enter Tryd.func70, Tryd.ntmps70
  go_wp2_with fail
  have y0 : ∀ o, (w.alloc (Obj.cells #[Value.int IntKind.i64 ro, Value.int IntKind.i64 co, Value.string cs, .slice a m cap, Value.int IntKind.i64 bu] 24)).cell? ⟨w.heap.size, o, none⟩ = #[Value.int .i64 ro, .int .i64 co, .string cs, .slice a m cap, .int .i64 bu][o]? := by
    intro o; go_simp
  have hz0 : w.heap.size < (w.alloc (Obj.cells #[Value.int IntKind.i64 ro, Value.int IntKind.i64 co, Value.string cs, .slice a m cap, Value.int IntKind.i64 bu] 24)).heap.size := by simp
  generalize w.alloc (Obj.cells #[Value.int IntKind.i64 ro, Value.int IntKind.i64 co, Value.string cs, .slice a m cap, Value.int IntKind.i64 bu] 24) = w1 at *
  refine (rcheck_any _ _ _ _ _ _ _ fr tt _ hs hmm (by exact opt_below HC.out HB0.out)).mono ?_
  rintro e w2 ⟨rfl, hb2⟩
  have HB2 : Hid (Below w.heap.size w w2) := HB0.out.trans (hb2.mono (by omega))
  have y2 : ∀ o, w2.cell? ⟨w.heap.size, o, none⟩ = #[Value.int .i64 ro, .int .i64 co, .string cs, .slice a m cap, .int .i64 bu][o]? := fun o => (hb2.cell (p := ⟨w.heap.size, o, none⟩) hz0).trans (y0 o)
  have hz2 : w.heap.size < w2.heap.size := by have := hb2.size; omega
  clear y0 hb2
  by_cases hck : (checkM ro co cs m fr tt bu).1 = 0
  · have hck' : ((checkM ro co cs m fr tt bu).1 != 0) = false := by rw [hck]; rfl
    obtain ⟨sd1, sd2, hsz⟩ := checkM_good hck
    obtain ⟨r1, r2⟩ := side_bd sd1
    obtain ⟨r3, r4⟩ := side_bd sd2
    obtain ⟨hp1, hp2⟩ := mul_bd r1 r2 r3 r4
    have HCK := Hid.mk hck
    clear hck hsz sd1 sd2 hp1 hp2
    by_cases k1 : k < 0
    · go_wp2
      go_ret
      exact ⟨ret_int (by unfold givenE; rw [if_pos HCK.out, if_neg (by omega)]), HB2.out⟩
    · by_cases k2 : (m : Int) ≤ k
      · go_wp2
        go_ret
        exact ⟨ret_int (by unfold givenE; rw [if_pos HCK.out, if_neg (by omega)]), HB2.out⟩
      · go_wp2_with fail
        refine (rulesRight_any _ _ _ _ _ _ _ _ R _ hn (HA.out.below (by exact HB2.out))).mono ?_
        rintro e w3 ⟨rfl, hb3⟩
        have HB3 : Hid (Below w.heap.size w w3) := HB2.out.trans (hb3.mono (by omega))
        clear hb3
        obtain ⟨g, hg⟩ : ∃ g, g = rulesB cs.size n R := ⟨_, rfl⟩
        rw [← hg]
        have HG := Hid.mk hg
        clear hg
        cases g
        · go_wp2
          go_ret
          exact ⟨ret_int (by unfold givenE; rw [if_pos HCK.out, if_pos (by omega), ← HG.out]; rfl), HB3.out⟩
        · go_wp2
          go_ret
          exact ⟨ret_int (by unfold givenE; rw [if_pos HCK.out, if_pos (by omega), ← HG.out]; rfl), HB3.out⟩
  · have hck' : ((checkM ro co cs m fr tt bu).1 != 0) = true := by simpa using hck
    have HCK := Hid.mk hck
    clear hck
    go_wp2
    go_ret
    exact ⟨ret_int (by unfold givenE; rw [if_neg HCK.out]), HB2.out⟩

end Go.Proofs.YtnkgpinadgacgaaDoor

/- Walks of the document's first and ahead. -/
namespace Go.Proofs.YtnkgpinadgacgaaDoor
open Go.RowKit M

def boolV (f : Nat → Bool) : Nat → Value := fun i => .bool (f i)

theorem Tryd.infoBool : (Tryd.prog.info? 4).map (fun i => (i.zero, i.size, i.bytes)) = some (some (.bool false), 1, 1) := by kernel_rfl

theorem brow_zero (N : Nat) (w : World) (t : TypeId) (k : Nat) (hk : k = w.heap.size) : (w.alloc (.cells (madeCells #[.bool false] N) t)).rowIs k t N (boolV (fun _ => false)) := by
  subst hk
  refine rowIs_made _ _ _ _ fun i _ => ?_
  simp [Nat.mod_one, boolV]

theorem brow_store {w : World} {g N : Nat} {t : TypeId} {f f' : Nat → Bool} (h : w.rowIs g t N (boolV f)) (i : Nat) (v : Bool) (he : ∀ j, j < N → (if j = i then v else f j) = f' j) : (w.setCell ⟨g, i, none⟩ (.bool v)).rowIs g t N (boolV f') := by
  refine (h.set i _).congr fun j hj => ?_
  unfold boolV
  rw [← he j hj]
  split <;> rfl

set_option maxRecDepth 100000 in
set_option maxHeartbeats 1000000 in
theorem first_any (ro co bu : Int) (cs : ByteArray) (b off m cap : Nat) (fr tt : Nat → Int) (k f : Nat) (ar : Option Addr) (n capr : Nat) (R : Nat → RuleM) (w : World) (hs : cs.size ≤ 36) (hn : n ≤ maxLen) (hk : k < m) (hf : fr k = (f : Int)) (hfN : f < cs.size)
    (hc : CartsIn w b off m fr tt) (har : RulesAt w ar n R) :
    Calls Tryd.prog 71 #[.agg #[.int .i64 ro, .int .i64 co, .string cs, .slice (some ⟨b, off, none⟩) m cap, .int .i64 bu], .int .i64 k, .slice ar n capr] w fun e w' =>
      ∃ g, e = .returned (.slice (some ⟨g, 0, none⟩) cs.size cs.size) ∧ w.heap.size ≤ g ∧ w'.rowIs g 4 cs.size (boolV (fun c => c == f && onM n R c 0)) ∧ Below w.heap.size w w' := by
  have hfc := (hc k hk).1
  rw [hf] at hfc
  have HA := Hid.mk har
  clear har hc
  have hbl : b < w.heap.size := World.block_lt_of_cell? _ _ hfc
  go_enter Tryd.func71, Tryd.ntmps71
  go_upto_region 2 with (at_make; go_must (refine wpList_make_all _ rfl _ _ 105 rfl 4 _ _ _ Tryd.underlying105 Tryd.infoBool _ _ _ _ cs.size rfl rfl rfl rfl (by omega) (by omega) ?_))
  have hrow0 := Hid.mk (brow_zero cs.size (w.alloc (Obj.cells #[Value.int IntKind.i64 ro, Value.int IntKind.i64 co, Value.string cs, .slice (some ⟨b, off, none⟩) m cap, Value.int IntKind.i64 bu] 24)) 4 (w.heap.size + 1) (by simp))
  have hB3 : Hid (Below w.heap.size w ((w.alloc (Obj.cells #[Value.int IntKind.i64 ro, Value.int IntKind.i64 co, Value.string cs, .slice (some ⟨b, off, none⟩) m cap, Value.int IntKind.i64 bu] 24)).alloc (Obj.cells (madeCells #[Value.bool false] cs.size) 4))) := ((Below.refl _ w).alloc (Nat.le_refl _) _).alloc (by simp) _
  have y3 : ((w.alloc (Obj.cells #[Value.int IntKind.i64 ro, Value.int IntKind.i64 co, Value.string cs, .slice (some ⟨b, off, none⟩) m cap, Value.int IntKind.i64 bu] 24)).alloc (Obj.cells (madeCells #[Value.bool false] cs.size) 4)).cell? ⟨w.heap.size, 3, none⟩ = some (.slice (some ⟨b, off, none⟩) m cap) := by
    go_simp
  have hz3 : ((w.alloc (Obj.cells #[Value.int IntKind.i64 ro, Value.int IntKind.i64 co, Value.string cs, .slice (some ⟨b, off, none⟩) m cap, Value.int IntKind.i64 bu] 24)).alloc (Obj.cells (madeCells #[Value.bool false] cs.size) 4)).heap.size = w.heap.size + 2 := by simp
  have c3 := cell_later hB3.out hfc
  generalize (w.alloc (Obj.cells #[Value.int IntKind.i64 ro, Value.int IntKind.i64 co, Value.string cs, .slice (some ⟨b, off, none⟩) m cap, Value.int IntKind.i64 bu] 24)).alloc (Obj.cells (madeCells #[Value.bool false] cs.size) 4) = w3 at *
  have x3 := hrow0.out.frozen
  have x4 := hrow0.out.cell (i := f) hfN
  clear hfc
  have hz30 : w.heap.size < w3.heap.size := by omega
  have hz31 : w.heap.size + 1 < w3.heap.size := by omega
  have hb3 : b < w3.heap.size := by omega
  have hbne : b ≠ w.heap.size + 1 := by omega
  have hbne2 : w.heap.size + 1 ≠ b := by omega
  have hbne3 : (⟨b, off + k * 2, none⟩ : Addr) ≠ ⟨w.heap.size + 1, f, none⟩ := fun e => hbne (congrArg Addr.block e)
  have hbne4 : (⟨w.heap.size + 1, f, none⟩ : Addr) ≠ ⟨b, off + k * 2, none⟩ := fun e => hbne2 (congrArg Addr.block e)
  go_region_held3 (fun w' => w'.cell? ⟨w.heap.size, 3, none⟩ = some (.slice (some ⟨b, off, none⟩) m cap) ∧ w'.cell? ⟨b, off + k * 2, none⟩ = some (.int .i64 (f : Int))) (go_keep)
    (first
      | (go_at_call_of 74 (Value.int IntKind.i64 0); refine (on_any _ _ _ R _ _ _ hn (HA.out.below (by exact hB3.out.drew))).mono ?_; rintro e w4 ⟨rfl, hb4⟩; have q1 : w4.cell? ⟨w.heap.size, 3, none⟩ = some (.slice (some ⟨b, off, none⟩) m cap) := (hb4.cell (p := ⟨w.heap.size, 3, none⟩) hz30).trans y3; have q2 : w4.cell? ⟨b, off + k * 2, none⟩ = some (.int .i64 (f : Int)) := (hb4.cell (p := ⟨b, off + k * 2, none⟩) hb3).trans c3; have q3 : w4.cell? ⟨w.heap.size + 1, f, none⟩ = some (boolV (fun _ => false) f) := (hb4.cell (p := ⟨w.heap.size + 1, f, none⟩) hz31).trans x4; have q4 : w4.frozen? ⟨w.heap.size + 1, f, none⟩ = false := (hb4.frozen (p := ⟨w.heap.size + 1, f, none⟩) hz31).trans (x3 f)))
  have HW4 : Hid ((w4.setCell ⟨w.heap.size + 1, f, none⟩ (.bool (onM n R (f : Int) 0))).rowIs (w.heap.size + 1) 4 cs.size (boolV (fun c => c == f && onM n R c 0))) := by
    refine brow_store ((hrow0.out.drew).of_block (hb4.block _ hz31)) f _ fun j _ => ?_
    by_cases e : j = f
    · subst e; simp
    · simp [e]
  have HB4 : Hid (Below w.heap.size w (w4.setCell ⟨w.heap.size + 1, f, none⟩ (.bool (onM n R (f : Int) 0)))) := (hB3.out.drew.trans (hb4.mono (by show w.heap.size ≤ w3.heap.size; omega))).setCell (by simp) _
  generalize w4.setCell ⟨w.heap.size + 1, f, none⟩ (.bool (onM n R (f : Int) 0)) = w5 at *
  go_wp2
  go_ret
  exact ⟨w.heap.size + 1, rfl, by omega, HW4.out, HB4.out⟩

end Go.Proofs.YtnkgpinadgacgaaDoor

/- Walk of the document's ahead: where a cart can be an instant later. -/
namespace Go.Proofs.YtnkgpinadgacgaaDoor
open Go.RowKit M

/-- Where a cart can be an instant later, as far as the cells below A were gone on from, and at A to those below B. -/
def ahdM (s : Nat → Bool) (go : Nat → Nat → Bool) (A B b : Nat) : Bool := anyB (fun a => s a && go a b) A || (decide (b < B) && (s A && go A b))

theorem ahd_zero {s : Nat → Bool} {go : Nat → Nat → Bool} (A b : Nat) : ahdM s go A 0 b = anyB (fun a => s a && go a b) A := by simp [ahdM]

theorem ahd_full {s : Nat → Bool} {go : Nat → Nat → Bool} {A B b : Nat} (hb : b < B) : ahdM s go A B b = ahdM s go (A + 1) 0 b := by simp [ahdM, anyB, hb]

theorem ahd_none {s : Nat → Bool} {go : Nat → Nat → Bool} {A b : Nat} (h : s A = false) : ahdM s go A 0 b = ahdM s go (A + 1) 0 b := by simp [ahdM, anyB, h]

theorem ahd_step {s : Nat → Bool} {go : Nat → Nat → Bool} {A B : Nat} (h : s A = true) (b : Nat) : (if b = B then (ahdM s go A B b || go A b) else ahdM s go A B b) = ahdM s go A (B + 1) b := by
  unfold ahdM
  by_cases e : b = B
  · subst e; simp [h]
  · rw [if_neg e]
    have : decide (b < B + 1) = decide (b < B) := by simp; omega
    rw [this]

set_option maxRecDepth 100000 in
set_option maxHeartbeats 1000000 in
theorem ahead_any (ro co bu : Int) (cs : ByteArray) (ca : Value) (ar : Option Addr) (n capr : Nat) (R : Nat → RuleM) (g0 c0 t : Nat) (s : Nat → Bool) (w : World) (hs : cs.size ≤ 36) (h1 : 1 ≤ co) (h2 : co ≤ 6) (hn : n ≤ maxLen) (ht : t ≤ 999) (har : RulesAt w ar n R) (hrow : w.rowIs g0 4 cs.size (boolV s)) :
    Calls Tryd.prog 73 #[.agg #[.int .i64 ro, .int .i64 co, .string cs, ca, .int .i64 bu], .slice ar n capr, .slice (some ⟨g0, 0, none⟩) cs.size c0, .int .i64 t] w fun e w' =>
      ∃ g, e = .returned (.slice (some ⟨g, 0, none⟩) cs.size cs.size) ∧ w.heap.size ≤ g ∧ w'.rowIs g 4 cs.size (boolV (fun b => anyB (fun a => s a && goesM co cs n R a b t) cs.size)) ∧ Below w.heap.size w w' := by
  have HA := Hid.mk har
  have HS := Hid.mk hrow
  have hg0 := hrow.lt
  clear har hrow
  go_enter Tryd.func73, Tryd.ntmps73
  go_wp2_with (at_make; go_must (refine wpList_make_all _ rfl _ _ 105 rfl 4 _ _ _ Tryd.underlying105 Tryd.infoBool _ _ _ _ cs.size rfl rfl rfl rfl (by omega) (by omega) ?_))
  have hrow0 := Hid.mk (brow_zero cs.size (w.alloc (Obj.cells #[Value.int IntKind.i64 ro, Value.int IntKind.i64 co, Value.string cs, ca, Value.int IntKind.i64 bu] 24)) 4 (w.heap.size + 1) (by simp))
  have hB3 : Hid (Below w.heap.size w ((w.alloc (Obj.cells #[Value.int IntKind.i64 ro, Value.int IntKind.i64 co, Value.string cs, ca, Value.int IntKind.i64 bu] 24)).alloc (Obj.cells (madeCells #[Value.bool false] cs.size) 4))) := ((Below.refl _ w).alloc (Nat.le_refl _) _).alloc (by simp) _
  have y3 : ∀ o, ((w.alloc (Obj.cells #[Value.int IntKind.i64 ro, Value.int IntKind.i64 co, Value.string cs, ca, Value.int IntKind.i64 bu] 24)).alloc (Obj.cells (madeCells #[Value.bool false] cs.size) 4)).cell? ⟨w.heap.size, o, none⟩ = #[Value.int .i64 ro, .int .i64 co, .string cs, ca, .int .i64 bu][o]? := by
    intro o; go_simp
  have hz3 : ((w.alloc (Obj.cells #[Value.int IntKind.i64 ro, Value.int IntKind.i64 co, Value.string cs, ca, Value.int IntKind.i64 bu] 24)).alloc (Obj.cells (madeCells #[Value.bool false] cs.size) 4)).heap.size = w.heap.size + 2 := by simp
  generalize (w.alloc (Obj.cells #[Value.int IntKind.i64 ro, Value.int IntKind.i64 co, Value.string cs, ca, Value.int IntKind.i64 bu] 24)).alloc (Obj.cells (madeCells #[Value.bool false] cs.size) 4) = w3 at *
  go_loopw [11] (fun v wr => ∃ A : Nat, A ≤ cs.size ∧ v = .int .i64 A ∧ wr.rowIs (w.heap.size + 1) 4 cs.size (boolV (ahdM s (fun a b => goesM co cs n R a b t) A 0)) ∧ Below (w.heap.size + 1) w3 wr) (fun v _ => cs.size - (intOf v).toNat)
  case atStart => exact ⟨0, Nat.zero_le _, rfl, hrow0.out.congr fun i _ => by simp [boolV, ahdM, anyB], Below.refl _ _⟩
  case round =>
    obtain ⟨wo, rfl⟩ : ∃ x, x = wr := ⟨_, rfl⟩
    obtain ⟨A, hA, rfl, hrw, hbr⟩ := hrel
    have HR := Hid.mk hrw
    have HB := Hid.mk hbr
    have Y3 := Hid.mk y3
    clear hrw hbr y3 hrow0
    by_cases hlt : A < cs.size
    · go_wp2
      go_loopw [12] (fun v wr => ∃ B : Nat, B ≤ cs.size ∧ (s A = false → B = 0) ∧ v = .int .i64 B ∧ wr.rowIs (w.heap.size + 1) 4 cs.size (boolV (ahdM s (fun a b => goesM co cs n R a b t) A B)) ∧ Below (w.heap.size + 1) w3 wr) (fun v _ => cs.size - (intOf v).toNat)
      case atStart => exact ⟨0, Nat.zero_le _, fun _ => rfl, rfl, HR.out, HB.out⟩
      case round =>
        obtain ⟨wi, rfl⟩ : ∃ x, x = wr := ⟨_, rfl⟩
        obtain ⟨B, hB, hB0, rfl, hrw, hbi⟩ := hrel
        have HRI := Hid.mk hrw
        have HBI := Hid.mk hbi
        have hzi := hbi.size
        have HB0 := Hid.mk hB0
        have HWI : Hid (Below w.heap.size w wi) := hB3.out.trans (hbi.mono (by omega))
        have yi : ∀ o, wi.cell? ⟨w.heap.size, o, none⟩ = #[Value.int .i64 ro, .int .i64 co, .string cs, ca, .int .i64 bu][o]? := fun o => (hbi.cell (p := ⟨w.heap.size, o, none⟩) (by show w.heap.size < _; omega)).trans (Y3.out o)
        have sA := cell_later HWI.out (HS.out.cell (i := A) hlt)
        obtain ⟨sa, hsa⟩ : ∃ x, x = s A := ⟨_, rfl⟩
        rw [show boolV s A = Value.bool (s A) from rfl, ← hsa] at sA
        have HSA := Hid.mk hsa
        clear hrw hbi hB0 hsa
        by_cases hltB : B < cs.size
        · cases sa
          · go_wp2
            go_roundw
            case rel =>
              have e0 := HB0.out HSA.out.symm
              subst e0
              exact ⟨A + 1, by omega, by go_num, HRI.out.congr fun i _ => by unfold boolV; rw [ahd_none HSA.out.symm], HBI.out⟩
            case measure => simp [intOf]; omega
          · go_wp2_with fail
            refine (goes_nat _ _ _ _ _ _ _ _ R A B t _ hs h1 h2 hn (by omega) (by omega) (HA.out.below (by exact HWI.out))).mono ?_
            rintro e w4 ⟨rfl, hb4⟩
            have HR4 := Hid.mk (HRI.out.of_block (hb4.block _ (by omega)))
            have HB4 := Hid.mk (HBI.out.trans (hb4.mono (by omega)))
            have cB := HR4.out.cell (i := B) hltB
            have cF := HR4.out.frozen
            obtain ⟨g, hg⟩ : ∃ g, g = goesM co cs n R A B t := ⟨_, rfl⟩
            obtain ⟨o, ho⟩ : ∃ o, o = ahdM s (fun a b => goesM co cs n R a b t) A B B := ⟨_, rfl⟩
            rw [show boolV (ahdM s (fun a b => goesM co cs n R a b t) A B) B = Value.bool (ahdM s (fun a b => goesM co cs n R a b t) A B B) from rfl, ← ho] at cB
            rw [← hg]
            have HG := Hid.mk hg
            have HO := Hid.mk ho
            clear hg ho yi sA hb4
            have fin : ∀ v : Bool, v = (o || g) → (w4.setCell ⟨w.heap.size + 1, B, none⟩ (.bool v)).rowIs (w.heap.size + 1) 4 cs.size (boolV (ahdM s (fun a b => goesM co cs n R a b t) A (B + 1))) := by
              intro v hv
              refine brow_store HR4.out B _ fun j _ => ?_
              rw [← ahd_step HSA.out.symm j, hv, HO.out, HG.out]
              by_cases e : j = B
              · subst e; rfl
              · rw [if_neg e, if_neg e]
            have FIN := Hid.mk fin
            clear fin
            cases o
            · cases g
              · go_wp2
                go_roundw
                case rel => exact ⟨B + 1, by omega, (fun h => by rw [← HSA.out] at h; cases h), by go_num, FIN.out _ rfl, HB4.out.setCell (by simp) _⟩
                case measure => simp [intOf]; omega
              · go_wp2
                go_roundw
                case rel => exact ⟨B + 1, by omega, (fun h => by rw [← HSA.out] at h; cases h), by go_num, FIN.out _ rfl, HB4.out.setCell (by simp) _⟩
                case measure => simp [intOf]; omega
            · go_wp2
              go_roundw
              case rel => exact ⟨B + 1, by omega, (fun h => by rw [← HSA.out] at h; cases h), by go_num, FIN.out _ (by simp), HB4.out.setCell (by simp) _⟩
              case measure => simp [intOf]; omega
        · go_wp2
          go_roundw
          case rel =>
            refine ⟨A + 1, by omega, by go_num, HRI.out.congr fun i hi => ?_, HBI.out⟩
            unfold boolV
            rw [show B = cs.size by omega, ahd_full hi]
          case measure => simp [intOf]; omega
    · have hd : A = cs.size := by omega
      go_wp2
      go_ret
      subst hd
      exact ⟨w.heap.size + 1, rfl, by omega, HR.out.congr fun i _ => by unfold boolV; rw [ahd_zero], hB3.out.trans (HB.out.mono (by omega))⟩

end Go.Proofs.YtnkgpinadgacgaaDoor

/- Walk of the document's Least: the least cost of a path that keeps the rules. -/
namespace Go.Proofs.YtnkgpinadgacgaaDoor
open Go.RowKit M

theorem given_side {ro co bu : Int} {cs : ByteArray} {m : Nat} {fr tt : Nat → Int} {k : Int} {n : Nat} {R : Nat → RuleM} (h : givenE ro co bu cs m fr tt k n R = 0) :
    (checkM ro co cs m fr tt bu).1 = 0 ∧ 0 ≤ k ∧ k < m ∧ rulesB cs.size n R = true := by
  unfold givenE at h
  by_cases h1 : (checkM ro co cs m fr tt bu).1 = 0
  · rw [if_pos h1] at h
    by_cases h2 : 0 ≤ k ∧ k < m
    · rw [if_pos h2] at h
      by_cases h3 : rulesB cs.size n R = true
      · exact ⟨h1, h2.1, h2.2, h3⟩
      · rw [if_neg h3] at h; omega
    · rw [if_neg h2] at h; omega
  · rw [if_neg h1] at h; exact absurd h h1

theorem least_err (ro co bu : Int) (cs : ByteArray) (a : Option Addr) (m cap : Nat) (fr tt : Nat → Int) (k : Int) (ar : Option Addr) (n capr : Nat) (R : Nat → RuleM) (w : World) (hs : cs.size ≤ maxLen) (hm : m ≤ maxLen) (hn : n ≤ maxLen)
    (ha : 0 < m → ∃ b off, a = some ⟨b, off, none⟩ ∧ CartsIn w b off m fr tt) (har : RulesAt w ar n R) (he : givenE ro co bu cs m fr tt k n R ≠ 0) :
    Calls Tryd.prog 23 #[.agg #[.int .i64 ro, .int .i64 co, .string cs, .slice a m cap, .int .i64 bu], .int .i64 k, .slice ar n capr] w fun e w' =>
      e = .returned (.tuple #[.int .i64 0, .int .i64 (givenE ro co bu cs m fr tt k n R)]) ∧ Below w.heap.size w w' := by
  have HA := Hid.mk har
  have HC := Hid.mk ha
  clear har ha
  have HB0 : Hid (Below w.heap.size w (w.alloc (Obj.cells #[Value.int IntKind.i64 ro, Value.int IntKind.i64 co, Value.string cs, .slice a m cap, Value.int IntKind.i64 bu] 24))) := (Below.refl _ w).alloc (Nat.le_refl _) _
  go_enter Tryd.func23, Tryd.ntmps23
  go_wp2_with fail
  have hz0 : w.heap.size < (w.alloc (Obj.cells #[Value.int IntKind.i64 ro, Value.int IntKind.i64 co, Value.string cs, .slice a m cap, Value.int IntKind.i64 bu] 24)).heap.size := by simp
  generalize w.alloc (Obj.cells #[Value.int IntKind.i64 ro, Value.int IntKind.i64 co, Value.string cs, .slice a m cap, Value.int IntKind.i64 bu] 24) = w1 at *
  refine (given_any _ _ _ _ _ _ _ fr tt _ _ _ _ R _ hs hm hn (by exact opt_below HC.out HB0.out) (by exact HA.out.below HB0.out)).mono ?_
  rintro e w2 ⟨rfl, hb2⟩
  have HB2 : Hid (Below w.heap.size w w2) := HB0.out.trans (hb2.mono (by omega))
  have he' : (givenE ro co bu cs m fr tt k n R != 0) = true := by simpa using he
  clear he hb2
  go_wp2
  go_ret2
  exact ⟨rfl, HB2.out⟩

theorem hit_no {co : Int} {cs : ByteArray} {n : Nat} {R : Nat → RuleM} {f c t : Nat} (h : reachM co cs n R f t c = false ∨ staysM co cs n R c t = false) : hitM co cs n R f c t = false := by
  unfold hitM; rcases h with h | h <;> simp [h]

set_option maxRecDepth 100000 in
set_option maxHeartbeats 1000000 in
theorem least_ok (ro co bu : Int) (cs : ByteArray) (a : Option Addr) (m cap : Nat) (fr tt : Nat → Int) (k f c : Nat) (ar : Option Addr) (n capr : Nat) (R : Nat → RuleM) (w : World) (hs : cs.size ≤ maxLen) (hm : m ≤ maxLen) (hn : n ≤ maxLen)
    (ha : 0 < m → ∃ b off, a = some ⟨b, off, none⟩ ∧ CartsIn w b off m fr tt) (har : RulesAt w ar n R) (he : givenE ro co bu cs m fr tt k n R = 0) (hf : fr k = (f : Int)) (hc : tt k = (c : Int)) (hfN : f < cs.size) (hcN : c < cs.size) :
    Calls Tryd.prog 23 #[.agg #[.int .i64 ro, .int .i64 co, .string cs, .slice a m cap, .int .i64 bu], .int .i64 k, .slice ar n capr] w fun e w' =>
      ((∃ T : Nat, T < 62 + cs.size ∧ e = .returned (.tuple #[.int .i64 T, .int .i64 0]) ∧ hitM co cs n R f c T = true ∧ ∀ j, j < T → hitM co cs n R f c j = false) ∨
        (e = .returned (.tuple #[.int .i64 0, .int .i64 9]) ∧ ∀ j, j < 62 + cs.size → hitM co cs n R f c j = false)) ∧ Below w.heap.size w w' := by
  obtain ⟨g1, g2, g3, g4⟩ := given_side he
  have hkm : k < m := by omega
  obtain ⟨b, off, rfl, hcs⟩ := ha (by omega)
  obtain ⟨sd1, sd2, hsz⟩ := checkM_good g1
  obtain ⟨r1, r2⟩ := side_bd sd1
  obtain ⟨r3, r4⟩ := side_bd sd2
  obtain ⟨hp1, hp2⟩ := mul_bd r1 r2 r3 r4
  have hN2 : cs.size ≤ 36 := by omega
  have HA := Hid.mk har
  have HC := Hid.mk hcs
  have hmm := hm
  unfold maxLen at hm
  clear har ha hcs g1 g2 g3 g4 sd1 sd2 hsz hp1 hp2
  have HB0 : Hid (Below w.heap.size w (w.alloc (Obj.cells #[Value.int IntKind.i64 ro, Value.int IntKind.i64 co, Value.string cs, .slice (some ⟨b, off, none⟩) m cap, Value.int IntKind.i64 bu] 24))) := (Below.refl _ w).alloc (Nat.le_refl _) _
  go_enter Tryd.func23, Tryd.ntmps23
  go_wp2_with fail
  have hz0 : w.heap.size < (w.alloc (Obj.cells #[Value.int IntKind.i64 ro, Value.int IntKind.i64 co, Value.string cs, .slice (some ⟨b, off, none⟩) m cap, Value.int IntKind.i64 bu] 24)).heap.size := by simp
  have y0 : ∀ o, (w.alloc (Obj.cells #[Value.int IntKind.i64 ro, Value.int IntKind.i64 co, Value.string cs, .slice (some ⟨b, off, none⟩) m cap, Value.int IntKind.i64 bu] 24)).cell? ⟨w.heap.size, o, none⟩ = #[Value.int .i64 ro, .int .i64 co, .string cs, .slice (some ⟨b, off, none⟩) m cap, .int .i64 bu][o]? := by
    intro o; go_simp
  generalize w.alloc (Obj.cells #[Value.int IntKind.i64 ro, Value.int IntKind.i64 co, Value.string cs, .slice (some ⟨b, off, none⟩) m cap, Value.int IntKind.i64 bu] 24) = w1 at *
  refine (given_any _ _ _ _ _ _ _ fr tt _ _ _ _ R _ hs hmm hn (by exact fun _ => ⟨b, off, rfl, HC.out.below HB0.out⟩) (by exact HA.out.below HB0.out)).mono ?_
  rintro e w2 ⟨rfl, hb2⟩
  rw [he]
  have HB2 : Hid (Below w.heap.size w w2) := HB0.out.trans (hb2.mono (by omega))
  have y2 : ∀ o, w2.cell? ⟨w.heap.size, o, none⟩ = #[Value.int .i64 ro, .int .i64 co, .string cs, .slice (some ⟨b, off, none⟩) m cap, .int .i64 bu][o]? := fun o => (hb2.cell (p := ⟨w.heap.size, o, none⟩) hz0).trans (y0 o)
  have hz2 : w.heap.size < w2.heap.size := by have := hb2.size; omega
  have HC2 := Hid.mk (HC.out.below (by exact HB2.out))
  have d1 := (HC2.out k hkm).2
  rw [hc] at d1
  clear y0 hb2 he
  go_wp2_with fail
  refine (first_any _ _ _ _ _ _ _ _ fr tt k f _ _ _ R _ hN2 hn hkm hf hfN (by exact HC2.out) (by exact HA.out.below HB2.out)).mono ?_
  rintro e w3 ⟨g0, rfl, hg0, hr3, hb3⟩
  have HB3 : Hid (Below w.heap.size w w3) := HB2.out.trans (hb3.mono (by omega))
  have Y3 : Hid (∀ o, w3.cell? ⟨w.heap.size, o, none⟩ = #[Value.int .i64 ro, .int .i64 co, .string cs, .slice (some ⟨b, off, none⟩) m cap, .int .i64 bu][o]?) := fun o => (hb3.cell (p := ⟨w.heap.size, o, none⟩) hz2).trans (y2 o)
  have hz3 : w.heap.size < w3.heap.size := by have := hb3.size; omega
  have HR3 := Hid.mk hr3
  clear y2 hb3 hr3 d1
  go_wp2
  go_loopw [10, 11] (fun v s wr => ∃ t g : Nat, v = .slice (some ⟨g, 0, none⟩) cs.size cs.size ∧ t ≤ 62 + cs.size ∧ s = .int .i64 t ∧ wr.rowIs g 4 cs.size (boolV (reachM co cs n R f t)) ∧ (∀ j, j < t → hitM co cs n R f c j = false) ∧ Below w3.heap.size w3 wr) (fun _ s _ => 62 + cs.size - (intOf s).toNat)
  case atStart => exact ⟨0, g0, rfl, by omega, rfl, HR3.out.congr fun i _ => by simp [boolV, reachM], fun j hj => absurd hj (Nat.not_lt_zero j), Below.refl _ _⟩
  case round =>
    obtain ⟨t, g, rfl, ht, rfl, hrw, hno0, hbr⟩ := hrel
    have HR := Hid.mk hrw
    have HN := Hid.mk hno0
    have HB := Hid.mk hbr
    have HW : Hid (Below w.heap.size w wr) := HB3.out.trans (hbr.mono (by omega))
    have hzr := hbr.size
    have yr : ∀ o, wr.cell? ⟨w.heap.size, o, none⟩ = #[Value.int .i64 ro, .int .i64 co, .string cs, .slice (some ⟨b, off, none⟩) m cap, .int .i64 bu][o]? := fun o => (hbr.cell (p := ⟨w.heap.size, o, none⟩) hz3).trans (Y3.out o)
    clear hrw hno0 hbr
    by_cases hlt : t < 62 + cs.size
    · go_wp2_with fail
      refine (stays_any _ _ _ _ _ _ _ _ R c t _ hN2 r3 r4 hn (by omega) (by exact HA.out.below HW.out)).mono ?_
      rintro e w4 ⟨rfl, hb4⟩
      have HB4 := Hid.mk (HB.out.trans (hb4.mono hzr))
      have HW4 : Hid (Below w.heap.size w w4) := HW.out.trans (hb4.mono (by omega))
      have HR4 := Hid.mk (HR.out.of_block (hb4.block _ HR.out.lt))
      have cc := HR4.out.cell (i := c) hcN
      have y4 : ∀ o, w4.cell? ⟨w.heap.size, o, none⟩ = #[Value.int .i64 ro, .int .i64 co, .string cs, .slice (some ⟨b, off, none⟩) m cap, .int .i64 bu][o]? := fun o => (hb4.cell (p := ⟨w.heap.size, o, none⟩) (by show w.heap.size < _; omega)).trans (yr o)
      have hz4 := hb4.size
      obtain ⟨st, hst⟩ : ∃ x, x = staysM co cs n R c t := ⟨_, rfl⟩
      obtain ⟨re, hre⟩ : ∃ x, x = reachM co cs n R f t c := ⟨_, rfl⟩
      rw [show boolV (reachM co cs n R f t) c = Value.bool (reachM co cs n R f t c) from rfl, ← hre] at cc
      rw [← hst]
      have HST := Hid.mk hst
      have HRE := Hid.mk hre
      clear hst hre yr hb4
      have NO : Hid (hitM co cs n R f c t = false → ∀ j, j < t + 1 → hitM co cs n R f c j = false) := fun h => upto_step (p := fun j => hitM co cs n R f c j) h HN.out
      cases re
      · go_wp2_with fail
        refine (ahead_any _ _ _ _ _ _ _ _ R g cs.size t (reachM co cs n R f t) _ hN2 r3 r4 hn (by omega) (by exact HA.out.below HW4.out) (by exact HR4.out)).mono ?_
        rintro e w5 ⟨g5, rfl, hg5, hr5, hb5⟩
        have HR5 := Hid.mk hr5
        have HB5 := Hid.mk (HB4.out.trans (hb5.mono (by omega)))
        clear hr5 hb5 y4
        go_wp2
        go_roundw
        case rel => exact ⟨t + 1, g5, rfl, by omega, by go_num, HR5.out.congr fun i _ => by simp [boolV, reachM], NO.out (hit_no (Or.inl HRE.out.symm)), HB5.out⟩
        case measure => simp [intOf]; omega
      · cases st
        · go_wp2_with fail
          refine (ahead_any _ _ _ _ _ _ _ _ R g cs.size t (reachM co cs n R f t) _ hN2 r3 r4 hn (by omega) (by exact HA.out.below HW4.out) (by exact HR4.out)).mono ?_
          rintro e w5 ⟨g5, rfl, hg5, hr5, hb5⟩
          have HR5 := Hid.mk hr5
          have HB5 := Hid.mk (HB4.out.trans (hb5.mono (by omega)))
          clear hr5 hb5 y4
          go_wp2
          go_roundw
          case rel => exact ⟨t + 1, g5, rfl, by omega, by go_num, HR5.out.congr fun i _ => by simp [boolV, reachM], NO.out (hit_no (Or.inr HST.out.symm)), HB5.out⟩
          case measure => simp [intOf]; omega
        · go_wp2
          go_ret2
          exact ⟨Or.inl ⟨t, hlt, rfl, by unfold hitM; rw [← HRE.out, ← HST.out]; rfl, HN.out⟩, HW4.out⟩
    · go_wp2
      go_ret2
      exact ⟨Or.inr ⟨rfl, fun j hj => HN.out j (by omega)⟩, HW.out⟩

end Go.Proofs.YtnkgpinadgacgaaDoor

/- Walk of the document's Keeps, at a path that keeps the rules. -/
namespace Go.Proofs.YtnkgpinadgacgaaDoor
open Go.RowKit M

/-- A path of the cart that keeps the rules, of cost T. -/
structure PathOK (co : Int) (cs : ByteArray) (n : Nat) (R : Nat → RuleM) (f c T : Nat) (p : Nat → Nat) : Prop where
  first : p 0 = f
  last : p T = c
  nowait : ∀ s, s + 1 = T → p s ≠ c
  on0 : onM n R f 0 = true
  step : ∀ s, s < T → goesM co cs n R (p s) (p (s + 1)) s = true
  stay : staysM co cs n R c T = true
  inN : ∀ s, s ≤ T → p s < cs.size

def natV (p : Nat → Nat) : Nat → Value := fun i => .int .i64 (p i : Nat)

theorem wrap_mid {x : Int} (h1 : -9223372036854775808 ≤ x) (h2 : x ≤ 9223372036854775807) : IntKind.i64.wrap x = x := by rw [IntKind.wrap_i64]; omega

set_option maxRecDepth 100000 in
set_option maxHeartbeats 2000000 in
theorem keeps_ok (ro co bu : Int) (cs : ByteArray) (b off m cap : Nat) (fr tt : Nat → Int) (k f c : Nat) (ar : Option Addr) (n capr : Nat) (R : Nat → RuleM) (gp cp T : Nat) (p : Nat → Nat) (w : World) (hs : cs.size ≤ 36) (h1 : 1 ≤ co) (h2 : co ≤ 6) (hn : n ≤ maxLen) (hk : k < m) (hT : T ≤ 900) (hf : fr k = (f : Int)) (hc : tt k = (c : Int))
    (hcs : CartsIn w b off m fr tt) (har : RulesAt w ar n R) (hp : ∀ s, s ≤ T → w.cell? ⟨gp, s, none⟩ = some (natV p s)) (hok : PathOK co cs n R f c T p) :
    Calls Tryd.prog 24 #[.agg #[.int .i64 ro, .int .i64 co, .string cs, .slice (some ⟨b, off, none⟩) m cap, .int .i64 bu], .int .i64 k, .slice ar n capr, .slice (some ⟨gp, 0, none⟩) (T + 1) cp] w fun e w' =>
      e = .returned (.bool true) ∧ Below w.heap.size w w' := by
  have hcf := (hcs k hk).1
  have hct := (hcs k hk).2
  rw [hf] at hcf
  rw [hc] at hct
  have hbl : b < w.heap.size := World.block_lt_of_cell? _ _ hcf
  have HP := Hid.mk hp
  have HO := Hid.mk hok
  have HA := Hid.mk har
  have p0 := hp 0 (by omega)
  have pT := hp T (Nat.le_refl _)
  have hgp : gp < w.heap.size := World.block_lt_of_cell? _ _ p0
  rw [show natV p 0 = Value.int .i64 (p 0 : Nat) from rfl, hok.first] at p0
  rw [show natV p T = Value.int .i64 (p T : Nat) from rfl, hok.last] at pT
  clear hp hok har hcs
  obtain ⟨N1, hN1⟩ : ∃ N1, N1 = T + 1 := ⟨_, rfl⟩
  rw [← hN1]
  have i3 : (T : Int) < (N1 : Int) := by omega
  have i4 : (0 : Int) < (N1 : Int) := by omega
  have i5 : ((N1 : Int) == 0) = false := by simp; omega
  have i4n : 0 < N1 := by omega
  have i3n : T < N1 := by omega
  have i9 : N1 ≤ 901 := by omega
  have v1 : IntKind.i64.wrap ((N1 : Int) - 1) = (T : Int) := by
    rw [show (N1 : Int) - 1 = (T : Int) by omega]; exact wrap_mid (by omega) (by omega)
  have HN1 := Hid.mk hN1
  clear hN1
  go_enter Tryd.func24, Tryd.ntmps24
  go_wp2
  have HB0 : Hid (Below w.heap.size w (w.alloc (Obj.cells #[Value.int IntKind.i64 ro, Value.int IntKind.i64 co, Value.string cs, .slice (some ⟨b, off, none⟩) m cap, Value.int IntKind.i64 bu] 24))) := (Below.refl _ w).alloc (Nat.le_refl _) _
  have y0 : ∀ o, (w.alloc (Obj.cells #[Value.int IntKind.i64 ro, Value.int IntKind.i64 co, Value.string cs, .slice (some ⟨b, off, none⟩) m cap, Value.int IntKind.i64 bu] 24)).cell? ⟨w.heap.size, o, none⟩ = #[Value.int .i64 ro, .int .i64 co, .string cs, .slice (some ⟨b, off, none⟩) m cap, .int .i64 bu][o]? := by
    intro o; go_simp
  have hz0 : w.heap.size < (w.alloc (Obj.cells #[Value.int IntKind.i64 ro, Value.int IntKind.i64 co, Value.string cs, .slice (some ⟨b, off, none⟩) m cap, Value.int IntKind.i64 bu] 24)).heap.size := by simp
  generalize w.alloc (Obj.cells #[Value.int IntKind.i64 ro, Value.int IntKind.i64 co, Value.string cs, .slice (some ⟨b, off, none⟩) m cap, Value.int IntKind.i64 bu] 24) = w1 at *
  have hcf1 := cell_later HB0.out hcf
  have hct1 := cell_later HB0.out hct
  have p01 := cell_later HB0.out p0
  have pT1 := cell_later HB0.out pT
  have y3 : w1.cell? ⟨w.heap.size, 3, none⟩ = some (.slice (some ⟨b, off, none⟩) m cap) := y0 3
  have hkI : (k : Int) < m := by omega
  clear hcf hct p0 pT
  by_cases hT0 : T = 0
  · have j1 : decide ((1 : Int) < (N1 : Int)) = false := by have := HN1.out; simp; omega
    have HT := Hid.mk hT0
    clear hT0
    go_quiet (fail)
    go_wp2_with fail
    have HBq : Hid (Below w.heap.size w (w1.drewN nq)) := below_drewN HB0.out _
    have yq : ∀ o, (w1.drewN nq).cell? ⟨w.heap.size, o, none⟩ = #[Value.int .i64 ro, .int .i64 co, .string cs, .slice (some ⟨b, off, none⟩) m cap, .int .i64 bu][o]? := y0
    have hzq : w.heap.size < (w1.drewN nq).heap.size := hz0
    generalize w1.drewN nq = w2 at *
    refine (on_any _ _ _ R _ _ _ hn (HA.out.below (by exact HBq.out))).mono ?_
    rintro e w3 ⟨rfl, hb3⟩
    rw [HO.out.on0]
    have HB3 : Hid (Below w.heap.size w w3) := HBq.out.trans (hb3.mono (by omega))
    have Y3 : Hid (∀ o, w3.cell? ⟨w.heap.size, o, none⟩ = #[Value.int .i64 ro, .int .i64 co, .string cs, .slice (some ⟨b, off, none⟩) m cap, .int .i64 bu][o]?) := fun o => (hb3.cell (p := ⟨w.heap.size, o, none⟩) hzq).trans (yq o)
    have hz3 : w.heap.size < w3.heap.size := by have := hb3.size; omega
    clear yq y0 y3 hcf1 hct1 p01 pT1 hb3 j1
    go_wp2
    go_loopw [11] (fun s wr => ∃ t : Nat, t ≤ T ∧ s = .int .i64 t ∧ Below w3.heap.size w3 wr) (fun s _ => T - (intOf s).toNat)
    case atStart => exact ⟨0, Nat.zero_le _, rfl, Below.refl _ _⟩
    case round =>
      obtain ⟨t, ht, rfl, hbr⟩ := hrel
      have HW : Hid (Below w.heap.size w wr) := HB3.out.trans (hbr.mono (by omega))
      have HB := Hid.mk hbr
      have hzr := hbr.size
      have yr : ∀ o, wr.cell? ⟨w.heap.size, o, none⟩ = #[Value.int .i64 ro, .int .i64 co, .string cs, .slice (some ⟨b, off, none⟩) m cap, .int .i64 bu][o]? := fun o => (hbr.cell (p := ⟨w.heap.size, o, none⟩) hz3).trans (Y3.out o)
      clear hbr
      have hN := HN1.out
      by_cases hlt : t < T
      · have a1 : (t : Int) + 1 < (N1 : Int) := by omega
        have a2 : t < N1 := by omega
        have a3 : t + 1 < N1 := by omega
        have a6 : (t : Int) < (N1 : Int) := by omega
        have a7 : ((t : Int) + 1).toNat = t + 1 := by omega
        have a8 : (0 : Int) ≤ (t : Int) + 1 := by omega
        have a9 : IntKind.i64.wrap ((t : Int) + 1) = (t : Int) + 1 := wrap_mid (by omega) (by omega)
        have a4 := cell_later HW.out (HP.out t (by omega))
        have a5 := cell_later HW.out (HP.out (t + 1) (by omega))
        rw [show natV p t = Value.int .i64 (p t : Nat) from rfl] at a4
        rw [show natV p (t + 1) = Value.int .i64 (p (t + 1) : Nat) from rfl] at a5
        have hpN := HO.out.inN (t + 1) (by omega)
        have z0 := yr 0
        have z1 := yr 1
        have z2 := yr 2
        have z3 := yr 3
        have z4 := yr 4
        simp only [List.getElem?_toArray, List.getElem?_cons_zero, List.getElem?_cons_succ] at z0 z1 z2 z3 z4
        have hzw : w.heap.size < wr.heap.size := by omega
        have hzg : gp < wr.heap.size := by omega
        clear hN
        go_wp2_with fail
        go_region_held3 (fun w' => w'.cell? ⟨w.heap.size, 0, none⟩ = some (.int .i64 ro) ∧ w'.cell? ⟨w.heap.size, 1, none⟩ = some (.int .i64 co) ∧ w'.cell? ⟨w.heap.size, 2, none⟩ = some (.string cs) ∧ w'.cell? ⟨w.heap.size, 3, none⟩ = some (.slice (some ⟨b, off, none⟩) m cap) ∧ w'.cell? ⟨w.heap.size, 4, none⟩ = some (.int .i64 bu) ∧ w'.cell? ⟨gp, t, none⟩ = some (.int .i64 (p t : Nat)) ∧ w'.cell? ⟨gp, t + 1, none⟩ = some (.int .i64 (p (t + 1) : Nat))) (go_keep)
          (first
            | (go_at_call_of 75 (Value.int IntKind.i64 (t : Int)); refine (goes_nat _ _ _ _ _ _ _ _ R (p t) (p (t + 1)) t _ hs h1 h2 hn (by omega) (by omega) (HA.out.below (by exact HW.out.drew))).mono ?_; rintro e w4 ⟨rfl, hb4⟩; obtain ⟨q0, q1, q2, q3, q4⟩ : w4.cell? ⟨w.heap.size, 0, none⟩ = some (.int .i64 ro) ∧ w4.cell? ⟨w.heap.size, 1, none⟩ = some (.int .i64 co) ∧ w4.cell? ⟨w.heap.size, 2, none⟩ = some (.string cs) ∧ w4.cell? ⟨w.heap.size, 3, none⟩ = some (.slice (some ⟨b, off, none⟩) m cap) ∧ w4.cell? ⟨w.heap.size, 4, none⟩ = some (.int .i64 bu) := ⟨(hb4.cell (p := ⟨w.heap.size, 0, none⟩) hzw).trans z0, (hb4.cell (p := ⟨w.heap.size, 1, none⟩) hzw).trans z1, (hb4.cell (p := ⟨w.heap.size, 2, none⟩) hzw).trans z2, (hb4.cell (p := ⟨w.heap.size, 3, none⟩) hzw).trans z3, (hb4.cell (p := ⟨w.heap.size, 4, none⟩) hzw).trans z4⟩; have q5 : w4.cell? ⟨gp, t, none⟩ = some (.int .i64 (p t : Nat)) := (hb4.cell (p := ⟨gp, t, none⟩) hzg).trans a4; have q6 : w4.cell? ⟨gp, t + 1, none⟩ = some (.int .i64 (p (t + 1) : Nat)) := (hb4.cell (p := ⟨gp, t + 1, none⟩) hzg).trans a5))
        rw [HO.out.step t hlt]
        have HB4 : Hid (Below w3.heap.size w3 w4) := HB.out.drew.trans (hb4.mono (by show w3.heap.size ≤ wr.heap.size; omega))
        clear hb4 yr a4 a5 z0 z1 z2 z3 z4
        go_wp2
        go_roundw
        case rel => exact ⟨t + 1, by omega, by go_num, HB4.out⟩
        case measure => simp [intOf]; omega
      · have e0 : t = T := by omega
        subst e0
        have a1 : ¬ (t : Int) + 1 < (N1 : Int) := by omega
        have a4 := cell_later HW.out (HP.out t (by omega))
        rw [show natV p t = Value.int .i64 (p t : Nat) from rfl, HO.out.last] at a4
        have hcN := HO.out.inN t (by omega)
        rw [HO.out.last] at hcN
        have z0 := yr 0
        have z1 := yr 1
        have z2 := yr 2
        have z3 := yr 3
        have z4 := yr 4
        simp only [List.getElem?_toArray, List.getElem?_cons_zero, List.getElem?_cons_succ] at z0 z1 z2 z3 z4
        have hzw : w.heap.size < wr.heap.size := by omega
        have hzg : gp < wr.heap.size := by omega
        clear hN
        go_wp2_with fail
        go_region_held3 (fun w' => w'.cell? ⟨w.heap.size, 0, none⟩ = some (.int .i64 ro) ∧ w'.cell? ⟨w.heap.size, 1, none⟩ = some (.int .i64 co) ∧ w'.cell? ⟨w.heap.size, 2, none⟩ = some (.string cs) ∧ w'.cell? ⟨w.heap.size, 3, none⟩ = some (.slice (some ⟨b, off, none⟩) m cap) ∧ w'.cell? ⟨w.heap.size, 4, none⟩ = some (.int .i64 bu) ∧ w'.cell? ⟨gp, t, none⟩ = some (.int .i64 (c : Int))) (go_keep)
          (first
            | (go_at_call_of 72 (Value.int IntKind.i64 (t : Int)); refine (stays_any _ _ _ _ _ _ _ _ R c t _ hs h1 h2 hn (by omega) (HA.out.below (by exact HW.out.drew))).mono ?_; rintro e w4 ⟨rfl, hb4⟩; obtain ⟨q0, q1, q2, q3, q4⟩ : w4.cell? ⟨w.heap.size, 0, none⟩ = some (.int .i64 ro) ∧ w4.cell? ⟨w.heap.size, 1, none⟩ = some (.int .i64 co) ∧ w4.cell? ⟨w.heap.size, 2, none⟩ = some (.string cs) ∧ w4.cell? ⟨w.heap.size, 3, none⟩ = some (.slice (some ⟨b, off, none⟩) m cap) ∧ w4.cell? ⟨w.heap.size, 4, none⟩ = some (.int .i64 bu) := ⟨(hb4.cell (p := ⟨w.heap.size, 0, none⟩) hzw).trans z0, (hb4.cell (p := ⟨w.heap.size, 1, none⟩) hzw).trans z1, (hb4.cell (p := ⟨w.heap.size, 2, none⟩) hzw).trans z2, (hb4.cell (p := ⟨w.heap.size, 3, none⟩) hzw).trans z3, (hb4.cell (p := ⟨w.heap.size, 4, none⟩) hzw).trans z4⟩; have q5 : w4.cell? ⟨gp, t, none⟩ = some (.int .i64 (c : Int)) := (hb4.cell (p := ⟨gp, t, none⟩) hzg).trans a4))
        rw [HO.out.stay]
        have HB4 : Hid (Below w.heap.size w w4) := HW.out.drew.trans (hb4.mono (by show w.heap.size ≤ wr.heap.size; omega))
        clear hb4 yr a4 z0 z1 z2 z3 z4
        go_wp2
        go_ret
        exact ⟨rfl, HB4.out⟩
  · obtain ⟨T', hT'⟩ : ∃ T', T' + 1 = T := ⟨T - 1, by omega⟩
    have q01 := cell_later HB0.out (HP.out T' (by omega))
    rw [show natV p T' = Value.int .i64 (p T' : Nat) from rfl] at q01
    have hq : (((p T' : Nat) : Int) == (c : Int)) = false := by
      have := HO.out.nowait T' hT'
      simp; omega
    have hN := HN1.out
    have j1 : (1 : Int) < (N1 : Int) := by omega
    have v2 : IntKind.i64.wrap ((N1 : Int) - 2) = (T' : Int) := by
      rw [show (N1 : Int) - 2 = (T' : Int) by omega]; exact wrap_mid (by omega) (by omega)
    have j2 : (T' : Int) < (N1 : Int) := by omega
    have j2n : T' < N1 := by omega
    have HT := Hid.mk hT'
    clear hT0 hT' hN
    go_quiet (fail)
    go_wp2_with fail
    have HBq : Hid (Below w.heap.size w (w1.drewN nq)) := below_drewN HB0.out _
    have yq : ∀ o, (w1.drewN nq).cell? ⟨w.heap.size, o, none⟩ = #[Value.int .i64 ro, .int .i64 co, .string cs, .slice (some ⟨b, off, none⟩) m cap, .int .i64 bu][o]? := y0
    have hzq : w.heap.size < (w1.drewN nq).heap.size := hz0
    generalize w1.drewN nq = w2 at *
    refine (on_any _ _ _ R _ _ _ hn (HA.out.below (by exact HBq.out))).mono ?_
    rintro e w3 ⟨rfl, hb3⟩
    rw [HO.out.on0]
    have HB3 : Hid (Below w.heap.size w w3) := HBq.out.trans (hb3.mono (by omega))
    have Y3 : Hid (∀ o, w3.cell? ⟨w.heap.size, o, none⟩ = #[Value.int .i64 ro, .int .i64 co, .string cs, .slice (some ⟨b, off, none⟩) m cap, .int .i64 bu][o]?) := fun o => (hb3.cell (p := ⟨w.heap.size, o, none⟩) hzq).trans (yq o)
    have hz3 : w.heap.size < w3.heap.size := by have := hb3.size; omega
    clear yq y0 y3 hcf1 hct1 p01 pT1 hb3 j1 q01 hq v2 j2 j2n
    go_wp2
    go_loopw [11] (fun s wr => ∃ t : Nat, t ≤ T ∧ s = .int .i64 t ∧ Below w3.heap.size w3 wr) (fun s _ => T - (intOf s).toNat)
    case atStart => exact ⟨0, Nat.zero_le _, rfl, Below.refl _ _⟩
    case round =>
      obtain ⟨t, ht, rfl, hbr⟩ := hrel
      have HW : Hid (Below w.heap.size w wr) := HB3.out.trans (hbr.mono (by omega))
      have HB := Hid.mk hbr
      have hzr := hbr.size
      have yr : ∀ o, wr.cell? ⟨w.heap.size, o, none⟩ = #[Value.int .i64 ro, .int .i64 co, .string cs, .slice (some ⟨b, off, none⟩) m cap, .int .i64 bu][o]? := fun o => (hbr.cell (p := ⟨w.heap.size, o, none⟩) hz3).trans (Y3.out o)
      clear hbr
      have hN := HN1.out
      by_cases hlt : t < T
      · have a1 : (t : Int) + 1 < (N1 : Int) := by omega
        have a2 : t < N1 := by omega
        have a3 : t + 1 < N1 := by omega
        have a6 : (t : Int) < (N1 : Int) := by omega
        have a7 : ((t : Int) + 1).toNat = t + 1 := by omega
        have a8 : (0 : Int) ≤ (t : Int) + 1 := by omega
        have a9 : IntKind.i64.wrap ((t : Int) + 1) = (t : Int) + 1 := wrap_mid (by omega) (by omega)
        have a4 := cell_later HW.out (HP.out t (by omega))
        have a5 := cell_later HW.out (HP.out (t + 1) (by omega))
        rw [show natV p t = Value.int .i64 (p t : Nat) from rfl] at a4
        rw [show natV p (t + 1) = Value.int .i64 (p (t + 1) : Nat) from rfl] at a5
        have hpN := HO.out.inN (t + 1) (by omega)
        have z0 := yr 0
        have z1 := yr 1
        have z2 := yr 2
        have z3 := yr 3
        have z4 := yr 4
        simp only [List.getElem?_toArray, List.getElem?_cons_zero, List.getElem?_cons_succ] at z0 z1 z2 z3 z4
        have hzw : w.heap.size < wr.heap.size := by omega
        have hzg : gp < wr.heap.size := by omega
        clear hN
        go_wp2_with fail
        go_region_held3 (fun w' => w'.cell? ⟨w.heap.size, 0, none⟩ = some (.int .i64 ro) ∧ w'.cell? ⟨w.heap.size, 1, none⟩ = some (.int .i64 co) ∧ w'.cell? ⟨w.heap.size, 2, none⟩ = some (.string cs) ∧ w'.cell? ⟨w.heap.size, 3, none⟩ = some (.slice (some ⟨b, off, none⟩) m cap) ∧ w'.cell? ⟨w.heap.size, 4, none⟩ = some (.int .i64 bu) ∧ w'.cell? ⟨gp, t, none⟩ = some (.int .i64 (p t : Nat)) ∧ w'.cell? ⟨gp, t + 1, none⟩ = some (.int .i64 (p (t + 1) : Nat))) (go_keep)
          (first
            | (go_at_call_of 75 (Value.int IntKind.i64 (t : Int)); refine (goes_nat _ _ _ _ _ _ _ _ R (p t) (p (t + 1)) t _ hs h1 h2 hn (by omega) (by omega) (HA.out.below (by exact HW.out.drew))).mono ?_; rintro e w4 ⟨rfl, hb4⟩; obtain ⟨q0, q1, q2, q3, q4⟩ : w4.cell? ⟨w.heap.size, 0, none⟩ = some (.int .i64 ro) ∧ w4.cell? ⟨w.heap.size, 1, none⟩ = some (.int .i64 co) ∧ w4.cell? ⟨w.heap.size, 2, none⟩ = some (.string cs) ∧ w4.cell? ⟨w.heap.size, 3, none⟩ = some (.slice (some ⟨b, off, none⟩) m cap) ∧ w4.cell? ⟨w.heap.size, 4, none⟩ = some (.int .i64 bu) := ⟨(hb4.cell (p := ⟨w.heap.size, 0, none⟩) hzw).trans z0, (hb4.cell (p := ⟨w.heap.size, 1, none⟩) hzw).trans z1, (hb4.cell (p := ⟨w.heap.size, 2, none⟩) hzw).trans z2, (hb4.cell (p := ⟨w.heap.size, 3, none⟩) hzw).trans z3, (hb4.cell (p := ⟨w.heap.size, 4, none⟩) hzw).trans z4⟩; have q5 : w4.cell? ⟨gp, t, none⟩ = some (.int .i64 (p t : Nat)) := (hb4.cell (p := ⟨gp, t, none⟩) hzg).trans a4; have q6 : w4.cell? ⟨gp, t + 1, none⟩ = some (.int .i64 (p (t + 1) : Nat)) := (hb4.cell (p := ⟨gp, t + 1, none⟩) hzg).trans a5))
        rw [HO.out.step t hlt]
        have HB4 : Hid (Below w3.heap.size w3 w4) := HB.out.drew.trans (hb4.mono (by show w3.heap.size ≤ wr.heap.size; omega))
        clear hb4 yr a4 a5 z0 z1 z2 z3 z4
        go_wp2
        go_roundw
        case rel => exact ⟨t + 1, by omega, by go_num, HB4.out⟩
        case measure => simp [intOf]; omega
      · have e0 : t = T := by omega
        subst e0
        have a1 : ¬ (t : Int) + 1 < (N1 : Int) := by omega
        have a4 := cell_later HW.out (HP.out t (by omega))
        rw [show natV p t = Value.int .i64 (p t : Nat) from rfl, HO.out.last] at a4
        have hcN := HO.out.inN t (by omega)
        rw [HO.out.last] at hcN
        have z0 := yr 0
        have z1 := yr 1
        have z2 := yr 2
        have z3 := yr 3
        have z4 := yr 4
        simp only [List.getElem?_toArray, List.getElem?_cons_zero, List.getElem?_cons_succ] at z0 z1 z2 z3 z4
        have hzw : w.heap.size < wr.heap.size := by omega
        have hzg : gp < wr.heap.size := by omega
        clear hN
        go_wp2_with fail
        go_region_held3 (fun w' => w'.cell? ⟨w.heap.size, 0, none⟩ = some (.int .i64 ro) ∧ w'.cell? ⟨w.heap.size, 1, none⟩ = some (.int .i64 co) ∧ w'.cell? ⟨w.heap.size, 2, none⟩ = some (.string cs) ∧ w'.cell? ⟨w.heap.size, 3, none⟩ = some (.slice (some ⟨b, off, none⟩) m cap) ∧ w'.cell? ⟨w.heap.size, 4, none⟩ = some (.int .i64 bu) ∧ w'.cell? ⟨gp, t, none⟩ = some (.int .i64 (c : Int))) (go_keep)
          (first
            | (go_at_call_of 72 (Value.int IntKind.i64 (t : Int)); refine (stays_any _ _ _ _ _ _ _ _ R c t _ hs h1 h2 hn (by omega) (HA.out.below (by exact HW.out.drew))).mono ?_; rintro e w4 ⟨rfl, hb4⟩; obtain ⟨q0, q1, q2, q3, q4⟩ : w4.cell? ⟨w.heap.size, 0, none⟩ = some (.int .i64 ro) ∧ w4.cell? ⟨w.heap.size, 1, none⟩ = some (.int .i64 co) ∧ w4.cell? ⟨w.heap.size, 2, none⟩ = some (.string cs) ∧ w4.cell? ⟨w.heap.size, 3, none⟩ = some (.slice (some ⟨b, off, none⟩) m cap) ∧ w4.cell? ⟨w.heap.size, 4, none⟩ = some (.int .i64 bu) := ⟨(hb4.cell (p := ⟨w.heap.size, 0, none⟩) hzw).trans z0, (hb4.cell (p := ⟨w.heap.size, 1, none⟩) hzw).trans z1, (hb4.cell (p := ⟨w.heap.size, 2, none⟩) hzw).trans z2, (hb4.cell (p := ⟨w.heap.size, 3, none⟩) hzw).trans z3, (hb4.cell (p := ⟨w.heap.size, 4, none⟩) hzw).trans z4⟩; have q5 : w4.cell? ⟨gp, t, none⟩ = some (.int .i64 (c : Int)) := (hb4.cell (p := ⟨gp, t, none⟩) hzg).trans a4))
        rw [HO.out.stay]
        have HB4 : Hid (Below w.heap.size w w4) := HW.out.drew.trans (hb4.mono (by show w.heap.size ≤ wr.heap.size; omega))
        clear hb4 yr a4 z0 z1 z2 z3 z4
        go_wp2
        go_ret
        exact ⟨rfl, HB4.out⟩

end Go.Proofs.YtnkgpinadgacgaaDoor
