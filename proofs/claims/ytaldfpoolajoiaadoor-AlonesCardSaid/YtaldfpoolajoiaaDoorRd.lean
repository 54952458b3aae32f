/- Walks of the document's goes and stays. -/
import Derived.Test.YtaldfpoolajoiaaDoorRc
namespace Go.Proofs.YtaldfpoolajoiaaDoor
open Go.RowKit M

/-- May a cart go from a to b at an instant, by the yard and the rules? -/
def goesI (co : Int) (cs : ByteArray) (n : Nat) (R : Nat → RuleM) (a b : Nat) (t : Int) : Bool := mayM co cs a b && onM n R b (t + 1) && !noWayM n R a b t

theorem goesI_nat {co : Int} {cs : ByteArray} {n : Nat} {R : Nat → RuleM} {a b t : Nat} : goesI co cs n R a b t = goesM co cs n R a b t := by
  unfold goesI goesM adjM
  rw [show ((t : Int) + 1) = ((t + 1 : Nat) : Int) by omega]

theorem noWay_hit {n : Nat} {R : Nat → RuleM} {a b t : Int} {k : Nat} (hk : k < n) (h : brkGo (R k) a b t = true) : noWayM n R a b t = true := by
  unfold noWayM; exact anyB_of h hk

theorem noWay_miss {n : Nat} {R : Nat → RuleM} {a b t : Int} (h : ∀ j, j < n → brkGo (R j) a b t = false) : noWayM n R a b t = false := by
  unfold noWayM; exact anyB_false.2 h

set_option maxHeartbeats 1000000 in
theorem goes_any (ro co bu : Int) (cs : ByteArray) (ca : Value) (a : Option Addr) (n cap : Nat) (R : Nat → RuleM) (x y : Nat) (t : Int) (w : World) (hs : cs.size ≤ 36) (h1 : 1 ≤ co) (h2 : co ≤ 6) (hn : n ≤ maxLen) (hy : y ≤ 36) (ht0 : -1 ≤ t) (ht1 : t ≤ 1000) (ha : RulesAt w a n R) :
    Calls Tryd.prog 53 #[.agg #[.int .i64 ro, .int .i64 co, .string cs, ca, .int .i64 bu], .slice a n cap, .int .i64 x, .int .i64 y, .int .i64 t] w fun e w' => e = .returned (.bool (goesI co cs n R x y t)) ∧ Below w.heap.size w w' := by
  have HA := Hid.mk ha
  have hnm := hn
  clear ha
  unfold maxLen at hn
  go_enter Tryd.func53, Tryd.ntmps53
  go_wp2_with fail
  refine (may_any _ _ _ _ _ _ _ _ hs h1 h2 (by omega) (by omega)).mono ?_
  rintro e w1 ⟨rfl, hb1⟩
  have HB1 : Hid (Below w.heap.size w w1) := ((Below.refl _ _).alloc (Nat.le_refl _) _).trans (hb1.mono (by simp))
  clear hb1
  go_wp2_with fail
  refine (on_any _ _ _ R _ _ _ hnm (HA.out.below (by exact HB1.out))).mono ?_
  rintro e w2 ⟨rfl, hb2⟩
  have HB2 : Hid (Below w.heap.size w w2) := HB1.out.trans (hb2.mono HB1.out.size)
  clear hb2 HB1
  obtain ⟨g1, hg1⟩ : ∃ g, g = mayM co cs x y := ⟨_, rfl⟩
  obtain ⟨g2, hg2⟩ : ∃ g, g = onM n R y (t + 1) := ⟨_, rfl⟩
  rw [← hg1, ← hg2]
  have key : ∀ b, (g1 && g2 && !noWayM n R x y t) = b → goesI co cs n R x y t = b := fun b h => by unfold goesI; rw [← hg1, ← hg2]; exact h
  have KEY := Hid.mk key
  clear hg1 hg2 key
  cases g1
  · go_wp2
    go_ret
    exact ⟨ret_bool (KEY.out _ (by simp)).symm, HB2.out⟩
  · cases g2
    · go_wp2
      go_ret
      exact ⟨ret_bool (KEY.out _ (by simp)).symm, HB2.out⟩
    · go_wp2
      go_loopw [13] (fun s wr => ∃ k : Nat, k ≤ n ∧ s = .int .i64 k ∧ (∀ j, j < k → brkGo (R j) x y t = false) ∧ Below w.heap.size w wr) (fun s _ => n - (intOf s).toNat)
      case atStart => exact ⟨0, Nat.zero_le _, rfl, fun j hj => absurd hj (Nat.not_lt_zero j), HB2.out⟩
      case round =>
        obtain ⟨k, hk, rfl, hg0, hbr⟩ := hrel
        have hg := Hid.mk hg0
        have HB := Hid.mk hbr
        clear hg0 hbr
        by_cases hlt : k < n
        · obtain ⟨b, off, rfl, hrs⟩ := HA.out (by omega)
          obtain ⟨c0, c1, c2, c3⟩ := hrs k hlt
          have c0 := cell_later HB.out c0
          have c1 := cell_later HB.out c1
          have c2 := cell_later HB.out c2
          have c3 := cell_later HB.out c3
          clear hrs
          obtain ⟨r, hr⟩ : ∃ r, r = R k := ⟨_, rfl⟩
          rw [← hr] at c0 c1 c2 c3
          obtain ⟨kd, ce, ne, ta⟩ := r
          have Hr := Hid.mk hr
          clear hr
          dsimp only at c0 c1 c2 c3
          have GO : Hid (∀ b, brkGo ⟨kd, ce, ne, ta⟩ x y t = b → brkGo (R k) x y t = b) := fun b h => by rw [← Hr.out]; exact h
          by_cases q1 : (kd == 1) = true
          · by_cases q2 : (ta == t) = true
            · by_cases q3 : (ce == (x : Int)) = true
              · by_cases q4 : (ne == (y : Int)) = true
                · go_wp2
                  go_ret
                  exact ⟨ret_bool (KEY.out _ (by rw [noWay_hit hlt (GO.out true (by unfold brkGo; simp [q1, q2, q3, q4]))]; rfl)).symm, HB.out.alloc (HB.out.size) _⟩
                · have q4' : (ne == (y : Int)) = false := by simpa using q4
                  clear q4
                  go_wp2
                  go_roundw
                  case rel => exact ⟨k + 1, by omega, by go_num, upto_step (p := fun j => brkGo (R j) x y t) (GO.out _ (by unfold brkGo; simp [q4'])) hg.out, HB.out.alloc (HB.out.size) _⟩
                  case measure => simp [intOf]; omega
              · have q3' : (ce == (x : Int)) = false := by simpa using q3
                clear q3
                go_wp2
                go_roundw
                case rel => exact ⟨k + 1, by omega, by go_num, upto_step (p := fun j => brkGo (R j) x y t) (GO.out _ (by unfold brkGo; simp [q3'])) hg.out, HB.out.alloc (HB.out.size) _⟩
                case measure => simp [intOf]; omega
            · have q2' : (ta == t) = false := by simpa using q2
              clear q2
              go_wp2
              go_roundw
              case rel => exact ⟨k + 1, by omega, by go_num, upto_step (p := fun j => brkGo (R j) x y t) (GO.out _ (by unfold brkGo; simp [q2'])) hg.out, HB.out.alloc (HB.out.size) _⟩
              case measure => simp [intOf]; omega
          · have q1' : (kd == 1) = false := by simpa using q1
            clear q1
            go_wp2
            go_roundw
            case rel => exact ⟨k + 1, by omega, by go_num, upto_step (p := fun j => brkGo (R j) x y t) (GO.out _ (by unfold brkGo; simp [q1'])) hg.out, HB.out.alloc (HB.out.size) _⟩
            case measure => simp [intOf]; omega
        · have hd : k = n := by omega
          go_wp2
          go_ret
          subst hd
          exact ⟨ret_bool (KEY.out _ (by rw [noWay_miss hg.out]; rfl)).symm, HB.out⟩

theorem goes_nat (ro co bu : Int) (cs : ByteArray) (ca : Value) (a : Option Addr) (n cap : Nat) (R : Nat → RuleM) (x y t : Nat) (w : World) (hs : cs.size ≤ 36) (h1 : 1 ≤ co) (h2 : co ≤ 6) (hn : n ≤ maxLen) (hy : y ≤ 36) (ht1 : t ≤ 1000) (ha : RulesAt w a n R) :
    Calls Tryd.prog 53 #[.agg #[.int .i64 ro, .int .i64 co, .string cs, ca, .int .i64 bu], .slice a n cap, .int .i64 x, .int .i64 y, .int .i64 t] w fun e w' => e = .returned (.bool (goesM co cs n R x y t)) ∧ Below w.heap.size w w' := by
  rw [← goesI_nat]
  exact goes_any ro co bu cs ca a n cap R x y t w hs h1 h2 hn hy (by omega) (by omega) ha

theorem stays_miss {co : Int} {cs : ByteArray} {n : Nat} {R : Nat → RuleM} {c t s : Nat} (h1 : t ≤ s) (h2 : s < 61) (h : goesM co cs n R c c s = false) : staysM co cs n R c t = false := by
  cases e : staysM co cs n R c t with
  | false => rfl
  | true => rw [stays_iff.1 e s h1 h2] at h; cases h

set_option maxHeartbeats 1000000 in
theorem stays_any (ro co bu : Int) (cs : ByteArray) (ca : Value) (a : Option Addr) (n cap : Nat) (R : Nat → RuleM) (c t : Nat) (w : World) (hs : cs.size ≤ 36) (h1 : 1 ≤ co) (h2 : co ≤ 6) (hn : n ≤ maxLen) (hc : c ≤ 36) (ha : RulesAt w a n R) :
    Calls Tryd.prog 50 #[.agg #[.int .i64 ro, .int .i64 co, .string cs, ca, .int .i64 bu], .slice a n cap, .int .i64 c, .int .i64 t] w fun e w' => e = .returned (.bool (staysM co cs n R c t)) ∧ Below w.heap.size w w' := by
  have HA := Hid.mk ha
  clear ha
  go_enter Tryd.func50, Tryd.ntmps50
  go_wp2
  have HB0 : Hid (Below w.heap.size w (w.alloc (Obj.cells #[Value.int IntKind.i64 ro, Value.int IntKind.i64 co, Value.string cs, ca, Value.int IntKind.i64 bu] 24))) := (Below.refl _ w).alloc (Nat.le_refl _) _
  have y0 : ∀ o, (w.alloc (Obj.cells #[Value.int IntKind.i64 ro, Value.int IntKind.i64 co, Value.string cs, ca, Value.int IntKind.i64 bu] 24)).cell? ⟨w.heap.size, o, none⟩ = #[Value.int .i64 ro, .int .i64 co, .string cs, ca, .int .i64 bu][o]? := by
    intro o; go_simp
  have hz0 : w.heap.size < (w.alloc (Obj.cells #[Value.int IntKind.i64 ro, Value.int IntKind.i64 co, Value.string cs, ca, Value.int IntKind.i64 bu] 24)).heap.size := by simp
  generalize w.alloc (Obj.cells #[Value.int IntKind.i64 ro, Value.int IntKind.i64 co, Value.string cs, ca, Value.int IntKind.i64 bu] 24) = w1 at *
  go_loopw [9] (fun s wr => ∃ k : Nat, t ≤ k ∧ s = .int .i64 k ∧ (∀ j, t ≤ j → j < k → goesM co cs n R c c j = true) ∧ Below w1.heap.size w1 wr) (fun s _ => 61 - (intOf s).toNat)
  case atStart => exact ⟨t, Nat.le_refl _, rfl, fun j _ hj => by omega, Below.refl _ _⟩
  case round =>
    obtain ⟨k, hk, rfl, hg0, hbr⟩ := hrel
    have hg := Hid.mk hg0
    have HB := Hid.mk hbr
    have hzr := hbr.size
    have yr : ∀ o, wr.cell? ⟨w.heap.size, o, none⟩ = #[Value.int .i64 ro, .int .i64 co, .string cs, ca, .int .i64 bu][o]? := fun o => (hbr.cell (p := ⟨w.heap.size, o, none⟩) hz0).trans (y0 o)
    clear hg0 hbr y0
    by_cases hlt : k < 61
    · go_wp2_with fail
      refine (goes_nat _ _ _ _ _ _ _ _ R _ _ k _ hs h1 h2 hn hc (by omega) (HA.out.below (by exact HB0.out.trans (HB.out.mono (by omega))))).mono ?_
      rintro e w2 ⟨rfl, hb2⟩
      obtain ⟨g, hgg⟩ : ∃ g, g = goesM co cs n R c c k := ⟨_, rfl⟩
      rw [← hgg]
      have HG := Hid.mk hgg
      have HB2 := Hid.mk (HB.out.trans (hb2.mono hzr))
      clear hgg hb2
      cases g
      · go_wp2
        go_ret
        exact ⟨ret_bool (stays_miss hk hlt HG.out.symm).symm, HB0.out.trans (HB2.out.mono (by omega))⟩
      · go_wp2
        go_roundw
        case rel => exact ⟨k + 1, by omega, by go_num, fun j h1 h2 => by
          by_cases e : j = k
          · subst e; exact HG.out.symm
          · exact hg.out j h1 (by omega), HB2.out⟩
        case measure => simp [intOf]; omega
    · go_wp2
      go_ret
      exact ⟨ret_bool (stays_iff.2 fun s h1 h2 => hg.out s h1 (by omega)).symm, HB0.out.trans (HB.out.mono (by omega))⟩

end Go.Proofs.YtaldfpoolajoiaaDoor
