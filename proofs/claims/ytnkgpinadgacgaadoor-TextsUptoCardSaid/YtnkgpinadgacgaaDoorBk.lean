/- Walks of the program's isRule, Good, loneFault. -/
import Derived.Test.YtnkgpinadgacgaaDoorBh
import Derived.Test.YtnkgpinadgacgaaDoorBe
import Derived.Test.YtnkgpinadgacgaaDoorBg
import Derived.Test.YtnkgpinadgacgaaDoorBa
import Derived.Carry
namespace Go.Proofs.YtnkgpinadgacgaaDoor
open Go.RowKit M

set_option maxHeartbeats 1000000 in
theorem isRule_any (ro co bu : Int) (cs : ByteArray) (ca : Value) (kd ce ne ta : Int) (w : World) :
    Calls Tryd.prog 150 #[.agg #[.int .i64 ro, .int .i64 co, .string cs, ca, .int .i64 bu], .agg #[.int .i64 kd, .int .i64 ce, .int .i64 ne, .int .i64 ta]] w fun e w' => e = .returned (.bool (ruleB cs.size ⟨kd, ce, ne, ta⟩)) ∧ Below w.heap.size w w' := by
  have HB0 : Hid (∀ o1 o2, Below w.heap.size w ((w.alloc o1).alloc o2)) := fun _ _ => ((Below.refl _ _).alloc (Nat.le_refl _) _).alloc (by simp) _
  have KEY : Hid (∀ b, ruleB cs.size ⟨kd, ce, ne, ta⟩ = b → Ending.returned (.bool b) = Ending.returned (.bool (ruleB cs.size ⟨kd, ce, ne, ta⟩))) := fun b h => by rw [h]
  go_enter Tryd.func150, Tryd.ntmps150
  by_cases k0 : (kd == 0) = true
  · have e0 : kd = 0 := by simpa using k0
    subst e0
    clear k0
    by_cases p3 : 0 ≤ ce
    · by_cases p4 : ce < (cs.size : Int)
      · by_cases p5 : 0 ≤ ta
        · by_cases p6 : ta ≤ 60
          · go_wp2
            go_ret
            exact ⟨KEY.out true (by unfold ruleB; simp; omega), HB0.out _ _⟩
          · go_wp2
            go_ret
            exact ⟨KEY.out false (by unfold ruleB; simp; omega), HB0.out _ _⟩
        · go_wp2
          go_ret
          exact ⟨KEY.out false (by unfold ruleB; simp; omega), HB0.out _ _⟩
      · go_wp2
        go_ret
        exact ⟨KEY.out false (by unfold ruleB; simp; omega), HB0.out _ _⟩
    · go_wp2
      go_ret
      exact ⟨KEY.out false (by unfold ruleB; simp; omega), HB0.out _ _⟩
  · have k0' : (kd == 0) = false := by simpa using k0
    have e0 : kd ≠ 0 := by simpa using k0
    clear k0
    by_cases k1 : (kd == 1) = true
    · have e1 : kd = 1 := by simpa using k1
      subst e1
      clear k1
      by_cases p3 : 0 ≤ ce
      · by_cases p4 : ce < (cs.size : Int)
        · by_cases p5 : 0 ≤ ta
          · by_cases p6 : ta ≤ 60
            · go_wp2
              go_ret
              exact ⟨KEY.out true (by unfold ruleB; simp; omega), HB0.out _ _⟩
            · go_wp2
              go_ret
              exact ⟨KEY.out false (by unfold ruleB; simp; omega), HB0.out _ _⟩
          · go_wp2
            go_ret
            exact ⟨KEY.out false (by unfold ruleB; simp; omega), HB0.out _ _⟩
        · go_wp2
          go_ret
          exact ⟨KEY.out false (by unfold ruleB; simp; omega), HB0.out _ _⟩
      · go_wp2
        go_ret
        exact ⟨KEY.out false (by unfold ruleB; simp; omega), HB0.out _ _⟩
    · have k1' : (kd == 1) = false := by simpa using k1
      have e1 : kd ≠ 1 := by simpa using k1
      clear k1
      by_cases k2 : (kd == 2) = true
      · have e2 : kd = 2 := by simpa using k2
        subst e2
        clear k2
        by_cases p3 : 0 ≤ ce
        · by_cases p4 : ce < (cs.size : Int)
          · by_cases p5 : 0 ≤ ta
            · by_cases p6 : ta ≤ 60
              · go_wp2
                go_ret
                exact ⟨KEY.out true (by unfold ruleB; simp; omega), HB0.out _ _⟩
              · go_wp2
                go_ret
                exact ⟨KEY.out false (by unfold ruleB; simp; omega), HB0.out _ _⟩
            · go_wp2
              go_ret
              exact ⟨KEY.out false (by unfold ruleB; simp; omega), HB0.out _ _⟩
          · go_wp2
            go_ret
            exact ⟨KEY.out false (by unfold ruleB; simp; omega), HB0.out _ _⟩
        · go_wp2
          go_ret
          exact ⟨KEY.out false (by unfold ruleB; simp; omega), HB0.out _ _⟩
      · have k2' : (kd == 2) = false := by simpa using k2
        have e2 : kd ≠ 2 := by simpa using k2
        clear k2
        go_wp2
        go_ret
        exact ⟨KEY.out false (by unfold ruleB; simp; omega), HB0.out _ _⟩

theorem rulesB_true {N n : Nat} {R : Nat → RuleM} (h1 : n ≤ 40) (h : ∀ j, j < n → (!ruleB N (R j)) = false) : rulesB N n R = true := by
  rw [rulesB_fine h]; simp; omega

theorem rulesB_many {N n : Nat} {R : Nat → RuleM} (h1 : ¬ n ≤ 40) : rulesB N n R = false := by
  unfold rulesB; simp [h1]

set_option maxHeartbeats 1000000 in
theorem good_any (ro co bu : Int) (cs : ByteArray) (ca : Value) (a : Option Addr) (n cap : Nat) (R : Nat → RuleM) (w : World) (hn : n ≤ maxLen) (ha : RulesAt w a n R) :
    Calls Tryd.prog 114 #[.agg #[.int .i64 ro, .int .i64 co, .string cs, ca, .int .i64 bu], .slice a n cap] w fun e w' => e = .returned (.bool (rulesB cs.size n R)) ∧ Below w.heap.size w w' := by
  have HA := Hid.mk ha
  clear ha
  unfold maxLen at hn
  go_enter Tryd.func114, Tryd.ntmps114
  have HB0 : Hid (Below w.heap.size w (w.alloc (Obj.cells #[Value.int IntKind.i64 ro, Value.int IntKind.i64 co, Value.string cs, ca, Value.int IntKind.i64 bu] 24))) := (Below.refl _ w).alloc (Nat.le_refl _) _
  by_cases h40 : n ≤ 40
  · go_wp2
    have y0 : ∀ o, (w.alloc (Obj.cells #[Value.int IntKind.i64 ro, Value.int IntKind.i64 co, Value.string cs, ca, Value.int IntKind.i64 bu] 24)).cell? ⟨w.heap.size, o, none⟩ = #[Value.int .i64 ro, .int .i64 co, .string cs, ca, .int .i64 bu][o]? := by
      intro o; go_simp
    have hz0 : w.heap.size < (w.alloc (Obj.cells #[Value.int IntKind.i64 ro, Value.int IntKind.i64 co, Value.string cs, ca, Value.int IntKind.i64 bu] 24)).heap.size := by simp
    generalize w.alloc (Obj.cells #[Value.int IntKind.i64 ro, Value.int IntKind.i64 co, Value.string cs, ca, Value.int IntKind.i64 bu] 24) = w1 at *
    go_loopw [12] (fun s wr => ∃ k : Nat, k ≤ n ∧ s = .int .i64 k ∧ (∀ j, j < k → (!ruleB cs.size (R j)) = false) ∧ Below w1.heap.size w1 wr) (fun s _ => n - (intOf s).toNat)
    case atStart => exact ⟨0, Nat.zero_le _, rfl, fun j hj => absurd hj (Nat.not_lt_zero j), Below.refl _ _⟩
    case round =>
      obtain ⟨k, hk, rfl, hg0, hbr⟩ := hrel
      have hg := Hid.mk hg0
      have HB := Hid.mk hbr
      have hzr := hbr.size
      have hzw : w.heap.size < wr.heap.size := by omega
      have yr : ∀ o, wr.cell? ⟨w.heap.size, o, none⟩ = #[Value.int .i64 ro, .int .i64 co, .string cs, ca, .int .i64 bu][o]? := fun o => (hbr.cell (p := ⟨w.heap.size, o, none⟩) hz0).trans (y0 o)
      clear hg0 hbr y0
      by_cases hlt : k < n
      · obtain ⟨b, off, rfl, hrs⟩ := HA.out (by omega)
        obtain ⟨c0, c1, c2, c3⟩ := hrs k hlt
        have HBw : Hid (Below w.heap.size w wr) := HB0.out.trans (HB.out.mono (by omega))
        have c0 := cell_later HBw.out c0
        have c1 := cell_later HBw.out c1
        have c2 := cell_later HBw.out c2
        have c3 := cell_later HBw.out c3
        clear hrs
        obtain ⟨r, hr⟩ : ∃ r, r = R k := ⟨_, rfl⟩
        rw [← hr] at c0 c1 c2 c3
        obtain ⟨kd, ce, ne, ta⟩ := r
        have Hr := Hid.mk hr
        clear hr
        dsimp only at c0 c1 c2 c3
        go_wp2_with fail
        refine (isRule_any _ _ _ _ _ kd ce ne ta _).mono ?_
        rintro e w4 ⟨rfl, hb4⟩
        have HB4 : Hid (Below w1.heap.size w1 w4) := (HB.out.alloc HB.out.size _).trans (hb4.mono (by simp; omega))
        obtain ⟨g, hgg⟩ : ∃ g, g = ruleB cs.size ⟨kd, ce, ne, ta⟩ := ⟨_, rfl⟩
        rw [← hgg]
        have HG := Hid.mk hgg
        clear hgg hb4 c0 c1 c2 c3 yr
        cases g
        · go_wp2
          go_ret
          exact ⟨ret_bool (rulesB_bad hlt (by rw [← Hr.out, ← HG.out])).symm, HB0.out.trans (HB4.out.mono (by omega))⟩
        · go_wp2
          go_roundw
          case rel => exact ⟨k + 1, by omega, by go_num, upto_step (p := fun j => !ruleB cs.size (R j)) (by show (!ruleB cs.size (R k)) = false; rw [← Hr.out, ← HG.out]; rfl) hg.out, HB4.out⟩
          case measure => simp [intOf]; omega
      · have hd : k = n := by omega
        go_wp2
        go_ret
        subst hd
        exact ⟨ret_bool (rulesB_true h40 hg.out).symm, HB0.out.trans (HB.out.mono (by omega))⟩
  · go_wp2
    go_ret
    exact ⟨ret_bool (rulesB_many h40).symm, HB0.out⟩

end Go.Proofs.YtnkgpinadgacgaaDoor

/- Walk of the program's loneFault: what is wrong with what the calls for one cart are given. -/
namespace Go.Proofs.YtnkgpinadgacgaaDoor
open Go.RowKit M

def loneE (ro co bu : Int) (cs : ByteArray) (m : Nat) (fr tt : Nat → Int) (k : Int) (n : Nat) (R : Nat → RuleM) (cost : Int) : Int :=
  if (checkM ro co cs m fr tt bu).1 = 0 then (if 0 ≤ k ∧ k < m ∧ 0 ≤ cost ∧ cost ≤ 60 then (if rulesB cs.size n R = true then 0 else 8) else 7) else (checkM ro co cs m fr tt bu).1

theorem loneE_given {ro co bu : Int} {cs : ByteArray} {m : Nat} {fr tt : Nat → Int} {k : Int} {n : Nat} {R : Nat → RuleM} {cost : Int} (h0 : 0 ≤ cost) (h1 : cost ≤ 60) : loneE ro co bu cs m fr tt k n R cost = givenE ro co bu cs m fr tt k n R := by
  unfold loneE givenE
  have e : (0 ≤ k ∧ k < (m : Int) ∧ 0 ≤ cost ∧ cost ≤ 60) = (0 ≤ k ∧ k < (m : Int)) := propext ⟨fun h => ⟨h.1, h.2.1⟩, fun h => ⟨h.1, h.2, h0, h1⟩⟩
  simp only [e]

set_option maxHeartbeats 1000000 in
theorem loneFault_any (ro co bu : Int) (cs : ByteArray) (a : Option Addr) (m cap : Nat) (fr tt : Nat → Int) (k cost : Int) (ar : Option Addr) (n capr : Nat) (R : Nat → RuleM) (w : World) (hs : cs.size ≤ maxLen) (hm : m ≤ maxLen) (hcap : m ≤ cap) (hn : n ≤ maxLen)
    (ha : 0 < m → ∃ b off, a = some ⟨b, off, none⟩ ∧ CartsIn w b off m fr tt) (har : RulesAt w ar n R) :
    Calls Tryd.prog 68 #[.agg #[.int .i64 ro, .int .i64 co, .string cs, .slice a m cap, .int .i64 bu], .int .i64 k, .slice ar n capr, .int .i64 cost] w fun e w' =>
      e = .returned (.int .i64 (loneE ro co bu cs m fr tt k n R cost)) ∧ Below w.heap.size w w' := by
  have HA := Hid.mk har
  have HC := Hid.mk ha
  have hmm := hm
  clear har ha
  unfold maxLen at hm
  have HB0 : Hid (Below w.heap.size w (w.alloc (Obj.cells #[Value.int IntKind.i64 ro, Value.int IntKind.i64 co, Value.string cs, .slice a m cap, Value.int IntKind.i64 bu] 24))) := (Below.refl _ w).alloc (Nat.le_refl _) _
  go_enter Tryd.func68, Tryd.ntmps68
  go_wp2_with fail
  have y0 : ∀ o, (w.alloc (Obj.cells #[Value.int IntKind.i64 ro, Value.int IntKind.i64 co, Value.string cs, .slice a m cap, Value.int IntKind.i64 bu] 24)).cell? ⟨w.heap.size, o, none⟩ = #[Value.int .i64 ro, .int .i64 co, .string cs, .slice a m cap, .int .i64 bu][o]? := by
    intro o; go_simp
  have hz0 : w.heap.size < (w.alloc (Obj.cells #[Value.int IntKind.i64 ro, Value.int IntKind.i64 co, Value.string cs, .slice a m cap, Value.int IntKind.i64 bu] 24)).heap.size := by simp
  generalize w.alloc (Obj.cells #[Value.int IntKind.i64 ro, Value.int IntKind.i64 co, Value.string cs, .slice a m cap, Value.int IntKind.i64 bu] 24) = w1 at *
  refine (fault_any _ _ _ _ _ _ _ fr tt _ hs hmm hcap (by exact opt_below HC.out HB0.out)).mono ?_
  rintro e w2 ⟨rfl, hb2⟩
  have HB2 : Hid (Below w.heap.size w w2) := HB0.out.trans (hb2.mono (by omega))
  have y2 : ∀ o, w2.cell? ⟨w.heap.size, o, none⟩ = #[Value.int .i64 ro, .int .i64 co, .string cs, .slice a m cap, .int .i64 bu][o]? := fun o => (hb2.cell (p := ⟨w.heap.size, o, none⟩) hz0).trans (y0 o)
  have hz2 : w.heap.size < w2.heap.size := by have := hb2.size; omega
  clear y0 hb2
  by_cases hck : (checkM ro co cs m fr tt bu).1 = 0
  · have hck' : ((checkM ro co cs m fr tt bu).1 != 0) = false := by rw [hck]; rfl
    have HCK := Hid.mk hck
    clear hck
    by_cases k1 : k < 0
    · go_wp2
      go_ret
      exact ⟨ret_int (by unfold loneE; rw [if_pos HCK.out, if_neg (by omega)]), HB2.out⟩
    · by_cases k2 : (m : Int) ≤ k
      · go_wp2
        go_ret
        exact ⟨ret_int (by unfold loneE; rw [if_pos HCK.out, if_neg (by omega)]), HB2.out⟩
      · by_cases k3 : cost < 0
        · go_wp2
          go_ret
          exact ⟨ret_int (by unfold loneE; rw [if_pos HCK.out, if_neg (by omega)]), HB2.out⟩
        · by_cases k4 : 60 < cost
          · go_wp2
            go_ret
            exact ⟨ret_int (by unfold loneE; rw [if_pos HCK.out, if_neg (by omega)]), HB2.out⟩
          · go_wp2_with fail
            refine (good_any _ _ _ _ _ _ _ _ R _ hn (HA.out.below (by exact HB2.out))).mono ?_
            rintro e w3 ⟨rfl, hb3⟩
            have HB3 : Hid (Below w.heap.size w w3) := HB2.out.trans (hb3.mono (by omega))
            clear hb3
            obtain ⟨g, hg⟩ : ∃ g, g = rulesB cs.size n R := ⟨_, rfl⟩
            rw [← hg]
            have HG := Hid.mk hg
            clear hg
            cases g
            · go_wp2
              go_ret
              exact ⟨ret_int (by unfold loneE; rw [if_pos HCK.out, if_pos (by omega), ← HG.out]; rfl), HB3.out⟩
            · go_wp2
              go_ret
              exact ⟨ret_int (by unfold loneE; rw [if_pos HCK.out, if_pos (by omega), ← HG.out]; rfl), HB3.out⟩
  · have hck' : ((checkM ro co cs m fr tt bu).1 != 0) = true := by simpa using hck
    have HCK := Hid.mk hck
    clear hck
    go_wp2
    go_ret
    exact ⟨ret_int (by unfold loneE; rw [if_neg HCK.out]), HB2.out⟩

end Go.Proofs.YtnkgpinadgacgaaDoor

/- Walks of the program's bans: put in, asked. -/
namespace Go.Proofs.YtnkgpinadgacgaaDoor
open Go.RowKit M

set_option maxHeartbeats 1000000 in
theorem banSpot_any (bs bt n : Nat) (f : Int → Int → Bool) (c t : Int) (w : World) (h : SpotSet w bs n f) (hn : n < 1000000) (hc : i64B c) (ht : i64B t) :
    Calls Tryd.prog 192 #[.agg #[.map (some bs), .map (some bt)], .agg #[.int .i64 c, .int .i64 t]] w fun e w' =>
      e = .returned (.tuple #[]) ∧ SpotSet w' bs (n + 1) (fun c' t' => f c' t' || (c' == c && t' == t)) ∧ Only (fun k => k = bs) w w' := by
  have H := Hid.mk h
  have hl := h.lt
  clear h
  have hnm : n < maxLen := by unfold maxLen; omega
  go_enter Tryd.func192, Tryd.ntmps192
  go_wp2_with (at_mapUpdate; refine wpList_put_spot rfl _ _ _ rfl bs n f rfl (H.out.block (by rw [Below.heap_alloc _ _ _ (by simp; omega), Below.heap_alloc _ _ _ hl])) hnm c t rfl rfl hc ht ?_; intro w3 hs3 hg3)
  go_end0
  exact ⟨rfl, hs3, (((Only.refl _ w).alloc _).alloc _).trans (Only.of_grown hg3) (fun _ _ e => e)⟩

set_option maxHeartbeats 1000000 in
theorem banStep_any (bs bt n : Nat) (f : Int → Int → Int → Bool) (p c t : Int) (w : World) (h : StepSet w bt n f) (hn : n < 1000000) (hp : i64B p) (hc : i64B c) (ht : i64B t) :
    Calls Tryd.prog 119 #[.agg #[.map (some bs), .map (some bt)], .agg #[.int .i64 p, .int .i64 c, .int .i64 t]] w fun e w' =>
      e = .returned (.tuple #[]) ∧ StepSet w' bt (n + 1) (fun a' c' t' => f a' c' t' || (a' == p && c' == c && t' == t)) ∧ Only (fun k => k = bt) w w' := by
  have H := Hid.mk h
  have hl := h.lt
  clear h
  have hnm : n < maxLen := by unfold maxLen; omega
  go_enter Tryd.func119, Tryd.ntmps119
  go_wp2_with (at_mapUpdate; refine wpList_put_step rfl _ _ _ rfl bt n f rfl (H.out.block (by rw [Below.heap_alloc _ _ _ (by simp; omega), Below.heap_alloc _ _ _ hl])) hnm p c t rfl rfl hp hc ht ?_; intro w3 hs3 hg3)
  go_end0
  exact ⟨rfl, hs3, (((Only.refl _ w).alloc _).alloc _).trans (Only.of_grown hg3) (fun _ _ e => e)⟩

set_option maxHeartbeats 1000000 in
theorem allowSpot_any (bs bt n : Nat) (f : Int → Int → Bool) (c t : Int) (w : World) (h : SpotSet w bs n f) (hc : i64B c) (ht : i64B t) :
    Calls Tryd.prog 153 #[.agg #[.map (some bs), .map (some bt)], .agg #[.int .i64 c, .int .i64 t]] w fun e w' =>
      e = .returned (.bool (!f c t)) ∧ Below w.heap.size w w' := by
  have H := Hid.mk h
  have hl := h.lt
  clear h
  obtain ⟨g, hg⟩ : ∃ g, g = f c t := ⟨_, rfl⟩
  rw [← hg]
  have HG := Hid.mk hg
  clear hg
  have KEY : Hid (∀ (ops : Array Oper) (rest : List Oper) (o : Oper) (a : Act) (Q : Exit → Act → World → Prop) (w' : World) (m x : Operand), o.guard = none → o.op = Op.lookup 151 m x true → a.eval m = .map (some bs) → w'.heap[bs]? = w.heap[bs]? → a.eval x = .agg #[.int .i64 c, .int .i64 t] →
      wpList Tryd.prog ops Q rest (a.put o.dst (.tuple #[.agg #[], .bool g])) w' → wpList Tryd.prog ops Q (o :: rest) a w') := by
    intro ops rest o a Q w' m x h1 h2 h3 h4 h5 h6
    refine wpList_look_spot h1 m x h2 bs n f h3 (H.out.block h4) c t h5 hc ht ?_
    rw [← HG.out]; exact h6
  go_enter Tryd.func153, Tryd.ntmps153
  go_wp2_with (at_lookup; refine KEY.out _ _ _ _ _ _ _ _ rfl rfl rfl (by rw [Below.heap_alloc _ _ _ (by simp; omega), Below.heap_alloc _ _ _ hl]) rfl ?_)
  go_ret
  exact ⟨rfl, (((Below.refl _ w).alloc (Nat.le_refl _) _).alloc (by simp) _).alloc (by simp; omega) _⟩

set_option maxHeartbeats 1000000 in
theorem allowStep_any (bs bt n n' : Nat) (f : Int → Int → Bool) (f' : Int → Int → Int → Bool) (p c : Int) (t : Nat) (w : World) (h : SpotSet w bs n f) (h' : StepSet w bt n' f') (hp : i64B p) (hc : i64B c) (ht : t ≤ 100000) :
    Calls Tryd.prog 197 #[.agg #[.map (some bs), .map (some bt)], .agg #[.int .i64 p, .int .i64 c, .int .i64 (t : Int)]] w fun e w' =>
      e = .returned (.bool (!f' p c t && !f c (t + 1 : Nat))) ∧ Below w.heap.size w w' := by
  have H := Hid.mk h
  have H' := Hid.mk h'
  have hl := h'.lt
  clear h h'
  have ht1 : i64B (t : Int) := i64B_small (by omega) (by omega)
  have ht2 : i64B ((t + 1 : Nat) : Int) := i64B_small (by omega) (by omega)
  obtain ⟨g, hg⟩ : ∃ g, g = f' p c t := ⟨_, rfl⟩
  rw [← hg]
  have HG := Hid.mk hg
  clear hg
  have KEY : Hid (∀ (ops : Array Oper) (rest : List Oper) (o : Oper) (a : Act) (Q : Exit → Act → World → Prop) (w' : World) (m x : Operand), o.guard = none → o.op = Op.lookup 152 m x true → a.eval m = .map (some bt) → w'.heap[bt]? = w.heap[bt]? → a.eval x = .agg #[.int .i64 p, .int .i64 c, .int .i64 (t : Int)] →
      wpList Tryd.prog ops Q rest (a.put o.dst (.tuple #[.agg #[], .bool g])) w' → wpList Tryd.prog ops Q (o :: rest) a w') := by
    intro ops rest o a Q w' m x h1 h2 h3 h4 h5 h6
    refine wpList_look_step h1 m x h2 bt n' f' h3 (H'.out.block h4) p c t h5 hp hc ht1 ?_
    rw [← HG.out]; exact h6
  go_enter Tryd.func197, Tryd.ntmps197
  cases g
  · go_wp2_with (at_lookup; refine KEY.out _ _ _ _ _ _ _ _ rfl rfl rfl (by rw [Below.heap_alloc _ _ _ (by simp; omega), Below.heap_alloc _ _ _ hl]) rfl ?_)
    have HB3 : Hid (Below w.heap.size w (((w.alloc (Obj.cells #[Value.map (some bs), Value.map (some bt)] 154)).alloc (Obj.cells #[Value.int IntKind.i64 p, Value.int IntKind.i64 c, Value.int IntKind.i64 (t : Int)] 161)).alloc (Obj.cells #[] 171))) := (((Below.refl _ w).alloc (Nat.le_refl _) _).alloc (by simp) _).alloc (by simp; omega) _
    generalize ((w.alloc (Obj.cells #[Value.map (some bs), Value.map (some bt)] 154)).alloc (Obj.cells #[Value.int IntKind.i64 p, Value.int IntKind.i64 c, Value.int IntKind.i64 (t : Int)] 161)).alloc (Obj.cells #[] 171) = w3 at *
    rw [show ((t : Int) + 1) = ((t + 1 : Nat) : Int) by omega]
    refine (allowSpot_any bs bt n f c (t + 1 : Nat) _ (H.out.block (HB3.out.block _ H.out.lt)) hc ht2).mono ?_
    rintro e w4 ⟨rfl, hb4⟩
    have HB4 : Hid (Below w.heap.size w w4) := HB3.out.trans (hb4.mono HB3.out.size)
    clear hb4
    go_wp2
    go_ret
    exact ⟨rfl, HB4.out⟩
  · go_wp2_with (at_lookup; refine KEY.out _ _ _ _ _ _ _ _ rfl rfl rfl (by rw [Below.heap_alloc _ _ _ (by simp; omega), Below.heap_alloc _ _ _ hl]) rfl ?_)
    go_ret
    exact ⟨rfl, (((Below.refl _ w).alloc (Nat.le_refl _) _).alloc (by simp) _).alloc (by simp; omega) _⟩

end Go.Proofs.YtnkgpinadgacgaaDoor

/- Walks of the program's banOthers, brokenByStaying, settledAt. -/
namespace Go.Proofs.YtnkgpinadgacgaaDoor
open Go.RowKit M

/-- All cells below k but one are forbidden at an instant. -/
def banF (f : Int → Int → Bool) (ce ta : Int) (k : Nat) (c t : Int) : Bool := f c t || (decide (0 ≤ c) && decide (c < k) && !(c == ce) && t == ta)

theorem banF_step {f : Int → Int → Bool} {ce ta : Int} {k : Nat} (h : ((k : Int) == ce) = false) (c t : Int) : (banF f ce ta k c t || (c == (k : Int) && t == ta)) = banF f ce ta (k + 1) c t := by
  unfold banF
  have h' : (k : Int) ≠ ce := by simpa using h
  rw [Bool.eq_iff_iff]
  simp only [Bool.or_eq_true, Bool.and_eq_true, decide_eq_true_eq, beq_iff_eq, Bool.not_eq_true', beq_eq_false_iff_ne]
  constructor
  · rintro ((h1 | ⟨⟨⟨h1, h2⟩, h3⟩, h4⟩) | ⟨h1, h2⟩)
    · exact Or.inl h1
    · exact Or.inr ⟨⟨⟨h1, by omega⟩, h3⟩, h4⟩
    · exact Or.inr ⟨⟨⟨by omega, by omega⟩, by omega⟩, h2⟩
  · rintro (h1 | ⟨⟨⟨h1, h2⟩, h3⟩, h4⟩)
    · exact Or.inl (Or.inl h1)
    · by_cases e : c = k
      · exact Or.inr ⟨e, h4⟩
      · exact Or.inl (Or.inr ⟨⟨⟨h1, by omega⟩, h3⟩, h4⟩)

theorem banF_skip {f : Int → Int → Bool} {ce ta : Int} {k : Nat} (h : ((k : Int) == ce) = true) (c t : Int) : banF f ce ta k c t = banF f ce ta (k + 1) c t := by
  unfold banF
  have h' : (k : Int) = ce := by simpa using h
  rw [Bool.eq_iff_iff]
  simp only [Bool.or_eq_true, Bool.and_eq_true, decide_eq_true_eq, beq_iff_eq, Bool.not_eq_true', beq_eq_false_iff_ne]
  constructor
  · rintro (h1 | ⟨⟨⟨h1, h2⟩, h3⟩, h4⟩)
    · exact Or.inl h1
    · exact Or.inr ⟨⟨⟨h1, by omega⟩, h3⟩, h4⟩
  · rintro (h1 | ⟨⟨⟨h1, h2⟩, h3⟩, h4⟩)
    · exact Or.inl h1
    · exact Or.inr ⟨⟨⟨h1, by omega⟩, h3⟩, h4⟩

theorem banF_zero {f : Int → Int → Bool} {ce ta : Int} (c t : Int) : f c t = banF f ce ta 0 c t := by
  unfold banF
  cases h : (decide (0 ≤ c) && decide (c < ((0 : Nat) : Int)) && !(c == ce) && t == ta) with
  | false => simp
  | true => simp at h; omega

set_option maxHeartbeats 1000000 in
theorem banOthers_any (bs bt n N : Nat) (f : Int → Int → Bool) (ce ta : Int) (w : World) (h : SpotSet w bs n f) (hN : N ≤ 36) (hn : n + N < 100000) (ht : i64B ta) :
    Calls Tryd.prog 193 #[.agg #[.map (some bs), .map (some bt)], .int .i64 (N : Int), .agg #[.int .i64 ce, .int .i64 ta]] w fun e w' =>
      e = .returned (.tuple #[]) ∧ SpotSet w' bs (n + N) (banF f ce ta N) ∧ Only (fun k => k = bs) w w' := by
  have H := Hid.mk h
  have hl := h.lt
  clear h
  go_enter Tryd.func193, Tryd.ntmps193
  go_wp2
  have HO2 : Hid (Only (fun k => k = bs) w ((w.alloc (Obj.cells #[Value.map (some bs), Value.map (some bt)] 154)).alloc (Obj.cells #[.int .i64 ce, .int .i64 ta] 225))) := ((Only.refl _ w).alloc _).alloc _
  have HS2 : Hid (SpotSet ((w.alloc (Obj.cells #[Value.map (some bs), Value.map (some bt)] 154)).alloc (Obj.cells #[.int .i64 ce, .int .i64 ta] 225)) bs n f) := H.out.block (by rw [Below.heap_alloc _ _ _ (by simp; omega), Below.heap_alloc _ _ _ hl])
  have b2 : ∀ o, ((w.alloc (Obj.cells #[Value.map (some bs), Value.map (some bt)] 154)).alloc (Obj.cells #[.int .i64 ce, .int .i64 ta] 225)).cell? ⟨w.heap.size, o, none⟩ = #[Value.map (some bs), Value.map (some bt)][o]? := by
    intro o; go_simp
  have s2 : ∀ o, ((w.alloc (Obj.cells #[Value.map (some bs), Value.map (some bt)] 154)).alloc (Obj.cells #[.int .i64 ce, .int .i64 ta] 225)).cell? ⟨w.heap.size + 1, o, none⟩ = #[Value.int .i64 ce, .int .i64 ta][o]? := by
    intro o; go_simp
  have hz2 : ((w.alloc (Obj.cells #[Value.map (some bs), Value.map (some bt)] 154)).alloc (Obj.cells #[.int .i64 ce, .int .i64 ta] 225)).heap.size = w.heap.size + 2 := by simp
  generalize (w.alloc (Obj.cells #[Value.map (some bs), Value.map (some bt)] 154)).alloc (Obj.cells #[.int .i64 ce, .int .i64 ta] 225) = w2 at *
  have B2 := Hid.mk b2
  have S2 := Hid.mk s2
  clear b2 s2
  go_loopw [8] (fun s wr => ∃ k n' : Nat, k ≤ N ∧ n' ≤ n + k ∧ s = .int .i64 k ∧ SpotSet wr bs n' (banF f ce ta k) ∧ Only (fun k => k = bs) w2 wr) (fun s _ => N - (intOf s).toNat)
  case atStart => exact ⟨0, n, Nat.zero_le _, by omega, rfl, HS2.out.same fun c t => banF_zero c t, Only.refl _ _⟩
  case round =>
    obtain ⟨k, n', hk, hn', rfl, hset, honly⟩ := hrel
    have HS := Hid.mk hset
    have HO := Hid.mk honly
    have hz := honly.size
    have br : ∀ o, wr.cell? ⟨w.heap.size, o, none⟩ = #[Value.map (some bs), Value.map (some bt)][o]? := fun o => (honly.cell (p := ⟨w.heap.size, o, none⟩) (by show w.heap.size < _; omega) (by show ¬ w.heap.size = bs; omega)).trans (B2.out o)
    have sr : ∀ o, wr.cell? ⟨w.heap.size + 1, o, none⟩ = #[Value.int .i64 ce, .int .i64 ta][o]? := fun o => (honly.cell (p := ⟨w.heap.size + 1, o, none⟩) (by show w.heap.size + 1 < _; omega) (by show ¬ w.heap.size + 1 = bs; omega)).trans (S2.out o)
    clear hset honly
    by_cases hlt : k < N
    · by_cases q : ((k : Int) == ce) = true
      · have Q := Hid.mk q
        go_wp2
        go_roundw
        case rel => exact ⟨k + 1, n', by omega, by omega, by go_num, HS.out.same fun c t => banF_skip Q.out c t, HO.out⟩
        case measure => simp [intOf]; omega
      · have q' : ((k : Int) == ce) = false := by simpa using q
        have Q := Hid.mk q'
        clear q
        go_wp2_with fail
        refine (banSpot_any bs bt n' (banF f ce ta k) (k : Int) ta _ HS.out (by omega) (i64B_small (by omega) (by omega)) ht).mono ?_
        rintro e w3 ⟨rfl, hs3, ho3⟩
        have HS3 := Hid.mk hs3
        have HO3 : Hid (Only (fun k => k = bs) w2 w3) := HO.out.trans ho3 (fun _ _ e => e)
        clear hs3 ho3 br sr
        go_wp2
        go_roundw
        case rel => exact ⟨k + 1, n' + 1, by omega, by omega, by go_num, HS3.out.same fun c t => banF_step Q.out c t, HO3.out⟩
        case measure => simp [intOf]; omega
    · have hd : k = N := by omega
      go_wp2
      go_end0
      subst hd
      exact ⟨rfl, HS.out.more (by omega), HO2.out.trans HO.out (fun _ _ e => e)⟩

set_option maxHeartbeats 1000000 in
theorem broken_any (c kd ce ne ta : Int) (w : World) :
    Calls Tryd.prog 194 #[.int .i64 c, .agg #[.int .i64 kd, .int .i64 ce, .int .i64 ne, .int .i64 ta]] w fun e w' => e = .returned (.bool (brkStay c ⟨kd, ce, ne, ta⟩)) ∧ Below w.heap.size w w' := by
  have HB0 : Hid (∀ o1, Below w.heap.size w (w.alloc o1)) := fun _ => (Below.refl _ _).alloc (Nat.le_refl _) _
  have KEY : Hid (∀ b, brkStay c ⟨kd, ce, ne, ta⟩ = b → Ending.returned (.bool b) = Ending.returned (.bool (brkStay c ⟨kd, ce, ne, ta⟩))) := fun b h => by rw [h]
  go_enter Tryd.func194, Tryd.ntmps194
  by_cases k0 : (kd == 0) = true
  · by_cases q : (ce == c) = true
    · have K : Hid (brkStay c ⟨kd, ce, ne, ta⟩ = true) := by unfold Hid brkStay; simp [k0, q]
      go_wp2
      go_ret
      exact ⟨KEY.out true K.out, HB0.out _⟩
    · have q' : (ce == c) = false := by simpa using q
      have K : Hid (brkStay c ⟨kd, ce, ne, ta⟩ = false) := by unfold Hid brkStay; simp [k0, q']
      clear q
      go_wp2
      go_ret
      exact ⟨KEY.out false K.out, HB0.out _⟩
  · have k0' : (kd == 0) = false := by simpa using k0
    clear k0
    by_cases k1 : (kd == 1) = true
    · by_cases q : (ce == c) = true
      · by_cases r : (ne == c) = true
        · have K : Hid (brkStay c ⟨kd, ce, ne, ta⟩ = true) := by unfold Hid brkStay; simp [k0', k1, q, r]
          go_wp2
          go_ret
          exact ⟨KEY.out true K.out, HB0.out _⟩
        · have r' : (ne == c) = false := by simpa using r
          have K : Hid (brkStay c ⟨kd, ce, ne, ta⟩ = false) := by unfold Hid brkStay; simp [k0', k1, r']
          clear r
          go_wp2
          go_ret
          exact ⟨KEY.out false K.out, HB0.out _⟩
      · have q' : (ce == c) = false := by simpa using q
        have K : Hid (brkStay c ⟨kd, ce, ne, ta⟩ = false) := by unfold Hid brkStay; simp [k0', k1, q']
        clear q
        go_wp2
        go_ret
        exact ⟨KEY.out false K.out, HB0.out _⟩
    · have k1' : (kd == 1) = false := by simpa using k1
      clear k1
      by_cases q : (ce == c) = true
      · have q2 : (ce != c) = false := by unfold bne; rw [q]; rfl
        have K : Hid (brkStay c ⟨kd, ce, ne, ta⟩ = false) := by unfold Hid brkStay; simp [k0', k1', q]
        clear q
        go_wp2
        go_ret
        exact ⟨KEY.out false K.out, HB0.out _⟩
      · have q' : (ce == c) = false := by simpa using q
        have q2 : (ce != c) = true := by unfold bne; rw [q']; rfl
        have K : Hid (brkStay c ⟨kd, ce, ne, ta⟩ = true) := by unfold Hid brkStay; simp [k0', k1', q']
        clear q q'
        go_wp2
        go_ret
        exact ⟨KEY.out true K.out, HB0.out _⟩

set_option maxHeartbeats 1000000 in
theorem settled_any (c : Int) (a : Option Addr) (n cap N : Nat) (R : Nat → RuleM) (w : World) (hr : rulesB N n R = true) (ha : RulesAt w a n R) :
    Calls Tryd.prog 152 #[.int .i64 c, .slice a n cap] w fun e w' => e = .returned (.int .i64 (settledM c R n)) ∧ Below w.heap.size w w' := by
  have HA := Hid.mk ha
  have hn := rulesB_len hr
  have HR := Hid.mk hr
  clear ha hr
  go_enter Tryd.func152, Tryd.ntmps152
  go_wp2
  go_loopw [5, 10] (fun v s wr => ∃ k : Nat, v = .int .i64 (settledM c R k) ∧ k ≤ n ∧ s = .int .i64 k ∧ Below w.heap.size w wr) (fun _ s _ => n - (intOf s).toNat)
  case atStart => exact ⟨0, rfl, Nat.zero_le _, rfl, Below.refl _ _⟩
  case round =>
    obtain ⟨k, rfl, hk, rfl, hbr⟩ := hrel
    have HB := Hid.mk hbr
    clear hbr
    obtain ⟨sv, hsv⟩ : ∃ x, x = settledM c R k := ⟨_, rfl⟩
    have hsb : 0 ≤ settledM c R k ∧ settledM c R k ≤ 61 := by
      rcases settled_is (c := c) (R := R) (n := k) with e | ⟨i, hi, _, e⟩
      · rw [e]; omega
      · have := rulesB_at HR.out (i := i) (by omega)
        rw [e]; omega
    rw [← hsv] at hsb ⊢
    have HSV := Hid.mk hsv
    clear hsv
    by_cases hlt : k < n
    · obtain ⟨b, off, rfl, hrs⟩ := HA.out (by omega)
      obtain ⟨c0, c1, c2, c3⟩ := hrs k hlt
      have c0 := cell_later HB.out c0
      have c1 := cell_later HB.out c1
      have c2 := cell_later HB.out c2
      have c3 := cell_later HB.out c3
      have hrk := rulesB_at HR.out hlt
      clear hrs
      obtain ⟨r, hr⟩ : ∃ r, r = R k := ⟨_, rfl⟩
      rw [← hr] at c0 c1 c2 c3 hrk
      obtain ⟨kd, ce, ne, ta⟩ := r
      have Hr := Hid.mk hr
      clear hr
      dsimp only at c0 c1 c2 c3 hrk
      obtain ⟨_, _, _, _, t0, t1⟩ := hrk
      go_wp2_with fail
      have HBx : Hid (Below w.heap.size w (wr.alloc (Obj.cells #[.int .i64 kd, .int .i64 ce, .int .i64 ne, .int .i64 ta] 101))) := HB.out.alloc HB.out.size _
      have yx : (wr.alloc (Obj.cells #[.int .i64 kd, .int .i64 ce, .int .i64 ne, .int .i64 ta] 101)).cell? ⟨wr.heap.size, 3, none⟩ = some (.int .i64 ta) := by go_simp
      have hzx : wr.heap.size < (wr.alloc (Obj.cells #[.int .i64 kd, .int .i64 ce, .int .i64 ne, .int .i64 ta] 101)).heap.size := by simp
      generalize wr.alloc (Obj.cells #[.int .i64 kd, .int .i64 ce, .int .i64 ne, .int .i64 ta] 101) = wx at *
      refine (broken_any c kd ce ne ta _).mono ?_
      rintro e w4 ⟨rfl, hb4⟩
      have y4 : w4.cell? ⟨wr.heap.size, 3, none⟩ = some (.int .i64 ta) := (hb4.cell (p := ⟨wr.heap.size, 3, none⟩) hzx).trans yx
      have HB4 : Hid (Below w.heap.size w w4) := HBx.out.trans (hb4.mono HBx.out.size)
      obtain ⟨g, hgg⟩ : ∃ g, g = brkStay c ⟨kd, ce, ne, ta⟩ := ⟨_, rfl⟩
      rw [← hgg]
      have HG := Hid.mk hgg
      clear hgg hb4 c0 c1 c2 c3 yx
      have NEXT : Hid (settledM c R (k + 1) = if g = true then max sv (ta + 1) else sv) := by
        unfold Hid; simp only [settledM]; rw [← Hr.out, ← HG.out, HSV.out]
      cases g
      · go_wp2
        go_roundw
        case rel => exact ⟨k + 1, by rw [NEXT.out]; simp, by omega, by go_num, HB4.out⟩
        case measure => simp [intOf]; omega
      · have MX : Hid ((if sv < ta + 1 then ta + 1 else sv) = settledM c R (k + 1)) := by
          unfold Hid
          rw [NEXT.out]
          simp only [if_true]
          split <;> omega
        go_wp2
        go_roundw
        case rel => exact ⟨k + 1, by rw [MX.out], by omega, by go_num, HB4.out⟩
        case measure => simp [intOf]; omega
    · have hd : k = n := by omega
      go_wp2
      go_ret
      subst hd
      exact ⟨ret_int HSV.out, HB.out⟩

end Go.Proofs.YtnkgpinadgacgaaDoor

/- Walk of the program's bansOf: what rules forbid, in two maps. -/
namespace Go.Proofs.YtnkgpinadgacgaaDoor
open Go.RowKit M

theorem on_succ {k : Nat} {R : Nat → RuleM} {c t : Int} : onM (k + 1) R c t = (onM k R c t && !brkOn (R k) c t) := by
  simp [onM, anyB]

theorem noWay_succ {k : Nat} {R : Nat → RuleM} {a b t : Int} : noWayM (k + 1) R a b t = (noWayM k R a b t || brkGo (R k) a b t) := by
  simp [noWayM, anyB]

theorem beq_swap (a b : Int) : (a == b) = (b == a) := by
  rw [Bool.eq_iff_iff]; simp only [beq_iff_eq]; exact ⟨fun h => h.symm, fun h => h.symm⟩

theorem bans_keep {k : Nat} {R : Nat → RuleM} {f : Int → Int → Bool} {c t kd ce ne ta : Int} (hr : (⟨kd, ce, ne, ta⟩ : RuleM) = R k) (h0 : (kd == 0) = true) (hf : f c t = !onM k R c t) : (f c t || (c == ce && t == ta)) = !onM (k + 1) R c t := by
  rw [on_succ, ← hr, hf]
  have h2 : (kd == 2) = false := by simp at h0 ⊢; omega
  unfold brkOn
  simp only [h0, h2, Bool.true_and, Bool.false_and, Bool.or_false]
  rw [beq_swap c ce, beq_swap t ta]
  cases onM k R c t <;> cases (ce == c) <;> cases (ta == t) <;> rfl

theorem bans_there {k N : Nat} {R : Nat → RuleM} {f : Int → Int → Bool} {c t kd ce ne ta : Int} (hr : (⟨kd, ce, ne, ta⟩ : RuleM) = R k) (h2 : (kd == 2) = true) (hc0 : 0 ≤ c) (hc1 : c < N) (hf : f c t = !onM k R c t) : banF f ce ta N c t = !onM (k + 1) R c t := by
  rw [on_succ, ← hr]
  have h0 : (kd == 0) = false := by simp at h2 ⊢; omega
  unfold brkOn banF
  rw [hf]
  simp only [h0, h2, Bool.true_and, Bool.false_and, Bool.false_or, hc0, hc1, decide_true]
  rw [beq_swap c ce, beq_swap t ta]
  cases onM k R c t <;> cases (ce == c) <;> cases (ta == t) <;> rfl

theorem bans_same {k : Nat} {R : Nat → RuleM} {f : Int → Int → Bool} {c t kd ce ne ta : Int} (hr : (⟨kd, ce, ne, ta⟩ : RuleM) = R k) (h1 : (kd == 1) = true) (hf : f c t = !onM k R c t) : f c t = !onM (k + 1) R c t := by
  rw [on_succ, ← hr, hf]
  have h0 : (kd == 0) = false := by simp at h1 ⊢; omega
  have h2 : (kd == 2) = false := by simp at h1 ⊢; omega
  unfold brkOn
  simp [h0, h2]

theorem ways_put {k : Nat} {R : Nat → RuleM} {g : Int → Int → Int → Bool} {a c t kd ce ne ta : Int} (hr : (⟨kd, ce, ne, ta⟩ : RuleM) = R k) (h1 : (kd == 1) = true) (hg : g a c t = noWayM k R a c t) : (g a c t || (a == ce && c == ne && t == ta)) = noWayM (k + 1) R a c t := by
  rw [noWay_succ, ← hr, hg]
  unfold brkGo
  simp only [h1, Bool.true_and]
  rw [beq_swap a ce, beq_swap c ne, beq_swap t ta]
  cases noWayM k R a c t <;> cases (ce == a) <;> cases (ta == t) <;> cases (ne == c) <;> rfl

theorem ways_same {k : Nat} {R : Nat → RuleM} {g : Int → Int → Int → Bool} {a c t kd ce ne ta : Int} (hr : (⟨kd, ce, ne, ta⟩ : RuleM) = R k) (h1 : (kd == 1) = false) (hg : g a c t = noWayM k R a c t) : g a c t = noWayM (k + 1) R a c t := by
  rw [noWay_succ, ← hr, hg]
  unfold brkGo
  simp [h1]

/-- What the two maps of bans tell. -/
def BansIn (w : World) (bs bt N n : Nat) (R : Nat → RuleM) : Prop :=
  ∃ (ns nt : Nat) (f : Int → Int → Bool) (g : Int → Int → Int → Bool), ns ≤ n * 40 ∧ nt ≤ n ∧ SpotSet w bs ns f ∧ StepSet w bt nt g ∧ (∀ c : Int, 0 ≤ c → c < N → ∀ t, f c t = !onM n R c t) ∧ (∀ a c t, g a c t = noWayM n R a c t)

theorem BansIn.block {w w' : World} {bs bt N n : Nat} {R : Nat → RuleM} (h : BansIn w bs bt N n R) (e1 : w'.heap[bs]? = w.heap[bs]?) (e2 : w'.heap[bt]? = w.heap[bt]?) : BansIn w' bs bt N n R := by
  obtain ⟨ns, nt, f, g, h1, h2, h3, h4, h5, h6⟩ := h
  exact ⟨ns, nt, f, g, h1, h2, h3.block e1, h4.block e2, h5, h6⟩

theorem BansIn.lt {w : World} {bs bt N n : Nat} {R : Nat → RuleM} (h : BansIn w bs bt N n R) : bs < w.heap.size ∧ bt < w.heap.size := by
  obtain ⟨ns, nt, f, g, h1, h2, h3, h4, h5, h6⟩ := h
  exact ⟨h3.lt, h4.lt⟩

theorem BansIn.below {w w' : World} {bs bt N n : Nat} {R : Nat → RuleM} (h : BansIn w bs bt N n R) (hb : Below w.heap.size w w') : BansIn w' bs bt N n R :=
  h.block (hb.block _ h.lt.1) (hb.block _ h.lt.2)

/-- The numbers of the rules are numbers of Go's. -/
def RulesWf (n : Nat) (R : Nat → RuleM) : Prop := ∀ i, i < n → i64B (R i).next

set_option maxRecDepth 100000 in
set_option maxHeartbeats 2000000 in
theorem bansOf_any (ro co bu : Int) (cs : ByteArray) (ca : Value) (a : Option Addr) (n cap : Nat) (R : Nat → RuleM) (w : World) (hs : cs.size ≤ 36) (hr : rulesB cs.size n R = true) (hwf : RulesWf n R) (ha : RulesAt w a n R) :
    Calls Tryd.prog 151 #[.agg #[.int .i64 ro, .int .i64 co, .string cs, ca, .int .i64 bu], .slice a n cap] w fun e w' =>
      ∃ bs bt, e = .returned (.agg #[.map (some bs), .map (some bt)]) ∧ w.heap.size ≤ bs ∧ w.heap.size ≤ bt ∧ BansIn w' bs bt cs.size n R ∧ Below w.heap.size w w' := by
  have HA := Hid.mk ha
  have HR := Hid.mk hr
  have HWF := Hid.mk hwf
  have hn := rulesB_len hr
  have hmm := @run_makeMap Tryd.prog
  clear ha hr hwf
  go_enter Tryd.func151, Tryd.ntmps151
  go_wp2
  have HB5 : Hid (Below w.heap.size w (((((w.alloc (Obj.cells #[Value.int IntKind.i64 ro, Value.int IntKind.i64 co, Value.string cs, ca, Value.int IntKind.i64 bu] 24)).alloc (Obj.cells #[Value.map none, Value.map none] 154)).alloc (Obj.map #[] 0)).alloc (Obj.map #[] 0)).alloc (Obj.cells #[Value.map (some (w.heap.size + 1 + 1)), Value.map (some (w.heap.size + 1 + 1 + 1))] 154))) := ((((Below.refl _ w).alloc (Nat.le_refl _) _).alloc (by simp) _).alloc (by simp; omega) _).alloc (by simp; omega) _ |>.alloc (by simp; omega) _
  have HS5 : Hid (SpotSet (((((w.alloc (Obj.cells #[Value.int IntKind.i64 ro, Value.int IntKind.i64 co, Value.string cs, ca, Value.int IntKind.i64 bu] 24)).alloc (Obj.cells #[Value.map none, Value.map none] 154)).alloc (Obj.map #[] 0)).alloc (Obj.map #[] 0)).alloc (Obj.cells #[Value.map (some (w.heap.size + 1 + 1)), Value.map (some (w.heap.size + 1 + 1 + 1))] 154)) (w.heap.size + 1 + 1) 0 (fun _ _ => false)) :=
    ((spotSet_made ((w.alloc (Obj.cells #[Value.int IntKind.i64 ro, Value.int IntKind.i64 co, Value.string cs, ca, Value.int IntKind.i64 bu] 24)).alloc (Obj.cells #[Value.map none, Value.map none] 154)) (w.heap.size + 1 + 1) (by simp)).block (Below.heap_alloc _ _ _ (by simp))).block (Below.heap_alloc _ _ _ (by simp))
  have HT5 : Hid (StepSet (((((w.alloc (Obj.cells #[Value.int IntKind.i64 ro, Value.int IntKind.i64 co, Value.string cs, ca, Value.int IntKind.i64 bu] 24)).alloc (Obj.cells #[Value.map none, Value.map none] 154)).alloc (Obj.map #[] 0)).alloc (Obj.map #[] 0)).alloc (Obj.cells #[Value.map (some (w.heap.size + 1 + 1)), Value.map (some (w.heap.size + 1 + 1 + 1))] 154)) (w.heap.size + 1 + 1 + 1) 0 (fun _ _ _ => false)) :=
    (stepSet_made (((w.alloc (Obj.cells #[Value.int IntKind.i64 ro, Value.int IntKind.i64 co, Value.string cs, ca, Value.int IntKind.i64 bu] 24)).alloc (Obj.cells #[Value.map none, Value.map none] 154)).alloc (Obj.map #[] 0)) (w.heap.size + 1 + 1 + 1) (by simp)).block (Below.heap_alloc _ _ _ (by simp))
  have y5 : ∀ o, (((((w.alloc (Obj.cells #[Value.int IntKind.i64 ro, Value.int IntKind.i64 co, Value.string cs, ca, Value.int IntKind.i64 bu] 24)).alloc (Obj.cells #[Value.map none, Value.map none] 154)).alloc (Obj.map #[] 0)).alloc (Obj.map #[] 0)).alloc (Obj.cells #[Value.map (some (w.heap.size + 1 + 1)), Value.map (some (w.heap.size + 1 + 1 + 1))] 154)).cell? ⟨w.heap.size, o, none⟩ = #[Value.int .i64 ro, .int .i64 co, .string cs, ca, .int .i64 bu][o]? := by
    intro o; go_simp
  have z5 : ∀ o, (((((w.alloc (Obj.cells #[Value.int IntKind.i64 ro, Value.int IntKind.i64 co, Value.string cs, ca, Value.int IntKind.i64 bu] 24)).alloc (Obj.cells #[Value.map none, Value.map none] 154)).alloc (Obj.map #[] 0)).alloc (Obj.map #[] 0)).alloc (Obj.cells #[Value.map (some (w.heap.size + 1 + 1)), Value.map (some (w.heap.size + 1 + 1 + 1))] 154)).cell? ⟨w.heap.size + 1, o, none⟩ = #[Value.map none, Value.map none][o]? := by
    intro o; go_simp
  have zf5 : ∀ o, (((((w.alloc (Obj.cells #[Value.int IntKind.i64 ro, Value.int IntKind.i64 co, Value.string cs, ca, Value.int IntKind.i64 bu] 24)).alloc (Obj.cells #[Value.map none, Value.map none] 154)).alloc (Obj.map #[] 0)).alloc (Obj.map #[] 0)).alloc (Obj.cells #[Value.map (some (w.heap.size + 1 + 1)), Value.map (some (w.heap.size + 1 + 1 + 1))] 154)).frozen? ⟨w.heap.size + 1, o, none⟩ = false := by
    intro o; go_simp
  have b5 : ∀ o, (((((w.alloc (Obj.cells #[Value.int IntKind.i64 ro, Value.int IntKind.i64 co, Value.string cs, ca, Value.int IntKind.i64 bu] 24)).alloc (Obj.cells #[Value.map none, Value.map none] 154)).alloc (Obj.map #[] 0)).alloc (Obj.map #[] 0)).alloc (Obj.cells #[Value.map (some (w.heap.size + 1 + 1)), Value.map (some (w.heap.size + 1 + 1 + 1))] 154)).cell? ⟨w.heap.size + 1 + 1 + 1 + 1, o, none⟩ = #[Value.map (some (w.heap.size + 1 + 1)), Value.map (some (w.heap.size + 1 + 1 + 1))][o]? := by
    intro o; go_simp
  have hz5 : (((((w.alloc (Obj.cells #[Value.int IntKind.i64 ro, Value.int IntKind.i64 co, Value.string cs, ca, Value.int IntKind.i64 bu] 24)).alloc (Obj.cells #[Value.map none, Value.map none] 154)).alloc (Obj.map #[] 0)).alloc (Obj.map #[] 0)).alloc (Obj.cells #[Value.map (some (w.heap.size + 1 + 1)), Value.map (some (w.heap.size + 1 + 1 + 1))] 154)).heap.size = w.heap.size + 5 := by simp
  generalize ((((w.alloc (Obj.cells #[Value.int IntKind.i64 ro, Value.int IntKind.i64 co, Value.string cs, ca, Value.int IntKind.i64 bu] 24)).alloc (Obj.cells #[Value.map none, Value.map none] 154)).alloc (Obj.map #[] 0)).alloc (Obj.map #[] 0)).alloc (Obj.cells #[Value.map (some (w.heap.size + 1 + 1)), Value.map (some (w.heap.size + 1 + 1 + 1))] 154) = w5 at *
  have Y5 := Hid.mk y5
  have Z5 := Hid.mk z5
  have ZF5 := Hid.mk zf5
  have B5 := Hid.mk b5
  clear y5 z5 zf5 b5 hmm
  go_loopw [13] (fun s wr => ∃ (k ns nt : Nat) (f : Int → Int → Bool) (g : Int → Int → Int → Bool), k ≤ n ∧ s = .int .i64 k ∧ ns ≤ k * 40 ∧ nt ≤ k ∧ SpotSet wr (w.heap.size + 1 + 1) ns f ∧ StepSet wr (w.heap.size + 1 + 1 + 1) nt g ∧
    (∀ c : Int, 0 ≤ c → c < cs.size → ∀ t, f c t = !onM k R c t) ∧ (∀ a c t, g a c t = noWayM k R a c t) ∧ Only (fun i => i = w.heap.size + 1 + 1 ∨ i = w.heap.size + 1 + 1 + 1) w5 wr) (fun s _ => n - (intOf s).toNat)
  case atStart => exact ⟨0, 0, 0, _, _, Nat.zero_le _, rfl, Nat.zero_le _, Nat.zero_le _, HS5.out, HT5.out, fun _ _ _ _ => rfl, fun _ _ _ => rfl, Only.refl _ _⟩
  case round =>
    obtain ⟨k, ns, nt, f, g, hk, rfl, hns, hnt, hset, hste, hf0, hg0, honly⟩ := hrel
    have HS := Hid.mk hset
    have HT := Hid.mk hste
    have HF := Hid.mk hf0
    have HG := Hid.mk hg0
    have HO := Hid.mk honly
    have hz := honly.size
    have HW : Hid (Below w.heap.size w wr) := below_only HB5.out honly (by omega) (fun i hi => by rcases hi with e | e <;> omega)
    have yr : ∀ o, wr.cell? ⟨w.heap.size, o, none⟩ = #[Value.int .i64 ro, .int .i64 co, .string cs, ca, .int .i64 bu][o]? := fun o => (honly.cell (p := ⟨w.heap.size, o, none⟩) (by show w.heap.size < _; omega) (by show ¬ (w.heap.size = _ ∨ w.heap.size = _); omega)).trans (Y5.out o)
    have br : ∀ o, wr.cell? ⟨w.heap.size + 1 + 1 + 1 + 1, o, none⟩ = #[Value.map (some (w.heap.size + 1 + 1)), Value.map (some (w.heap.size + 1 + 1 + 1))][o]? := fun o => (honly.cell (p := ⟨w.heap.size + 1 + 1 + 1 + 1, o, none⟩) (by show w.heap.size + 1 + 1 + 1 + 1 < _; omega) (by show ¬ (w.heap.size + 1 + 1 + 1 + 1 = _ ∨ w.heap.size + 1 + 1 + 1 + 1 = _); omega)).trans (B5.out o)
    have hzw : w.heap.size < wr.heap.size := by omega
    have hzb : w.heap.size + 1 + 1 + 1 + 1 < wr.heap.size := by omega
    clear hset hste hf0 hg0 honly
    by_cases hlt : k < n
    · obtain ⟨b, off, rfl, hrs⟩ := HA.out (by omega)
      obtain ⟨c0, c1, c2, c3⟩ := hrs k hlt
      have c0 := cell_later HW.out c0
      have c1 := cell_later HW.out c1
      have c2 := cell_later HW.out c2
      have c3 := cell_later HW.out c3
      have hrk := rulesB_at HR.out hlt
      have hwk := HWF.out k hlt
      clear hrs
      obtain ⟨r, hr⟩ : ∃ r, r = R k := ⟨_, rfl⟩
      rw [← hr] at c0 c1 c2 c3 hrk hwk
      obtain ⟨kd, ce, ne, ta⟩ := r
      have Hr := Hid.mk hr
      clear hr
      dsimp only at c0 c1 c2 c3 hrk hwk
      have WN := Hid.mk hwk
      have wt : Hid (i64B ta) := i64B_small (by omega) (by omega)
      have wc : Hid (i64B ce) := i64B_small (by omega) (by omega)
      have HSx : Hid (SpotSet (wr.alloc (Obj.cells #[.int .i64 kd, .int .i64 ce, .int .i64 ne, .int .i64 ta] 101)) (w.heap.size + 1 + 1) ns f) := HS.out.block (Below.heap_alloc _ _ _ (by omega))
      have HTx : Hid (StepSet (wr.alloc (Obj.cells #[.int .i64 kd, .int .i64 ce, .int .i64 ne, .int .i64 ta] 101)) (w.heap.size + 1 + 1 + 1) nt g) := HT.out.block (Below.heap_alloc _ _ _ (by omega))
      have HOx : Hid (Only (fun i => i = w.heap.size + 1 + 1 ∨ i = w.heap.size + 1 + 1 + 1) w5 (wr.alloc (Obj.cells #[.int .i64 kd, .int .i64 ce, .int .i64 ne, .int .i64 ta] 101))) := HO.out.alloc _
      clear hwk
      by_cases k0 : (kd == 0) = true
      · have K0 := Hid.mk k0
        go_wp2_with fail
        refine (banSpot_any _ (w.heap.size + 1 + 1 + 1) ns f ce ta _ HSx.out (by omega) wc.out wt.out).mono ?_
        rintro e w7 ⟨rfl, hs7, ho7⟩
        have HS7 := Hid.mk hs7
        have HT7 : Hid (StepSet w7 (w.heap.size + 1 + 1 + 1) nt g) := HTx.out.block (ho7.block _ HTx.out.lt (by omega))
        have HO7 : Hid (Only (fun i => i = w.heap.size + 1 + 1 ∨ i = w.heap.size + 1 + 1 + 1) w5 w7) := HOx.out.trans ho7 (fun _ _ e => Or.inl e)
        clear hs7 ho7 yr br c0 c1 c2 c3
        go_wp2
        go_roundw
        case rel => exact ⟨k + 1, ns + 1, nt, _, g, by omega, by go_num, by omega, by omega, HS7.out, HT7.out, fun c h0 h1 t => bans_keep Hr.out K0.out (HF.out c h0 h1 t), fun a c t => ways_same Hr.out (by have := K0.out; simp at this ⊢; omega) (HG.out a c t), HO7.out⟩
        case measure => simp [intOf]; omega
      · have k0' : (kd == 0) = false := by simpa using k0
        clear k0
        by_cases k1 : (kd == 1) = true
        · have K1 := Hid.mk k1
          go_wp2_with fail
          refine (banStep_any (w.heap.size + 1 + 1) _ nt g ce ne ta _ HTx.out (by omega) wc.out WN.out wt.out).mono ?_
          rintro e w7 ⟨rfl, hs7, ho7⟩
          have HT7 := Hid.mk hs7
          have HS7 : Hid (SpotSet w7 (w.heap.size + 1 + 1) ns f) := HSx.out.block (ho7.block _ HSx.out.lt (by omega))
          have HO7 : Hid (Only (fun i => i = w.heap.size + 1 + 1 ∨ i = w.heap.size + 1 + 1 + 1) w5 w7) := HOx.out.trans ho7 (fun _ _ e => Or.inr e)
          clear hs7 ho7 yr br c0 c1 c2 c3
          go_wp2
          go_roundw
          case rel => exact ⟨k + 1, ns, nt + 1, f, _, by omega, by go_num, by omega, by omega, HS7.out, HT7.out, fun c h0 h1 t => bans_same Hr.out K1.out (HF.out c h0 h1 t), fun a c t => ways_put Hr.out K1.out (HG.out a c t), HO7.out⟩
          case measure => simp [intOf]; omega
        · have k1' : (kd == 1) = false := by simpa using k1
          clear k1
          have k2 : (kd == 2) = true := by simp at k0' k1' ⊢; omega
          have K1 := Hid.mk k1'
          have K2 := Hid.mk k2
          go_wp2_with fail
          refine (banOthers_any _ (w.heap.size + 1 + 1 + 1) ns cs.size f ce ta _ HSx.out hs (by omega) wt.out).mono ?_
          rintro e w7 ⟨rfl, hs7, ho7⟩
          have HS7 := Hid.mk hs7
          have HT7 : Hid (StepSet w7 (w.heap.size + 1 + 1 + 1) nt g) := HTx.out.block (ho7.block _ HTx.out.lt (by omega))
          have HO7 : Hid (Only (fun i => i = w.heap.size + 1 + 1 ∨ i = w.heap.size + 1 + 1 + 1) w5 w7) := HOx.out.trans ho7 (fun _ _ e => Or.inl e)
          clear hs7 ho7 yr br c0 c1 c2 c3
          go_wp2
          go_roundw
          case rel => exact ⟨k + 1, ns + cs.size, nt, _, g, by omega, by go_num, by omega, by omega, HS7.out, HT7.out, fun c h0 h1 t => bans_there Hr.out K2.out h0 h1 (HF.out c h0 h1 t), fun a c t => ways_same Hr.out K1.out (HG.out a c t), HO7.out⟩
          case measure => simp [intOf]; omega
    · have hd : k = n := by omega
      have zr : ∀ o, wr.cell? ⟨w.heap.size + 1, o, none⟩ = #[Value.map none, Value.map none][o]? := fun o => (HO.out.cell (p := ⟨w.heap.size + 1, o, none⟩) (by show w.heap.size + 1 < _; omega) (by show ¬ (w.heap.size + 1 = _ ∨ w.heap.size + 1 = _); omega)).trans (Z5.out o)
      have zfr : ∀ o, wr.frozen? ⟨w.heap.size + 1, o, none⟩ = false := fun o => (HO.out.frozen (p := ⟨w.heap.size + 1, o, none⟩) (by show w.heap.size + 1 < _; omega) (by show ¬ (w.heap.size + 1 = _ ∨ w.heap.size + 1 = _); omega)).trans (ZF5.out o)
      go_wp2
      subst hd
      refine bodyPost_ret (v := .agg #[.map (some (w.heap.size + 1 + 1)), .map (some (w.heap.size + 1 + 1 + 1))]) (by simp [results, Tryd.results151]; go_simp) rfl ⟨w.heap.size + 1 + 1, w.heap.size + 1 + 1 + 1, rfl, by omega, by omega, ?_, ?_⟩
      · refine ⟨ns, nt, f, g, hns, hnt, HS.out.block ?_, HT.out.block ?_, HF.out, HG.out⟩
        · iterate 2 rw [Below.heap_setCell _ _ _ _ (by show w.heap.size + 1 + 1 ≠ w.heap.size + 1; omega)]
        · iterate 2 rw [Below.heap_setCell _ _ _ _ (by show w.heap.size + 1 + 1 + 1 ≠ w.heap.size + 1; omega)]
      · iterate 2 refine Below.setCell ?_ (by show w.heap.size ≤ w.heap.size + 1; omega) _
        exact HW.out

end Go.Proofs.YtnkgpinadgacgaaDoor
