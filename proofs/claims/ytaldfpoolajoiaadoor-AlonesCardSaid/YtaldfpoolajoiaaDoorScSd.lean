/- Walks of the program's bans: put in, asked. -/
import Derived.Test.YtaldfpoolajoiaaDoorRm
import Derived.Test.YtaldfpoolajoiaaDoorLc
import Derived.Test.YtaldfpoolajoiaaDoorRa
import Derived.Test.YtaldfpoolajoiaaDoorWaWbWcWd
import Derived.Test.YtaldfpoolajoiaaDoorRc
namespace Go.Proofs.YtaldfpoolajoiaaDoor
open Go.RowKit M

set_option maxHeartbeats 1000000 in
theorem banSpot_any (bs bt n : Nat) (f : Int → Int → Bool) (c t : Int) (w : World) (h : SpotSet w bs n f) (hn : n < 1000000) (hc : i64B c) (ht : i64B t) :
    Calls Tryd.prog 99 #[.agg #[.map (some bs), .map (some bt)], .agg #[.int .i64 c, .int .i64 t]] w fun e w' =>
      e = .returned (.tuple #[]) ∧ SpotSet w' bs (n + 1) (fun c' t' => f c' t' || (c' == c && t' == t)) ∧ Only (fun k => k = bs) w w' := by
  have H := Hid.mk h
  have hl := h.lt
  clear h
  have hnm : n < maxLen := by unfold maxLen; omega
  go_enter Tryd.func99, Tryd.ntmps99
  go_wp2_with (at_mapUpdate; refine wpList_put_spot rfl _ _ _ rfl bs n f rfl (H.out.block (by rw [Below.heap_alloc _ _ _ (by simp; omega), Below.heap_alloc _ _ _ hl])) hnm c t rfl rfl hc ht ?_; intro w3 hs3 hg3)
  go_end0
  exact ⟨rfl, hs3, (((Only.refl _ w).alloc _).alloc _).trans (Only.of_grown hg3) (fun _ _ e => e)⟩

set_option maxHeartbeats 1000000 in
theorem banStep_any (bs bt n : Nat) (f : Int → Int → Int → Bool) (p c t : Int) (w : World) (h : StepSet w bt n f) (hn : n < 1000000) (hp : i64B p) (hc : i64B c) (ht : i64B t) :
    Calls Tryd.prog 74 #[.agg #[.map (some bs), .map (some bt)], .agg #[.int .i64 p, .int .i64 c, .int .i64 t]] w fun e w' =>
      e = .returned (.tuple #[]) ∧ StepSet w' bt (n + 1) (fun a' c' t' => f a' c' t' || (a' == p && c' == c && t' == t)) ∧ Only (fun k => k = bt) w w' := by
  have H := Hid.mk h
  have hl := h.lt
  clear h
  have hnm : n < maxLen := by unfold maxLen; omega
  go_enter Tryd.func74, Tryd.ntmps74
  go_wp2_with (at_mapUpdate; refine wpList_put_step rfl _ _ _ rfl bt n f rfl (H.out.block (by rw [Below.heap_alloc _ _ _ (by simp; omega), Below.heap_alloc _ _ _ hl])) hnm p c t rfl rfl hp hc ht ?_; intro w3 hs3 hg3)
  go_end0
  exact ⟨rfl, hs3, (((Only.refl _ w).alloc _).alloc _).trans (Only.of_grown hg3) (fun _ _ e => e)⟩

set_option maxHeartbeats 1000000 in
theorem allowSpot_any (bs bt n : Nat) (f : Int → Int → Bool) (c t : Int) (w : World) (h : SpotSet w bs n f) (hc : i64B c) (ht : i64B t) :
    Calls Tryd.prog 85 #[.agg #[.map (some bs), .map (some bt)], .agg #[.int .i64 c, .int .i64 t]] w fun e w' =>
      e = .returned (.bool (!f c t)) ∧ Below w.heap.size w w' := by
  have H := Hid.mk h
  have hl := h.lt
  clear h
  obtain ⟨g, hg⟩ : ∃ g, g = f c t := ⟨_, rfl⟩
  rw [← hg]
  have HG := Hid.mk hg
  clear hg
  have KEY : Hid (∀ (ops : Array Oper) (rest : List Oper) (o : Oper) (a : Act) (Q : Exit → Act → World → Prop) (w' : World) (m x : Operand), o.guard = none → o.op = Op.lookup 100 m x true → a.eval m = .map (some bs) → w'.heap[bs]? = w.heap[bs]? → a.eval x = .agg #[.int .i64 c, .int .i64 t] →
      wpList Tryd.prog ops Q rest (a.put o.dst (.tuple #[.agg #[], .bool g])) w' → wpList Tryd.prog ops Q (o :: rest) a w') := by
    intro ops rest o a Q w' m x h1 h2 h3 h4 h5 h6
    refine wpList_look_spot h1 m x h2 bs n f h3 (H.out.block h4) c t h5 hc ht ?_
    rw [← HG.out]; exact h6
  go_enter Tryd.func85, Tryd.ntmps85
  go_wp2_with (at_lookup; refine KEY.out _ _ _ _ _ _ _ _ rfl rfl rfl (by rw [Below.heap_alloc _ _ _ (by simp; omega), Below.heap_alloc _ _ _ hl]) rfl ?_)
  go_ret
  exact ⟨rfl, (((Below.refl _ w).alloc (Nat.le_refl _) _).alloc (by simp) _).alloc (by simp; omega) _⟩

set_option maxHeartbeats 1000000 in
theorem allowStep_any (bs bt n n' : Nat) (f : Int → Int → Bool) (f' : Int → Int → Int → Bool) (p c : Int) (t : Nat) (w : World) (h : SpotSet w bs n f) (h' : StepSet w bt n' f') (hp : i64B p) (hc : i64B c) (ht : t ≤ 100000) :
    Calls Tryd.prog 104 #[.agg #[.map (some bs), .map (some bt)], .agg #[.int .i64 p, .int .i64 c, .int .i64 (t : Int)]] w fun e w' =>
      e = .returned (.bool (!f' p c t && !f c (t + 1 : Nat))) ∧ Below w.heap.size w w' := by
  have H := Hid.mk h
  have H' := Hid.mk h'
  have hl := h'.lt
  clear h h'
  have ht1 : i64B (t : Int) := i64B_small (by omega) (by omega)
  have ht2 : i64B ((t + 1 : Nat) : Int) := i64B_small (by omega) (by omega)
  obtain ⟨g, hg⟩ : ∃ g, g = f' p c t := ⟨_, rfl⟩
  rw [← hg]
  have HG := Hid.mk hg
  clear hg
  have KEY : Hid (∀ (ops : Array Oper) (rest : List Oper) (o : Oper) (a : Act) (Q : Exit → Act → World → Prop) (w' : World) (m x : Operand), o.guard = none → o.op = Op.lookup 101 m x true → a.eval m = .map (some bt) → w'.heap[bt]? = w.heap[bt]? → a.eval x = .agg #[.int .i64 p, .int .i64 c, .int .i64 (t : Int)] →
      wpList Tryd.prog ops Q rest (a.put o.dst (.tuple #[.agg #[], .bool g])) w' → wpList Tryd.prog ops Q (o :: rest) a w') := by
    intro ops rest o a Q w' m x h1 h2 h3 h4 h5 h6
    refine wpList_look_step h1 m x h2 bt n' f' h3 (H'.out.block h4) p c t h5 hp hc ht1 ?_
    rw [← HG.out]; exact h6
  go_enter Tryd.func104, Tryd.ntmps104
  cases g
  · go_wp2_with (at_lookup; refine KEY.out _ _ _ _ _ _ _ _ rfl rfl rfl (by rw [Below.heap_alloc _ _ _ (by simp; omega), Below.heap_alloc _ _ _ hl]) rfl ?_)
    have HB3 : Hid (Below w.heap.size w (((w.alloc (Obj.cells #[Value.map (some bs), Value.map (some bt)] 103)).alloc (Obj.cells #[Value.int IntKind.i64 p, Value.int IntKind.i64 c, Value.int IntKind.i64 (t : Int)] 110)).alloc (Obj.cells #[] 120))) := (((Below.refl _ w).alloc (Nat.le_refl _) _).alloc (by simp) _).alloc (by simp; omega) _
    generalize ((w.alloc (Obj.cells #[Value.map (some bs), Value.map (some bt)] 103)).alloc (Obj.cells #[Value.int IntKind.i64 p, Value.int IntKind.i64 c, Value.int IntKind.i64 (t : Int)] 110)).alloc (Obj.cells #[] 120) = w3 at *
    rw [show ((t : Int) + 1) = ((t + 1 : Nat) : Int) by omega]
    refine (allowSpot_any bs bt n f c (t + 1 : Nat) _ (H.out.block (HB3.out.block _ H.out.lt)) hc ht2).mono ?_
    rintro e w4 ⟨rfl, hb4⟩
    have HB4 : Hid (Below w.heap.size w w4) := HB3.out.trans (hb4.mono HB3.out.size)
    clear hb4
    go_wp2
    go_ret
    exact ⟨rfl, HB4.out⟩
  · go_wp2_with (at_lookup; refine KEY.out _ _ _ _ _ _ _ _ rfl rfl rfl (by rw [Below.heap_alloc _ _ _ (by simp; omega), Below.heap_alloc _ _ _ hl]) rfl ?_)
    go_ret
    exact ⟨rfl, (((Below.refl _ w).alloc (Nat.le_refl _) _).alloc (by simp) _).alloc (by simp; omega) _⟩

end Go.Proofs.YtaldfpoolajoiaaDoor

/- Walks of the program's banOthers, brokenByStaying, settledAt. -/
namespace Go.Proofs.YtaldfpoolajoiaaDoor
open Go.RowKit M

/-- All cells below k but one are forbidden at an instant. -/
def banF (f : Int → Int → Bool) (ce ta : Int) (k : Nat) (c t : Int) : Bool := f c t || (decide (0 ≤ c) && decide (c < k) && !(c == ce) && t == ta)

theorem banF_step {f : Int → Int → Bool} {ce ta : Int} {k : Nat} (h : ((k : Int) == ce) = false) (c t : Int) : (banF f ce ta k c t || (c == (k : Int) && t == ta)) = banF f ce ta (k + 1) c t := by
  unfold banF
  have h' : (k : Int) ≠ ce := by simpa using h
  rw [Bool.eq_iff_iff]
  simp only [Bool.or_eq_true, Bool.and_eq_true, decide_eq_true_eq, beq_iff_eq, Bool.not_eq_true', beq_eq_false_iff_ne]
  constructor
  · rintro ((h1 | ⟨⟨⟨h1, h2⟩, h3⟩, h4⟩) | ⟨h1, h2⟩)
    · exact Or.inl h1
    · exact Or.inr ⟨⟨⟨h1, by omega⟩, h3⟩, h4⟩
    · exact Or.inr ⟨⟨⟨by omega, by omega⟩, by omega⟩, h2⟩
  · rintro (h1 | ⟨⟨⟨h1, h2⟩, h3⟩, h4⟩)
    · exact Or.inl (Or.inl h1)
    · by_cases e : c = k
      · exact Or.inr ⟨e, h4⟩
      · exact Or.inl (Or.inr ⟨⟨⟨h1, by omega⟩, h3⟩, h4⟩)

theorem banF_skip {f : Int → Int → Bool} {ce ta : Int} {k : Nat} (h : ((k : Int) == ce) = true) (c t : Int) : banF f ce ta k c t = banF f ce ta (k + 1) c t := by
  unfold banF
  have h' : (k : Int) = ce := by simpa using h
  rw [Bool.eq_iff_iff]
  simp only [Bool.or_eq_true, Bool.and_eq_true, decide_eq_true_eq, beq_iff_eq, Bool.not_eq_true', beq_eq_false_iff_ne]
  constructor
  · rintro (h1 | ⟨⟨⟨h1, h2⟩, h3⟩, h4⟩)
    · exact Or.inl h1
    · exact Or.inr ⟨⟨⟨h1, by omega⟩, h3⟩, h4⟩
  · rintro (h1 | ⟨⟨⟨h1, h2⟩, h3⟩, h4⟩)
    · exact Or.inl h1
    · exact Or.inr ⟨⟨⟨h1, by omega⟩, h3⟩, h4⟩

theorem banF_zero {f : Int → Int → Bool} {ce ta : Int} (c t : Int) : f c t = banF f ce ta 0 c t := by
  unfold banF
  cases h : (decide (0 ≤ c) && decide (c < ((0 : Nat) : Int)) && !(c == ce) && t == ta) with
  | false => simp
  | true => simp at h; omega

set_option maxHeartbeats 1000000 in
theorem banOthers_any (bs bt n N : Nat) (f : Int → Int → Bool) (ce ta : Int) (w : World) (h : SpotSet w bs n f) (hN : N ≤ 36) (hn : n + N < 100000) (ht : i64B ta) :
    Calls Tryd.prog 100 #[.agg #[.map (some bs), .map (some bt)], .int .i64 (N : Int), .agg #[.int .i64 ce, .int .i64 ta]] w fun e w' =>
      e = .returned (.tuple #[]) ∧ SpotSet w' bs (n + N) (banF f ce ta N) ∧ Only (fun k => k = bs) w w' := by
  have H := Hid.mk h
  have hl := h.lt
  clear h
  go_enter Tryd.func100, Tryd.ntmps100
  go_wp2
  have HO2 : Hid (Only (fun k => k = bs) w ((w.alloc (Obj.cells #[Value.map (some bs), Value.map (some bt)] 103)).alloc (Obj.cells #[.int .i64 ce, .int .i64 ta] 130))) := ((Only.refl _ w).alloc _).alloc _
  have HS2 : Hid (SpotSet ((w.alloc (Obj.cells #[Value.map (some bs), Value.map (some bt)] 103)).alloc (Obj.cells #[.int .i64 ce, .int .i64 ta] 130)) bs n f) := H.out.block (by rw [Below.heap_alloc _ _ _ (by simp; omega), Below.heap_alloc _ _ _ hl])
  have b2 : ∀ o, ((w.alloc (Obj.cells #[Value.map (some bs), Value.map (some bt)] 103)).alloc (Obj.cells #[.int .i64 ce, .int .i64 ta] 130)).cell? ⟨w.heap.size, o, none⟩ = #[Value.map (some bs), Value.map (some bt)][o]? := by
    intro o; go_simp
  have s2 : ∀ o, ((w.alloc (Obj.cells #[Value.map (some bs), Value.map (some bt)] 103)).alloc (Obj.cells #[.int .i64 ce, .int .i64 ta] 130)).cell? ⟨w.heap.size + 1, o, none⟩ = #[Value.int .i64 ce, .int .i64 ta][o]? := by
    intro o; go_simp
  have hz2 : ((w.alloc (Obj.cells #[Value.map (some bs), Value.map (some bt)] 103)).alloc (Obj.cells #[.int .i64 ce, .int .i64 ta] 130)).heap.size = w.heap.size + 2 := by simp
  generalize (w.alloc (Obj.cells #[Value.map (some bs), Value.map (some bt)] 103)).alloc (Obj.cells #[.int .i64 ce, .int .i64 ta] 130) = w2 at *
  have B2 := Hid.mk b2
  have S2 := Hid.mk s2
  clear b2 s2
  go_loopw [8] (fun s wr => ∃ k n' : Nat, k ≤ N ∧ n' ≤ n + k ∧ s = .int .i64 k ∧ SpotSet wr bs n' (banF f ce ta k) ∧ Only (fun k => k = bs) w2 wr) (fun s _ => N - (intOf s).toNat)
  case atStart => exact ⟨0, n, Nat.zero_le _, by omega, rfl, HS2.out.same fun c t => banF_zero c t, Only.refl _ _⟩
  case round =>
    obtain ⟨k, n', hk, hn', rfl, hset, honly⟩ := hrel
    have HS := Hid.mk hset
    have HO := Hid.mk honly
    have hz := honly.size
    have br : ∀ o, wr.cell? ⟨w.heap.size, o, none⟩ = #[Value.map (some bs), Value.map (some bt)][o]? := fun o => (honly.cell (p := ⟨w.heap.size, o, none⟩) (by show w.heap.size < _; omega) (by show ¬ w.heap.size = bs; omega)).trans (B2.out o)
    have sr : ∀ o, wr.cell? ⟨w.heap.size + 1, o, none⟩ = #[Value.int .i64 ce, .int .i64 ta][o]? := fun o => (honly.cell (p := ⟨w.heap.size + 1, o, none⟩) (by show w.heap.size + 1 < _; omega) (by show ¬ w.heap.size + 1 = bs; omega)).trans (S2.out o)
    clear hset honly
    by_cases hlt : k < N
    · by_cases q : ((k : Int) == ce) = true
      · have Q := Hid.mk q
        go_wp2
        go_roundw
        case rel => exact ⟨k + 1, n', by omega, by omega, by go_num, HS.out.same fun c t => banF_skip Q.out c t, HO.out⟩
        case measure => simp [intOf]; omega
      · have q' : ((k : Int) == ce) = false := by simpa using q
        have Q := Hid.mk q'
        clear q
        go_wp2_with fail
        refine (banSpot_any bs bt n' (banF f ce ta k) (k : Int) ta _ HS.out (by omega) (i64B_small (by omega) (by omega)) ht).mono ?_
        rintro e w3 ⟨rfl, hs3, ho3⟩
        have HS3 := Hid.mk hs3
        have HO3 : Hid (Only (fun k => k = bs) w2 w3) := HO.out.trans ho3 (fun _ _ e => e)
        clear hs3 ho3 br sr
        go_wp2
        go_roundw
        case rel => exact ⟨k + 1, n' + 1, by omega, by omega, by go_num, HS3.out.same fun c t => banF_step Q.out c t, HO3.out⟩
        case measure => simp [intOf]; omega
    · have hd : k = N := by omega
      go_wp2
      go_end0
      subst hd
      exact ⟨rfl, HS.out.more (by omega), HO2.out.trans HO.out (fun _ _ e => e)⟩

set_option maxHeartbeats 1000000 in
theorem broken_any (c kd ce ne ta : Int) (w : World) :
    Calls Tryd.prog 101 #[.int .i64 c, .agg #[.int .i64 kd, .int .i64 ce, .int .i64 ne, .int .i64 ta]] w fun e w' => e = .returned (.bool (brkStay c ⟨kd, ce, ne, ta⟩)) ∧ Below w.heap.size w w' := by
  have HB0 : Hid (∀ o1, Below w.heap.size w (w.alloc o1)) := fun _ => (Below.refl _ _).alloc (Nat.le_refl _) _
  have KEY : Hid (∀ b, brkStay c ⟨kd, ce, ne, ta⟩ = b → Ending.returned (.bool b) = Ending.returned (.bool (brkStay c ⟨kd, ce, ne, ta⟩))) := fun b h => by rw [h]
  go_enter Tryd.func101, Tryd.ntmps101
  by_cases k0 : (kd == 0) = true
  · by_cases q : (ce == c) = true
    · have K : Hid (brkStay c ⟨kd, ce, ne, ta⟩ = true) := by unfold Hid brkStay; simp [k0, q]
      go_wp2
      go_ret
      exact ⟨KEY.out true K.out, HB0.out _⟩
    · have q' : (ce == c) = false := by simpa using q
      have K : Hid (brkStay c ⟨kd, ce, ne, ta⟩ = false) := by unfold Hid brkStay; simp [k0, q']
      clear q
      go_wp2
      go_ret
      exact ⟨KEY.out false K.out, HB0.out _⟩
  · have k0' : (kd == 0) = false := by simpa using k0
    clear k0
    by_cases k1 : (kd == 1) = true
    · by_cases q : (ce == c) = true
      · by_cases r : (ne == c) = true
        · have K : Hid (brkStay c ⟨kd, ce, ne, ta⟩ = true) := by unfold Hid brkStay; simp [k0', k1, q, r]
          go_wp2
          go_ret
          exact ⟨KEY.out true K.out, HB0.out _⟩
        · have r' : (ne == c) = false := by simpa using r
          have K : Hid (brkStay c ⟨kd, ce, ne, ta⟩ = false) := by unfold Hid brkStay; simp [k0', k1, r']
          clear r
          go_wp2
          go_ret
          exact ⟨KEY.out false K.out, HB0.out _⟩
      · have q' : (ce == c) = false := by simpa using q
        have K : Hid (brkStay c ⟨kd, ce, ne, ta⟩ = false) := by unfold Hid brkStay; simp [k0', k1, q']
        clear q
        go_wp2
        go_ret
        exact ⟨KEY.out false K.out, HB0.out _⟩
    · have k1' : (kd == 1) = false := by simpa using k1
      clear k1
      by_cases q : (ce == c) = true
      · have q2 : (ce != c) = false := by unfold bne; rw [q]; rfl
        have K : Hid (brkStay c ⟨kd, ce, ne, ta⟩ = false) := by unfold Hid brkStay; simp [k0', k1', q]
        clear q
        go_wp2
        go_ret
        exact ⟨KEY.out false K.out, HB0.out _⟩
      · have q' : (ce == c) = false := by simpa using q
        have q2 : (ce != c) = true := by unfold bne; rw [q']; rfl
        have K : Hid (brkStay c ⟨kd, ce, ne, ta⟩ = true) := by unfold Hid brkStay; simp [k0', k1', q']
        clear q q'
        go_wp2
        go_ret
        exact ⟨KEY.out true K.out, HB0.out _⟩

set_option maxHeartbeats 1000000 in
theorem settled_any (c : Int) (a : Option Addr) (n cap N : Nat) (R : Nat → RuleM) (w : World) (hr : rulesB N n R = true) (ha : RulesAt w a n R) :
    Calls Tryd.prog 84 #[.int .i64 c, .slice a n cap] w fun e w' => e = .returned (.int .i64 (settledM c R n)) ∧ Below w.heap.size w w' := by
  have HA := Hid.mk ha
  have hn := rulesB_len hr
  have HR := Hid.mk hr
  clear ha hr
  go_enter Tryd.func84, Tryd.ntmps84
  go_wp2
  go_loopw [5, 10] (fun v s wr => ∃ k : Nat, v = .int .i64 (settledM c R k) ∧ k ≤ n ∧ s = .int .i64 k ∧ Below w.heap.size w wr) (fun _ s _ => n - (intOf s).toNat)
  case atStart => exact ⟨0, rfl, Nat.zero_le _, rfl, Below.refl _ _⟩
  case round =>
    obtain ⟨k, rfl, hk, rfl, hbr⟩ := hrel
    have HB := Hid.mk hbr
    clear hbr
    obtain ⟨sv, hsv⟩ : ∃ x, x = settledM c R k := ⟨_, rfl⟩
    have hsb : 0 ≤ settledM c R k ∧ settledM c R k ≤ 61 := by
      rcases settled_is (c := c) (R := R) (n := k) with e | ⟨i, hi, _, e⟩
      · rw [e]; omega
      · have := rulesB_at HR.out (i := i) (by omega)
        rw [e]; omega
    rw [← hsv] at hsb ⊢
    have HSV := Hid.mk hsv
    clear hsv
    by_cases hlt : k < n
    · obtain ⟨b, off, rfl, hrs⟩ := HA.out (by omega)
      obtain ⟨c0, c1, c2, c3⟩ := hrs k hlt
      have c0 := cell_later HB.out c0
      have c1 := cell_later HB.out c1
      have c2 := cell_later HB.out c2
      have c3 := cell_later HB.out c3
      have hrk := rulesB_at HR.out hlt
      clear hrs
      obtain ⟨r, hr⟩ : ∃ r, r = R k := ⟨_, rfl⟩
      rw [← hr] at c0 c1 c2 c3 hrk
      obtain ⟨kd, ce, ne, ta⟩ := r
      have Hr := Hid.mk hr
      clear hr
      dsimp only at c0 c1 c2 c3 hrk
      obtain ⟨_, _, _, _, t0, t1⟩ := hrk
      go_wp2_with fail
      have HBx : Hid (Below w.heap.size w (wr.alloc (Obj.cells #[.int .i64 kd, .int .i64 ce, .int .i64 ne, .int .i64 ta] 77))) := HB.out.alloc HB.out.size _
      have yx : (wr.alloc (Obj.cells #[.int .i64 kd, .int .i64 ce, .int .i64 ne, .int .i64 ta] 77)).cell? ⟨wr.heap.size, 3, none⟩ = some (.int .i64 ta) := by go_simp
      have hzx : wr.heap.size < (wr.alloc (Obj.cells #[.int .i64 kd, .int .i64 ce, .int .i64 ne, .int .i64 ta] 77)).heap.size := by simp
      generalize wr.alloc (Obj.cells #[.int .i64 kd, .int .i64 ce, .int .i64 ne, .int .i64 ta] 77) = wx at *
      refine (broken_any c kd ce ne ta _).mono ?_
      rintro e w4 ⟨rfl, hb4⟩
      have y4 : w4.cell? ⟨wr.heap.size, 3, none⟩ = some (.int .i64 ta) := (hb4.cell (p := ⟨wr.heap.size, 3, none⟩) hzx).trans yx
      have HB4 : Hid (Below w.heap.size w w4) := HBx.out.trans (hb4.mono HBx.out.size)
      obtain ⟨g, hgg⟩ : ∃ g, g = brkStay c ⟨kd, ce, ne, ta⟩ := ⟨_, rfl⟩
      rw [← hgg]
      have HG := Hid.mk hgg
      clear hgg hb4 c0 c1 c2 c3 yx
      have NEXT : Hid (settledM c R (k + 1) = if g = true then max sv (ta + 1) else sv) := by
        unfold Hid; simp only [settledM]; rw [← Hr.out, ← HG.out, HSV.out]
      cases g
      · go_wp2
        go_roundw
        case rel => exact ⟨k + 1, by rw [NEXT.out]; simp, by omega, by go_num, HB4.out⟩
        case measure => simp [intOf]; omega
      · have MX : Hid ((if sv < ta + 1 then ta + 1 else sv) = settledM c R (k + 1)) := by
          unfold Hid
          rw [NEXT.out]
          simp only [if_true]
          split <;> omega
        go_wp2
        go_roundw
        case rel => exact ⟨k + 1, by rw [MX.out], by omega, by go_num, HB4.out⟩
        case measure => simp [intOf]; omega
    · have hd : k = n := by omega
      go_wp2
      go_ret
      subst hd
      exact ⟨ret_int HSV.out, HB.out⟩

end Go.Proofs.YtaldfpoolajoiaaDoor
