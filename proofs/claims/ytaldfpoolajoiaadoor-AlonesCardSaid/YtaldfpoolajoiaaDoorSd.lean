/- Walks of the program's banOthers, brokenByStaying, settledAt. -/
import Derived.Test.YtaldfpoolajoiaaDoorSc
import Derived.Test.YtaldfpoolajoiaaDoorRc
namespace Go.Proofs.YtaldfpoolajoiaaDoor
open Go.RowKit M

/-- All cells below k but one are forbidden at an instant. -/
def banF (f : Int → Int → Bool) (ce ta : Int) (k : Nat) (c t : Int) : Bool := f c t || (decide (0 ≤ c) && decide (c < k) && !(c == ce) && t == ta)

theorem banF_step {f : Int → Int → Bool} {ce ta : Int} {k : Nat} (h : ((k : Int) == ce) = false) (c t : Int) : (banF f ce ta k c t || (c == (k : Int) && t == ta)) = banF f ce ta (k + 1) c t := by
  unfold banF
  have h' : (k : Int) ≠ ce := by simpa using h
  rw [Bool.eq_iff_iff]
  simp only [Bool.or_eq_true, Bool.and_eq_true, decide_eq_true_eq, beq_iff_eq, Bool.not_eq_true', beq_eq_false_iff_ne]
  constructor
  · rintro ((h1 | ⟨⟨⟨h1, h2⟩, h3⟩, h4⟩) | ⟨h1, h2⟩)
    · exact Or.inl h1
    · exact Or.inr ⟨⟨⟨h1, by omega⟩, h3⟩, h4⟩
    · exact Or.inr ⟨⟨⟨by omega, by omega⟩, by omega⟩, h2⟩
  · rintro (h1 | ⟨⟨⟨h1, h2⟩, h3⟩, h4⟩)
    · exact Or.inl (Or.inl h1)
    · by_cases e : c = k
      · exact Or.inr ⟨e, h4⟩
      · exact Or.inl (Or.inr ⟨⟨⟨h1, by omega⟩, h3⟩, h4⟩)

theorem banF_skip {f : Int → Int → Bool} {ce ta : Int} {k : Nat} (h : ((k : Int) == ce) = true) (c t : Int) : banF f ce ta k c t = banF f ce ta (k + 1) c t := by
  unfold banF
  have h' : (k : Int) = ce := by simpa using h
  rw [Bool.eq_iff_iff]
  simp only [Bool.or_eq_true, Bool.and_eq_true, decide_eq_true_eq, beq_iff_eq, Bool.not_eq_true', beq_eq_false_iff_ne]
  constructor
  · rintro (h1 | ⟨⟨⟨h1, h2⟩, h3⟩, h4⟩)
    · exact Or.inl h1
    · exact Or.inr ⟨⟨⟨h1, by omega⟩, h3⟩, h4⟩
  · rintro (h1 | ⟨⟨⟨h1, h2⟩, h3⟩, h4⟩)
    · exact Or.inl h1
    · exact Or.inr ⟨⟨⟨h1, by omega⟩, h3⟩, h4⟩

theorem banF_zero {f : Int → Int → Bool} {ce ta : Int} (c t : Int) : f c t = banF f ce ta 0 c t := by
  unfold banF
  cases h : (decide (0 ≤ c) && decide (c < ((0 : Nat) : Int)) && !(c == ce) && t == ta) with
  | false => simp
  | true => simp at h; omega

set_option maxHeartbeats 1000000 in
theorem banOthers_any (bs bt n N : Nat) (f : Int → Int → Bool) (ce ta : Int) (w : World) (h : SpotSet w bs n f) (hN : N ≤ 36) (hn : n + N < 100000) (ht : i64B ta) :
    Calls Tryd.prog 100 #[.agg #[.map (some bs), .map (some bt)], .int .i64 (N : Int), .agg #[.int .i64 ce, .int .i64 ta]] w fun e w' =>
      e = .returned (.tuple #[]) ∧ SpotSet w' bs (n + N) (banF f ce ta N) ∧ Only (fun k => k = bs) w w' := by
  have H := Hid.mk h
  have hl := h.lt
  clear h
  go_enter Tryd.func100, Tryd.ntmps100
  go_wp2
  have HO2 : Hid (Only (fun k => k = bs) w ((w.alloc (Obj.cells #[Value.map (some bs), Value.map (some bt)] 103)).alloc (Obj.cells #[.int .i64 ce, .int .i64 ta] 130))) := ((Only.refl _ w).alloc _).alloc _
  have HS2 : Hid (SpotSet ((w.alloc (Obj.cells #[Value.map (some bs), Value.map (some bt)] 103)).alloc (Obj.cells #[.int .i64 ce, .int .i64 ta] 130)) bs n f) := H.out.block (by rw [Below.heap_alloc _ _ _ (by simp; omega), Below.heap_alloc _ _ _ hl])
  have b2 : ∀ o, ((w.alloc (Obj.cells #[Value.map (some bs), Value.map (some bt)] 103)).alloc (Obj.cells #[.int .i64 ce, .int .i64 ta] 130)).cell? ⟨w.heap.size, o, none⟩ = #[Value.map (some bs), Value.map (some bt)][o]? := by
    intro o; go_simp
  have s2 : ∀ o, ((w.alloc (Obj.cells #[Value.map (some bs), Value.map (some bt)] 103)).alloc (Obj.cells #[.int .i64 ce, .int .i64 ta] 130)).cell? ⟨w.heap.size + 1, o, none⟩ = #[Value.int .i64 ce, .int .i64 ta][o]? := by
    intro o; go_simp
  have hz2 : ((w.alloc (Obj.cells #[Value.map (some bs), Value.map (some bt)] 103)).alloc (Obj.cells #[.int .i64 ce, .int .i64 ta] 130)).heap.size = w.heap.size + 2 := by simp
  generalize (w.alloc (Obj.cells #[Value.map (some bs), Value.map (some bt)] 103)).alloc (Obj.cells #[.int .i64 ce, .int .i64 ta] 130) = w2 at *
  have B2 := Hid.mk b2
  have S2 := Hid.mk s2
  clear b2 s2
  go_loopw [8] (fun s wr => ∃ k n' : Nat, k ≤ N ∧ n' ≤ n + k ∧ s = .int .i64 k ∧ SpotSet wr bs n' (banF f ce ta k) ∧ Only (fun k => k = bs) w2 wr) (fun s _ => N - (intOf s).toNat)
  case atStart => exact ⟨0, n, Nat.zero_le _, by omega, rfl, HS2.out.same fun c t => banF_zero c t, Only.refl _ _⟩
  case round =>
    obtain ⟨k, n', hk, hn', rfl, hset, honly⟩ := hrel
    have HS := Hid.mk hset
    have HO := Hid.mk honly
    have hz := honly.size
    have br : ∀ o, wr.cell? ⟨w.heap.size, o, none⟩ = #[Value.map (some bs), Value.map (some bt)][o]? := fun o => (honly.cell (p := ⟨w.heap.size, o, none⟩) (by show w.heap.size < _; omega) (by show ¬ w.heap.size = bs; omega)).trans (B2.out o)
    have sr : ∀ o, wr.cell? ⟨w.heap.size + 1, o, none⟩ = #[Value.int .i64 ce, .int .i64 ta][o]? := fun o => (honly.cell (p := ⟨w.heap.size + 1, o, none⟩) (by show w.heap.size + 1 < _; omega) (by show ¬ w.heap.size + 1 = bs; omega)).trans (S2.out o)
    clear hset honly
    by_cases hlt : k < N
    · by_cases q : ((k : Int) == ce) = true
      · have Q := Hid.mk q
        go_wp2
        go_roundw
        case rel => exact ⟨k + 1, n', by omega, by omega, by go_num, HS.out.same fun c t => banF_skip Q.out c t, HO.out⟩
        case measure => simp [intOf]; omega
      · have q' : ((k : Int) == ce) = false := by simpa using q
        have Q := Hid.mk q'
        clear q
        go_wp2_with fail
        refine (banSpot_any bs bt n' (banF f ce ta k) (k : Int) ta _ HS.out (by omega) (i64B_small (by omega) (by omega)) ht).mono ?_
        rintro e w3 ⟨rfl, hs3, ho3⟩
        have HS3 := Hid.mk hs3
        have HO3 : Hid (Only (fun k => k = bs) w2 w3) := HO.out.trans ho3 (fun _ _ e => e)
        clear hs3 ho3 br sr
        go_wp2
        go_roundw
        case rel => exact ⟨k + 1, n' + 1, by omega, by omega, by go_num, HS3.out.same fun c t => banF_step Q.out c t, HO3.out⟩
        case measure => simp [intOf]; omega
    · have hd : k = N := by omega
      go_wp2
      go_end0
      subst hd
      exact ⟨rfl, HS.out.more (by omega), HO2.out.trans HO.out (fun _ _ e => e)⟩

set_option maxHeartbeats 1000000 in
theorem broken_any (c kd ce ne ta : Int) (w : World) :
    Calls Tryd.prog 101 #[.int .i64 c, .agg #[.int .i64 kd, .int .i64 ce, .int .i64 ne, .int .i64 ta]] w fun e w' => e = .returned (.bool (brkStay c ⟨kd, ce, ne, ta⟩)) ∧ Below w.heap.size w w' := by
  have HB0 : Hid (∀ o1, Below w.heap.size w (w.alloc o1)) := fun _ => (Below.refl _ _).alloc (Nat.le_refl _) _
  have KEY : Hid (∀ b, brkStay c ⟨kd, ce, ne, ta⟩ = b → Ending.returned (.bool b) = Ending.returned (.bool (brkStay c ⟨kd, ce, ne, ta⟩))) := fun b h => by rw [h]
  go_enter Tryd.func101, Tryd.ntmps101
  by_cases k0 : (kd == 0) = true
  · by_cases q : (ce == c) = true
    · have K : Hid (brkStay c ⟨kd, ce, ne, ta⟩ = true) := by unfold Hid brkStay; simp [k0, q]
      go_wp2
      go_ret
      exact ⟨KEY.out true K.out, HB0.out _⟩
    · have q' : (ce == c) = false := by simpa using q
      have K : Hid (brkStay c ⟨kd, ce, ne, ta⟩ = false) := by unfold Hid brkStay; simp [k0, q']
      clear q
      go_wp2
      go_ret
      exact ⟨KEY.out false K.out, HB0.out _⟩
  · have k0' : (kd == 0) = false := by simpa using k0
    clear k0
    by_cases k1 : (kd == 1) = true
    · by_cases q : (ce == c) = true
      · by_cases r : (ne == c) = true
        · have K : Hid (brkStay c ⟨kd, ce, ne, ta⟩ = true) := by unfold Hid brkStay; simp [k0', k1, q, r]
          go_wp2
          go_ret
          exact ⟨KEY.out true K.out, HB0.out _⟩
        · have r' : (ne == c) = false := by simpa using r
          have K : Hid (brkStay c ⟨kd, ce, ne, ta⟩ = false) := by unfold Hid brkStay; simp [k0', k1, r']
          clear r
          go_wp2
          go_ret
          exact ⟨KEY.out false K.out, HB0.out _⟩
      · have q' : (ce == c) = false := by simpa using q
        have K : Hid (brkStay c ⟨kd, ce, ne, ta⟩ = false) := by unfold Hid brkStay; simp [k0', k1, q']
        clear q
        go_wp2
        go_ret
        exact ⟨KEY.out false K.out, HB0.out _⟩
    · have k1' : (kd == 1) = false := by simpa using k1
      clear k1
      by_cases q : (ce == c) = true
      · have q2 : (ce != c) = false := by unfold bne; rw [q]; rfl
        have K : Hid (brkStay c ⟨kd, ce, ne, ta⟩ = false) := by unfold Hid brkStay; simp [k0', k1', q]
        clear q
        go_wp2
        go_ret
        exact ⟨KEY.out false K.out, HB0.out _⟩
      · have q' : (ce == c) = false := by simpa using q
        have q2 : (ce != c) = true := by unfold bne; rw [q']; rfl
        have K : Hid (brkStay c ⟨kd, ce, ne, ta⟩ = true) := by unfold Hid brkStay; simp [k0', k1', q']
        clear q q'
        go_wp2
        go_ret
        exact ⟨KEY.out true K.out, HB0.out _⟩

set_option maxHeartbeats 1000000 in
theorem settled_any (c : Int) (a : Option Addr) (n cap N : Nat) (R : Nat → RuleM) (w : World) (hr : rulesB N n R = true) (ha : RulesAt w a n R) :
    Calls Tryd.prog 84 #[.int .i64 c, .slice a n cap] w fun e w' => e = .returned (.int .i64 (settledM c R n)) ∧ Below w.heap.size w w' := by
  have HA := Hid.mk ha
  have hn := rulesB_len hr
  have HR := Hid.mk hr
  clear ha hr
  go_enter Tryd.func84, Tryd.ntmps84
  go_wp2
  go_loopw [5, 10] (fun v s wr => ∃ k : Nat, v = .int .i64 (settledM c R k) ∧ k ≤ n ∧ s = .int .i64 k ∧ Below w.heap.size w wr) (fun _ s _ => n - (intOf s).toNat)
  case atStart => exact ⟨0, rfl, Nat.zero_le _, rfl, Below.refl _ _⟩
  case round =>
    obtain ⟨k, rfl, hk, rfl, hbr⟩ := hrel
    have HB := Hid.mk hbr
    clear hbr
    obtain ⟨sv, hsv⟩ : ∃ x, x = settledM c R k := ⟨_, rfl⟩
    have hsb : 0 ≤ settledM c R k ∧ settledM c R k ≤ 61 := by
      rcases settled_is (c := c) (R := R) (n := k) with e | ⟨i, hi, _, e⟩
      · rw [e]; omega
      · have := rulesB_at HR.out (i := i) (by omega)
        rw [e]; omega
    rw [← hsv] at hsb ⊢
    have HSV := Hid.mk hsv
    clear hsv
    by_cases hlt : k < n
    · obtain ⟨b, off, rfl, hrs⟩ := HA.out (by omega)
      obtain ⟨c0, c1, c2, c3⟩ := hrs k hlt
      have c0 := cell_later HB.out c0
      have c1 := cell_later HB.out c1
      have c2 := cell_later HB.out c2
      have c3 := cell_later HB.out c3
      have hrk := rulesB_at HR.out hlt
      clear hrs
      obtain ⟨r, hr⟩ : ∃ r, r = R k := ⟨_, rfl⟩
      rw [← hr] at c0 c1 c2 c3 hrk
      obtain ⟨kd, ce, ne, ta⟩ := r
      have Hr := Hid.mk hr
      clear hr
      dsimp only at c0 c1 c2 c3 hrk
      obtain ⟨_, _, _, _, t0, t1⟩ := hrk
      go_wp2_with fail
      have HBx : Hid (Below w.heap.size w (wr.alloc (Obj.cells #[.int .i64 kd, .int .i64 ce, .int .i64 ne, .int .i64 ta] 77))) := HB.out.alloc HB.out.size _
      have yx : (wr.alloc (Obj.cells #[.int .i64 kd, .int .i64 ce, .int .i64 ne, .int .i64 ta] 77)).cell? ⟨wr.heap.size, 3, none⟩ = some (.int .i64 ta) := by go_simp
      have hzx : wr.heap.size < (wr.alloc (Obj.cells #[.int .i64 kd, .int .i64 ce, .int .i64 ne, .int .i64 ta] 77)).heap.size := by simp
      generalize wr.alloc (Obj.cells #[.int .i64 kd, .int .i64 ce, .int .i64 ne, .int .i64 ta] 77) = wx at *
      refine (broken_any c kd ce ne ta _).mono ?_
      rintro e w4 ⟨rfl, hb4⟩
      have y4 : w4.cell? ⟨wr.heap.size, 3, none⟩ = some (.int .i64 ta) := (hb4.cell (p := ⟨wr.heap.size, 3, none⟩) hzx).trans yx
      have HB4 : Hid (Below w.heap.size w w4) := HBx.out.trans (hb4.mono HBx.out.size)
      obtain ⟨g, hgg⟩ : ∃ g, g = brkStay c ⟨kd, ce, ne, ta⟩ := ⟨_, rfl⟩
      rw [← hgg]
      have HG := Hid.mk hgg
      clear hgg hb4 c0 c1 c2 c3 yx
      have NEXT : Hid (settledM c R (k + 1) = if g = true then max sv (ta + 1) else sv) := by
        unfold Hid; simp only [settledM]; rw [← Hr.out, ← HG.out, HSV.out]
      cases g
      · go_wp2
        go_roundw
        case rel => exact ⟨k + 1, by rw [NEXT.out]; simp, by omega, by go_num, HB4.out⟩
        case measure => simp [intOf]; omega
      · have MX : Hid ((if sv < ta + 1 then ta + 1 else sv) = settledM c R (k + 1)) := by
          unfold Hid
          rw [NEXT.out]
          simp only [if_true]
          split <;> omega
        go_wp2
        go_roundw
        case rel => exact ⟨k + 1, by rw [MX.out], by omega, by go_num, HB4.out⟩
        case measure => simp [intOf]; omega
    · have hd : k = n := by omega
      go_wp2
      go_ret
      subst hd
      exact ⟨ret_int HSV.out, HB.out⟩

end Go.Proofs.YtaldfpoolajoiaaDoor
