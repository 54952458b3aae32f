/- The document's look over a text, in memory: the next byte, and where the look ends. -/
import Derived.Test.YtnkgpinadgacgaaDoorUc
import Derived.Test.YtnkgpinadgacgaaDoorTh
namespace Go.Proofs.YtnkgpinadgacgaaDoor
open Go.RowKit Go.Deep M

theorem goes_small {x y : TX.Sc} {c : UInt8} {M : Nat} (h : TX.goesS x c = some y) (hm : SmallS x M) : SmallS y (M + 1) := by
  obtain ⟨h1, h2, h3, h4⟩ := hm
  have dig : ∀ z : TX.Sc, z.at_ = x.at_ → z.wide = x.wide → z.count = x.count → z.digs = x.digs → TX.digitS z c = some y → SmallS y (M + 1) := by
    intro z e1 e2 e3 e4 hd
    unfold TX.digitS at hd
    by_cases hq : TX.isDig c = false ∨ z.nought = true ∨ 4 < z.digs
    · rw [if_pos hq] at hd; cases hd
    · rw [if_neg hq] at hd
      cases hd
      refine ⟨?_, ?_, ?_, ?_⟩
      · show z.at_ ≤ _; omega
      · show z.wide ≤ _; omega
      · show z.count ≤ _; omega
      · show z.digs + 1 ≤ 5
        have : ¬ 4 < z.digs := fun h => hq (.inr (.inr h))
        omega
  unfold TX.goesS at h
  by_cases p0 : x.part = 0
  · rw [if_pos p0] at h
    unfold TX.firstS at h
    by_cases q1 : x.at_ < 5
    · rw [if_pos q1] at h
      by_cases q2 : TX.headB[x.at_]? = some c
      · rw [if_pos q2] at h
        cases h
        exact ⟨by show x.at_ + 1 ≤ _; omega, by show x.wide ≤ _; omega, h3, h4⟩
      · rw [if_neg q2] at h; cases h
    · rw [if_neg q1] at h
      by_cases q2 : c = 10 ∧ 0 < x.digs
      · rw [if_pos q2] at h
        cases h
        exact ⟨Nat.zero_le _, by show x.wide ≤ _; omega, by show 0 ≤ 3; omega, by show 0 ≤ 5; omega⟩
      · rw [if_neg q2] at h
        exact dig x rfl rfl rfl rfl h
  · rw [if_neg p0] at h
    by_cases p1 : x.part = 1
    · rw [if_pos p1] at h
      unfold TX.rowS at h
      by_cases q1 : TX.isCell c = true
      · rw [if_pos q1] at h
        by_cases q2 : x.wide = 0 ∨ x.at_ + 1 ≤ x.wide
        · rw [if_pos q2] at h
          cases h
          exact ⟨by show x.at_ + 1 ≤ _; omega, by show x.wide ≤ _; omega, h3, h4⟩
        · rw [if_neg q2] at h; cases h
      · rw [if_neg q1] at h
        by_cases q2 : c = 10
        · rw [if_pos q2] at h
          by_cases q3 : 0 < x.at_ ∧ (x.wide = 0 ∨ x.at_ = x.wide)
          · rw [if_pos q3] at h
            cases h
            exact ⟨Nat.zero_le _, by show x.at_ ≤ _; omega, by show 0 ≤ 3; omega, by show 0 ≤ 5; omega⟩
          · rw [if_neg q3] at h; cases h
        · rw [if_neg q2] at h
          by_cases q3 : 0 < x.at_ ∨ x.wide = 0
          · rw [if_pos q3] at h; cases h
          · rw [if_neg q3] at h
            exact dig { x with part := 2 } rfl rfl rfl rfl h
    · rw [if_neg p1] at h
      unfold TX.cartS at h
      by_cases q1 : c = 32 ∧ 0 < x.digs ∧ x.count < 3
      · rw [if_pos q1] at h
        cases h
        exact ⟨by show x.at_ ≤ _; omega, by show x.wide ≤ _; omega, by show x.count + 1 ≤ 3; omega, by show 0 ≤ 5; omega⟩
      · rw [if_neg q1] at h
        by_cases q2 : c = 10 ∧ 0 < x.digs ∧ x.count = 3
        · rw [if_pos q2] at h
          cases h
          exact ⟨Nat.zero_le _, by show x.wide ≤ _; omega, by show 0 ≤ 3; omega, by show 0 ≤ 5; omega⟩
        · rw [if_neg q2] at h
          exact dig x rfl rfl rfl rfl h

theorem xgoes_any (b M : Nat) (x : TX.Sc) (c : UInt8) (w : World) (hM : M ≤ 4000000) (hm : SmallS x M) (h : Box w b (scV x)) :
    Calls Tryd.prog 148 #[.pointer (some ⟨b, 0, none⟩), .int .u8 (c.toNat : Int)] w fun e w' =>
      e = .returned (.bool (TX.goesS x c).isSome) ∧ (∀ y, TX.goesS x c = some y → Box w' b (scV y)) ∧ Only (fun x => x = b) w w' := by
  have c0 := h.c 0
  have fz := h.fz
  simp only [scV, List.getElem?_toArray, List.getElem?_cons_zero] at c0
  have F1 : Hid _ := Hid.mk (xfirst_any b M x c w hM hm h)
  have F2 : Hid _ := Hid.mk (xrow_any b M x c w hM hm h)
  have F3 : Hid _ := Hid.mk (xcart_any b M x c w hM hm h)
  clear h hm
  go_enter Tryd.func148, Tryd.ntmps148
  by_cases p0 : x.part = 0
  · have e0 : (((x.part : Nat) : Int) == 0) = true := by simp; omega
    rw [TX.goes0 p0]
    clear p0
    go_wp2_with fail
    refine F1.out.mono ?_
    rintro e w1 ⟨rfl, hb1, ho1⟩
    have B1 := Hid.mk hb1
    have O1 := Hid.mk ho1
    clear hb1 ho1
    go_wp2
    go_ret
    exact ⟨rfl, B1.out, O1.out⟩
  · have e0 : (((x.part : Nat) : Int) == 0) = false := by simp; omega
    by_cases p1 : x.part = 1
    · have e1 : (((x.part : Nat) : Int) == 1) = true := by simp; omega
      rw [TX.goes1 p1]
      clear p1
      go_wp2_with fail
      refine F2.out.mono ?_
      rintro e w1 ⟨rfl, hb1, ho1⟩
      have B1 := Hid.mk hb1
      have O1 := Hid.mk ho1
      clear hb1 ho1
      go_wp2
      go_ret
      exact ⟨rfl, B1.out, O1.out⟩
    · have e1 : (((x.part : Nat) : Int) == 1) = false := by simp; omega
      have hg : TX.goesS x c = TX.cartS x c := by
        unfold TX.goesS
        rw [if_neg p0, if_neg p1]
      rw [hg]
      clear hg p0 p1
      go_wp2_with fail
      refine F3.out.mono ?_
      rintro e w1 ⟨rfl, hb1, ho1⟩
      have B1 := Hid.mk hb1
      have O1 := Hid.mk ho1
      clear hb1 ho1
      go_wp2
      go_ret
      exact ⟨rfl, B1.out, O1.out⟩

/-- Where a text is none: -1 if it is one. -/
def placeI (s : ByteArray) : Int := if (TX.runS ⟨0, 0, 0, 0, 0, false⟩ (restS s 0)).2 then -1 else ((s.size - (TX.runS ⟨0, 0, 0, 0, 0, false⟩ (restS s 0)).1.length : Nat) : Int)

theorem place_no {s : ByteArray} {j : Nat} (h : TX.runS ⟨0, 0, 0, 0, 0, false⟩ (restS s 0) = (restS s j, false)) (hj : j ≤ s.size) : placeI s = (j : Int) := by
  unfold placeI
  rw [h, rest_len]
  show ((s.size - (s.size - j) : Nat) : Int) = _
  omega

set_option maxHeartbeats 1000000 in
theorem place_any (s : ByteArray) (w : World) (hs : s.size ≤ 2000000) :
    Calls Tryd.prog 98 #[.string s] w fun e w' => e = .returned (.int .i64 (placeI s)) ∧ Below w.heap.size w w' := by
  go_enter Tryd.func98, Tryd.ntmps98
  have B1 : Hid (Box (w.alloc (.cells #[.int .i64 0, .int .i64 0, .int .i64 0, .int .i64 0, .int .i64 0, .bool false] 218)) w.heap.size (scV ⟨0, 0, 0, 0, 0, false⟩)) := Hid.mk (box_new _ _)
  have O1 : Hid (Only (fun x => w.heap.size ≤ x) w (w.alloc (.cells #[.int .i64 0, .int .i64 0, .int .i64 0, .int .i64 0, .int .i64 0, .bool false] 218))) := Hid.mk ((Only.refl _ w).alloc _)
  go_wp2
  go_loopw [4, 5] (fun sj ok wr => ∃ (j : Nat) (x : TX.Sc), sj = .int .i64 (j : Int) ∧ j ≤ s.size ∧ Box wr w.heap.size (scV x) ∧ SmallS x j ∧ TX.runS ⟨0, 0, 0, 0, 0, false⟩ (restS s 0) = TX.runS x (restS s j) ∧ Only (fun x => w.heap.size ≤ x) w wr) (fun sj _ _ => s.size - (intOf sj).toNat)
  case atStart => exact ⟨0, _, rfl, Nat.zero_le _, B1.out, ⟨Nat.zero_le _, Nat.zero_le _, Nat.zero_le _, Nat.zero_le _⟩, rfl, O1.out⟩
  case round =>
    obtain ⟨j, x, rfl, hj, hb, hm, hr, ho⟩ := hrel
    have HB := Hid.mk hb
    have HM := Hid.mk hm
    have HR := Hid.mk hr
    have HO := Hid.mk ho
    have c0 := hb.c 0
    have c3 := hb.c 3
    have c4 := hb.c 4
    simp only [scV, List.getElem?_toArray, List.getElem?_cons_zero, List.getElem?_cons_succ] at c0 c3 c4
    clear hb hm hr ho
    by_cases hlt : j < s.size
    · have e1 : decide ((j : Int) < (s.size : Int)) = true := by simp; omega
      have CG : Hid _ := Hid.mk (xgoes_any w.heap.size j x s[j] wr (by omega) HM.out HB.out)
      have hrun : TX.runS ⟨0, 0, 0, 0, 0, false⟩ (restS s 0) = match TX.goesS x s[j] with
          | some y => TX.runS y (restS s (j + 1))
          | none => (restS s j, false) := by
        rw [HR.out, rest_cons hlt]
        rfl
      have HRUN := Hid.mk hrun
      clear hrun c0 c3 c4
      go_wp2_with fail
      refine CG.out.mono ?_
      rintro e w1 ⟨rfl, hb1, ho1⟩
      have OO : Hid (Only (fun x => w.heap.size ≤ x) w w1) := Hid.mk (HO.out.trans ho1 (fun k _ h => by subst h; exact Nat.le_refl _))
      obtain ⟨o, hgo⟩ : ∃ o, TX.goesS x s[j] = o := ⟨_, rfl⟩
      have HG := Hid.mk hgo
      rw [hgo] at hb1 ⊢
      have RU := HRUN.out
      rw [hgo] at RU
      have HRU := Hid.mk RU
      clear RU hgo ho1
      cases o with
      | none =>
        clear hb1
        go_wp2
        go_ret
        exact ⟨by rw [place_no HRU.out hj]; rfl, OO.out.below (Nat.le_refl _) (fun _ h => h)⟩
      | some y =>
        have B2 := Hid.mk (hb1 y rfl)
        have S2 := Hid.mk (goes_small HG.out HM.out)
        clear hb1
        go_wp2
        go_round
        case rel => exact ⟨j + 1, y, by go_num, hlt, B2.out, S2.out, HRU.out, OO.out⟩
        case measure => simp [intOf]; omega
    · have e1 : decide ((j : Int) < (s.size : Int)) = false := by simp; omega
      have hrun : TX.runS ⟨0, 0, 0, 0, 0, false⟩ (restS s 0) = (restS s s.size, TX.doneS x) := by
        rw [HR.out, rest_nil (by omega), rest_nil (Nat.le_refl _)]
        rfl
      have HRUN := Hid.mk hrun
      clear hrun
      have no : TX.doneS x = false → ((.returned (.int .i64 (s.size : Int)) : Ending) = .returned (.int .i64 (placeI s))) ∧ Below w.heap.size w wr := fun h => by
        rw [place_no (by rw [HRUN.out, h]) (Nat.le_refl _)]
        exact ⟨rfl, HO.out.below (Nat.le_refl _) (fun _ h => h)⟩
      have NO := Hid.mk no
      clear no
      by_cases p2 : x.part < 2
      · have e2 : decide (((x.part : Nat) : Int) < 2) = true := by simp; omega
        have hd : TX.doneS x = false := decide_eq_false (fun h => absurd h.1 (by omega))
        have HD := Hid.mk hd
        clear hd
        go_wp2
        go_ret
        exact NO.out HD.out
      · have e2 : decide (((x.part : Nat) : Int) < 2) = false := by simp; omega
        by_cases p3 : 0 < x.digs
        · have e3 : decide (0 < ((x.digs : Nat) : Int)) = true := by simp; omega
          have hd : TX.doneS x = false := decide_eq_false (fun h => absurd h.2.1 (by omega))
          have HD := Hid.mk hd
          clear hd
          go_wp2
          go_ret
          exact NO.out HD.out
        · have e3 : decide (0 < ((x.digs : Nat) : Int)) = false := by simp; omega
          by_cases p4 : 0 < x.count
          · have e4 : decide (0 < ((x.count : Nat) : Int)) = true := by simp; omega
            have hd : TX.doneS x = false := decide_eq_false (fun h => absurd h.2.2 (by omega))
            have HD := Hid.mk hd
            clear hd
            go_wp2
            go_ret
            exact NO.out HD.out
          · have e4 : decide (0 < ((x.count : Nat) : Int)) = false := by simp; omega
            have hd : TX.doneS x = true := decide_eq_true ⟨by omega, by omega, by omega⟩
            have HP : Hid (placeI s = -1) := Hid.mk (by unfold placeI; rw [HRUN.out, hd]; rfl)
            clear hd
            go_wp2
            go_ret
            exact ⟨by rw [HP.out]; rfl, HO.out.below (Nat.le_refl _) (fun _ h => h)⟩

/-- Where a text is none, by what the reader says. -/
theorem place_read (s : ByteArray) : placeI s = match (TX.readT s.data.toList).2 with
    | some _ => -1
    | none => ((s.size - (TX.readT s.data.toList).1.length : Nat) : Int) := by
  have e : restS s 0 = s.data.toList := rfl
  unfold placeI
  rw [e, TX.look_read]
  cases (TX.readT s.data.toList).2 <;> rfl

end Go.Proofs.YtnkgpinadgacgaaDoor
