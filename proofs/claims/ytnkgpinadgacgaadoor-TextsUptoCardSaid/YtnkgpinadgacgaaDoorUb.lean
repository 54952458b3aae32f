/- The document's look over a text, in memory: its small steps. -/
import Derived.Test.YtnkgpinadgacgaaDoorTe
import Derived.Test.YtnkgpinadgacgaaDoorUa
namespace Go.Proofs.YtnkgpinadgacgaaDoor
open Go.RowKit Go.Deep M

/-- The look, in memory. -/
def scV (x : TX.Sc) : Array Value := #[.int .i64 (x.part : Int), .int .i64 (x.at_ : Int), .int .i64 (x.wide : Int), .int .i64 (x.count : Int), .int .i64 (x.digs : Int), .bool x.nought]

/-- No number of the look is large. -/
structure SmallS (x : TX.Sc) (M : Nat) : Prop where
  at_ : x.at_ ≤ M
  wide : x.wide ≤ M
  count : x.count ≤ 3
  digs : x.digs ≤ 5

set_option maxHeartbeats 400000 in
theorem xdigit_any (b M : Nat) (x : TX.Sc) (c : UInt8) (w : World) (_hM : M ≤ 4000000) (hm : SmallS x M) (h : Box w b (scV x)) :
    Calls Tryd.prog 211 #[.pointer (some ⟨b, 0, none⟩), .int .u8 (c.toNat : Int)] w fun e w' =>
      e = .returned (.bool (TX.digitS x c).isSome) ∧ (∀ y, TX.digitS x c = some y → Box w' b (scV y)) ∧ Only (fun x => x = b) w w' := by
  have HX := Hid.mk h
  have c4 := h.c 4
  have c5 := h.c 5
  have fz := h.fz
  simp only [scV, List.getElem?_toArray, List.getElem?_cons_zero, List.getElem?_cons_succ] at c4 c5
  have hm5 := hm.digs
  obtain ⟨p, a, wd, k, D, nt⟩ := x
  simp only at c4 c5 hm5
  have HM := Hid.mk hm
  clear h hm
  go_enter Tryd.func211, Tryd.ntmps211
  have hlt := UInt8.toNat_lt c
  by_cases hd : TX.isDig c = true
  · obtain ⟨hlo, hhi⟩ := TX.isDig_lo hd
    have e1 : decide ((c.toNat : Int) < 48) = false := by simp; omega
    have e2 : decide (57 < (c.toNat : Int)) = false := by simp; omega
    have HD := Hid.mk hd
    clear hd
    by_cases hn : nt = true
    · subst hn
      have hS : TX.digitS ⟨p, a, wd, k, D, true⟩ c = none := if_pos (.inr (.inl rfl))
      have HS := Hid.mk hS
      clear hS
      go_wp2
      go_ret
      exact ⟨by rw [HS.out]; rfl, fun y hy => (by rw [HS.out] at hy; cases hy), Only.refl _ w⟩
    · obtain rfl : nt = false := by simpa using hn
      by_cases hD : 4 < D
      · have e3 : decide ((4 : Int) < (D : Int)) = true := by simp; omega
        have hS : TX.digitS ⟨p, a, wd, k, D, false⟩ c = none := if_pos (.inr (.inr hD))
        have HS := Hid.mk hS
        clear hS
        go_wp2
        go_ret
        exact ⟨by rw [HS.out]; rfl, fun y hy => (by rw [HS.out] at hy; cases hy), Only.refl _ w⟩
      · have e3 : decide ((4 : Int) < (D : Int)) = false := by simp; omega
        have hS : TX.digitS ⟨p, a, wd, k, D, false⟩ c = some ⟨p, a, wd, k, D + 1, decide (D = 0 ∧ c.toNat = 48)⟩ := by
          unfold TX.digitS
          rw [if_neg]
          rw [HD.out]
          rintro (h | h | h)
          · cases h
          · cases h
          · exact hD h
        have HS := Hid.mk hS
        have key : ∀ v : Bool, v = decide (D = 0 ∧ c.toNat = 48) → Box ((w.setCell ⟨b, 5, none⟩ (.bool v)).setCell ⟨b, 4, none⟩ (.int .i64 ((D : Int) + 1))) b (scV ⟨p, a, wd, k, D + 1, decide (D = 0 ∧ c.toNat = 48)⟩) := by
          rintro v rfl
          exact (HX.out.set (i := 5) (by simp [scV]) (v' := scV ⟨p, a, wd, k, D, decide (D = 0 ∧ c.toNat = 48)⟩) rfl).set (i := 4) (by simp [scV]) (by simp [scV])
        have HK := Hid.mk key
        have ho : ∀ v u : Value, Only (fun x => x = b) w ((w.setCell ⟨b, 5, none⟩ v).setCell ⟨b, 4, none⟩ u) := fun v u =>
          Only.setCell (S := fun x => x = b) (Only.setCell (S := fun x => x = b) (Only.refl _ w) (p := ⟨b, 5, none⟩) (fun _ => rfl) v) (p := ⟨b, 4, none⟩) (fun _ => rfl) u
        have HO := Hid.mk ho
        clear hS key ho
        by_cases h0 : D = 0
        · subst h0
          by_cases h48 : c.toNat = 48
          · have e5 : (((c.toNat : Nat) : Int) == 48) = true := by rw [h48]; rfl
            go_wp2
            go_ret
            exact ⟨by rw [HS.out]; rfl, fun y hy => by rw [HS.out] at hy; cases hy; exact HK.out _ (by simp [h48]), HO.out _ _⟩
          · have e5 : (((c.toNat : Nat) : Int) == 48) = false := by simp; omega
            go_wp2
            go_ret
            exact ⟨by rw [HS.out]; rfl, fun y hy => by rw [HS.out] at hy; cases hy; exact HK.out _ (by simp [h48]), HO.out _ _⟩
        · have e4 : (((D : Nat) : Int) == 0) = false := by simp; omega
          go_wp2
          go_ret
          exact ⟨by rw [HS.out]; rfl, fun y hy => by rw [HS.out] at hy; cases hy; exact HK.out _ (by simp [h0]), HO.out _ _⟩
  · have hS : TX.digitS ⟨p, a, wd, k, D, nt⟩ c = none := TX.digit_none (by simpa using hd)
    have HS := Hid.mk hS
    clear hS
    rcases nodig_lo hd with hlo | hhi
    · have e1 : decide (((c).toNat : Int) < 48) = true := by simp; omega
      clear hd
      go_wp2
      go_ret
      exact ⟨by rw [HS.out]; rfl, fun y hy => (by rw [HS.out] at hy; cases hy), Only.refl _ w⟩
    · have e1 : decide (((c).toNat : Int) < 48) = false := by simp; omega
      have e2 : decide (57 < ((c).toNat : Int)) = true := by simp; omega
      clear hd
      go_wp2
      go_ret
      exact ⟨by rw [HS.out]; rfl, fun y hy => (by rw [HS.out] at hy; cases hy), Only.refl _ w⟩

theorem xover_any (b : Nat) (x : TX.Sc) (w : World) (h : Box w b (scV x)) :
    Calls Tryd.prog 210 #[.pointer (some ⟨b, 0, none⟩)] w fun e w' =>
      e = .returned (.tuple #[]) ∧ Box w' b (scV (TX.overS x)) ∧ Only (fun x => x = b) w w' := by
  have HX := Hid.mk h
  have c1 := h.c 1
  have c3 := h.c 3
  have c4 := h.c 4
  have c5 := h.c 5
  have fz := h.fz
  simp only [scV, List.getElem?_toArray, List.getElem?_cons_zero, List.getElem?_cons_succ] at c1 c3 c4 c5
  clear h
  go_enter Tryd.func210, Tryd.ntmps210
  go_wp2
  go_end0
  refine ⟨rfl, ?_, ?_⟩
  · exact (((HX.out.set (i := 1) (by simp [scV]) (v' := scV { x with at_ := 0 }) rfl).set (i := 3) (by simp [scV]) (v' := scV { x with at_ := 0, count := 0 }) rfl).set (i := 4) (by simp [scV]) (v' := scV { x with at_ := 0, count := 0, digs := 0 }) rfl).set (i := 5) (by simp [scV]) rfl
  · exact Only.setCell (S := fun x => x = b) (Only.setCell (S := fun x => x = b) (Only.setCell (S := fun x => x = b) (Only.setCell (S := fun x => x = b) (Only.refl _ w) (p := ⟨b, 1, none⟩) (fun _ => rfl) _) (p := ⟨b, 3, none⟩) (fun _ => rfl) _) (p := ⟨b, 4, none⟩) (fun _ => rfl) _) (p := ⟨b, 5, none⟩) (fun _ => rfl) _

theorem headB_at {a : Nat} (h : a < 5) : TX.headB[a]? = some (headA[a]'h) := by
  match a, h with
  | 0, _ => rfl
  | 1, _ => rfl
  | 2, _ => rfl
  | 3, _ => rfl
  | 4, _ => rfl

theorem byte_eq {c d : UInt8} (h : c = d) : (((c.toNat : Nat) : Int) == (d.toNat : Int)) = true := by subst h; simp
theorem byte_ne {c d : UInt8} (h : ¬ c = d) : (((c.toNat : Nat) : Int) == (d.toNat : Int)) = false := by
  have := toNat_ne h
  simpa using this

set_option maxHeartbeats 400000 in
theorem xfirst_any (b M : Nat) (x : TX.Sc) (c : UInt8) (w : World) (hM : M ≤ 4000000) (hm : SmallS x M) (h : Box w b (scV x)) :
    Calls Tryd.prog 188 #[.pointer (some ⟨b, 0, none⟩), .int .u8 (c.toNat : Int)] w fun e w' =>
      e = .returned (.bool (TX.firstS x c).isSome) ∧ (∀ y, TX.firstS x c = some y → Box w' b (scV y)) ∧ Only (fun x => x = b) w w' := by
  have HX := Hid.mk h
  have c1 := h.c 1
  have c4 := h.c 4
  have fz := h.fz
  have hlb := h.lt
  simp only [scV, List.getElem?_toArray, List.getElem?_cons_zero, List.getElem?_cons_succ] at c1 c4
  obtain ⟨p, a, wd, k, D, nt⟩ := x
  have hma := hm.at_
  simp only at c1 c4 hma
  have DG : Hid (Calls Tryd.prog 211 #[.pointer (some ⟨b, 0, none⟩), .int .u8 (c.toNat : Int)] w fun e w' =>
      e = .returned (.bool (TX.digitS ⟨p, a, wd, k, D, nt⟩ c).isSome) ∧ (∀ y, TX.digitS ⟨p, a, wd, k, D, nt⟩ c = some y → Box w' b (scV y)) ∧ Only (fun x => x = b) w w') := Hid.mk (xdigit_any b M _ c w hM hm h)
  clear h hm
  go_enter Tryd.func188, Tryd.ntmps188
  by_cases hA : a < 5
  · have e1 : decide ((a : Int) < 5) = true := by simp; omega
    have e5 : (a : Int) + 1 - 1 = (a : Int) := by omega
    have c1s : ∀ v, (w.setCell ⟨b, 1, none⟩ v).cell? ⟨b, 1, none⟩ = some v := fun v => World.cell?_setCell_same' _ _ _ (by rw [c1]; rfl)
    have ho : ∀ v, Only (fun x => x = b) w (w.setCell ⟨b, 1, none⟩ v) := fun v => Only.setCell (S := fun x => x = b) (Only.refl _ w) (p := ⟨b, 1, none⟩) (fun _ => rfl) v
    have HO := Hid.mk ho
    clear ho
    by_cases hc : c = headA[a]
    · have hS : TX.firstS ⟨p, a, wd, k, D, nt⟩ c = some ⟨p, a + 1, wd, k, D, nt⟩ := by
        unfold TX.firstS
        rw [if_pos hA]
        show (if TX.headB[a]? = some c then _ else _) = _
        rw [headB_at hA, if_pos (by rw [hc])]
      have HS := Hid.mk hS
      have e6 : (((c.toNat : Nat) : Int) == (((⟨#[121, 97, 114, 100, 32]⟩ : ByteArray)[a]'hA).toNat : Int)) = true := byte_eq hc
      clear hS hc
      go_wp2
      go_ret
      exact ⟨by rw [HS.out]; rfl, fun y hy => by rw [HS.out] at hy; cases hy; exact HX.out.set (i := 1) (by simp [scV]) (by simp [scV]), HO.out _⟩
    · have hS : TX.firstS ⟨p, a, wd, k, D, nt⟩ c = none := by
        unfold TX.firstS
        rw [if_pos hA]
        show (if TX.headB[a]? = some c then _ else _) = _
        rw [headB_at hA, if_neg (fun h => hc (Option.some.inj h).symm)]
      have HS := Hid.mk hS
      have e6 : (((c.toNat : Nat) : Int) == (((⟨#[121, 97, 114, 100, 32]⟩ : ByteArray)[a]'hA).toNat : Int)) = false := byte_ne hc
      clear hS hc
      go_wp2
      go_ret
      exact ⟨by rw [HS.out]; rfl, fun y hy => (by rw [HS.out] at hy; cases hy), HO.out _⟩
  · have e1 : decide ((a : Int) < 5) = false := by simp; omega
    by_cases h10 : c = 10
    · by_cases hD : 0 < D
      · have e2 : (((c.toNat : Nat) : Int) == 10) = true := byte_eq (d := 10) h10
        have e3 : decide (0 < (D : Int)) = true := by simp; omega
        have hS : TX.firstS ⟨p, a, wd, k, D, nt⟩ c = some ⟨1, 0, wd, 0, 0, false⟩ := by
          unfold TX.firstS
          rw [if_neg hA, if_pos ⟨h10, hD⟩]
          rfl
        have HS := Hid.mk hS
        clear hS h10
        go_wp2_with fail
        refine (xover_any b _ w HX.out).mono ?_
        rintro e w1 ⟨rfl, hb1, ho1⟩
        have B1 := Hid.mk hb1
        have O1 := Hid.mk ho1
        have c0 := hb1.c 0
        have fz1 := hb1.fz
        simp only [scV, TX.overS, List.getElem?_toArray, List.getElem?_cons_zero] at c0
        clear hb1 ho1
        go_wp2
        go_ret
        refine ⟨by rw [HS.out]; rfl, fun y hy => ?_, Only.setCell (S := fun x => x = b) O1.out (p := ⟨b, 0, none⟩) (fun _ => rfl) _⟩
        rw [HS.out] at hy
        cases hy
        exact B1.out.set (i := 0) (by simp [scV]) rfl
      · have e2 : (((c.toNat : Nat) : Int) == 10) = true := byte_eq (d := 10) h10
        have e3 : decide (0 < (D : Int)) = false := by simp; omega
        have hS : TX.firstS ⟨p, a, wd, k, D, nt⟩ c = TX.digitS ⟨p, a, wd, k, D, nt⟩ c := by
          unfold TX.firstS
          rw [if_neg hA, if_neg (fun h => hD h.2)]
        rw [hS]
        clear hS h10
        go_wp2_with fail
        refine DG.out.mono ?_
        rintro e w1 ⟨rfl, hb1, ho1⟩
        have B1 := Hid.mk hb1
        have O1 := Hid.mk ho1
        clear hb1 ho1
        go_wp2
        go_ret
        exact ⟨rfl, B1.out, O1.out⟩
    · have e2 : (((c.toNat : Nat) : Int) == 10) = false := byte_ne (d := 10) h10
      have hS : TX.firstS ⟨p, a, wd, k, D, nt⟩ c = TX.digitS ⟨p, a, wd, k, D, nt⟩ c := by
        unfold TX.firstS
        rw [if_neg hA, if_neg (fun h => h10 h.1)]
      rw [hS]
      clear hS h10
      go_wp2_with fail
      refine DG.out.mono ?_
      rintro e w1 ⟨rfl, hb1, ho1⟩
      have B1 := Hid.mk hb1
      have O1 := Hid.mk ho1
      clear hb1 ho1
      go_wp2
      go_ret
      exact ⟨rfl, B1.out, O1.out⟩

theorem xcell_iff (x : UInt8) : TX.isCell x = true ↔ x = 46 ∨ x = 35 := by
  unfold TX.isCell
  rw [Bool.or_eq_true, decide_eq_true_iff, decide_eq_true_iff]
  constructor
  · rintro (h | h)
    · exact .inl (UInt8.toNat_inj.1 h)
    · exact .inr (UInt8.toNat_inj.1 h)
  · rintro (rfl | rfl)
    · exact .inl rfl
    · exact .inr rfl

set_option maxHeartbeats 400000 in
theorem xcart_any (b M : Nat) (x : TX.Sc) (c : UInt8) (w : World) (hM : M ≤ 4000000) (hm : SmallS x M) (h : Box w b (scV x)) :
    Calls Tryd.prog 190 #[.pointer (some ⟨b, 0, none⟩), .int .u8 (c.toNat : Int)] w fun e w' =>
      e = .returned (.bool (TX.cartS x c).isSome) ∧ (∀ y, TX.cartS x c = some y → Box w' b (scV y)) ∧ Only (fun x => x = b) w w' := by
  have HX := Hid.mk h
  have c3 := h.c 3
  have c4 := h.c 4
  have c5 := h.c 5
  have fz := h.fz
  have hlb := h.lt
  simp only [scV, List.getElem?_toArray, List.getElem?_cons_zero, List.getElem?_cons_succ] at c3 c4 c5
  obtain ⟨p, a, wd, k, D, nt⟩ := x
  have hmk := hm.count
  simp only at c3 c4 c5 hmk
  have DG := Hid.mk (xdigit_any b M ⟨p, a, wd, k, D, nt⟩ c w hM hm h)
  clear h hm
  go_enter Tryd.func190, Tryd.ntmps190
  by_cases h1 : c = 32 ∧ 0 < D ∧ k < 3
  · have e1 : (((c.toNat : Nat) : Int) == 32) = true := byte_eq (d := 32) h1.1
    have e2 : decide (0 < (D : Int)) = true := by simp; omega
    have e3 : decide ((k : Int) < 3) = true := by simp; omega
    have n2 : 0 < D := h1.2.1
    have n3 : k < 3 := h1.2.2
    have hS : TX.cartS ⟨p, a, wd, k, D, nt⟩ c = some ⟨p, a, wd, k + 1, 0, false⟩ := if_pos h1
    have HS := Hid.mk hS
    clear hS h1
    go_wp2
    go_ret
    refine ⟨by rw [HS.out]; rfl, fun y hy => ?_, ?_⟩
    · rw [HS.out] at hy
      cases hy
      exact ((HX.out.set (i := 3) (by simp [scV]) (v' := scV ⟨p, a, wd, k + 1, D, nt⟩) (by simp [scV])).set (i := 4) (by simp [scV]) (v' := scV ⟨p, a, wd, k + 1, 0, nt⟩) rfl).set (i := 5) (by simp [scV]) rfl
    · exact Only.setCell (S := fun x => x = b) (Only.setCell (S := fun x => x = b) (Only.setCell (S := fun x => x = b) (Only.refl _ w) (p := ⟨b, 3, none⟩) (fun _ => rfl) _) (p := ⟨b, 4, none⟩) (fun _ => rfl) _) (p := ⟨b, 5, none⟩) (fun _ => rfl) _
  · by_cases h2 : c = 10 ∧ 0 < D ∧ k = 3
    · have e1 : (((c.toNat : Nat) : Int) == 10) = true := byte_eq (d := 10) h2.1
      have e0 : (((c.toNat : Nat) : Int) == 32) = false := byte_ne (d := 32) (fun h => absurd (h.symm.trans h2.1) (by decide))
      have e2 : decide (0 < (D : Int)) = true := by simp; omega
      have e3 : (((k : Nat) : Int) == 3) = true := by simp; omega
      have n2 : 0 < D := h2.2.1
      have n3 : ¬ k < 3 := by omega
      have n4 : k = 3 := h2.2.2
      have hS : TX.cartS ⟨p, a, wd, k, D, nt⟩ c = some (TX.overS ⟨p, a, wd, k, D, nt⟩) := by
        unfold TX.cartS
        rw [if_neg h1, if_pos h2]
      have HS := Hid.mk hS
      clear hS h1 h2
      go_wp2_with fail
      refine (xover_any b _ w HX.out).mono ?_
      rintro e w1 ⟨rfl, hb1, ho1⟩
      have B1 := Hid.mk hb1
      have O1 := Hid.mk ho1
      clear hb1 ho1
      go_wp2
      go_ret
      refine ⟨by rw [HS.out]; rfl, fun y hy => ?_, O1.out⟩
      rw [HS.out] at hy
      cases hy
      exact B1.out
    · have hS : TX.cartS ⟨p, a, wd, k, D, nt⟩ c = TX.digitS ⟨p, a, wd, k, D, nt⟩ c := by
        unfold TX.cartS
        rw [if_neg h1, if_neg h2]
      rw [hS]
      have W32 : c = 32 → (((c.toNat : Nat) : Int) == 32) = true ∧ (((c.toNat : Nat) : Int) == 10) = false := by rintro rfl; exact ⟨rfl, rfl⟩
      have W10 : c = 10 → (((c.toNat : Nat) : Int) == 32) = false ∧ (((c.toNat : Nat) : Int) == 10) = true := by rintro rfl; exact ⟨rfl, rfl⟩
      have ends : ∀ P : Prop, (c = 32 ∨ c = 10 ∨ (¬ c = 32 ∧ ¬ c = 10) → P) → P := fun P h => by
        by_cases q1 : c = 32
        · exact h (.inl q1)
        · by_cases q2 : c = 10
          · exact h (.inr (.inl q2))
          · exact h (.inr (.inr ⟨q1, q2⟩))
      refine ends _ fun q => ?_
      clear hS ends
      rcases q with q | q | ⟨q1, q2⟩
      · obtain ⟨e1, f1⟩ := W32 q
        by_cases n2 : 0 < D
        · have n3 : ¬ k < 3 := fun h => h1 ⟨q, n2, h⟩
          have e2 : decide (0 < (D : Int)) = true := by simp; omega
          have e3 : decide ((k : Int) < 3) = false := by simp; omega
          clear W32 W10 q h1 h2
          go_wp2_with fail
          refine DG.out.mono ?_
          rintro e w1 ⟨rfl, hb1, ho1⟩
          have B1 := Hid.mk hb1
          have O1 := Hid.mk ho1
          clear hb1 ho1
          go_wp2
          go_ret
          exact ⟨rfl, B1.out, O1.out⟩
        · have e2 : decide (0 < (D : Int)) = false := by simp; omega
          clear W32 W10 q h1 h2
          go_wp2_with fail
          refine DG.out.mono ?_
          rintro e w1 ⟨rfl, hb1, ho1⟩
          have B1 := Hid.mk hb1
          have O1 := Hid.mk ho1
          clear hb1 ho1
          go_wp2
          go_ret
          exact ⟨rfl, B1.out, O1.out⟩
      · obtain ⟨e1, f1⟩ := W10 q
        by_cases n2 : 0 < D
        · have n3 : ¬ k = 3 := fun h => h2 ⟨q, n2, h⟩
          have e2 : decide (0 < (D : Int)) = true := by simp; omega
          have e3 : (((k : Nat) : Int) == 3) = false := by simp; omega
          clear W32 W10 q h1 h2
          go_wp2_with fail
          refine DG.out.mono ?_
          rintro e w1 ⟨rfl, hb1, ho1⟩
          have B1 := Hid.mk hb1
          have O1 := Hid.mk ho1
          clear hb1 ho1
          go_wp2
          go_ret
          exact ⟨rfl, B1.out, O1.out⟩
        · have e2 : decide (0 < (D : Int)) = false := by simp; omega
          clear W32 W10 q h1 h2
          go_wp2_with fail
          refine DG.out.mono ?_
          rintro e w1 ⟨rfl, hb1, ho1⟩
          have B1 := Hid.mk hb1
          have O1 := Hid.mk ho1
          clear hb1 ho1
          go_wp2
          go_ret
          exact ⟨rfl, B1.out, O1.out⟩
      · have e1 : (((c.toNat : Nat) : Int) == 32) = false := byte_ne (d := 32) q1
        have f1 : (((c.toNat : Nat) : Int) == 10) = false := byte_ne (d := 10) q2
        clear W32 W10 q1 q2 h1 h2
        go_wp2_with fail
        refine DG.out.mono ?_
        rintro e w1 ⟨rfl, hb1, ho1⟩
        have B1 := Hid.mk hb1
        have O1 := Hid.mk ho1
        clear hb1 ho1
        go_wp2
        go_ret
        exact ⟨rfl, B1.out, O1.out⟩

end Go.Proofs.YtnkgpinadgacgaaDoor
