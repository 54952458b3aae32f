/- Ub, Uc. -/
import Derived.Test.YtnkgpinadgacgaaGreatDoorQf
import Derived.Test.YtnkgpinadgacgaaGreatDoorQl
set_option maxRecDepth 1000000
set_option maxHeartbeats 1000000
namespace Go.Proofs.YtnkgpinadgacgaaGreatDoor
section
open Go.RowKit Go.Deep M
def scV (x : TX.Sc) : Array Value := #[.int .i64 (x.part : Int), .int .i64 (x.at_ : Int), .int .i64 (x.wide : Int), .int .i64 (x.count : Int), .int .i64 (x.digs : Int), .bool x.nought]
structure SmallS (x : TX.Sc) (M : Nat) : Prop where
 at_ : x.at_ <= M
 wide : x.wide <= M
 count : x.count <= 3
 digs : x.digs <= 5
theorem xdigit_any (b M : Nat) (x : TX.Sc) (c : UInt8) (w : World) (_hM : M <= 4000000) (hm : SmallS x M) (h : Box w b (scV x)) :
 Calls Tryz.prog 98 #[.pointer (some ⟨b, 0, none⟩), .int .u8 (c.toNat : Int)] w fun e w' =>
  e = .returned (.bool (TX.digitS x c).isSome) ∧ (∀ y, TX.digitS x c = some y -> Box w' b (scV y)) ∧ Only (fun x => x = b) w w' := by
 have HX := zx h; have c4 := h.c 4; have c5 := h.c 5; have fz := h.fz; simp only [scV, List.getElem?_toArray, List.getElem?_cons_zero, List.getElem?_cons_succ] at c4 c5; have hm5 := hm.digs; obtain ⟨p, a, wd, k, D, nt⟩ := x; simp only at c4 c5 hm5; have HM := zx hm; clear h hm; go_enter Tryz.func98, Tryz.ntmps98; have hlt := UInt8.toNat_lt c; by_cases hd : TX.isDig c = true
 . obtain ⟨hlo, hhi⟩ := TX.isDig_lo hd; have e1 : decide ((c.toNat : Int) < 48) = false := by simp; omega
   have e2 : decide (57 < (c.toNat : Int)) = false := by simp; omega
   have HD := zx hd; clear hd; by_cases hn : nt = true
   . subst hn; have hS : TX.digitS ⟨p, a, wd, k, D, true⟩ c = none := if_pos (.inr (.inl rfl)); have HS := zx hS; clear hS; go_wp2; go_ret; exact ⟨by rw [HS.out]; rfl, fun y hy => (by rw [HS.out] at hy; cases hy), Only.refl _ w⟩
   . obtain rfl : nt = false := by simpa using hn
     by_cases hD : 4 < D
     . have e3 : decide ((4 : Int) < (D : Int)) = true := by simp; omega
       have hS : TX.digitS ⟨p, a, wd, k, D, false⟩ c = none := if_pos (.inr (.inr hD)); have HS := zx hS; clear hS; go_wp2; go_ret; exact ⟨by rw [HS.out]; rfl, fun y hy => (by rw [HS.out] at hy; cases hy), Only.refl _ w⟩
     . have e3 : decide ((4 : Int) < (D : Int)) = false := by simp; omega
       have hS : TX.digitS ⟨p, a, wd, k, D, false⟩ c = some ⟨p, a, wd, k, D + 1, decide (D = 0 ∧ c.toNat = 48)⟩ := by
        unfold TX.digitS; rw [if_neg]; rw [HD.out]; rintro (h | h | h)
        . cases h
        . cases h
        . exact hD h
       have HS := zx hS; have key : ∀ v : Bool, v = decide (D = 0 ∧ c.toNat = 48) -> Box ((w.setCell ⟨b, 5, none⟩ (.bool v)).setCell ⟨b, 4, none⟩ (.int .i64 ((D : Int) + 1))) b (scV ⟨p, a, wd, k, D + 1, decide (D = 0 ∧ c.toNat = 48)⟩) := by
        rintro v rfl; exact (HX.out.set (i := 5) (by simp [scV]) (v' := scV ⟨p, a, wd, k, D, decide (D = 0 ∧ c.toNat = 48)⟩) rfl).set (i := 4) (by simp [scV]) (by simp [scV])
       have HK := zx key; have ho : ∀ v u : Value, Only (fun x => x = b) w ((w.setCell ⟨b, 5, none⟩ v).setCell ⟨b, 4, none⟩ u) := fun v u =>
        Only.setCell (S := fun x => x = b) (Only.setCell (S := fun x => x = b) (Only.refl _ w) (p := ⟨b, 5, none⟩) (fun _ => rfl) v) (p := ⟨b, 4, none⟩) (fun _ => rfl) u
       have HO := zx ho; clear hS key ho; by_cases h0 : D = 0
       . subst h0; by_cases h48 : c.toNat = 48
         . have e5 : (((c.toNat : Nat) : Int) == 48) = true := by rw [h48]; rfl
           go_wp2; go_ret; exact ⟨by rw [HS.out]; rfl, fun y hy => by rw [HS.out] at hy; cases hy; exact HK.out _ (by simp [h48]), HO.out _ _⟩
         . have e5 : (((c.toNat : Nat) : Int) == 48) = false := by simp; omega
           go_wp2; go_ret; exact ⟨by rw [HS.out]; rfl, fun y hy => by rw [HS.out] at hy; cases hy; exact HK.out _ (by simp [h48]), HO.out _ _⟩
       . have e4 : (((D : Nat) : Int) == 0) = false := by simp; omega
         go_wp2; go_ret; exact ⟨by rw [HS.out]; rfl, fun y hy => by rw [HS.out] at hy; cases hy; exact HK.out _ (by simp [h0]), HO.out _ _⟩
 . have hS : TX.digitS ⟨p, a, wd, k, D, nt⟩ c = none := TX.digit_none (by simpa using hd); have HS := zx hS; clear hS; rcases nodig_lo hd with hlo | hhi
   . have e1 : decide (((c).toNat : Int) < 48) = true := by simp; omega
     clear hd; go_wp2; go_ret; exact ⟨by rw [HS.out]; rfl, fun y hy => (by rw [HS.out] at hy; cases hy), Only.refl _ w⟩
   . have e1 : decide (((c).toNat : Int) < 48) = false := by simp; omega
     have e2 : decide (57 < ((c).toNat : Int)) = true := by simp; omega
     clear hd; go_wp2; go_ret; exact ⟨by rw [HS.out]; rfl, fun y hy => (by rw [HS.out] at hy; cases hy), Only.refl _ w⟩
theorem xover_any (b : Nat) (x : TX.Sc) (w : World) (h : Box w b (scV x)) :
 Calls Tryz.prog 97 #[.pointer (some ⟨b, 0, none⟩)] w fun e w' =>
  e = .returned (.tuple #[]) ∧ Box w' b (scV (TX.overS x)) ∧ Only (fun x => x = b) w w' := by
 have HX := zx h; have c1 := h.c 1; have c3 := h.c 3; have c4 := h.c 4; have c5 := h.c 5; have fz := h.fz; simp only [scV, List.getElem?_toArray, List.getElem?_cons_zero, List.getElem?_cons_succ] at c1 c3 c4 c5; clear h; go_enter Tryz.func97, Tryz.ntmps97; go_wp2; go_end0
 refine ⟨rfl, ?_, ?_⟩
 . exact (((HX.out.set (i := 1) (by simp [scV]) (v' := scV { x with at_ := 0 }) rfl).set (i := 3) (by simp [scV]) (v' := scV { x with at_ := 0, count := 0 }) rfl).set (i := 4) (by simp [scV]) (v' := scV { x with at_ := 0, count := 0, digs := 0 }) rfl).set (i := 5) (by simp [scV]) rfl
 . exact Only.setCell (S := fun x => x = b) (Only.setCell (S := fun x => x = b) (Only.setCell (S := fun x => x = b) (Only.setCell (S := fun x => x = b) (Only.refl _ w) (p := ⟨b, 1, none⟩) (fun _ => rfl) _) (p := ⟨b, 3, none⟩) (fun _ => rfl) _) (p := ⟨b, 4, none⟩) (fun _ => rfl) _) (p := ⟨b, 5, none⟩) (fun _ => rfl) _
theorem headB_at {a : Nat} (h : a < 5) : TX.headB[a]? = some (headA[a]'h) := by
 match a, h with
 | 0, _ => rfl
 | 1, _ => rfl
 | 2, _ => rfl
 | 3, _ => rfl
 | 4, _ => rfl
theorem byte_eq {c d : UInt8} (h : c = d) : (((c.toNat : Nat) : Int) == (d.toNat : Int)) = true := by subst h; simp
theorem byte_ne {c d : UInt8} (h : ¬ c = d) : (((c.toNat : Nat) : Int) == (d.toNat : Int)) = false := by
 have := toNat_ne h; simpa using this
theorem xfirst_any (b M : Nat) (x : TX.Sc) (c : UInt8) (w : World) (hM : M <= 4000000) (hm : SmallS x M) (h : Box w b (scV x)) :
 Calls Tryz.prog 83 #[.pointer (some ⟨b, 0, none⟩), .int .u8 (c.toNat : Int)] w fun e w' =>
  e = .returned (.bool (TX.firstS x c).isSome) ∧ (∀ y, TX.firstS x c = some y -> Box w' b (scV y)) ∧ Only (fun x => x = b) w w' := by
 have HX := zx h; have c1 := h.c 1; have c4 := h.c 4; have fz := h.fz; have hlb := h.lt; simp only [scV, List.getElem?_toArray, List.getElem?_cons_zero, List.getElem?_cons_succ] at c1 c4; obtain ⟨p, a, wd, k, D, nt⟩ := x; have hma := hm.at_; simp only at c1 c4 hma; have DG : Hid (Calls Tryz.prog 98 #[.pointer (some ⟨b, 0, none⟩), .int .u8 (c.toNat : Int)] w fun e w' =>
  e = .returned (.bool (TX.digitS ⟨p, a, wd, k, D, nt⟩ c).isSome) ∧ (∀ y, TX.digitS ⟨p, a, wd, k, D, nt⟩ c = some y -> Box w' b (scV y)) ∧ Only (fun x => x = b) w w') := zx (xdigit_any b M _ c w hM hm h)
 clear h hm; go_enter Tryz.func83, Tryz.ntmps83; by_cases hA : a < 5
 . have e1 : decide ((a : Int) < 5) = true := by simp; omega
   have e5 : (a : Int) + 1 - 1 = (a : Int) := by omega
   have c1s : ∀ v, (w.setCell ⟨b, 1, none⟩ v).cell? ⟨b, 1, none⟩ = some v := fun v => World.cell?_setCell_same' _ _ _ (by rw [c1]; rfl)
   have ho : ∀ v, Only (fun x => x = b) w (w.setCell ⟨b, 1, none⟩ v) := fun v => Only.setCell (S := fun x => x = b) (Only.refl _ w) (p := ⟨b, 1, none⟩) (fun _ => rfl) v
   have HO := zx ho; clear ho; by_cases hc : c = headA[a]
   . have hS : TX.firstS ⟨p, a, wd, k, D, nt⟩ c = some ⟨p, a + 1, wd, k, D, nt⟩ := by
      unfold TX.firstS; rw [if_pos hA]; show (if TX.headB[a]? = some c then _ else _) = _; rw [headB_at hA, if_pos (by rw [hc])]
     have HS := zx hS; have e6 : (((c.toNat : Nat) : Int) == (((⟨#[121, 97, 114, 100, 32]⟩ : ByteArray)[a]'hA).toNat : Int)) = true := byte_eq hc; clear hS hc; go_wp2; go_ret; exact ⟨by rw [HS.out]; rfl, fun y hy => by rw [HS.out] at hy; cases hy; exact HX.out.set (i := 1) (by simp [scV]) (by simp [scV]), HO.out _⟩
   . have hS : TX.firstS ⟨p, a, wd, k, D, nt⟩ c = none := by
      unfold TX.firstS; rw [if_pos hA]; show (if TX.headB[a]? = some c then _ else _) = _; rw [headB_at hA, if_neg (fun h => hc (Option.some.inj h).symm)]
     have HS := zx hS; have e6 : (((c.toNat : Nat) : Int) == (((⟨#[121, 97, 114, 100, 32]⟩ : ByteArray)[a]'hA).toNat : Int)) = false := byte_ne hc; clear hS hc; go_wp2; go_ret; exact ⟨by rw [HS.out]; rfl, fun y hy => (by rw [HS.out] at hy; cases hy), HO.out _⟩
 . have e1 : decide ((a : Int) < 5) = false := by simp; omega
   by_cases h10 : c = 10
   . by_cases hD : 0 < D
     . have e2 : (((c.toNat : Nat) : Int) == 10) = true := byte_eq (d := 10) h10; have e3 : decide (0 < (D : Int)) = true := by simp; omega
       have hS : TX.firstS ⟨p, a, wd, k, D, nt⟩ c = some ⟨1, 0, wd, 0, 0, false⟩ := by
        unfold TX.firstS; rw [if_neg hA, if_pos ⟨h10, hD⟩]; rfl
       have HS := zx hS; clear hS h10; go_wp2_with fail; refine (xover_any b _ w HX.out).mono ?_; rintro e w1 ⟨rfl, hb1, ho1⟩; have B1 := zx hb1; have O1 := zx ho1; have c0 := hb1.c 0; have fz1 := hb1.fz; simp only [scV, TX.overS, List.getElem?_toArray, List.getElem?_cons_zero] at c0; clear hb1 ho1; go_wp2; go_ret; refine ⟨by rw [HS.out]; rfl, fun y hy => ?_, Only.setCell (S := fun x => x = b) O1.out (p := ⟨b, 0, none⟩) (fun _ => rfl) _⟩; rw [HS.out] at hy; cases hy; exact B1.out.set (i := 0) (by simp [scV]) rfl
     . have e2 : (((c.toNat : Nat) : Int) == 10) = true := byte_eq (d := 10) h10; have e3 : decide (0 < (D : Int)) = false := by simp; omega
       have hS : TX.firstS ⟨p, a, wd, k, D, nt⟩ c = TX.digitS ⟨p, a, wd, k, D, nt⟩ c := by
        unfold TX.firstS; rw [if_neg hA, if_neg (fun h => hD h.2)]
       rw [hS]; clear hS h10; go_wp2_with fail; refine DG.out.mono ?_; rintro e w1 ⟨rfl, hb1, ho1⟩; have B1 := zx hb1; have O1 := zx ho1; clear hb1 ho1; go_wp2; go_ret; exact ⟨rfl, B1.out, O1.out⟩
   . have e2 : (((c.toNat : Nat) : Int) == 10) = false := byte_ne (d := 10) h10; have hS : TX.firstS ⟨p, a, wd, k, D, nt⟩ c = TX.digitS ⟨p, a, wd, k, D, nt⟩ c := by
      unfold TX.firstS; rw [if_neg hA, if_neg (fun h => h10 h.1)]
     rw [hS]; clear hS h10; go_wp2_with fail; refine DG.out.mono ?_; rintro e w1 ⟨rfl, hb1, ho1⟩; have B1 := zx hb1; have O1 := zx ho1; clear hb1 ho1; go_wp2; go_ret; exact ⟨rfl, B1.out, O1.out⟩
theorem xcell_iff (x : UInt8) : TX.isCell x = true ↔ x = 46 ∨ x = 35 := by
 unfold TX.isCell; rw [Bool.or_eq_true, decide_eq_true_iff, decide_eq_true_iff]; constructor
 . rintro (h | h)
   . exact .inl (UInt8.toNat_inj.1 h)
   . exact .inr (UInt8.toNat_inj.1 h)
 . rintro (rfl | rfl)
   . exact .inl rfl
   . exact .inr rfl
theorem xcart_any (b M : Nat) (x : TX.Sc) (c : UInt8) (w : World) (hM : M <= 4000000) (hm : SmallS x M) (h : Box w b (scV x)) :
 Calls Tryz.prog 85 #[.pointer (some ⟨b, 0, none⟩), .int .u8 (c.toNat : Int)] w fun e w' =>
  e = .returned (.bool (TX.cartS x c).isSome) ∧ (∀ y, TX.cartS x c = some y -> Box w' b (scV y)) ∧ Only (fun x => x = b) w w' := by
 have HX := zx h; have c3 := h.c 3; have c4 := h.c 4; have c5 := h.c 5; have fz := h.fz; have hlb := h.lt; simp only [scV, List.getElem?_toArray, List.getElem?_cons_zero, List.getElem?_cons_succ] at c3 c4 c5; obtain ⟨p, a, wd, k, D, nt⟩ := x; have hmk := hm.count; simp only at c3 c4 c5 hmk; have DG := zx (xdigit_any b M ⟨p, a, wd, k, D, nt⟩ c w hM hm h); clear h hm; go_enter Tryz.func85, Tryz.ntmps85; by_cases h1 : c = 32 ∧ 0 < D ∧ k < 3
 . have e1 : (((c.toNat : Nat) : Int) == 32) = true := byte_eq (d := 32) h1.1; have e2 : decide (0 < (D : Int)) = true := by simp; omega
   have e3 : decide ((k : Int) < 3) = true := by simp; omega
   have n2 : 0 < D := h1.2.1; have n3 : k < 3 := h1.2.2; have hS : TX.cartS ⟨p, a, wd, k, D, nt⟩ c = some ⟨p, a, wd, k + 1, 0, false⟩ := if_pos h1; have HS := zx hS; clear hS h1; go_wp2; go_ret; refine ⟨by rw [HS.out]; rfl, fun y hy => ?_, ?_⟩
   . rw [HS.out] at hy; cases hy; exact ((HX.out.set (i := 3) (by simp [scV]) (v' := scV ⟨p, a, wd, k + 1, D, nt⟩) (by simp [scV])).set (i := 4) (by simp [scV]) (v' := scV ⟨p, a, wd, k + 1, 0, nt⟩) rfl).set (i := 5) (by simp [scV]) rfl
   . exact Only.setCell (S := fun x => x = b) (Only.setCell (S := fun x => x = b) (Only.setCell (S := fun x => x = b) (Only.refl _ w) (p := ⟨b, 3, none⟩) (fun _ => rfl) _) (p := ⟨b, 4, none⟩) (fun _ => rfl) _) (p := ⟨b, 5, none⟩) (fun _ => rfl) _
 . by_cases h2 : c = 10 ∧ 0 < D ∧ k = 3
   . have e1 : (((c.toNat : Nat) : Int) == 10) = true := byte_eq (d := 10) h2.1; have e0 : (((c.toNat : Nat) : Int) == 32) = false := byte_ne (d := 32) (fun h => absurd (h.symm.trans h2.1) (by decide)); have e2 : decide (0 < (D : Int)) = true := by simp; omega
     have e3 : (((k : Nat) : Int) == 3) = true := by simp; omega
     have n2 : 0 < D := h2.2.1; have n3 : ¬ k < 3 := by omega
     have n4 : k = 3 := h2.2.2; have hS : TX.cartS ⟨p, a, wd, k, D, nt⟩ c = some (TX.overS ⟨p, a, wd, k, D, nt⟩) := by
      unfold TX.cartS; rw [if_neg h1, if_pos h2]
     have HS := zx hS; clear hS h1 h2; go_wp2_with fail; refine (xover_any b _ w HX.out).mono ?_; rintro e w1 ⟨rfl, hb1, ho1⟩; have B1 := zx hb1; have O1 := zx ho1; clear hb1 ho1; go_wp2; go_ret; refine ⟨by rw [HS.out]; rfl, fun y hy => ?_, O1.out⟩; rw [HS.out] at hy; cases hy; exact B1.out
   . have hS : TX.cartS ⟨p, a, wd, k, D, nt⟩ c = TX.digitS ⟨p, a, wd, k, D, nt⟩ c := by
      unfold TX.cartS; rw [if_neg h1, if_neg h2]
     rw [hS]; have W32 : c = 32 -> (((c.toNat : Nat) : Int) == 32) = true ∧ (((c.toNat : Nat) : Int) == 10) = false := by rintro rfl; exact ⟨rfl, rfl⟩
     have W10 : c = 10 -> (((c.toNat : Nat) : Int) == 32) = false ∧ (((c.toNat : Nat) : Int) == 10) = true := by rintro rfl; exact ⟨rfl, rfl⟩
     have ends : ∀ P : Prop, (c = 32 ∨ c = 10 ∨ (¬ c = 32 ∧ ¬ c = 10) -> P) -> P := fun P h => by
      by_cases q1 : c = 32
      . exact h (.inl q1)
      . by_cases q2 : c = 10
        . exact h (.inr (.inl q2))
        . exact h (.inr (.inr ⟨q1, q2⟩))
     refine ends _ fun q => ?_
     clear hS ends; rcases q with q | q | ⟨q1, q2⟩
     . obtain ⟨e1, f1⟩ := W32 q; by_cases n2 : 0 < D
       . have n3 : ¬ k < 3 := fun h => h1 ⟨q, n2, h⟩
         have e2 : decide (0 < (D : Int)) = true := by simp; omega
         have e3 : decide ((k : Int) < 3) = false := by simp; omega
         clear W32 W10 q h1 h2; go_wp2_with fail; refine DG.out.mono ?_; rintro e w1 ⟨rfl, hb1, ho1⟩; have B1 := zx hb1; have O1 := zx ho1; clear hb1 ho1; go_wp2; go_ret; exact ⟨rfl, B1.out, O1.out⟩
       . have e2 : decide (0 < (D : Int)) = false := by simp; omega
         clear W32 W10 q h1 h2; go_wp2_with fail; refine DG.out.mono ?_; rintro e w1 ⟨rfl, hb1, ho1⟩; have B1 := zx hb1; have O1 := zx ho1; clear hb1 ho1; go_wp2; go_ret; exact ⟨rfl, B1.out, O1.out⟩
     . obtain ⟨e1, f1⟩ := W10 q; by_cases n2 : 0 < D
       . have n3 : ¬ k = 3 := fun h => h2 ⟨q, n2, h⟩
         have e2 : decide (0 < (D : Int)) = true := by simp; omega
         have e3 : (((k : Nat) : Int) == 3) = false := by simp; omega
         clear W32 W10 q h1 h2; go_wp2_with fail; refine DG.out.mono ?_; rintro e w1 ⟨rfl, hb1, ho1⟩; have B1 := zx hb1; have O1 := zx ho1; clear hb1 ho1; go_wp2; go_ret; exact ⟨rfl, B1.out, O1.out⟩
       . have e2 : decide (0 < (D : Int)) = false := by simp; omega
         clear W32 W10 q h1 h2; go_wp2_with fail; refine DG.out.mono ?_; rintro e w1 ⟨rfl, hb1, ho1⟩; have B1 := zx hb1; have O1 := zx ho1; clear hb1 ho1; go_wp2; go_ret; exact ⟨rfl, B1.out, O1.out⟩
     . have e1 : (((c.toNat : Nat) : Int) == 32) = false := byte_ne (d := 32) q1; have f1 : (((c.toNat : Nat) : Int) == 10) = false := byte_ne (d := 10) q2; clear W32 W10 q1 q2 h1 h2; go_wp2_with fail; refine DG.out.mono ?_; rintro e w1 ⟨rfl, hb1, ho1⟩; have B1 := zx hb1; have O1 := zx ho1; clear hb1 ho1; go_wp2; go_ret; exact ⟨rfl, B1.out, O1.out⟩
end
section
open Go.RowKit Go.Deep M
theorem xrow_any (b M : Nat) (x : TX.Sc) (c : UInt8) (w : World) (hM : M <= 4000000) (hm : SmallS x M) (h : Box w b (scV x)) :
 Calls Tryz.prog 84 #[.pointer (some ⟨b, 0, none⟩), .int .u8 (c.toNat : Int)] w fun e w' =>
  e = .returned (.bool (TX.rowS x c).isSome) ∧ (∀ y, TX.rowS x c = some y -> Box w' b (scV y)) ∧ Only (fun x => x = b) w w' := by
 have HX := zx h; have c0 := h.c 0; have c1 := h.c 1; have c2 := h.c 2; have fz := h.fz; have hlb := h.lt; simp only [scV, List.getElem?_toArray, List.getElem?_cons_zero, List.getElem?_cons_succ] at c0 c1 c2; obtain ⟨p, a, wd, k, D, nt⟩ := x; have hma := hm.at_; have hmw := hm.wide; simp only at c0 c1 c2 hma hmw; have DG : Hid (∀ u, Box u b (scV ⟨2, a, wd, k, D, nt⟩) -> Calls Tryz.prog 98 #[.pointer (some ⟨b, 0, none⟩), .int .u8 (c.toNat : Int)] u fun e w' =>
  e = .returned (.bool (TX.digitS ⟨2, a, wd, k, D, nt⟩ c).isSome) ∧ (∀ y, TX.digitS ⟨2, a, wd, k, D, nt⟩ c = some y -> Box w' b (scV y)) ∧ Only (fun x => x = b) u w') :=
  zx fun u hu => xdigit_any b M ⟨2, a, wd, k, D, nt⟩ c u hM ⟨hm.at_, hm.wide, hm.count, hm.digs⟩ hu
 clear h hm; go_enter Tryz.func84, Tryz.ntmps84; have c1s : ∀ v, (w.setCell ⟨b, 1, none⟩ v).cell? ⟨b, 1, none⟩ = some v := fun v => World.cell?_setCell_same' _ _ _ (by rw [c1]; rfl)
 have c2s : ∀ v, (w.setCell ⟨b, 1, none⟩ v).cell? ⟨b, 2, none⟩ = some (.int .i64 wd) := fun v => (World.cell?_setCell_other _ _ _ _ (by intro e; cases e)).trans c2
 have ho : ∀ v, Only (fun x => x = b) w (w.setCell ⟨b, 1, none⟩ v) := fun v => Only.setCell (S := fun x => x = b) (Only.refl _ w) (p := ⟨b, 1, none⟩) (fun _ => rfl) v
 have HO := zx ho; clear ho; by_cases hcell : TX.isCell c = true
 . have hS : TX.rowS ⟨p, a, wd, k, D, nt⟩ c = if wd = 0 ∨ a + 1 <= wd then some ⟨p, a + 1, wd, k, D, nt⟩ else none := if_pos hcell
   have HS := zx hS; have hcc := (xcell_iff c).1 hcell; clear hS hcell; have hb : ((((c.toNat : Nat) : Int) == 46) = true) ∨ ((((c.toNat : Nat) : Int) == 46) = false ∧ (((c.toNat : Nat) : Int) == 35) = true) := by
    rcases hcc with rfl | rfl
    . exact .inl rfl
    . exact .inr ⟨rfl, rfl⟩
   clear hcc; have GOOD : Hid (TX.rowS ⟨p, a, wd, k, D, nt⟩ c = some ⟨p, a + 1, wd, k, D, nt⟩ -> (∀ n : Nat, ((.returned (.bool true) : Ending) = .returned (.bool (TX.rowS ⟨p, a, wd, k, D, nt⟩ c).isSome)) ∧ (∀ y, TX.rowS ⟨p, a, wd, k, D, nt⟩ c = some y -> Box ((w.setCell ⟨b, 1, none⟩ (.int .i64 ((a : Int) + 1))).drewN n) b (scV y)) ∧ Only (fun x => x = b) w ((w.setCell ⟨b, 1, none⟩ (.int .i64 ((a : Int) + 1))).drewN n))) :=
    zx fun h n => ⟨by rw [h]; rfl, fun y hy => by rw [h] at hy; cases hy; exact (HX.out.set (i := 1) (by simp [scV]) (by simp [scV])).drewN n, (HO.out _).drewN n⟩
   by_cases h0 : wd = 0
   . have e3 : (((wd : Nat) : Int) == 0) = true := by simp; omega
     have hS := HS.out; rw [if_pos (.inl h0)] at hS; have HG := zx (GOOD.out hS); clear hS; rcases hb with e1 | ⟨e1, e2⟩
     all_goals
      go_wp2; go_quiet (fail); go_wp2; go_ret; exact HG.out nq
   . have e3 : (((wd : Nat) : Int) == 0) = false := by simp; omega
     by_cases h1 : a + 1 <= wd
     . have e4 : decide ((a : Int) + 1 <= (wd : Int)) = true := by simp; omega
       have hS := HS.out; rw [if_pos (.inr h1)] at hS; have HG := zx (GOOD.out hS); clear hS; rcases hb with e1 | ⟨e1, e2⟩
       all_goals
        go_wp2; go_quiet (fail); go_wp2; go_ret; exact HG.out nq
     . have e4 : decide ((a : Int) + 1 <= (wd : Int)) = false := by simp; omega
       have hS := HS.out; rw [if_neg (by omega)] at hS; have HN := zx hS; clear hS; rcases hb with e1 | ⟨e1, e2⟩
       all_goals
        go_wp2; go_quiet (fail); go_wp2; go_ret; exact ⟨by rw [HN.out]; rfl, fun y hy => (by rw [HN.out] at hy; cases hy), (HO.out _).drewN nq⟩
 . have e1 : (((c.toNat : Nat) : Int) == 46) = false := byte_ne (d := 46) (fun h => hcell ((xcell_iff c).2 (.inl h))); have e2 : (((c.toNat : Nat) : Int) == 35) = false := byte_ne (d := 35) (fun h => hcell ((xcell_iff c).2 (.inr h))); have HC := zx hcell; clear hcell; by_cases h10 : c = 10
   . have f1 : (((c.toNat : Nat) : Int) == 10) = true := byte_eq (d := 10) h10; have hS : TX.rowS ⟨p, a, wd, k, D, nt⟩ c = if 0 < a ∧ (wd = 0 ∨ a = wd) then some ⟨p, 0, a, 0, 0, false⟩ else none := by
      unfold TX.rowS; rw [if_neg HC.out, if_pos h10]; rfl
     have HS := zx hS; clear hS h10; have hval : ∀ (n : Nat), Box ((w.drewN n).setCell ⟨b, 2, none⟩ (.int .i64 a)) b (scV ⟨p, a, a, k, D, nt⟩) := fun n => (HX.out.drewN n).set (i := 2) (by simp [scV]) (by simp [scV])
     have HV := zx hval; have ho2 : ∀ (n : Nat), Only (fun x => x = b) w ((w.drewN n).setCell ⟨b, 2, none⟩ (.int .i64 a)) := fun n => Only.setCell (S := fun x => x = b) ((Only.refl _ w).drewN n) (p := ⟨b, 2, none⟩) (fun _ => rfl) _
     have HO2 := zx ho2; clear hval ho2; have fin : ∀ ok : Bool, (ok = true ↔ 0 < a ∧ (wd = 0 ∨ a = wd)) -> ∀ u, Box u b (scV (TX.overS ⟨p, a, a, k, D, nt⟩)) -> Only (fun x => x = b) w u -> ((.returned (.bool ok) : Ending) = .returned (.bool (TX.rowS ⟨p, a, wd, k, D, nt⟩ c).isSome)) ∧ (∀ y, TX.rowS ⟨p, a, wd, k, D, nt⟩ c = some y -> Box u b (scV y)) ∧ Only (fun x => x = b) w u := by
      intro ok hok u hu hou; rw [HS.out]; cases ok with
      | true =>
        rw [if_pos (hok.1 rfl)]; exact ⟨rfl, fun y hy => by cases hy; exact hu, hou⟩
      | false =>
        rw [if_neg (fun h => by have := hok.2 h; cases this)]; exact ⟨rfl, fun y hy => (by cases hy), hou⟩
     have FIN := zx fin; clear fin; by_cases ha : 0 < a
     . have e3 : decide (0 < (a : Int)) = true := by simp; omega
       by_cases h0 : wd = 0
       . have e4 : (((wd : Nat) : Int) == 0) = true := by simp; omega
         have HQ : Hid (true = true ↔ 0 < a ∧ (wd = 0 ∨ a = wd)) := zx ⟨fun _ => ⟨ha, .inl h0⟩, fun _ => rfl⟩; go_wp2; go_quiet (fail); go_wp2_with fail; refine (xover_any b _ _ (HV.out nq)).mono ?_; rintro e w1 ⟨rfl, hb1, ho1⟩; have B1 := zx hb1; have O1 := zx ho1; clear hb1 ho1; go_wp2; go_ret; exact FIN.out true (by first | exact HQ.out | simpa using HQ.out) _ B1.out ((HO2.out nq).trans O1.out (fun _ _ h => h))
       . have e4 : (((wd : Nat) : Int) == 0) = false := by simp; omega
         by_cases h1 : a = wd
         . have e5 : (((a : Nat) : Int) == (wd : Int)) = true := by simp; omega
           have HQ : Hid (true = true ↔ 0 < a ∧ (wd = 0 ∨ a = wd)) := zx ⟨fun _ => ⟨ha, .inr h1⟩, fun _ => rfl⟩; clear h1; go_wp2; go_quiet (fail); go_wp2_with fail; refine (xover_any b _ _ (HV.out nq)).mono ?_; rintro e w1 ⟨rfl, hb1, ho1⟩; have B1 := zx hb1; have O1 := zx ho1; clear hb1 ho1; go_wp2; go_ret; exact FIN.out true (by first | exact HQ.out | simpa using HQ.out) _ B1.out ((HO2.out nq).trans O1.out (fun _ _ h => h))
         . have e5 : (((a : Nat) : Int) == (wd : Int)) = false := by simp; omega
           have HQ : Hid (false = true ↔ 0 < a ∧ (wd = 0 ∨ a = wd)) := zx ⟨fun h => (by cases h), fun h => absurd h.2 (by omega)⟩; go_wp2; go_quiet (fail); go_wp2_with fail; refine (xover_any b _ _ (HV.out nq)).mono ?_; rintro e w1 ⟨rfl, hb1, ho1⟩; have B1 := zx hb1; have O1 := zx ho1; clear hb1 ho1; go_wp2; go_ret; exact FIN.out false (by first | exact HQ.out | simpa using HQ.out) _ B1.out ((HO2.out nq).trans O1.out (fun _ _ h => h))
     . have e3 : decide (0 < (a : Int)) = false := by simp; omega
       have HQ : Hid (false = true ↔ 0 < a ∧ (wd = 0 ∨ a = wd)) := zx ⟨fun h => (by cases h), fun h => absurd h.1 ha⟩; go_wp2; go_quiet (fail); go_wp2_with fail; refine (xover_any b _ _ (HV.out nq)).mono ?_; rintro e w1 ⟨rfl, hb1, ho1⟩; have B1 := zx hb1; have O1 := zx ho1; clear hb1 ho1; go_wp2; go_ret; exact FIN.out false (by first | exact HQ.out | simpa using HQ.out) _ B1.out ((HO2.out nq).trans O1.out (fun _ _ h => h))
   . have f1 : (((c.toNat : Nat) : Int) == 10) = false := byte_ne (d := 10) h10; by_cases hz : 0 < a ∨ wd = 0
     . have hS : TX.rowS ⟨p, a, wd, k, D, nt⟩ c = none := by
        unfold TX.rowS; rw [if_neg HC.out, if_neg h10, if_pos hz]
       have HN := zx hS; clear hS h10; by_cases ha : 0 < a
       . have e3 : decide (0 < (a : Int)) = true := by simp; omega
         clear hz; go_wp2; go_ret; exact ⟨by rw [HN.out]; rfl, fun y hy => (by rw [HN.out] at hy; cases hy), Only.refl _ w⟩
       . have e3 : decide (0 < (a : Int)) = false := by simp; omega
         have h0 : wd = 0 := hz.resolve_left ha; have e4 : (((wd : Nat) : Int) == 0) = true := by simp; omega
         clear hz; go_wp2; go_ret; exact ⟨by rw [HN.out]; rfl, fun y hy => (by rw [HN.out] at hy; cases hy), Only.refl _ w⟩
     . have ha : ¬ 0 < a := fun h => hz (.inl h)
       have h0 : ¬ wd = 0 := fun h => hz (.inr h)
       have e3 : decide (0 < (a : Int)) = false := by simp; omega
       have e4 : (((wd : Nat) : Int) == 0) = false := by simp; omega
       have hS : TX.rowS ⟨p, a, wd, k, D, nt⟩ c = TX.digitS ⟨2, a, wd, k, D, nt⟩ c := by
        unfold TX.rowS; rw [if_neg HC.out, if_neg h10, if_neg hz]
       rw [hS]; clear hS h10 hz; have B2 : Hid (Box (w.setCell ⟨b, 0, none⟩ (.int .i64 2)) b (scV ⟨2, a, wd, k, D, nt⟩)) := zx (HX.out.set (i := 0) (by simp [scV]) (by simp [scV])); have O2 : Hid (Only (fun x => x = b) w (w.setCell ⟨b, 0, none⟩ (.int .i64 2))) := zx (Only.setCell (S := fun x => x = b) (Only.refl _ w) (p := ⟨b, 0, none⟩) (fun _ => rfl) _); go_wp2_with fail; refine (DG.out _ B2.out).mono ?_; rintro e w1 ⟨rfl, hb1, ho1⟩; have B1 := zx hb1; have O1 := zx ho1; clear hb1 ho1; go_wp2; go_ret; exact ⟨rfl, B1.out, O2.out.trans O1.out (fun _ _ h => h)⟩
end
end Go.Proofs.YtnkgpinadgacgaaGreatDoor
