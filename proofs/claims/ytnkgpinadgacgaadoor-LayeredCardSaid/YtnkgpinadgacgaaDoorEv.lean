/- Walk of Layered: the law answers true. -/
import Derived.Test.YtnkgpinadgacgaaDoorEu
namespace Go.Proofs.YtnkgpinadgacgaaDoor
open Go.RowKit M

theorem planQ_nil (w : World) : PlanQ w (.slice none 0 0) [] := ⟨none, 0, rfl, fun h => absurd h (Nat.lt_irrefl 0)⟩

set_option maxRecDepth 100000 in
set_option maxHeartbeats 4000000 in
theorem layered_err (ro co bu : Int) (cs : ByteArray) (a : Option Addr) (m cap : Nat) (fr tt : Nat → Int) (k cost : Int) (ar : Option Addr) (n capr : Nat) (R : Nat → RuleM) (w : World) (hs : cs.size ≤ maxLen) (hm : m * 16 ≤ 140737488351232) (hn : n * 32 ≤ 140737488351232)
    (ha : 0 < m → ∃ b off, a = some ⟨b, off, none⟩ ∧ CartsIn w b off m fr tt) (har : RulesAt w ar n R) (he : loneE ro co bu cs m fr tt k n R cost ≠ 0) :
    Calls Tryd.prog 5 #[.agg #[.int .i64 ro, .int .i64 co, .string cs, .slice a m cap, .int .i64 bu], .int .i64 k, .slice ar n capr, .int .i64 cost] w fun e w' =>
      e = .returned (.bool true) ∧ Below w.heap.size w w' := by
  have hmm : m ≤ maxLen := by unfold maxLen; omega
  have hnm : n ≤ maxLen := by unfold maxLen; omega
  have HA := Hid.mk ha
  have HAR := Hid.mk har
  have HE := Hid.mk he
  have HB0 : Hid (∀ (w : World) (o : Obj), Below w.heap.size w (w.alloc o)) := fun w _ => (Below.refl _ w).alloc (Nat.le_refl _) _
  clear ha har he
  go_enter Tryd.func5, Tryd.ntmps5
  go_wp2_with fail
  refine (handed_any _ _ _ _ _ _ _ fr tt _ hm (by exact opt_below HA.out (HB0.out _ _))).mono ?_
  rintro e w1 ⟨g, rfl, hg, hrow, hb1⟩
  have y1 : ∀ o, w1.cell? ⟨w.heap.size, o, none⟩ = #[Value.int .i64 ro, .int .i64 co, .string cs, .slice a m cap, .int .i64 bu][o]? := by
    intro o
    rw [hb1.cell (p := ⟨w.heap.size, o, none⟩) (by show w.heap.size < _; simp)]; go_simp
  have hB1 : Hid (Below w.heap.size w w1) := (HB0.out _ _).trans (hb1.mono (by simp))
  have hz1 : w.heap.size < w1.heap.size := by have := hb1.size; simp at this; omega
  have HR := Hid.mk hrow
  have HA1 := Hid.mk (opt_below HA.out hB1.out)
  have HL1 := Hid.mk (HAR.out.below hB1.out)
  clear hrow hb1
  go_wp2_with fail
  refine (handedRules_any _ _ _ R _ hn (HL1.out.below (HB0.out _ _))).mono ?_
  rintro e w2 ⟨gr, rfl, hgr, hrr, hb2⟩
  have hB2 : Hid (Below w1.heap.size w1 w2) := (HB0.out _ _).trans (hb2.mono (by simp))
  have y2 : ∀ o, w2.cell? ⟨w.heap.size, o, none⟩ = #[Value.int .i64 ro, .int .i64 co, .string cs, .slice a m cap, .int .i64 bu][o]? := fun o => (hB2.out.cell (p := ⟨w.heap.size, o, none⟩) hz1).trans (y1 o)
  have h2 : ∀ o, w2.cell? ⟨w1.heap.size, o, none⟩ = #[Value.int .i64 ro, .int .i64 co, .string cs, .slice (some ⟨g, 0, none⟩) m (m + 8), .int .i64 bu][o]? := by
    intro o
    rw [hb2.cell (p := ⟨w1.heap.size, o, none⟩) (by show w1.heap.size < _; simp)]; go_simp
  have hz2 : w1.heap.size < w2.heap.size := by have := hb2.size; simp at this; omega
  have HR2 := Hid.mk (rowIs_below HR.out hB2.out)
  have HRR2 := Hid.mk hrr
  have HA2 := Hid.mk (opt_below HA1.out hB2.out)
  have HL2 := Hid.mk (HL1.out.below hB2.out)
  clear y1 hb2 hrr
  go_wp2_with fail
  refine (ylayers_err _ _ _ _ _ _ _ fr tt k cost _ _ _ R _ hs hmm (by omega) hnm (by exact fun _ => ⟨g, 0, rfl, row_carts HR2.out⟩) (fun _ => ⟨gr, 0, rfl, row_rules HRR2.out⟩) HE.out).mono ?_
  rintro e w3 ⟨rfl, hb3⟩
  have hB3 := Hid.mk hb3
  have y3 : ∀ o, w3.cell? ⟨w.heap.size, o, none⟩ = #[Value.int .i64 ro, .int .i64 co, .string cs, .slice a m cap, .int .i64 bu][o]? := fun o => (hb3.cell (p := ⟨w.heap.size, o, none⟩) (by show w.heap.size < _; omega)).trans (y2 o)
  have h3 : ∀ o, w3.cell? ⟨w1.heap.size, o, none⟩ = #[Value.int .i64 ro, .int .i64 co, .string cs, .slice (some ⟨g, 0, none⟩) m (m + 8), .int .i64 bu][o]? := fun o => (hb3.cell (p := ⟨w1.heap.size, o, none⟩) (by show w1.heap.size < _; omega)).trans (h2 o)
  have hz3 : w2.heap.size ≤ w3.heap.size := hb3.size
  have HR3 := Hid.mk (rowIs_below HR2.out hb3)
  have HRR3 := Hid.mk (rowIs_below HRR2.out hb3)
  have HA3 := Hid.mk (opt_below HA2.out hb3)
  have HL3 := Hid.mk (HL2.out.below hb3)
  clear y2 h2 hb3
  go_wp2_with fail
  refine (ylayers_err _ _ _ _ _ _ _ fr tt k cost _ _ _ R _ hs hmm (by omega) hnm (by exact fun _ => ⟨g, 0, rfl, row_carts HR3.out⟩) (fun _ => ⟨gr, 0, rfl, row_rules HRR3.out⟩) HE.out).mono ?_
  rintro e w4 ⟨rfl, hb4⟩
  have hB4 := Hid.mk hb4
  have y4 : ∀ o, w4.cell? ⟨w.heap.size, o, none⟩ = #[Value.int .i64 ro, .int .i64 co, .string cs, .slice a m cap, .int .i64 bu][o]? := fun o => (hb4.cell (p := ⟨w.heap.size, o, none⟩) (by show w.heap.size < _; omega)).trans (y3 o)
  have h4 : ∀ o, w4.cell? ⟨w1.heap.size, o, none⟩ = #[Value.int .i64 ro, .int .i64 co, .string cs, .slice (some ⟨g, 0, none⟩) m (m + 8), .int .i64 bu][o]? := fun o => (hb4.cell (p := ⟨w1.heap.size, o, none⟩) (by show w1.heap.size < _; omega)).trans (h3 o)
  have hz4 : w3.heap.size ≤ w4.heap.size := hb4.size
  have HR4 := Hid.mk (rowIs_below HR3.out hb4)
  have HRR4 := Hid.mk (rowIs_below HRR3.out hb4)
  have HA4 := Hid.mk (opt_below HA3.out hb4)
  have HL4 := Hid.mk (HL3.out.below hb4)
  clear y3 h3 hb4
  go_wp2_with fail
  refine (still_any _ _ _ _ _ _ _ _ fr tt _ hm (by exact HA4.out) (by exact HR4.out)).mono ?_
  rintro e w5 ⟨rfl, hb5⟩
  have hB5 := Hid.mk hb5
  have y5 : ∀ o, w5.cell? ⟨w.heap.size, o, none⟩ = #[Value.int .i64 ro, .int .i64 co, .string cs, .slice a m cap, .int .i64 bu][o]? := fun o => (hb5.cell (p := ⟨w.heap.size, o, none⟩) (by show w.heap.size < _; omega)).trans (y4 o)
  have hz5 : w4.heap.size ≤ w5.heap.size := hb5.size
  have HRR5 := Hid.mk (rowIs_below HRR4.out hb5)
  have HA5 := Hid.mk (opt_below HA4.out hb5)
  have HL5 := Hid.mk (HL4.out.below hb5)
  clear y4 h4 hb5
  go_wp2_with fail
  refine (stillRules_any _ _ _ _ R _ hn HL5.out HRR5.out).mono ?_
  rintro e w6 ⟨rfl, hb6⟩
  have hB6 := Hid.mk hb6
  have y6 : ∀ o, w6.cell? ⟨w.heap.size, o, none⟩ = #[Value.int .i64 ro, .int .i64 co, .string cs, .slice a m cap, .int .i64 bu][o]? := fun o => (hb6.cell (p := ⟨w.heap.size, o, none⟩) (by show w.heap.size < _; omega)).trans (y5 o)
  have hz6 : w5.heap.size ≤ w6.heap.size := hb6.size
  have HA6 := Hid.mk (opt_below HA5.out hb6)
  have HL6 := Hid.mk (HL5.out.below hb6)
  clear y5 hb6
  go_wp2_with fail
  refine (rlayers_err _ _ _ _ _ _ _ fr tt k cost _ _ _ R _ hs hmm hnm HA6.out HL6.out HE.out).mono ?_
  rintro e w7 ⟨rfl, hb7⟩
  have hB7 := Hid.mk hb7
  have hz7 : w6.heap.size ≤ w7.heap.size := hb7.size
  have hz70 : w.heap.size ≤ w7.heap.size := by omega
  have HB : Hid (Below w.heap.size w w7) := hB1.out.trans ((hB2.out.trans ((hB3.out.trans ((hB4.out.trans ((hB5.out.trans ((hB6.out.trans (hB7.out.mono (by omega))).mono (by omega))).mono (by omega))).mono (by omega))).mono (by omega))).mono (by omega))
  clear y6 hb7
  obtain ⟨E, hE⟩ : ∃ E, E = loneE ro co bu cs m fr tt k n R cost := ⟨_, rfl⟩
  rw [← hE]
  have hE' : (E != 0) = true := by have := HE.out; rw [← hE] at this; simpa using this
  have hEE : (E != E) = false := by simp
  clear hE
  go_wp2_with fail
  refine (samePlans_q _ _ [] _ (by simp) (fun t ht => absurd ht (by simp)) (planQ_nil _) (planQ_nil _)).mono ?_
  rintro e w8 ⟨rfl, hb8⟩
  have hB8 := Hid.mk hb8
  have hz8 : w7.heap.size ≤ w8.heap.size := hb8.size
  clear hb8
  go_wp2_with fail
  refine (samePlans_q _ _ [] _ (by simp) (fun t ht => absurd ht (by simp)) (planQ_nil _) (planQ_nil _)).mono ?_
  rintro e w9 ⟨rfl, hb9⟩
  have hB9 := Hid.mk hb9
  have hz9 : w8.heap.size ≤ w9.heap.size := hb9.size
  clear hb9
  go_wp2_with fail
  refine (both_nil _).mono ?_
  rintro e w10 ⟨rfl, hb10⟩
  have HBX : Hid (Below w.heap.size w w10) := HB.out.trans ((hB8.out.trans ((hB9.out.trans (hb10.mono (by omega))).mono (by omega))).mono (by omega))
  clear hb10
  go_wp2_with fail
  refine (num_any _ _).mono ?_
  rintro e w11 ⟨rfl, hw11⟩
  have hw11 := hw11.symm
  subst hw11
  go_wp2_with fail
  refine (num_any _ _).mono ?_
  rintro e w11 ⟨rfl, hw11⟩
  have hw11 := hw11.symm
  subst hw11
  go_wp2
  go_ret
  exact ⟨rfl, HBX.out⟩

set_option maxRecDepth 100000 in
set_option maxHeartbeats 8000000 in
theorem layered_ok (ro co bu : Int) (cs : ByteArray) (b off m cap : Nat) (fr tt : Nat → Int) (k f c T : Nat) (ar : Option Addr) (n capr : Nat) (R : Nat → RuleM) (w : World) (hm : m * 16 ≤ 140737488351232) (hn : n * 32 ≤ 140737488351232) (hsd : SidesIn w) (hT : T ≤ 60)
    (hcs : CartsIn w b off m fr tt) (har : RulesAt w ar n R) (hwf : RulesWf n R) (he : givenE ro co bu cs m fr tt k n R = 0) (hf : fr k = (f : Int)) (hc : tt k = (c : Int)) :
    Calls Tryd.prog 5 #[.agg #[.int .i64 ro, .int .i64 co, .string cs, .slice (some ⟨b, off, none⟩) m cap, .int .i64 bu], .int .i64 k, .slice ar n capr, .int .i64 (T : Nat)] w fun e w' =>
      e = .returned (.bool true) ∧ Below w.heap.size w w' := by
  have hmm : m ≤ maxLen := by unfold maxLen; omega
  have hnm : n ≤ maxLen := by unfold maxLen; omega
  obtain ⟨g1, g2, g3, g4⟩ := given_side he
  obtain ⟨s1, s2, s3⟩ := checkM_good g1
  obtain ⟨r1, r2⟩ := side_bd s1
  obtain ⟨r3, r4⟩ := side_bd s2
  obtain ⟨hp1, hp2⟩ := mul_bd r1 r2 r3 r4
  have hs36 : cs.size ≤ 36 := by omega
  have hs : cs.size ≤ maxLen := by unfold maxLen; omega
  obtain ⟨hm4, hfree⟩ := carts_free g1
  have hkm : k < m := by omega
  obtain ⟨ff, fc⟩ := hfree k hkm
  rw [hf] at ff
  rw [hc] at fc
  have hfN := free_lt ff
  have hcN := free_lt fc
  have HA : Hid (0 < m → ∃ b' off', (some ⟨b, off, none⟩ : Option Addr) = some ⟨b', off', none⟩ ∧ CartsIn w b' off' m fr tt) := fun _ => ⟨b, off, rfl, hcs⟩
  have HAR := Hid.mk har
  have HWF := Hid.mk hwf
  have HSD := Hid.mk hsd
  have RB := Hid.mk g4
  have FF := Hid.mk ff
  have FC := Hid.mk fc
  have HE := Hid.mk he
  have HB0 : Hid (∀ (w : World) (o : Obj), Below w.heap.size w (w.alloc o)) := fun w _ => (Below.refl _ w).alloc (Nat.le_refl _) _
  clear hcs har hwf hsd he g1 g2 g3 g4 s1 s2 s3 hp1 hp2 hfree ff fc
  go_enter Tryd.func5, Tryd.ntmps5
  go_wp2_with fail
  refine (handed_any _ _ _ _ _ _ _ fr tt _ hm (by exact opt_below HA.out (HB0.out _ _))).mono ?_
  rintro e w1 ⟨g, rfl, hg, hrow, hb1⟩
  have y1 : ∀ o, w1.cell? ⟨w.heap.size, o, none⟩ = #[Value.int .i64 ro, .int .i64 co, .string cs, .slice (some ⟨b, off, none⟩) m cap, .int .i64 bu][o]? := by
    intro o
    rw [hb1.cell (p := ⟨w.heap.size, o, none⟩) (by show w.heap.size < _; simp)]; go_simp
  have hB1 : Hid (Below w.heap.size w w1) := (HB0.out _ _).trans (hb1.mono (by simp))
  have hz1 : w.heap.size < w1.heap.size := by have := hb1.size; simp at this; omega
  have HR := Hid.mk hrow
  have HA1 := Hid.mk (opt_below HA.out hB1.out)
  have HL1 := Hid.mk (HAR.out.below hB1.out)
  have HS1 := Hid.mk (HSD.out.below hB1.out)
  clear hrow hb1
  go_wp2_with fail
  refine (handedRules_any _ _ _ R _ hn (HL1.out.below (HB0.out _ _))).mono ?_
  rintro e w2 ⟨gr, rfl, hgr, hrr, hb2⟩
  have hB2 : Hid (Below w1.heap.size w1 w2) := (HB0.out _ _).trans (hb2.mono (by simp))
  have y2 : ∀ o, w2.cell? ⟨w.heap.size, o, none⟩ = #[Value.int .i64 ro, .int .i64 co, .string cs, .slice (some ⟨b, off, none⟩) m cap, .int .i64 bu][o]? := fun o => (hB2.out.cell (p := ⟨w.heap.size, o, none⟩) hz1).trans (y1 o)
  have h2 : ∀ o, w2.cell? ⟨w1.heap.size, o, none⟩ = #[Value.int .i64 ro, .int .i64 co, .string cs, .slice (some ⟨g, 0, none⟩) m (m + 8), .int .i64 bu][o]? := by
    intro o
    rw [hb2.cell (p := ⟨w1.heap.size, o, none⟩) (by show w1.heap.size < _; simp)]; go_simp
  have hz2 : w1.heap.size < w2.heap.size := by have := hb2.size; simp at this; omega
  have HR2 := Hid.mk (rowIs_below HR.out hB2.out)
  have HRR2 := Hid.mk hrr
  have HA2 := Hid.mk (opt_below HA1.out hB2.out)
  have HL2 := Hid.mk (HL1.out.below hB2.out)
  have HS2 := Hid.mk (HS1.out.below hB2.out)
  clear y1 hb2 hrr
  go_wp2_with fail
  refine (ylayers_ok _ _ _ _ g 0 _ _ fr tt k f c T _ _ _ R _ (by omega) hnm HS2.out hT (row_carts HR2.out) (fun _ => ⟨gr, 0, rfl, row_rules HRR2.out⟩) HWF.out HE.out hf hc).mono ?_
  rintro e w3 ⟨⟨a1, n1, cc1, e1, rfl, hres1⟩, hb3⟩
  have RES1 := Hid.mk hres1
  have hB3 := Hid.mk hb3
  have y3 : ∀ o, w3.cell? ⟨w.heap.size, o, none⟩ = #[Value.int .i64 ro, .int .i64 co, .string cs, .slice (some ⟨b, off, none⟩) m cap, .int .i64 bu][o]? := fun o => (hb3.cell (p := ⟨w.heap.size, o, none⟩) (by show w.heap.size < _; omega)).trans (y2 o)
  have h3 : ∀ o, w3.cell? ⟨w1.heap.size, o, none⟩ = #[Value.int .i64 ro, .int .i64 co, .string cs, .slice (some ⟨g, 0, none⟩) m (m + 8), .int .i64 bu][o]? := fun o => (hb3.cell (p := ⟨w1.heap.size, o, none⟩) (by show w1.heap.size < _; omega)).trans (h2 o)
  have hz3 : w2.heap.size ≤ w3.heap.size := hb3.size
  have HR3 := Hid.mk (rowIs_below HR2.out hb3)
  have HRR3 := Hid.mk (rowIs_below HRR2.out hb3)
  have HA3 := Hid.mk (opt_below HA2.out hb3)
  have HL3 := Hid.mk (HL2.out.below hb3)
  have HS3 := Hid.mk (HS2.out.below hb3)
  clear y2 h2 hb3 hres1
  go_wp2_with fail
  refine (ylayers_ok _ _ _ _ g 0 _ _ fr tt k f c T _ _ _ R _ (by omega) hnm HS3.out hT (row_carts HR3.out) (fun _ => ⟨gr, 0, rfl, row_rules HRR3.out⟩) HWF.out HE.out hf hc).mono ?_
  rintro e w4 ⟨⟨a2, n2, cc2, e2, rfl, hres2⟩, hb4⟩
  have RES2 := Hid.mk hres2
  have hB4 := Hid.mk hb4
  have y4 : ∀ o, w4.cell? ⟨w.heap.size, o, none⟩ = #[Value.int .i64 ro, .int .i64 co, .string cs, .slice (some ⟨b, off, none⟩) m cap, .int .i64 bu][o]? := fun o => (hb4.cell (p := ⟨w.heap.size, o, none⟩) (by show w.heap.size < _; omega)).trans (y3 o)
  have h4 : ∀ o, w4.cell? ⟨w1.heap.size, o, none⟩ = #[Value.int .i64 ro, .int .i64 co, .string cs, .slice (some ⟨g, 0, none⟩) m (m + 8), .int .i64 bu][o]? := fun o => (hb4.cell (p := ⟨w1.heap.size, o, none⟩) (by show w1.heap.size < _; omega)).trans (h3 o)
  have hz4 : w3.heap.size ≤ w4.heap.size := hb4.size
  have HR4 := Hid.mk (rowIs_below HR3.out hb4)
  have HRR4 := Hid.mk (rowIs_below HRR3.out hb4)
  have HA4 := Hid.mk (opt_below HA3.out hb4)
  have HL4 := Hid.mk (HL3.out.below hb4)
  clear y3 h3 hb4 hres2
  go_wp2_with fail
  refine (still_any _ _ _ _ _ _ _ _ fr tt _ hm (by exact HA4.out) (by exact HR4.out)).mono ?_
  rintro e w5 ⟨rfl, hb5⟩
  have hB5 := Hid.mk hb5
  have y5 : ∀ o, w5.cell? ⟨w.heap.size, o, none⟩ = #[Value.int .i64 ro, .int .i64 co, .string cs, .slice (some ⟨b, off, none⟩) m cap, .int .i64 bu][o]? := fun o => (hb5.cell (p := ⟨w.heap.size, o, none⟩) (by show w.heap.size < _; omega)).trans (y4 o)
  have hz5 : w4.heap.size ≤ w5.heap.size := hb5.size
  have HRR5 := Hid.mk (rowIs_below HRR4.out hb5)
  have HA5 := Hid.mk (opt_below HA4.out hb5)
  have HL5 := Hid.mk (HL4.out.below hb5)
  clear y4 h4 hb5
  go_wp2_with fail
  refine (stillRules_any _ _ _ _ R _ hn HL5.out HRR5.out).mono ?_
  rintro e w6 ⟨rfl, hb6⟩
  have hB6 := Hid.mk hb6
  have y6 : ∀ o, w6.cell? ⟨w.heap.size, o, none⟩ = #[Value.int .i64 ro, .int .i64 co, .string cs, .slice (some ⟨b, off, none⟩) m cap, .int .i64 bu][o]? := fun o => (hb6.cell (p := ⟨w.heap.size, o, none⟩) (by show w.heap.size < _; omega)).trans (y5 o)
  have hz6 : w5.heap.size ≤ w6.heap.size := hb6.size
  have HA6 := Hid.mk (opt_below HA5.out hb6)
  have HL6 := Hid.mk (HL5.out.below hb6)
  clear y5 hb6
  have C6 : CartsIn w6 b off m fr tt := by
    obtain ⟨b', off', e, h⟩ := HA6.out (by omega)
    cases e; exact h
  have HC6 := Hid.mk C6
  clear C6
  obtain ⟨OL, hOL⟩ : ∃ OL, OL = ((List.range (T + 1)).map fun t => outTo co cs n R f c T t cs.size) := ⟨_, rfl⟩
  have HOL := Hid.mk hOL
  have OLL : Hid (OL.length = T + 1) := by unfold Hid; rw [hOL]; simp
  have OLT : Hid (∀ t, t < OL.length → OL.getD t [] = outTo co cs n R f c T t cs.size) := by
    unfold Hid
    intro t ht
    have ht2 : t < T + 1 := by rw [← OLL.out]; exact ht
    rw [hOL]
    simp [List.getD, ht2]
  have RL : Hid (Calls Tryd.prog 26 #[.agg #[Value.int IntKind.i64 ro, Value.int IntKind.i64 co, Value.string cs, .slice (some ⟨b, off, none⟩) m cap, Value.int IntKind.i64 bu], .int .i64 (k : Nat), .slice ar n capr, .int .i64 (T : Nat)] w6 fun e w' =>
      ((∃ v, e = .returned (.tuple #[v, .int .i64 0]) ∧ PlanQ w' v OL ∧ ∀ t, t ≤ T → outTo co cs n R f c T t cs.size ≠ []) ∨
        (e = .returned (.tuple #[.slice none 0 0, .int .i64 9]) ∧ ∃ t, t ≤ T ∧ outTo co cs n R f c T t cs.size = [])) ∧ Below w6.heap.size w6 w') := by
    rw [hOL]
    exact rlayers_ok ro co bu cs b off m cap fr tt k f c T ar n capr R w6 hs hmm hnm hT HC6.out HL6.out HE.out hf hc hfN hcN
  clear hOL
  go_wp2_with fail
  refine RL.out.mono ?_
  rintro e w7 ⟨hcase, hb7⟩
  have hB7 := Hid.mk hb7
  have HB : Hid (Below w.heap.size w w7) := hB1.out.trans ((hB2.out.trans ((hB3.out.trans ((hB4.out.trans ((hB5.out.trans ((hB6.out.trans (hB7.out.mono (by omega))).mono (by omega))).mono (by omega))).mono (by omega))).mono (by omega))).mono (by omega))
  have hz7 : w6.heap.size ≤ w7.heap.size := hb7.size
  clear y6 hb7
  rcases hcase with ⟨vb, rfl, hpq, hful⟩ | ⟨rfl, hno⟩
  · have FUL := Hid.mk hful
    have PB := Hid.mk hpq
    have HX : Hid (layO co cs n R f c T = some OL) := by
      rw [HOL.out]
      exact lay_full RB.out FF.out FC.out hs36 FUL.out
    have NE : Hid (∀ t, t < OL.length → OL.getD t [] ≠ []) := fun t ht => by
      rw [OLT.out t ht]
      exact FUL.out t (by have := OLL.out; omega)
    have LE : Hid (∀ t, t < OL.length → (OL.getD t []).length ≤ 36) := fun t ht => by
      rw [OLT.out t ht]
      exact Nat.le_trans outTo_len hs36
    clear hful hpq
    rcases RES1.out with ⟨e, _⟩ | ⟨Ls1, e, rfl, hlo1⟩
    · rw [HX.out] at e; cases e
    rw [HX.out] at e
    cases e
    rcases RES2.out with ⟨e, _⟩ | ⟨Ls2, e, rfl, hlo2⟩
    · rw [HX.out] at e; cases e
    rw [HX.out] at e
    cases e
    obtain ⟨ga, hha, na, ca, hva, ra, _⟩ := hlo1.rows NE.out (fun t ht => by have := LE.out t ht; omega)
    obtain ⟨gc, hhc, nc, cq, hvc, rc, _⟩ := hlo2.rows NE.out (fun t ht => by have := LE.out t ht; omega)
    have LO1 := Hid.mk hlo1
    have LO2 := Hid.mk hlo2
    have LA7 : Hid (ListsOwn w7 w2.heap.size _ OL) := (((hlo1.below hB4.out).below hB5.out).below hB6.out).below hB7.out
    have LC7 : Hid (ListsOwn w7 w3.heap.size _ OL) := ((hlo2.below hB5.out).below hB6.out).below hB7.out
    have RA7 : Hid (Rows w7 w2.heap.size w3.heap.size ga OL.length hha na ca (fun t => qi (OL.getD t []))) := (((ra.below hB4.out).below hB5.out).below hB6.out).below hB7.out
    have RC7 : Hid (Rows w7 w3.heap.size w4.heap.size gc OL.length hhc nc cq (fun t => qi (OL.getD t []))) := ((rc.below hB5.out).below hB6.out).below hB7.out
    have hKb : OL.length ≤ 61 := by have := OLL.out; omega
    have hKp : 0 < OL.length := by have := OLL.out; omega
    have hz70 : w.heap.size ≤ w7.heap.size := by omega
    have hz47 : w4.heap.size ≤ w7.heap.size := by omega
    have hz20 : w.heap.size ≤ w2.heap.size := by omega
    clear hlo1 hlo2 ra rc
    cases hva
    cases hvc
    go_wp2_with fail
    refine (samePlans_q _ _ OL _ (by omega) (fun t ht => by have := LE.out t ht; omega) LA7.out.planQ PB.out).mono ?_
    rintro e w8 ⟨rfl, hb8⟩
    have hB8 := Hid.mk hb8
    have hz8 : w7.heap.size ≤ w8.heap.size := hb8.size
    clear hb8
    go_wp2_with fail
    refine (samePlans_q _ _ OL _ (by omega) (fun t ht => by have := LE.out t ht; omega) (LC7.out.below hB8.out).planQ (PB.out.below hB8.out)).mono ?_
    rintro e w9 ⟨rfl, hb9⟩
    have hB9 := Hid.mk hb9
    have hz9 : w8.heap.size ≤ w9.heap.size := hb9.size
    clear hb9
    go_wp2_with fail
    refine (both_any w2.heap.size w3.heap.size w3.heap.size w4.heap.size OL.length ga gc hha na ca hhc nc cq _ _ w9 hKp (by omega) ((RA7.out.below hB8.out).below hB9.out) ((RC7.out.below hB8.out).below hB9.out) (Nat.le_refl _) (by omega)).mono ?_
    rintro e w10 ⟨rfl, hb10⟩
    have HBX : Hid (Below w.heap.size w w10) := HB.out.trans ((hB8.out.mono (by omega)).trans ((hB9.out.mono (by omega)).trans (hb10.mono (by omega))))
    clear hb10
    go_wp2_with fail
    refine (num_any _ _).mono ?_
    rintro e w11 ⟨rfl, hw11⟩
    have hw11 := hw11.symm
    subst hw11
    go_wp2_with fail
    refine (num_any _ _).mono ?_
    rintro e w11 ⟨rfl, hw11⟩
    have hw11 := hw11.symm
    subst hw11
    go_wp2
    go_ret
    exact ⟨rfl, HBX.out⟩
  · have HX : Hid (layO co cs n R f c T = none) := lay_none RB.out FF.out FC.out hno
    clear hno
    have hr1 := RES1.out.resolve_right (by rintro ⟨Ls, e, _⟩; rw [HX.out] at e; cases e)
    obtain ⟨_, rfl, rfl, rfl, rfl⟩ := hr1
    have hr2 := RES2.out.resolve_right (by rintro ⟨Ls, e, _⟩; rw [HX.out] at e; cases e)
    obtain ⟨_, rfl, rfl, rfl, rfl⟩ := hr2
    have hz70 : w.heap.size ≤ w7.heap.size := by omega
    go_wp2_with fail
    refine (samePlans_q _ _ [] _ (by simp) (fun t ht => absurd ht (by simp)) (planQ_nil _) (planQ_nil _)).mono ?_
    rintro e w8 ⟨rfl, hb8⟩
    have hB8 := Hid.mk hb8
    have hz8 : w7.heap.size ≤ w8.heap.size := hb8.size
    clear hb8
    go_wp2_with fail
    refine (samePlans_q _ _ [] _ (by simp) (fun t ht => absurd ht (by simp)) (planQ_nil _) (planQ_nil _)).mono ?_
    rintro e w9 ⟨rfl, hb9⟩
    have hB9 := Hid.mk hb9
    have hz9 : w8.heap.size ≤ w9.heap.size := hb9.size
    clear hb9
    go_wp2_with fail
    refine (both_nil _).mono ?_
    rintro e w10 ⟨rfl, hb10⟩
    have HBX : Hid (Below w.heap.size w w10) := HB.out.trans ((hB8.out.mono (by omega)).trans ((hB9.out.mono (by omega)).trans (hb10.mono (by omega))))
    clear hb10
    go_wp2_with fail
    refine (num_any _ _).mono ?_
    rintro e w11 ⟨rfl, hw11⟩
    have hw11 := hw11.symm
    subst hw11
    go_wp2_with fail
    refine (num_any _ _).mono ?_
    rintro e w11 ⟨rfl, hw11⟩
    have hw11 := hw11.symm
    subst hw11
    go_wp2
    go_ret
    exact ⟨rfl, HBX.out⟩

end Go.Proofs.YtnkgpinadgacgaaDoor
