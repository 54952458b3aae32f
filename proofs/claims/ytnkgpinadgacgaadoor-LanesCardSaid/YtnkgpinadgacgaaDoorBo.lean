/- Walk of Alones: the law answers true. -/
import Derived.Test.YtnkgpinadgacgaaDoorBn
import Derived.Test.YtnkgpinadgacgaaDoorBh
namespace Go.Proofs.YtnkgpinadgacgaaDoor
open Go.RowKit M

theorem apart_paths (B P ga gc N : Nat) (pa pc : Nat → Nat) (w : World) (hN : N ≤ 1000) (hac : ga ≠ gc) (hPa : P ≠ ga) (hPc : P ≠ gc) (hBa : B ≤ ga) (hBc : B ≤ gc) (hBw : B ≤ w.heap.size) (hPl : P < w.heap.size)
    (p0 : w.cell? ⟨P, 0, none⟩ = some (.slice (some ⟨ga, 0, none⟩) N N)) (p1 : w.cell? ⟨P, 1, none⟩ = some (.slice (some ⟨gc, 0, none⟩) N N))
    (h1 : w.rowIs ga 3 N (natV pa)) (h2 : w.rowIs gc 3 N (natV pc)) :
    Calls Tryd.prog 18 #[.slice (some ⟨P, 0, none⟩) 2 2] w fun e w' => e = .returned (.bool true) ∧ Below B w w' :=
  apart_rows B P ga gc N (fun i => pa i) (fun i => pc i) w hN hac hPa hPc hBa hBc hBw hPl p0 p1 h1 h2

/-- What both calls of Alone and Least tell fits together. -/
theorem found_least {co : Int} {cs : ByteArray} {n : Nat} {R : Nat → RuleM} {f c T T2 : Nat} {p : Nat → Nat} (h : Found co cs n R f c (some (T, p))) (h1 : hitM co cs n R f c T2 = true) (h2 : ∀ j, j < T2 → hitM co cs n R f c j = false) : T = T2 ∧ T ≤ 60 + cs.size ∧ PathOK co cs n R f c T p := by
  obtain ⟨hT, hh, hok, hl⟩ := h.hit
  refine ⟨?_, hT, hok⟩
  have h3 := hl T2 h1
  by_cases e : T < T2
  · rw [h2 T e] at hh; cases hh
  · omega

theorem found_far {co : Int} {cs : ByteArray} {n : Nat} {R : Nat → RuleM} {f c T : Nat} {p : Nat → Nat} (h : Found co cs n R f c (some (T, p))) (h2 : ∀ j, j < 62 + cs.size → hitM co cs n R f c j = false) : False := by
  obtain ⟨hT, hh, _, _⟩ := h.hit
  rw [h2 T (by omega)] at hh; cases hh

theorem found_no {co : Int} {cs : ByteArray} {n : Nat} {R : Nat → RuleM} {f c T : Nat} (h : Found co cs n R f c none) (h1 : hitM co cs n R f c T = true) : False := by
  rw [h.miss T] at h1; cases h1

set_option maxRecDepth 100000 in
set_option maxHeartbeats 4000000 in
theorem alones_err (ro co bu : Int) (cs : ByteArray) (a : Option Addr) (m cap : Nat) (fr tt : Nat → Int) (k : Int) (ar : Option Addr) (n capr : Nat) (R : Nat → RuleM) (w : World) (hs : cs.size ≤ maxLen) (hm : m * 16 ≤ 140737488351232) (hn : n * 32 ≤ 140737488351232)
    (ha : 0 < m → ∃ b off, a = some ⟨b, off, none⟩ ∧ CartsIn w b off m fr tt) (har : RulesAt w ar n R) (he : givenE ro co bu cs m fr tt k n R ≠ 0) :
    Calls Tryd.prog 4 #[.agg #[.int .i64 ro, .int .i64 co, .string cs, .slice a m cap, .int .i64 bu], .int .i64 k, .slice ar n capr] w fun e w' =>
      e = .returned (.bool true) ∧ Below w.heap.size w w' := by
  have hmm : m ≤ maxLen := by unfold maxLen; omega
  have hnm : n ≤ maxLen := by unfold maxLen; omega
  have HA := Hid.mk ha
  have HAR := Hid.mk har
  have HE := Hid.mk he
  have HB0 : Hid (∀ (w : World) (o : Obj), Below w.heap.size w (w.alloc o)) := fun w _ => (Below.refl _ w).alloc (Nat.le_refl _) _
  clear ha har he
  go_enter Tryd.func4, Tryd.ntmps4
  go_wp2_with fail
  refine (handed_any _ _ _ _ _ _ _ fr tt _ hm (by exact opt_below HA.out (HB0.out _ _))).mono ?_
  rintro e w1 ⟨g, rfl, hg, hrow, hb1⟩
  have y1 : ∀ o, w1.cell? ⟨w.heap.size, o, none⟩ = #[Value.int .i64 ro, .int .i64 co, .string cs, .slice a m cap, .int .i64 bu][o]? := by
    intro o
    rw [hb1.cell (p := ⟨w.heap.size, o, none⟩) (by show w.heap.size < _; simp)]; go_simp
  have hB1 : Hid (Below w.heap.size w w1) := (HB0.out _ _).trans (hb1.mono (by simp))
  have hz1 : w.heap.size < w1.heap.size := by have := hb1.size; simp at this; omega
  have HR := Hid.mk hrow
  have HA1 := Hid.mk (opt_below HA.out hB1.out)
  have HL1 := Hid.mk (HAR.out.below hB1.out)
  clear hrow hb1
  go_wp2_with fail
  refine (handedRules_any _ _ _ R _ hn (HL1.out.below (HB0.out _ _))).mono ?_
  rintro e w2 ⟨gr, rfl, hgr, hrr, hb2⟩
  have hB2 : Hid (Below w1.heap.size w1 w2) := (HB0.out _ _).trans (hb2.mono (by simp))
  have y2 : ∀ o, w2.cell? ⟨w.heap.size, o, none⟩ = #[Value.int .i64 ro, .int .i64 co, .string cs, .slice a m cap, .int .i64 bu][o]? := fun o => (hB2.out.cell (p := ⟨w.heap.size, o, none⟩) hz1).trans (y1 o)
  have h2 : ∀ o, w2.cell? ⟨w1.heap.size, o, none⟩ = #[Value.int .i64 ro, .int .i64 co, .string cs, .slice (some ⟨g, 0, none⟩) m (m + 8), .int .i64 bu][o]? := by
    intro o
    rw [hb2.cell (p := ⟨w1.heap.size, o, none⟩) (by show w1.heap.size < _; simp)]; go_simp
  have hz2 : w1.heap.size < w2.heap.size := by have := hb2.size; simp at this; omega
  have HR2 := Hid.mk (rowIs_below HR.out hB2.out)
  have HRR2 := Hid.mk hrr
  have HA2 := Hid.mk (opt_below HA1.out hB2.out)
  have HL2 := Hid.mk (HL1.out.below hB2.out)
  clear y1 hb2 hrr
  go_wp2_with fail
  refine (alone_err _ _ _ _ _ _ _ fr tt k _ _ _ R _ hs hmm (by omega) hnm (by exact fun _ => ⟨g, 0, rfl, row_carts HR2.out⟩) (fun _ => ⟨gr, 0, rfl, row_rules HRR2.out⟩) HE.out).mono ?_
  rintro e w3 ⟨rfl, hb3⟩
  have hB3 := Hid.mk hb3
  have y3 : ∀ o, w3.cell? ⟨w.heap.size, o, none⟩ = #[Value.int .i64 ro, .int .i64 co, .string cs, .slice a m cap, .int .i64 bu][o]? := fun o => (hb3.cell (p := ⟨w.heap.size, o, none⟩) (by show w.heap.size < _; omega)).trans (y2 o)
  have h3 : ∀ o, w3.cell? ⟨w1.heap.size, o, none⟩ = #[Value.int .i64 ro, .int .i64 co, .string cs, .slice (some ⟨g, 0, none⟩) m (m + 8), .int .i64 bu][o]? := fun o => (hb3.cell (p := ⟨w1.heap.size, o, none⟩) (by show w1.heap.size < _; omega)).trans (h2 o)
  have hz3 : w2.heap.size ≤ w3.heap.size := hb3.size
  have HR3 := Hid.mk (rowIs_below HR2.out hb3)
  have HRR3 := Hid.mk (rowIs_below HRR2.out hb3)
  have HA3 := Hid.mk (opt_below HA2.out hb3)
  have HL3 := Hid.mk (HL2.out.below hb3)
  clear y2 h2 hb3
  go_wp2_with fail
  refine (alone_err _ _ _ _ _ _ _ fr tt k _ _ _ R _ hs hmm (by omega) hnm (by exact fun _ => ⟨g, 0, rfl, row_carts HR3.out⟩) (fun _ => ⟨gr, 0, rfl, row_rules HRR3.out⟩) HE.out).mono ?_
  rintro e w4 ⟨rfl, hb4⟩
  have hB4 := Hid.mk hb4
  have y4 : ∀ o, w4.cell? ⟨w.heap.size, o, none⟩ = #[Value.int .i64 ro, .int .i64 co, .string cs, .slice a m cap, .int .i64 bu][o]? := fun o => (hb4.cell (p := ⟨w.heap.size, o, none⟩) (by show w.heap.size < _; omega)).trans (y3 o)
  have h4 : ∀ o, w4.cell? ⟨w1.heap.size, o, none⟩ = #[Value.int .i64 ro, .int .i64 co, .string cs, .slice (some ⟨g, 0, none⟩) m (m + 8), .int .i64 bu][o]? := fun o => (hb4.cell (p := ⟨w1.heap.size, o, none⟩) (by show w1.heap.size < _; omega)).trans (h3 o)
  have hz4 : w3.heap.size ≤ w4.heap.size := hb4.size
  have HR4 := Hid.mk (rowIs_below HR3.out hb4)
  have HRR4 := Hid.mk (rowIs_below HRR3.out hb4)
  have HA4 := Hid.mk (opt_below HA3.out hb4)
  have HL4 := Hid.mk (HL3.out.below hb4)
  clear y3 h3 hb4
  go_wp2_with fail
  refine (still_any _ _ _ _ _ _ _ _ fr tt _ hm (by exact HA4.out) (by exact HR4.out)).mono ?_
  rintro e w5 ⟨rfl, hb5⟩
  have hB5 := Hid.mk hb5
  have y5 : ∀ o, w5.cell? ⟨w.heap.size, o, none⟩ = #[Value.int .i64 ro, .int .i64 co, .string cs, .slice a m cap, .int .i64 bu][o]? := fun o => (hb5.cell (p := ⟨w.heap.size, o, none⟩) (by show w.heap.size < _; omega)).trans (y4 o)
  have hz5 : w4.heap.size ≤ w5.heap.size := hb5.size
  have HRR5 := Hid.mk (rowIs_below HRR4.out hb5)
  have HA5 := Hid.mk (opt_below HA4.out hb5)
  have HL5 := Hid.mk (HL4.out.below hb5)
  clear y4 h4 hb5
  go_wp2_with fail
  refine (stillRules_any _ _ _ _ R _ hn HL5.out HRR5.out).mono ?_
  rintro e w6 ⟨rfl, hb6⟩
  have hB6 := Hid.mk hb6
  have y6 : ∀ o, w6.cell? ⟨w.heap.size, o, none⟩ = #[Value.int .i64 ro, .int .i64 co, .string cs, .slice a m cap, .int .i64 bu][o]? := fun o => (hb6.cell (p := ⟨w.heap.size, o, none⟩) (by show w.heap.size < _; omega)).trans (y5 o)
  have hz6 : w5.heap.size ≤ w6.heap.size := hb6.size
  have HA6 := Hid.mk (opt_below HA5.out hb6)
  have HL6 := Hid.mk (HL5.out.below hb6)
  clear y5 hb6
  go_wp2_with fail
  refine (least_err _ _ _ _ _ _ _ fr tt k _ _ _ R _ hs hmm hnm HA6.out HL6.out HE.out).mono ?_
  rintro e w7 ⟨rfl, hb7⟩
  have hB7 := Hid.mk hb7
  have HB : Hid (Below w.heap.size w w7) := hB1.out.trans ((hB2.out.trans ((hB3.out.trans ((hB4.out.trans ((hB5.out.trans ((hB6.out.trans (hB7.out.mono (by omega))).mono (by omega))).mono (by omega))).mono (by omega))).mono (by omega))).mono (by omega))
  clear y6 hb7
  obtain ⟨E, hE⟩ : ∃ E, E = givenE ro co bu cs m fr tt k n R := ⟨_, rfl⟩
  rw [← hE]
  have hE' : (E != 0) = true := by have := HE.out; rw [← hE] at this; simpa using this
  have hEE : (E != E) = false := by simp
  clear hE
  go_wp2_with fail
  refine (num_any _ _).mono ?_
  rintro e w8 ⟨rfl, hw8⟩
  have hw8 := hw8.symm
  subst hw8
  go_wp2_with fail
  refine (num_any _ _).mono ?_
  rintro e w9 ⟨rfl, hw9⟩
  have hw9 := hw9.symm
  subst hw9
  go_wp2
  go_ret
  exact ⟨rfl, HB.out⟩

/-- What Alone's answer is. -/
def Res (w w' : World) (co : Int) (cs : ByteArray) (n : Nat) (R : Nat → RuleM) (f c : Nat) (av : Option Addr) (nv : Nat) (ev : Int) : Prop :=
  (av = none ∧ nv = 0 ∧ ev = 9 ∧ Found co cs n R f c none) ∨ ∃ T p g, av = some ⟨g, 0, none⟩ ∧ nv = T + 1 ∧ ev = 0 ∧ Found co cs n R f c (some (T, p)) ∧ w.heap.size ≤ g ∧ w'.rowIs g 3 (T + 1) (natV p)

theorem alone_uni (ro co bu : Int) (cs : ByteArray) (b off m cap : Nat) (fr tt : Nat → Int) (k f c : Nat) (ar : Option Addr) (n capr : Nat) (R : Nat → RuleM) (w : World) (hcap : m ≤ cap) (hn : n ≤ maxLen) (hsd : SidesIn w)
    (hcs : CartsIn w b off m fr tt) (har : RulesAt w ar n R) (hwf : RulesWf n R) (he : givenE ro co bu cs m fr tt k n R = 0) (hf : fr k = (f : Int)) (hc : tt k = (c : Int)) :
    Calls Tryd.prog 21 #[.agg #[.int .i64 ro, .int .i64 co, .string cs, .slice (some ⟨b, off, none⟩) m cap, .int .i64 bu], .int .i64 k, .slice ar n capr] w fun e w' =>
      (∃ av nv ev, e = .returned (.tuple #[.slice av nv nv, .int .i64 ev]) ∧ Res w w' co cs n R f c av nv ev) ∧ Below w.heap.size w w' := by
  refine (alone_ok ro co bu cs b off m cap fr tt k f c ar n capr R w hcap hn hsd hcs har hwf he hf hc).mono ?_
  rintro e w' ⟨h | ⟨T, p, g, h1, h2, h3, h4⟩, hb⟩
  · exact ⟨⟨none, 0, 9, h.1, Or.inl ⟨rfl, rfl, rfl, h.2⟩⟩, hb⟩
  · exact ⟨⟨_, _, 0, h1, Or.inr ⟨T, p, g, rfl, rfl, rfl, h2, h3, h4⟩⟩, hb⟩

def Cost (co : Int) (cs : ByteArray) (n : Nat) (R : Nat → RuleM) (f c : Nat) (cv ev : Int) : Prop :=
  (∃ T : Nat, T < 62 + cs.size ∧ cv = T ∧ ev = 0 ∧ hitM co cs n R f c T = true ∧ ∀ j, j < T → hitM co cs n R f c j = false) ∨ (cv = 0 ∧ ev = 9 ∧ ∀ j, j < 62 + cs.size → hitM co cs n R f c j = false)

theorem least_uni (ro co bu : Int) (cs : ByteArray) (a : Option Addr) (m cap : Nat) (fr tt : Nat → Int) (k f c : Nat) (ar : Option Addr) (n capr : Nat) (R : Nat → RuleM) (w : World) (hs : cs.size ≤ maxLen) (hm : m ≤ maxLen) (hn : n ≤ maxLen)
    (ha : 0 < m → ∃ b off, a = some ⟨b, off, none⟩ ∧ CartsIn w b off m fr tt) (har : RulesAt w ar n R) (he : givenE ro co bu cs m fr tt k n R = 0) (hf : fr k = (f : Int)) (hc : tt k = (c : Int)) (hfN : f < cs.size) (hcN : c < cs.size) :
    Calls Tryd.prog 23 #[.agg #[.int .i64 ro, .int .i64 co, .string cs, .slice a m cap, .int .i64 bu], .int .i64 k, .slice ar n capr] w fun e w' =>
      (∃ cv ev, e = .returned (.tuple #[.int .i64 cv, .int .i64 ev]) ∧ Cost co cs n R f c cv ev) ∧ Below w.heap.size w w' := by
  refine (least_ok ro co bu cs a m cap fr tt k f c ar n capr R w hs hm hn ha har he hf hc hfN hcN).mono ?_
  rintro e w' ⟨⟨T, h0, h1, h2, h3⟩ | ⟨h1, h2⟩, hb⟩
  · exact ⟨⟨_, 0, h1, Or.inl ⟨T, h0, rfl, rfl, h2, h3⟩⟩, hb⟩
  · exact ⟨⟨0, 9, h1, Or.inr ⟨rfl, rfl, h2⟩⟩, hb⟩

set_option maxRecDepth 100000 in
set_option maxHeartbeats 4000000 in
theorem alones_ok (ro co bu : Int) (cs : ByteArray) (b off m cap : Nat) (fr tt : Nat → Int) (k f c : Nat) (ar : Option Addr) (n capr : Nat) (R : Nat → RuleM) (w : World) (hm : m * 16 ≤ 140737488351232) (hn : n * 32 ≤ 140737488351232) (hsd : SidesIn w)
    (hcs : CartsIn w b off m fr tt) (har : RulesAt w ar n R) (hwf : RulesWf n R) (he : givenE ro co bu cs m fr tt k n R = 0) (hf : fr k = (f : Int)) (hc : tt k = (c : Int)) :
    Calls Tryd.prog 4 #[.agg #[.int .i64 ro, .int .i64 co, .string cs, .slice (some ⟨b, off, none⟩) m cap, .int .i64 bu], .int .i64 k, .slice ar n capr] w fun e w' =>
      e = .returned (.bool true) ∧ Below w.heap.size w w' := by
  have hmm : m ≤ maxLen := by unfold maxLen; omega
  have hnm : n ≤ maxLen := by unfold maxLen; omega
  obtain ⟨g1, g2, g3, g4⟩ := given_side he
  obtain ⟨s1, s2, s3⟩ := checkM_good g1
  obtain ⟨r1, r2⟩ := side_bd s1
  obtain ⟨r3, r4⟩ := side_bd s2
  obtain ⟨hp1, hp2⟩ := mul_bd r1 r2 r3 r4
  have hs36 : cs.size ≤ 36 := by omega
  have hs : cs.size ≤ maxLen := by unfold maxLen; omega
  obtain ⟨hm4, hfree⟩ := carts_free g1
  have hkm : k < m := by omega
  obtain ⟨ff, fc⟩ := hfree k hkm
  rw [hf] at ff
  rw [hc] at fc
  have hfN := free_lt ff
  have hcN := free_lt fc
  have HA : Hid (0 < m → ∃ b' off', (some ⟨b, off, none⟩ : Option Addr) = some ⟨b', off', none⟩ ∧ CartsIn w b' off' m fr tt) := fun _ => ⟨b, off, rfl, hcs⟩
  have HAR := Hid.mk har
  have HWF := Hid.mk hwf
  have HSD := Hid.mk hsd
  have HE := Hid.mk he
  have HB0 : Hid (∀ (w : World) (o : Obj), Below w.heap.size w (w.alloc o)) := fun w _ => (Below.refl _ w).alloc (Nat.le_refl _) _
  clear hcs har hwf hsd he g1 g2 g3 g4 s1 s2 s3 hp1 hp2 hfree ff fc
  go_enter Tryd.func4, Tryd.ntmps4
  go_wp2_with fail
  refine (handed_any _ _ _ _ _ _ _ fr tt _ hm (by exact opt_below HA.out (HB0.out _ _))).mono ?_
  rintro e w1 ⟨g, rfl, hg, hrow, hb1⟩
  have y1 : ∀ o, w1.cell? ⟨w.heap.size, o, none⟩ = #[Value.int .i64 ro, .int .i64 co, .string cs, .slice (some ⟨b, off, none⟩) m cap, .int .i64 bu][o]? := by
    intro o
    rw [hb1.cell (p := ⟨w.heap.size, o, none⟩) (by show w.heap.size < _; simp)]; go_simp
  have hB1 : Hid (Below w.heap.size w w1) := (HB0.out _ _).trans (hb1.mono (by simp))
  have hz1 : w.heap.size < w1.heap.size := by have := hb1.size; simp at this; omega
  have HR := Hid.mk hrow
  have HA1 := Hid.mk (opt_below HA.out hB1.out)
  have HL1 := Hid.mk (HAR.out.below hB1.out)
  have HS1 := Hid.mk (HSD.out.below hB1.out)
  clear hrow hb1
  go_wp2_with fail
  refine (handedRules_any _ _ _ R _ hn (HL1.out.below (HB0.out _ _))).mono ?_
  rintro e w2 ⟨gr, rfl, hgr, hrr, hb2⟩
  have hB2 : Hid (Below w1.heap.size w1 w2) := (HB0.out _ _).trans (hb2.mono (by simp))
  have y2 : ∀ o, w2.cell? ⟨w.heap.size, o, none⟩ = #[Value.int .i64 ro, .int .i64 co, .string cs, .slice (some ⟨b, off, none⟩) m cap, .int .i64 bu][o]? := fun o => (hB2.out.cell (p := ⟨w.heap.size, o, none⟩) hz1).trans (y1 o)
  have h2 : ∀ o, w2.cell? ⟨w1.heap.size, o, none⟩ = #[Value.int .i64 ro, .int .i64 co, .string cs, .slice (some ⟨g, 0, none⟩) m (m + 8), .int .i64 bu][o]? := by
    intro o
    rw [hb2.cell (p := ⟨w1.heap.size, o, none⟩) (by show w1.heap.size < _; simp)]; go_simp
  have hz2 : w1.heap.size < w2.heap.size := by have := hb2.size; simp at this; omega
  have HR2 := Hid.mk (rowIs_below HR.out hB2.out)
  have HRR2 := Hid.mk hrr
  have HA2 := Hid.mk (opt_below HA1.out hB2.out)
  have HL2 := Hid.mk (HL1.out.below hB2.out)
  have HS2 := Hid.mk (HS1.out.below hB2.out)
  clear y1 hb2 hrr
  go_wp2_with fail
  refine (alone_uni _ _ _ _ g 0 _ _ fr tt k f c _ _ _ R _ (by omega) hnm HS2.out (row_carts HR2.out) (fun _ => ⟨gr, 0, rfl, row_rules HRR2.out⟩) HWF.out HE.out hf hc).mono ?_
  rintro e w3 ⟨⟨a1, n1, e1, rfl, hres1⟩, hb3⟩
  have RES1 := Hid.mk hres1
  have hB3 := Hid.mk hb3
  have y3 : ∀ o, w3.cell? ⟨w.heap.size, o, none⟩ = #[Value.int .i64 ro, .int .i64 co, .string cs, .slice (some ⟨b, off, none⟩) m cap, .int .i64 bu][o]? := fun o => (hb3.cell (p := ⟨w.heap.size, o, none⟩) (by show w.heap.size < _; omega)).trans (y2 o)
  have h3 : ∀ o, w3.cell? ⟨w1.heap.size, o, none⟩ = #[Value.int .i64 ro, .int .i64 co, .string cs, .slice (some ⟨g, 0, none⟩) m (m + 8), .int .i64 bu][o]? := fun o => (hb3.cell (p := ⟨w1.heap.size, o, none⟩) (by show w1.heap.size < _; omega)).trans (h2 o)
  have hz3 : w2.heap.size ≤ w3.heap.size := hb3.size
  have HR3 := Hid.mk (rowIs_below HR2.out hb3)
  have HRR3 := Hid.mk (rowIs_below HRR2.out hb3)
  have HA3 := Hid.mk (opt_below HA2.out hb3)
  have HL3 := Hid.mk (HL2.out.below hb3)
  have HS3 := Hid.mk (HS2.out.below hb3)
  clear y2 h2 hb3 hres1
  go_wp2_with fail
  refine (alone_uni _ _ _ _ g 0 _ _ fr tt k f c _ _ _ R _ (by omega) hnm HS3.out (row_carts HR3.out) (fun _ => ⟨gr, 0, rfl, row_rules HRR3.out⟩) HWF.out HE.out hf hc).mono ?_
  rintro e w4 ⟨⟨a2, n2, e2, rfl, hres2⟩, hb4⟩
  have RES2 := Hid.mk hres2
  have hB4 := Hid.mk hb4
  have y4 : ∀ o, w4.cell? ⟨w.heap.size, o, none⟩ = #[Value.int .i64 ro, .int .i64 co, .string cs, .slice (some ⟨b, off, none⟩) m cap, .int .i64 bu][o]? := fun o => (hb4.cell (p := ⟨w.heap.size, o, none⟩) (by show w.heap.size < _; omega)).trans (y3 o)
  have h4 : ∀ o, w4.cell? ⟨w1.heap.size, o, none⟩ = #[Value.int .i64 ro, .int .i64 co, .string cs, .slice (some ⟨g, 0, none⟩) m (m + 8), .int .i64 bu][o]? := fun o => (hb4.cell (p := ⟨w1.heap.size, o, none⟩) (by show w1.heap.size < _; omega)).trans (h3 o)
  have hz4 : w3.heap.size ≤ w4.heap.size := hb4.size
  have HR4 := Hid.mk (rowIs_below HR3.out hb4)
  have HRR4 := Hid.mk (rowIs_below HRR3.out hb4)
  have HA4 := Hid.mk (opt_below HA3.out hb4)
  have HL4 := Hid.mk (HL3.out.below hb4)
  clear y3 h3 hb4 hres2
  go_wp2_with fail
  refine (still_any _ _ _ _ _ _ _ _ fr tt _ hm (by exact HA4.out) (by exact HR4.out)).mono ?_
  rintro e w5 ⟨rfl, hb5⟩
  have hB5 := Hid.mk hb5
  have y5 : ∀ o, w5.cell? ⟨w.heap.size, o, none⟩ = #[Value.int .i64 ro, .int .i64 co, .string cs, .slice (some ⟨b, off, none⟩) m cap, .int .i64 bu][o]? := fun o => (hb5.cell (p := ⟨w.heap.size, o, none⟩) (by show w.heap.size < _; omega)).trans (y4 o)
  have hz5 : w4.heap.size ≤ w5.heap.size := hb5.size
  have HRR5 := Hid.mk (rowIs_below HRR4.out hb5)
  have HA5 := Hid.mk (opt_below HA4.out hb5)
  have HL5 := Hid.mk (HL4.out.below hb5)
  clear y4 h4 hb5
  go_wp2_with fail
  refine (stillRules_any _ _ _ _ R _ hn HL5.out HRR5.out).mono ?_
  rintro e w6 ⟨rfl, hb6⟩
  have hB6 := Hid.mk hb6
  have y6 : ∀ o, w6.cell? ⟨w.heap.size, o, none⟩ = #[Value.int .i64 ro, .int .i64 co, .string cs, .slice (some ⟨b, off, none⟩) m cap, .int .i64 bu][o]? := fun o => (hb6.cell (p := ⟨w.heap.size, o, none⟩) (by show w.heap.size < _; omega)).trans (y5 o)
  have hz6 : w5.heap.size ≤ w6.heap.size := hb6.size
  have HA6 := Hid.mk (opt_below HA5.out hb6)
  have HL6 := Hid.mk (HL5.out.below hb6)
  clear y5 hb6
  go_wp2_with fail
  refine (least_uni _ _ _ _ _ _ _ fr tt k f c _ _ _ R _ hs hmm hnm HA6.out HL6.out HE.out hf hc hfN hcN).mono ?_
  rintro e w7 ⟨⟨cv, e3, rfl, hres3⟩, hb7⟩
  have RES3 := Hid.mk hres3
  have hB7 := Hid.mk hb7
  have HB : Hid (Below w.heap.size w w7) := hB1.out.trans ((hB2.out.trans ((hB3.out.trans ((hB4.out.trans ((hB5.out.trans ((hB6.out.trans (hB7.out.mono (by omega))).mono (by omega))).mono (by omega))).mono (by omega))).mono (by omega))).mono (by omega))
  have y7 : ∀ o, w7.cell? ⟨w.heap.size, o, none⟩ = #[Value.int .i64 ro, .int .i64 co, .string cs, .slice (some ⟨b, off, none⟩) m cap, .int .i64 bu][o]? := fun o => (hb7.cell (p := ⟨w.heap.size, o, none⟩) (by show w.heap.size < _; omega)).trans (y6 o)
  have hz7 : w6.heap.size ≤ w7.heap.size := hb7.size
  have HA7 := Hid.mk (opt_below HA6.out hb7)
  have HL7 := Hid.mk (HL6.out.below hb7)
  clear y6 hb7 hres3
  have C7 : CartsIn w7 b off m fr tt := by
    obtain ⟨b', off', e, h⟩ := HA7.out (by omega)
    cases e; exact h
  have HC7 := Hid.mk C7
  clear C7
  rcases RES1.out with ⟨rfl, rfl, rfl, hf1⟩ | ⟨T1, p1, ga, rfl, rfl, rfl, hf1, hga, hra⟩
  · rcases RES2.out with ⟨rfl, rfl, rfl, hf2⟩ | ⟨T2, p2, gc, rfl, rfl, rfl, hf2, hgc, hrc⟩
    · rcases RES3.out with ⟨T, hT, rfl, rfl, hh, hl⟩ | ⟨rfl, rfl, hl⟩
      · exact absurd hh (fun h => found_no hf1 h)
      · clear hf1 hf2 hl
        go_wp2_with fail
        refine (num_any _ _).mono ?_
        rintro e w8 ⟨rfl, hw8⟩
        have hw8 := hw8.symm
        subst hw8
        go_wp2_with fail
        refine (num_any _ _).mono ?_
        rintro e w9 ⟨rfl, hw9⟩
        have hw9 := hw9.symm
        subst hw9
        go_wp2
        go_ret
        exact ⟨rfl, HB.out⟩
    · exfalso
      exact found_no hf1 hf2.hit.2.1
  · rcases RES2.out with ⟨rfl, rfl, rfl, hf2⟩ | ⟨T2, p2, gc, rfl, rfl, rfl, hf2, hgc, hrc⟩
    · exfalso
      exact found_no hf2 hf1.hit.2.1
    · rcases RES3.out with ⟨T, hT, rfl, rfl, hh, hl⟩ | ⟨rfl, rfl, hl⟩
      · obtain ⟨t1, t2, ok1⟩ := found_least hf1 hh hl
        obtain ⟨t3, t4, ok2⟩ := found_least hf2 hh hl
        have t5 := t1.symm
        subst t5
        have t6 := t3.symm
        subst t6
        have OK1 := Hid.mk ok1
        have OK2 := Hid.mk ok2
        have hga2 : w2.heap.size ≤ ga := hga
        have hgc2 : w3.heap.size ≤ gc := hgc
        have hgal : ga < w3.heap.size := hra.lt
        have RA7 := Hid.mk (rowIs_below (rowIs_below (rowIs_below (rowIs_below hra hB4.out) hB5.out) hB6.out) hB7.out)
        have RC7 := Hid.mk (rowIs_below (rowIs_below (rowIs_below hrc hB5.out) hB6.out) hB7.out)
        clear hf1 hf2 hl hh hra hrc ok1 ok2 hga hgc t1 t3
        go_wp2_with fail
        refine (num_any _ _).mono ?_
        rintro e w8 ⟨rfl, hw8⟩
        have hw8 := hw8.symm
        subst hw8
        go_wp2_with fail
        refine (num_any _ _).mono ?_
        rintro e w9 ⟨rfl, hw9⟩
        have hw9 := hw9.symm
        subst hw9
        have hz70 : w.heap.size < w7.heap.size := by omega
        go_wp2_with fail
        refine (keeps_ok ro co bu cs b off m cap fr tt k f c ar n capr R ga _ _ p1 _ hs36 r3 r4 hnm hkm (by omega) hf hc HC7.out HL7.out (fun s hs' => RA7.out.cell (by omega)) OK1.out).mono ?_
        rintro e w8 ⟨rfl, hb8⟩
        have HB8 := Hid.mk hb8
        have y8 : ∀ o, w8.cell? ⟨w.heap.size, o, none⟩ = #[Value.int .i64 ro, .int .i64 co, .string cs, .slice (some ⟨b, off, none⟩) m cap, .int .i64 bu][o]? := fun o => (hb8.cell (p := ⟨w.heap.size, o, none⟩) hz70).trans (y7 o)
        have hz8 : w7.heap.size ≤ w8.heap.size := hb8.size
        clear y7 hb8
        go_wp2_with fail
        refine (keeps_ok ro co bu cs b off m cap fr tt k f c ar n capr R gc _ _ p2 _ hs36 r3 r4 hnm hkm (by omega) hf hc (HC7.out.below HB8.out) (HL7.out.below HB8.out) (fun s hs' => (rowIs_below RC7.out HB8.out).cell (by omega)) OK2.out).mono ?_
        rintro e w9 ⟨rfl, hb9⟩
        have HB9 := Hid.mk hb9
        have hz9 : w8.heap.size ≤ w9.heap.size := hb9.size
        have RA9 := Hid.mk (rowIs_below (rowIs_below RA7.out HB8.out) HB9.out)
        have RC9 := Hid.mk (rowIs_below (rowIs_below RC7.out HB8.out) HB9.out)
        clear y8 hb9
        go_wp2_with fail
        refine (apart_paths w.heap.size w9.heap.size ga gc (T + 1) p1 p2 _ (by omega) (by omega) (by have := RA9.out.lt; omega) (by have := RC9.out.lt; omega) (by omega) (by omega) (by simp; omega) (by simp) (by go_simp) (by go_simp) (by exact RA9.out.alloc _) (by exact RC9.out.alloc _)).mono ?_
        rintro e w10 ⟨rfl, hb10⟩
        have HB10 : Hid (Below w.heap.size w w10) := HB.out.trans ((HB8.out.mono (by omega)).trans ((HB9.out.mono (by omega)).trans (((Below.refl _ w9).alloc (by omega) _).trans hb10)))
        clear hb10
        go_wp2
        go_ret
        exact ⟨rfl, HB10.out⟩
      · exact absurd hl (fun h => found_far hf1 h)

end Go.Proofs.YtnkgpinadgacgaaDoor
