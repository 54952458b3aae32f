/- Walk of the document's Least: the least cost of a path that keeps the rules. -/
import Derived.Test.YtaldfpoolajoiaaDoorRg
namespace Go.Proofs.YtaldfpoolajoiaaDoor
open Go.RowKit M

theorem given_side {ro co bu : Int} {cs : ByteArray} {m : Nat} {fr tt : Nat → Int} {k : Int} {n : Nat} {R : Nat → RuleM} (h : givenE ro co bu cs m fr tt k n R = 0) :
    (checkM ro co cs m fr tt bu).1 = 0 ∧ 0 ≤ k ∧ k < m ∧ rulesB cs.size n R = true := by
  unfold givenE at h
  by_cases h1 : (checkM ro co cs m fr tt bu).1 = 0
  · rw [if_pos h1] at h
    by_cases h2 : 0 ≤ k ∧ k < m
    · rw [if_pos h2] at h
      by_cases h3 : rulesB cs.size n R = true
      · exact ⟨h1, h2.1, h2.2, h3⟩
      · rw [if_neg h3] at h; omega
    · rw [if_neg h2] at h; omega
  · rw [if_neg h1] at h; exact absurd h h1

theorem least_err (ro co bu : Int) (cs : ByteArray) (a : Option Addr) (m cap : Nat) (fr tt : Nat → Int) (k : Int) (ar : Option Addr) (n capr : Nat) (R : Nat → RuleM) (w : World) (hs : cs.size ≤ maxLen) (hm : m ≤ maxLen) (hn : n ≤ maxLen)
    (ha : 0 < m → ∃ b off, a = some ⟨b, off, none⟩ ∧ CartsIn w b off m fr tt) (har : RulesAt w ar n R) (he : givenE ro co bu cs m fr tt k n R ≠ 0) :
    Calls Tryd.prog 19 #[.agg #[.int .i64 ro, .int .i64 co, .string cs, .slice a m cap, .int .i64 bu], .int .i64 k, .slice ar n capr] w fun e w' =>
      e = .returned (.tuple #[.int .i64 0, .int .i64 (givenE ro co bu cs m fr tt k n R)]) ∧ Below w.heap.size w w' := by
  have HA := Hid.mk har
  have HC := Hid.mk ha
  clear har ha
  have HB0 : Hid (Below w.heap.size w (w.alloc (Obj.cells #[Value.int IntKind.i64 ro, Value.int IntKind.i64 co, Value.string cs, .slice a m cap, Value.int IntKind.i64 bu] 24))) := (Below.refl _ w).alloc (Nat.le_refl _) _
  go_enter Tryd.func19, Tryd.ntmps19
  go_wp2_with fail
  have hz0 : w.heap.size < (w.alloc (Obj.cells #[Value.int IntKind.i64 ro, Value.int IntKind.i64 co, Value.string cs, .slice a m cap, Value.int IntKind.i64 bu] 24)).heap.size := by simp
  generalize w.alloc (Obj.cells #[Value.int IntKind.i64 ro, Value.int IntKind.i64 co, Value.string cs, .slice a m cap, Value.int IntKind.i64 bu] 24) = w1 at *
  refine (given_any _ _ _ _ _ _ _ fr tt _ _ _ _ R _ hs hm hn (by exact opt_below HC.out HB0.out) (by exact HA.out.below HB0.out)).mono ?_
  rintro e w2 ⟨rfl, hb2⟩
  have HB2 : Hid (Below w.heap.size w w2) := HB0.out.trans (hb2.mono (by omega))
  have he' : (givenE ro co bu cs m fr tt k n R != 0) = true := by simpa using he
  clear he hb2
  go_wp2
  go_ret2
  exact ⟨rfl, HB2.out⟩

theorem hit_no {co : Int} {cs : ByteArray} {n : Nat} {R : Nat → RuleM} {f c t : Nat} (h : reachM co cs n R f t c = false ∨ staysM co cs n R c t = false) : hitM co cs n R f c t = false := by
  unfold hitM; rcases h with h | h <;> simp [h]

set_option maxRecDepth 100000 in
set_option maxHeartbeats 1000000 in
theorem least_ok (ro co bu : Int) (cs : ByteArray) (a : Option Addr) (m cap : Nat) (fr tt : Nat → Int) (k f c : Nat) (ar : Option Addr) (n capr : Nat) (R : Nat → RuleM) (w : World) (hs : cs.size ≤ maxLen) (hm : m ≤ maxLen) (hn : n ≤ maxLen)
    (ha : 0 < m → ∃ b off, a = some ⟨b, off, none⟩ ∧ CartsIn w b off m fr tt) (har : RulesAt w ar n R) (he : givenE ro co bu cs m fr tt k n R = 0) (hf : fr k = (f : Int)) (hc : tt k = (c : Int)) (hfN : f < cs.size) (hcN : c < cs.size) :
    Calls Tryd.prog 19 #[.agg #[.int .i64 ro, .int .i64 co, .string cs, .slice a m cap, .int .i64 bu], .int .i64 k, .slice ar n capr] w fun e w' =>
      ((∃ T : Nat, T < 62 + cs.size ∧ e = .returned (.tuple #[.int .i64 T, .int .i64 0]) ∧ hitM co cs n R f c T = true ∧ ∀ j, j < T → hitM co cs n R f c j = false) ∨
        (e = .returned (.tuple #[.int .i64 0, .int .i64 9]) ∧ ∀ j, j < 62 + cs.size → hitM co cs n R f c j = false)) ∧ Below w.heap.size w w' := by
  obtain ⟨g1, g2, g3, g4⟩ := given_side he
  have hkm : k < m := by omega
  obtain ⟨b, off, rfl, hcs⟩ := ha (by omega)
  obtain ⟨sd1, sd2, hsz⟩ := checkM_good g1
  obtain ⟨r1, r2⟩ := side_bd sd1
  obtain ⟨r3, r4⟩ := side_bd sd2
  obtain ⟨hp1, hp2⟩ := mul_bd r1 r2 r3 r4
  have hN2 : cs.size ≤ 36 := by omega
  have HA := Hid.mk har
  have HC := Hid.mk hcs
  have hmm := hm
  unfold maxLen at hm
  clear har ha hcs g1 g2 g3 g4 sd1 sd2 hsz hp1 hp2
  have HB0 : Hid (Below w.heap.size w (w.alloc (Obj.cells #[Value.int IntKind.i64 ro, Value.int IntKind.i64 co, Value.string cs, .slice (some ⟨b, off, none⟩) m cap, Value.int IntKind.i64 bu] 24))) := (Below.refl _ w).alloc (Nat.le_refl _) _
  go_enter Tryd.func19, Tryd.ntmps19
  go_wp2_with fail
  have hz0 : w.heap.size < (w.alloc (Obj.cells #[Value.int IntKind.i64 ro, Value.int IntKind.i64 co, Value.string cs, .slice (some ⟨b, off, none⟩) m cap, Value.int IntKind.i64 bu] 24)).heap.size := by simp
  have y0 : ∀ o, (w.alloc (Obj.cells #[Value.int IntKind.i64 ro, Value.int IntKind.i64 co, Value.string cs, .slice (some ⟨b, off, none⟩) m cap, Value.int IntKind.i64 bu] 24)).cell? ⟨w.heap.size, o, none⟩ = #[Value.int .i64 ro, .int .i64 co, .string cs, .slice (some ⟨b, off, none⟩) m cap, .int .i64 bu][o]? := by
    intro o; go_simp
  generalize w.alloc (Obj.cells #[Value.int IntKind.i64 ro, Value.int IntKind.i64 co, Value.string cs, .slice (some ⟨b, off, none⟩) m cap, Value.int IntKind.i64 bu] 24) = w1 at *
  refine (given_any _ _ _ _ _ _ _ fr tt _ _ _ _ R _ hs hmm hn (by exact fun _ => ⟨b, off, rfl, HC.out.below HB0.out⟩) (by exact HA.out.below HB0.out)).mono ?_
  rintro e w2 ⟨rfl, hb2⟩
  rw [he]
  have HB2 : Hid (Below w.heap.size w w2) := HB0.out.trans (hb2.mono (by omega))
  have y2 : ∀ o, w2.cell? ⟨w.heap.size, o, none⟩ = #[Value.int .i64 ro, .int .i64 co, .string cs, .slice (some ⟨b, off, none⟩) m cap, .int .i64 bu][o]? := fun o => (hb2.cell (p := ⟨w.heap.size, o, none⟩) hz0).trans (y0 o)
  have hz2 : w.heap.size < w2.heap.size := by have := hb2.size; omega
  have HC2 := Hid.mk (HC.out.below (by exact HB2.out))
  have d1 := (HC2.out k hkm).2
  rw [hc] at d1
  clear y0 hb2 he
  go_wp2_with fail
  refine (first_any _ _ _ _ _ _ _ _ fr tt k f _ _ _ R _ hN2 hn hkm hf hfN (by exact HC2.out) (by exact HA.out.below HB2.out)).mono ?_
  rintro e w3 ⟨g0, rfl, hg0, hr3, hb3⟩
  have HB3 : Hid (Below w.heap.size w w3) := HB2.out.trans (hb3.mono (by omega))
  have Y3 : Hid (∀ o, w3.cell? ⟨w.heap.size, o, none⟩ = #[Value.int .i64 ro, .int .i64 co, .string cs, .slice (some ⟨b, off, none⟩) m cap, .int .i64 bu][o]?) := fun o => (hb3.cell (p := ⟨w.heap.size, o, none⟩) hz2).trans (y2 o)
  have hz3 : w.heap.size < w3.heap.size := by have := hb3.size; omega
  have HR3 := Hid.mk hr3
  clear y2 hb3 hr3 d1
  go_wp2
  go_loopw [10, 11] (fun v s wr => ∃ t g : Nat, v = .slice (some ⟨g, 0, none⟩) cs.size cs.size ∧ t ≤ 62 + cs.size ∧ s = .int .i64 t ∧ wr.rowIs g 4 cs.size (boolV (reachM co cs n R f t)) ∧ (∀ j, j < t → hitM co cs n R f c j = false) ∧ Below w3.heap.size w3 wr) (fun _ s _ => 62 + cs.size - (intOf s).toNat)
  case atStart => exact ⟨0, g0, rfl, by omega, rfl, HR3.out.congr fun i _ => by simp [boolV, reachM], fun j hj => absurd hj (Nat.not_lt_zero j), Below.refl _ _⟩
  case round =>
    obtain ⟨t, g, rfl, ht, rfl, hrw, hno0, hbr⟩ := hrel
    have HR := Hid.mk hrw
    have HN := Hid.mk hno0
    have HB := Hid.mk hbr
    have HW : Hid (Below w.heap.size w wr) := HB3.out.trans (hbr.mono (by omega))
    have hzr := hbr.size
    have yr : ∀ o, wr.cell? ⟨w.heap.size, o, none⟩ = #[Value.int .i64 ro, .int .i64 co, .string cs, .slice (some ⟨b, off, none⟩) m cap, .int .i64 bu][o]? := fun o => (hbr.cell (p := ⟨w.heap.size, o, none⟩) hz3).trans (Y3.out o)
    clear hrw hno0 hbr
    by_cases hlt : t < 62 + cs.size
    · go_wp2_with fail
      refine (stays_any _ _ _ _ _ _ _ _ R c t _ hN2 r3 r4 hn (by omega) (by exact HA.out.below HW.out)).mono ?_
      rintro e w4 ⟨rfl, hb4⟩
      have HB4 := Hid.mk (HB.out.trans (hb4.mono hzr))
      have HW4 : Hid (Below w.heap.size w w4) := HW.out.trans (hb4.mono (by omega))
      have HR4 := Hid.mk (HR.out.of_block (hb4.block _ HR.out.lt))
      have cc := HR4.out.cell (i := c) hcN
      have y4 : ∀ o, w4.cell? ⟨w.heap.size, o, none⟩ = #[Value.int .i64 ro, .int .i64 co, .string cs, .slice (some ⟨b, off, none⟩) m cap, .int .i64 bu][o]? := fun o => (hb4.cell (p := ⟨w.heap.size, o, none⟩) (by show w.heap.size < _; omega)).trans (yr o)
      have hz4 := hb4.size
      obtain ⟨st, hst⟩ : ∃ x, x = staysM co cs n R c t := ⟨_, rfl⟩
      obtain ⟨re, hre⟩ : ∃ x, x = reachM co cs n R f t c := ⟨_, rfl⟩
      rw [show boolV (reachM co cs n R f t) c = Value.bool (reachM co cs n R f t c) from rfl, ← hre] at cc
      rw [← hst]
      have HST := Hid.mk hst
      have HRE := Hid.mk hre
      clear hst hre yr hb4
      have NO : Hid (hitM co cs n R f c t = false → ∀ j, j < t + 1 → hitM co cs n R f c j = false) := fun h => upto_step (p := fun j => hitM co cs n R f c j) h HN.out
      cases re
      · go_wp2_with fail
        refine (ahead_any _ _ _ _ _ _ _ _ R g cs.size t (reachM co cs n R f t) _ hN2 r3 r4 hn (by omega) (by exact HA.out.below HW4.out) (by exact HR4.out)).mono ?_
        rintro e w5 ⟨g5, rfl, hg5, hr5, hb5⟩
        have HR5 := Hid.mk hr5
        have HB5 := Hid.mk (HB4.out.trans (hb5.mono (by omega)))
        clear hr5 hb5 y4
        go_wp2
        go_roundw
        case rel => exact ⟨t + 1, g5, rfl, by omega, by go_num, HR5.out.congr fun i _ => by simp [boolV, reachM], NO.out (hit_no (Or.inl HRE.out.symm)), HB5.out⟩
        case measure => simp [intOf]; omega
      · cases st
        · go_wp2_with fail
          refine (ahead_any _ _ _ _ _ _ _ _ R g cs.size t (reachM co cs n R f t) _ hN2 r3 r4 hn (by omega) (by exact HA.out.below HW4.out) (by exact HR4.out)).mono ?_
          rintro e w5 ⟨g5, rfl, hg5, hr5, hb5⟩
          have HR5 := Hid.mk hr5
          have HB5 := Hid.mk (HB4.out.trans (hb5.mono (by omega)))
          clear hr5 hb5 y4
          go_wp2
          go_roundw
          case rel => exact ⟨t + 1, g5, rfl, by omega, by go_num, HR5.out.congr fun i _ => by simp [boolV, reachM], NO.out (hit_no (Or.inr HST.out.symm)), HB5.out⟩
          case measure => simp [intOf]; omega
        · go_wp2
          go_ret2
          exact ⟨Or.inl ⟨t, hlt, rfl, by unfold hitM; rw [← HRE.out, ← HST.out]; rfl, HN.out⟩, HW4.out⟩
    · go_wp2
      go_ret2
      exact ⟨Or.inr ⟨rfl, fun j hj => HN.out j (by omega)⟩, HW.out⟩

end Go.Proofs.YtaldfpoolajoiaaDoor
