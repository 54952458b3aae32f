/- Walks of the program's Alone. -/
import Derived.Test.YtaldfpoolajoiaaDoorSl
import Derived.Test.YtaldfpoolajoiaaDoorSb
import Derived.Test.YtaldfpoolajoiaaDoorRh
import Derived.Test.YtaldfpoolajoiaaDoorWn
import Derived.Lib.SliceRun
namespace Go.Proofs.YtaldfpoolajoiaaDoor
open Go.RowKit M

theorem M.firstOf_is {p : Nat → Bool} : ∀ n, firstOf p n < n → p (firstOf p n) = true
  | 0, h => by omega
  | n + 1, h => by
    simp only [firstOf] at h ⊢
    by_cases h1 : firstOf p n < n
    · rw [if_pos h1]; exact firstOf_is n h1
    · rw [if_neg h1] at h ⊢
      by_cases h2 : p n = true
      · rw [if_pos h2]; exact h2
      · rw [if_neg h2] at h; omega

theorem M.firstOf_none {p : Nat → Bool} {n : Nat} (h : ¬ firstOf p n < n) : ∀ j, j < n → p j = false := by
  induction n with
  | zero => intro j hj; omega
  | succ n ih =>
    simp only [firstOf] at h
    by_cases h1 : firstOf p n < n
    · rw [if_pos h1] at h; omega
    · rw [if_neg h1] at h
      by_cases h2 : p n = true
      · rw [if_pos h2] at h; omega
      · intro j hj
        by_cases e : j = n
        · subst e; simpa using h2
        · exact ih h1 j (by omega)

theorem carts_free {ro co bu : Int} {cs : ByteArray} {m : Nat} {fr tt : Nat → Int} (h : (checkM ro co cs m fr tt bu).1 = 0) : m ≤ 4 ∧ ∀ k, k < m → freeB cs (fr k) = true ∧ freeB cs (tt k) = true := by
  unfold checkM at h
  by_cases h1 : (sideB ro && sideB co) = false
  · rw [if_pos h1] at h; simp at h
  · rw [if_neg h1] at h
    by_cases h2 : 0 ≤ cellsM ro co cs
    · rw [if_pos h2] at h; simp at h
    · rw [if_neg h2] at h
      by_cases h3 : m < 1 ∨ 4 < m
      · rw [if_pos h3] at h; simp at h
      · rw [if_neg h3] at h
        refine ⟨by omega, ?_⟩
        by_cases h4 : firstOf (fun i => !(cartM cs fr tt i == 0)) m < m
        · rw [if_pos h4] at h
          have := M.firstOf_is (p := fun i => !(cartM cs fr tt i == 0)) m h4
          simp only [] at h this
          rw [h] at this; cases this
        · intro k hk
          have := M.firstOf_none h4 k hk
          have h5 : cartM cs fr tt k = 0 := by simpa using this
          unfold cartM at h5
          by_cases h6 : (freeB cs (fr k) && freeB cs (tt k)) = true
          · simpa using h6
          · rw [if_neg h6] at h5; omega

theorem Told.form {w w' : World} {v : Value} {x : Option (Nat × (Nat → Nat))} (h : Told w w' v x) :
    ∃ a n, v = .slice a n n ∧ ((x = none ∧ a = none ∧ n = 0) ∨ ∃ T p g, x = some (T, p) ∧ a = some ⟨g, 0, none⟩ ∧ n = T + 1 ∧ w.heap.size ≤ g ∧ w'.rowIs g 3 (T + 1) (natV p)) := by
  match x, h with
  | none, h => exact ⟨none, 0, h.1 rfl, Or.inl ⟨rfl, rfl, rfl⟩⟩
  | some (T, p), h =>
    obtain ⟨g, h1, h2, h3⟩ := h.2 T p rfl
    exact ⟨_, _, h1, Or.inr ⟨T, p, g, rfl, rfl, rfl, h2, h3⟩⟩

set_option maxRecDepth 100000 in
set_option maxHeartbeats 1000000 in
theorem alone_err (ro co bu : Int) (cs : ByteArray) (a : Option Addr) (m cap : Nat) (fr tt : Nat → Int) (k : Int) (ar : Option Addr) (n capr : Nat) (R : Nat → RuleM) (w : World) (hs : cs.size ≤ maxLen) (hm : m ≤ maxLen) (hcap : m ≤ cap) (hn : n ≤ maxLen)
    (ha : 0 < m → ∃ b off, a = some ⟨b, off, none⟩ ∧ CartsIn w b off m fr tt) (har : RulesAt w ar n R) (he : givenE ro co bu cs m fr tt k n R ≠ 0) :
    Calls Tryd.prog 17 #[.agg #[.int .i64 ro, .int .i64 co, .string cs, .slice a m cap, .int .i64 bu], .int .i64 k, .slice ar n capr] w fun e w' =>
      e = .returned (.tuple #[.slice none 0 0, .int .i64 (givenE ro co bu cs m fr tt k n R)]) ∧ Below w.heap.size w w' := by
  have HB0 : Hid (∀ o, Below w.heap.size w (w.alloc o)) := fun _ => (Below.refl _ w).alloc (Nat.le_refl _) _
  have HA := Hid.mk ha
  have HR := Hid.mk har
  have hl : loneE ro co bu cs m fr tt k n R 0 = givenE ro co bu cs m fr tt k n R := loneE_given (by omega) (by omega)
  obtain ⟨E, hE⟩ : ∃ E, E = givenE ro co bu cs m fr tt k n R := ⟨_, rfl⟩
  rw [← hE] at hl he ⊢
  have HL := Hid.mk hl
  have he' : (E != 0) = true := by simpa using he
  clear ha har hl he hE
  go_enter Tryd.func17, Tryd.ntmps17
  go_wp2_with fail
  refine (loneFault_any ro co bu cs a m cap fr tt k 0 ar n capr R _ hs hm hcap hn (opt_below HA.out (HB0.out _)) (HR.out.below (HB0.out _))).mono ?_
  rintro e w1 ⟨he1, hb1⟩
  rw [HL.out] at he1
  subst he1
  have HB1 : Hid (Below w.heap.size w w1) := (HB0.out _).trans (hb1.mono (by simp))
  clear hb1
  go_wp2
  go_ret2
  exact ⟨rfl, HB1.out⟩

set_option maxRecDepth 100000 in
set_option maxHeartbeats 2000000 in
theorem alone_ok (ro co bu : Int) (cs : ByteArray) (b off m cap : Nat) (fr tt : Nat → Int) (k f c : Nat) (ar : Option Addr) (n capr : Nat) (R : Nat → RuleM) (w : World) (hcap : m ≤ cap) (hn : n ≤ maxLen) (hsd : SidesIn w)
    (hcs : CartsIn w b off m fr tt) (har : RulesAt w ar n R) (hwf : RulesWf n R) (he : givenE ro co bu cs m fr tt k n R = 0) (hf : fr k = (f : Int)) (hc : tt k = (c : Int)) :
    Calls Tryd.prog 17 #[.agg #[.int .i64 ro, .int .i64 co, .string cs, .slice (some ⟨b, off, none⟩) m cap, .int .i64 bu], .int .i64 k, .slice ar n capr] w fun e w' =>
      ((e = .returned (.tuple #[.slice none 0 0, .int .i64 9]) ∧ Found co cs n R f c none) ∨
        ∃ T p g, e = .returned (.tuple #[.slice (some ⟨g, 0, none⟩) (T + 1) (T + 1), .int .i64 0]) ∧ Found co cs n R f c (some (T, p)) ∧ w.heap.size ≤ g ∧ w'.rowIs g 3 (T + 1) (natV p)) ∧ Below w.heap.size w w' := by
  obtain ⟨g1, g2, g3, g4⟩ := given_side he
  obtain ⟨s1, s2, s3⟩ := checkM_good g1
  obtain ⟨r1, r2⟩ := side_bd s1
  obtain ⟨r3, r4⟩ := side_bd s2
  obtain ⟨hp1, hp2⟩ := mul_bd r1 r2 r3 r4
  have hs : cs.size ≤ 36 := by omega
  obtain ⟨hm4, hfree⟩ := carts_free g1
  have hkm : k < m := by omega
  obtain ⟨ff, fc⟩ := hfree k hkm
  rw [hf] at ff
  rw [hc] at fc
  have c0 := (hcs k hkm).1
  have c1 := (hcs k hkm).2
  rw [hf] at c0
  rw [hc] at c1
  have hbl := World.block_lt_of_cell? _ _ c0
  have HB0 : Hid (∀ o, Below w.heap.size w (w.alloc o)) := fun _ => (Below.refl _ w).alloc (Nat.le_refl _) _
  have HCS := Hid.mk hcs
  have HR := Hid.mk har
  have HWF := Hid.mk hwf
  have HSD := Hid.mk hsd
  have FF := Hid.mk ff
  have FC := Hid.mk fc
  have RB := Hid.mk g4
  have SZ := Hid.mk s3
  have HL : Hid (loneE ro co bu cs m fr tt k n R 0 = 0) := (loneE_given (by omega) (by omega)).trans he
  clear hcs har hwf hsd ff fc g4 s3 he g1 g2 s1 s2 hp1 hp2 hfree hf hc g3
  have hnil : ∀ (w : World) (a : Option Addr) (n c : Nat), (binOp .eql 26 (.slice a n c) (.slice none 0 0)).run Tryd.prog w = .ok (.bool a.isNone) w := fun w a n c => Lib.run_eql_slice_nil w _ _ a n c 0 0 Tryd.underlying26
  go_enter Tryd.func17, Tryd.ntmps17
  go_wp2_with fail
  refine (loneFault_any ro co bu cs _ m cap fr tt k 0 ar n capr R _ (by unfold maxLen; omega) (by unfold maxLen; omega) hcap hn (fun _ => ⟨b, off, rfl, HCS.out.below (HB0.out _)⟩) (HR.out.below (HB0.out _))).mono ?_
  rintro e w1 ⟨he1, hb1⟩
  rw [HL.out] at he1
  subst he1
  have hz : w.heap.size < w1.heap.size := by have := hb1.size; simp at this; omega
  have HB1 : Hid (Below w.heap.size w w1) := (HB0.out _).trans (hb1.mono (by simp))
  have k0 : w1.cell? ⟨b, off + k * 2, none⟩ = some (.int .i64 (f : Int)) := cell_later HB1.out c0
  have k1 : w1.cell? ⟨b, off + k * 2 + 1, none⟩ = some (.int .i64 (c : Int)) := cell_later HB1.out c1
  have y1 : ∀ o, w1.cell? ⟨w.heap.size, o, none⟩ = #[Value.int .i64 ro, .int .i64 co, .string cs, .slice (some ⟨b, off, none⟩) m cap, .int .i64 bu][o]? := by
    intro o
    rw [hb1.cell (p := ⟨w.heap.size, o, none⟩) (by show w.heap.size < _; simp)]; go_simp
  have y10 := y1 0
  have y11 := y1 1
  have y12 := y1 2
  have y13 := y1 3
  have y14 := y1 4
  simp only [List.getElem?_toArray, List.getElem?_cons_zero, List.getElem?_cons_succ] at y10 y11 y12 y13 y14
  have hkI : (k : Int) < (m : Int) := by omega
  clear hb1 c0 c1 y1
  go_upto_region 4 with fail
  go_region_held3 (fun w' => w'.cell? ⟨w.heap.size, 0, none⟩ = some (.int .i64 ro) ∧ w'.cell? ⟨w.heap.size, 1, none⟩ = some (.int .i64 co) ∧ w'.cell? ⟨w.heap.size, 2, none⟩ = some (.string cs) ∧ w'.cell? ⟨w.heap.size, 3, none⟩ = some (.slice (some ⟨b, off, none⟩) m cap) ∧ w'.cell? ⟨w.heap.size, 4, none⟩ = some (.int .i64 bu) ∧ w'.cell? ⟨b, off + k * 2, none⟩ = some (.int .i64 (f : Int)) ∧ w'.cell? ⟨b, off + k * 2 + 1, none⟩ = some (.int .i64 (c : Int))) (go_keep)
    (first
      | (go_at_call_of 47 (Value.slice ar n capr); refine (path_any ro co bu cs _ m cap f c ar n capr R _ (HSD.out.below (HB1.out.drew)) r1 r2 r3 r4 SZ.out hs RB.out HWF.out (HR.out.below (HB1.out.drew)) FF.out FC.out).mono ?_; rintro e w4 ⟨v, rfl, x, hx, hT, hb4⟩; obtain ⟨av, nv, rfl, hform⟩ := hT.form; have HX := Hid.mk hx; have HFM := Hid.mk hform; have HB4 : Hid (Below w.heap.size w w4) := HB1.out.drew.trans (hb4.mono (Nat.le_of_lt hz)); have q0 : w4.cell? ⟨w.heap.size, 0, none⟩ = some (.int .i64 ro) := (hb4.cell (p := ⟨w.heap.size, 0, none⟩) hz).trans y10; have q1 : w4.cell? ⟨w.heap.size, 1, none⟩ = some (.int .i64 co) := (hb4.cell (p := ⟨w.heap.size, 1, none⟩) hz).trans y11; have q2 : w4.cell? ⟨w.heap.size, 2, none⟩ = some (.string cs) := (hb4.cell (p := ⟨w.heap.size, 2, none⟩) hz).trans y12; have q3 : w4.cell? ⟨w.heap.size, 3, none⟩ = some (.slice (some ⟨b, off, none⟩) m cap) := (hb4.cell (p := ⟨w.heap.size, 3, none⟩) hz).trans y13; have q4 : w4.cell? ⟨w.heap.size, 4, none⟩ = some (.int .i64 bu) := (hb4.cell (p := ⟨w.heap.size, 4, none⟩) hz).trans y14; have q5 : w4.cell? ⟨b, off + k * 2, none⟩ = some (.int .i64 (f : Int)) := (hb4.cell (p := ⟨b, off + k * 2, none⟩) (Nat.lt_trans hbl hz)).trans k0; have q6 : w4.cell? ⟨b, off + k * 2 + 1, none⟩ = some (.int .i64 (c : Int)) := (hb4.cell (p := ⟨b, off + k * 2 + 1, none⟩) (Nat.lt_trans hbl hz)).trans k1; clear hx hT hform hb4))
  clear q0 q1 q2 q3 q4 q5 q6 k0 k1 y10 y11 y12 y13 y14
  rcases HFM.out with ⟨rfl, rfl, rfl⟩ | ⟨T, p, g, rfl, rfl, rfl, hg, hrow⟩
  · go_wp2
    go_ret2
    exact ⟨Or.inl ⟨rfl, HX.out⟩, HB4.out⟩
  · have HG : Hid (w.heap.size ≤ g) := by unfold Hid; have hz2 := Nat.le_of_lt hz; have h2 : w1.heap.size ≤ g := hg; omega
    have HROW := Hid.mk hrow
    clear hg hrow
    go_wp2
    go_ret2
    exact ⟨Or.inr ⟨T, p, g, rfl, HX.out, HG.out, HROW.out⟩, HB4.out⟩

end Go.Proofs.YtaldfpoolajoiaaDoor
