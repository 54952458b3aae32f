/- Walks of yard.Layers, and of the document's Layers where what is given is not good. -/
import Derived.Test.YtnkgpinadgacgaaDoorEt
import Derived.Test.YtnkgpinadgacgaaDoorEo
import Derived.Test.YtnkgpinadgacgaaDoorBo
import Derived.Test.YtnkgpinadgacgaaDoorBk
import Derived.Lib.SliceRun
namespace Go.Proofs.YtnkgpinadgacgaaDoor
open Go.RowKit M

theorem ListsOwn.below {w w' : World} {base : Nat} {v : Value} {Ls : List (List Nat)} (h : ListsOwn w base v Ls) (hb : Below w.heap.size w w') : ListsOwn w' base v Ls := by
  obtain ⟨g, A, hv, hg, hr, ho, hn, hi⟩ := h
  exact ⟨g, A, hv, hg, rowIs_below hr hb, fun t ht => (ho t ht).below hb, hn, hi⟩

theorem ListsOwn.planQ {w : World} {base : Nat} {v : Value} {Ls : List (List Nat)} (h : ListsOwn w base v Ls) : PlanQ w v Ls := by
  obtain ⟨g, A, hv, hg, hr, ho, hn, hi⟩ := h
  exact ⟨_, _, hv, fun _ => ⟨g, rfl, fun t ht => ⟨A t, hr.cell ht, (ho t ht).rowQ⟩⟩⟩

/-- What yard.Layers answers. -/
def LayRes (w w' : World) (x : Option (List (List Nat))) (av : Option Addr) (nv cv : Nat) (ev : Int) : Prop :=
  (x = none ∧ av = none ∧ nv = 0 ∧ cv = 0 ∧ ev = 9) ∨ ∃ Ls, x = some Ls ∧ ev = 0 ∧ ListsOwn w' w.heap.size (.slice av nv cv) Ls

theorem LayTold.form {w w' : World} {v : Value} {x : Option (List (List Nat))} (h : LayTold w w' v x) :
    ∃ av nv cv, v = .slice av nv cv ∧ ((x = none ∧ av = none ∧ nv = 0 ∧ cv = 0) ∨ ∃ Ls g, x = some Ls ∧ av = some ⟨g, 0, none⟩ ∧ ListsOwn w' w.heap.size (.slice av nv cv) Ls) := by
  cases x with
  | none => exact ⟨none, 0, 0, h, .inl ⟨rfl, rfl, rfl, rfl⟩⟩
  | some Ls =>
    have h2 : ListsOwn w' w.heap.size v Ls := h
    obtain ⟨g, A, hv, r⟩ := h2
    subst hv
    exact ⟨_, _, _, rfl, .inr ⟨Ls, g, rfl, rfl, ⟨g, A, rfl, r⟩⟩⟩

set_option maxRecDepth 100000 in
set_option maxHeartbeats 1000000 in
theorem ylayers_err (ro co bu : Int) (cs : ByteArray) (a : Option Addr) (m cap : Nat) (fr tt : Nat → Int) (k cost : Int) (ar : Option Addr) (n capr : Nat) (R : Nat → RuleM) (w : World) (hs : cs.size ≤ maxLen) (hm : m ≤ maxLen) (hcap : m ≤ cap) (hn : n ≤ maxLen)
    (ha : 0 < m → ∃ b off, a = some ⟨b, off, none⟩ ∧ CartsIn w b off m fr tt) (har : RulesAt w ar n R) (he : loneE ro co bu cs m fr tt k n R cost ≠ 0) :
    Calls Tryd.prog 25 #[.agg #[.int .i64 ro, .int .i64 co, .string cs, .slice a m cap, .int .i64 bu], .int .i64 k, .slice ar n capr, .int .i64 cost] w fun e w' =>
      e = .returned (.tuple #[.slice none 0 0, .int .i64 (loneE ro co bu cs m fr tt k n R cost)]) ∧ Below w.heap.size w w' := by
  have HB0 : Hid (∀ o, Below w.heap.size w (w.alloc o)) := fun _ => (Below.refl _ w).alloc (Nat.le_refl _) _
  have HA := Hid.mk ha
  have HR := Hid.mk har
  obtain ⟨E, hE⟩ : ∃ E, E = loneE ro co bu cs m fr tt k n R cost := ⟨_, rfl⟩
  rw [← hE] at he ⊢
  have HL := Hid.mk hE
  have he' : (E != 0) = true := by simpa using he
  clear ha har he hE
  go_enter Tryd.func25, Tryd.ntmps25
  go_wp2_with fail
  refine (loneFault_any ro co bu cs a m cap fr tt k cost ar n capr R _ hs hm hcap hn (opt_below HA.out (HB0.out _)) (HR.out.below (HB0.out _))).mono ?_
  rintro e w1 ⟨he1, hb1⟩
  rw [← HL.out] at he1
  subst he1
  have HB1 : Hid (Below w.heap.size w w1) := (HB0.out _).trans (hb1.mono (by simp))
  clear hb1
  go_wp2
  go_ret2
  exact ⟨rfl, HB1.out⟩

set_option maxRecDepth 100000 in
set_option maxHeartbeats 2000000 in
theorem ylayers_ok (ro co bu : Int) (cs : ByteArray) (b off m cap : Nat) (fr tt : Nat → Int) (k f c T : Nat) (ar : Option Addr) (n capr : Nat) (R : Nat → RuleM) (w : World) (hcap : m ≤ cap) (hn : n ≤ maxLen) (hsd : SidesIn w) (hT : T ≤ 60)
    (hcs : CartsIn w b off m fr tt) (har : RulesAt w ar n R) (hwf : RulesWf n R) (he : givenE ro co bu cs m fr tt k n R = 0) (hf : fr k = (f : Int)) (hc : tt k = (c : Int)) :
    Calls Tryd.prog 25 #[.agg #[.int .i64 ro, .int .i64 co, .string cs, .slice (some ⟨b, off, none⟩) m cap, .int .i64 bu], .int .i64 k, .slice ar n capr, .int .i64 (T : Nat)] w fun e w' =>
      (∃ av nv cv ev, e = .returned (.tuple #[.slice av nv cv, .int .i64 ev]) ∧ LayRes w w' (layO co cs n R f c T) av nv cv ev) ∧ Below w.heap.size w w' := by
  obtain ⟨g1, g2, g3, g4⟩ := given_side he
  obtain ⟨s1, s2, s3⟩ := checkM_good g1
  obtain ⟨r1, r2⟩ := side_bd s1
  obtain ⟨r3, r4⟩ := side_bd s2
  obtain ⟨hp1, hp2⟩ := mul_bd r1 r2 r3 r4
  have hs : cs.size ≤ 36 := by omega
  obtain ⟨hm4, hfree⟩ := carts_free g1
  have hkm : k < m := by omega
  obtain ⟨ff, fc⟩ := hfree k hkm
  rw [hf] at ff
  rw [hc] at fc
  have c0 := (hcs k hkm).1
  have c1 := (hcs k hkm).2
  rw [hf] at c0
  rw [hc] at c1
  have hbl := World.block_lt_of_cell? _ _ c0
  have HB0 : Hid (∀ o, Below w.heap.size w (w.alloc o)) := fun _ => (Below.refl _ w).alloc (Nat.le_refl _) _
  have HCS := Hid.mk hcs
  have HR := Hid.mk har
  have HWF := Hid.mk hwf
  have HSD := Hid.mk hsd
  have FF := Hid.mk ff
  have FC := Hid.mk fc
  have RB := Hid.mk g4
  have SZ := Hid.mk s3
  have HL : Hid (loneE ro co bu cs m fr tt k n R (T : Nat) = 0) := (loneE_given (by omega) (by omega)).trans he
  obtain ⟨X, hX⟩ : ∃ X, X = layO co cs n R f c T := ⟨_, rfl⟩
  rw [← hX]
  have HXE := Hid.mk hX
  clear hcs har hwf hsd ff fc g4 s3 he g1 g2 s1 s2 hp1 hp2 hfree hf hc g3 hX
  have hnil : ∀ (w : World) (a : Option Addr) (n c : Nat), (binOp .eql 35 (.slice a n c) (.slice none 0 0)).run Tryd.prog w = .ok (.bool a.isNone) w := fun w a n c => Lib.run_eql_slice_nil w _ _ a n c 0 0 Tryd.underlying35
  go_enter Tryd.func25, Tryd.ntmps25
  go_wp2_with fail
  refine (loneFault_any ro co bu cs _ m cap fr tt k (T : Nat) ar n capr R _ (by unfold maxLen; omega) (by unfold maxLen; omega) hcap hn (fun _ => ⟨b, off, rfl, HCS.out.below (HB0.out _)⟩) (HR.out.below (HB0.out _))).mono ?_
  rintro e w1 ⟨he1, hb1⟩
  rw [HL.out] at he1
  subst he1
  have hz : w.heap.size < w1.heap.size := by have := hb1.size; simp at this; omega
  have HB1 : Hid (Below w.heap.size w w1) := (HB0.out _).trans (hb1.mono (by simp))
  have k0 : w1.cell? ⟨b, off + k * 2, none⟩ = some (.int .i64 (f : Int)) := cell_later HB1.out c0
  have k1 : w1.cell? ⟨b, off + k * 2 + 1, none⟩ = some (.int .i64 (c : Int)) := cell_later HB1.out c1
  have y1 : ∀ o, w1.cell? ⟨w.heap.size, o, none⟩ = #[Value.int .i64 ro, .int .i64 co, .string cs, .slice (some ⟨b, off, none⟩) m cap, .int .i64 bu][o]? := by
    intro o
    rw [hb1.cell (p := ⟨w.heap.size, o, none⟩) (by show w.heap.size < _; simp)]; go_simp
  have y10 := y1 0
  have y11 := y1 1
  have y12 := y1 2
  have y13 := y1 3
  have y14 := y1 4
  simp only [List.getElem?_toArray, List.getElem?_cons_zero, List.getElem?_cons_succ] at y10 y11 y12 y13 y14
  have hkI : (k : Int) < (m : Int) := by omega
  have LA : Hid (∀ u : World, Below w.heap.size w u → Calls Tryd.prog 76 #[.agg #[Value.int .i64 ro, .int .i64 co, .string cs, .slice (some ⟨b, off, none⟩) m cap, .int .i64 bu], .agg #[.int .i64 (f : Int), .int .i64 (c : Int)], .slice ar n capr, .int .i64 (T : Nat)] u fun e w' =>
      ∃ v, e = .returned v ∧ LayTold u w' v X ∧ Below u.heap.size u w') := fun u hu => by
    rw [HXE.out]
    exact layers_any ro co bu cs _ m cap f c T n capr ar R u (HSD.out.below hu) r1 r2 r3 r4 hs SZ.out RB.out HWF.out (HR.out.below hu) FF.out FC.out hT
  clear hb1 c0 c1 y1
  go_upto_region 4 with fail
  go_region_held3 (fun w' => w'.cell? ⟨w.heap.size, 0, none⟩ = some (.int .i64 ro) ∧ w'.cell? ⟨w.heap.size, 1, none⟩ = some (.int .i64 co) ∧ w'.cell? ⟨w.heap.size, 2, none⟩ = some (.string cs) ∧ w'.cell? ⟨w.heap.size, 3, none⟩ = some (.slice (some ⟨b, off, none⟩) m cap) ∧ w'.cell? ⟨w.heap.size, 4, none⟩ = some (.int .i64 bu) ∧ w'.cell? ⟨b, off + k * 2, none⟩ = some (.int .i64 (f : Int)) ∧ w'.cell? ⟨b, off + k * 2 + 1, none⟩ = some (.int .i64 (c : Int))) (go_keep)
    (first
      | (go_at_call_of 76 (Value.slice ar n capr); refine (LA.out _ (HB1.out.drew)).mono ?_; rintro e w4 ⟨v, rfl, hT4, hb4⟩; obtain ⟨av, nv, cv, rfl, hform⟩ := hT4.form; have HFM := Hid.mk hform; have HB4 : Hid (Below w.heap.size w w4) := HB1.out.drew.trans (hb4.mono (Nat.le_of_lt hz)); have q0 : w4.cell? ⟨w.heap.size, 0, none⟩ = some (.int .i64 ro) := (hb4.cell (p := ⟨w.heap.size, 0, none⟩) hz).trans y10; have q1 : w4.cell? ⟨w.heap.size, 1, none⟩ = some (.int .i64 co) := (hb4.cell (p := ⟨w.heap.size, 1, none⟩) hz).trans y11; have q2 : w4.cell? ⟨w.heap.size, 2, none⟩ = some (.string cs) := (hb4.cell (p := ⟨w.heap.size, 2, none⟩) hz).trans y12; have q3 : w4.cell? ⟨w.heap.size, 3, none⟩ = some (.slice (some ⟨b, off, none⟩) m cap) := (hb4.cell (p := ⟨w.heap.size, 3, none⟩) hz).trans y13; have q4 : w4.cell? ⟨w.heap.size, 4, none⟩ = some (.int .i64 bu) := (hb4.cell (p := ⟨w.heap.size, 4, none⟩) hz).trans y14; have q5 : w4.cell? ⟨b, off + k * 2, none⟩ = some (.int .i64 (f : Int)) := (hb4.cell (p := ⟨b, off + k * 2, none⟩) (Nat.lt_trans hbl hz)).trans k0; have q6 : w4.cell? ⟨b, off + k * 2 + 1, none⟩ = some (.int .i64 (c : Int)) := (hb4.cell (p := ⟨b, off + k * 2 + 1, none⟩) (Nat.lt_trans hbl hz)).trans k1; clear hT4 hform hb4))
  clear q0 q1 q2 q3 q4 q5 q6 k0 k1 y10 y11 y12 y13 y14
  rcases HFM.out with ⟨hx, rfl, rfl, rfl⟩ | ⟨Ls, g, hx, rfl, hlo⟩
  · have HX := Hid.mk hx
    clear hx
    go_wp2
    go_ret2
    exact ⟨⟨_, _, _, _, rfl, .inl ⟨HX.out, rfl, rfl, rfl, rfl⟩⟩, HB4.out⟩
  · have HX := Hid.mk hx
    have HLO := Hid.mk hlo
    have hz1 : w.heap.size ≤ w1.heap.size := by omega
    clear hx hlo
    go_wp2
    go_ret2
    refine ⟨⟨_, _, _, _, rfl, .inr ⟨Ls, HX.out, rfl, ?_⟩⟩, HB4.out⟩
    obtain ⟨g', A, hv, hg, hr, ho, hn', hi⟩ := HLO.out
    exact ⟨g', A, hv, Nat.le_trans hz1 hg, hr, fun t ht => (ho t ht).le hz1, hn', hi⟩

set_option maxRecDepth 100000 in
set_option maxHeartbeats 2000000 in
theorem rlayers_err (ro co bu : Int) (cs : ByteArray) (a : Option Addr) (m cap : Nat) (fr tt : Nat → Int) (k cost : Int) (ar : Option Addr) (n capr : Nat) (R : Nat → RuleM) (w : World) (hs : cs.size ≤ maxLen) (hm : m ≤ maxLen) (hn : n ≤ maxLen)
    (ha : 0 < m → ∃ b off, a = some ⟨b, off, none⟩ ∧ CartsIn w b off m fr tt) (har : RulesAt w ar n R) (he : loneE ro co bu cs m fr tt k n R cost ≠ 0) :
    Calls Tryd.prog 26 #[.agg #[.int .i64 ro, .int .i64 co, .string cs, .slice a m cap, .int .i64 bu], .int .i64 k, .slice ar n capr, .int .i64 cost] w fun e w' =>
      e = .returned (.tuple #[.slice none 0 0, .int .i64 (loneE ro co bu cs m fr tt k n R cost)]) ∧ Below w.heap.size w w' := by
  have HA := Hid.mk har
  have HC := Hid.mk ha
  have HE := Hid.mk he
  have hmm := hm
  unfold maxLen at hm
  clear ha har he
  have HB0 : Hid (Below w.heap.size w (w.alloc (Obj.cells #[Value.int IntKind.i64 ro, Value.int IntKind.i64 co, Value.string cs, .slice a m cap, Value.int IntKind.i64 bu] 24))) := (Below.refl _ w).alloc (Nat.le_refl _) _
  go_enter Tryd.func26, Tryd.ntmps26
  go_wp2_with fail
  have y0 : ∀ o, (w.alloc (Obj.cells #[Value.int IntKind.i64 ro, Value.int IntKind.i64 co, Value.string cs, .slice a m cap, Value.int IntKind.i64 bu] 24)).cell? ⟨w.heap.size, o, none⟩ = #[Value.int IntKind.i64 ro, Value.int IntKind.i64 co, Value.string cs, .slice a m cap, Value.int IntKind.i64 bu][o]? := by
    intro o; go_simp
  have hz0 : (w.alloc (Obj.cells #[Value.int IntKind.i64 ro, Value.int IntKind.i64 co, Value.string cs, .slice a m cap, Value.int IntKind.i64 bu] 24)).heap.size = w.heap.size + 1 := by simp
  generalize w.alloc (Obj.cells #[Value.int IntKind.i64 ro, Value.int IntKind.i64 co, Value.string cs, .slice a m cap, Value.int IntKind.i64 bu] 24) = w1 at *
  refine (rcheck_any _ _ _ _ _ _ _ fr tt _ hs hmm (by exact opt_below HC.out HB0.out)).mono ?_
  rintro e w2 ⟨rfl, hb2⟩
  obtain ⟨e2, he2⟩ : ∃ v, v = (checkM ro co cs m fr tt bu).2 := ⟨_, rfl⟩
  obtain ⟨e1, he1⟩ : ∃ v, v = (checkM ro co cs m fr tt bu).1 := ⟨_, rfl⟩
  rw [← he2, ← he1]
  have HE1 := Hid.mk he1
  have hzl1 : w.heap.size + 1 ≤ w1.heap.size := by omega
  have B2 : Hid (Below w.heap.size w w2) := HB0.out.trans (hb2.mono (by omega))
  have Y2 : Hid (∀ o, w2.cell? ⟨w.heap.size, o, none⟩ = #[Value.int IntKind.i64 ro, Value.int IntKind.i64 co, Value.string cs, .slice a m cap, Value.int IntKind.i64 bu][o]?) := fun o => (hb2.cell (p := ⟨w.heap.size, o, none⟩) (by show w.heap.size < _; omega)).trans (y0 o)
  have hz2 : w.heap.size + 1 ≤ w2.heap.size := by have := hb2.size; omega
  have y20 := Y2.out 0
  have y21 := Y2.out 1
  have y22 := Y2.out 2
  have y23 := Y2.out 3
  have y24 := Y2.out 4
  clear y0 hb2 he2 hz0 he1
  by_cases q1 : e1 = 0
  · subst q1
    by_cases q2 : cost < 0
    · have L7 : Hid (loneE ro co bu cs m fr tt k n R cost = 7) := by
        unfold Hid loneE
        rw [if_pos HE1.out.symm, if_neg (by omega)]
      have hd : decide (cost < 0) = true := decide_eq_true q2
      go_wp2
      go_ret2
      exact ⟨by rw [L7.out]; rfl, B2.out⟩
    · have hd : decide (cost < 0) = false := decide_eq_false q2
      by_cases q3 : 60 < cost
      · have L7 : Hid (loneE ro co bu cs m fr tt k n R cost = 7) := by
          unfold Hid loneE
          rw [if_pos HE1.out.symm, if_neg (by omega)]
        have hd2 : decide (60 < cost) = true := decide_eq_true q3
        go_wp2
        go_ret2
        exact ⟨by rw [L7.out]; rfl, B2.out⟩
      · have hd2 : decide (60 < cost) = false := decide_eq_false q3
        have LG : Hid (loneE ro co bu cs m fr tt k n R cost = givenE ro co bu cs m fr tt k n R) := loneE_given (by omega) (by omega)
        have HGE : Hid (givenE ro co bu cs m fr tt k n R ≠ 0) := by unfold Hid; rw [← LG.out]; exact HE.out
        go_wp2_with fail
        refine (given_any _ _ _ _ _ _ _ fr tt _ _ _ _ R _ hs hmm hn (by exact opt_below HC.out B2.out) (by exact HA.out.below B2.out)).mono ?_
        rintro e w3 ⟨rfl, hb3⟩
        have B3 : Hid (Below w.heap.size w w3) := B2.out.trans (hb3.mono (by omega))
        obtain ⟨E, hE⟩ : ∃ E, E = givenE ro co bu cs m fr tt k n R := ⟨_, rfl⟩
        rw [← hE]
        have hE' : (E != 0) = true := by have := HGE.out; rw [← hE] at this; simpa using this
        have HEE := Hid.mk hE
        clear hE hb3
        go_wp2
        go_ret2
        exact ⟨by rw [LG.out, ← HEE.out]; rfl, B3.out⟩
  · have L1 : Hid (loneE ro co bu cs m fr tt k n R cost = e1) := by
      unfold Hid loneE
      rw [if_neg (by rw [← HE1.out]; exact q1), HE1.out]
    have hE' : (e1 != 0) = true := by simpa using q1
    go_wp2
    go_ret2
    exact ⟨by rw [L1.out]; rfl, B2.out⟩

end Go.Proofs.YtnkgpinadgacgaaDoor
