/- Walk of the document's Layers. -/
import Derived.Test.YtnkgpinadgacgaaDoorEm
import Derived.Test.YtnkgpinadgacgaaDoorDz
import Derived.Test.YtnkgpinadgacgaaDoorBh
namespace Go.Proofs.YtnkgpinadgacgaaDoor
open Go.RowKit M

theorem Tryd.infoBl : (Tryd.prog.info? 105).map (fun i => (i.zero, i.size, i.bytes)) = some (some (.slice none 0 0), 1, 24) := by kernel_rfl

/-- A list of rows of bools that the call made. -/
def ForeIn (w : World) (base : Nat) (v : Value) (K N : Nat) (F : Nat → Nat → Bool) : Prop :=
  ∃ A : List Value, A.length = K ∧ w.ownsRow base 105 1 v K A ∧ ∀ t, t < K → ∃ g, A.getD t (.bool false) = .slice (some ⟨g, 0, none⟩) N N ∧ w.rowIs g 4 N (boolV (F t)) ∧ ∀ g', v.ownBlock = some g' → g ≠ g'

theorem ForeIn.nil (w : World) (base N : Nat) (F : Nat → Nat → Bool) : ForeIn w base (.slice none 0 0) 0 N F := ⟨[], rfl, ⟨rfl, .inl ⟨rfl, rfl⟩⟩, fun t h => absurd h (Nat.not_lt_zero t)⟩

theorem ForeIn.only {w w' : World} {base K N : Nat} {v : Value} {F : Nat → Nat → Bool} {S : Nat → Prop} (h : ForeIn w base v K N F) (ho : Only S w w') (hS : ∀ k, base ≤ k → ¬ S k) (hS2 : ∀ t g, t < K → w.rowIs g 4 N (boolV (F t)) → ¬ S g) : ForeIn w' base v K N F := by
  obtain ⟨A, h1, h2, h3⟩ := h
  refine ⟨A, h1, own_keep h2 fun g hg hl _ => ho.block g hl (hS g hg), fun t ht => ?_⟩
  obtain ⟨g, e, hr, hne⟩ := h3 t ht
  exact ⟨g, e, row_block hr (ho.block g hr.lt (hS2 t g ht hr)), hne⟩

theorem ForeIn.below {w w' : World} {base K N : Nat} {v : Value} {F : Nat → Nat → Bool} (h : ForeIn w base v K N F) (hb : Below w.heap.size w w') : ForeIn w' base v K N F :=
  h.only (Only.of_below hb : Only (fun _ => False) w w') (fun _ _ e => e) (fun _ _ _ _ e => e)

theorem ForeIn.form {w : World} {base K N : Nat} {v : Value} {F : Nat → Nat → Bool} (h : ForeIn w base v K N F) : ∃ a cap, v = .slice a K cap ∧ (0 < K → ∃ g, a = some ⟨g, 0, none⟩) ∧ K ≤ cap := by
  obtain ⟨A, h1, h2, h3⟩ := h
  exact own_form h2

theorem ForeIn.lt {w : World} {base K N : Nat} {v : Value} {F : Nat → Nat → Bool} (h : ForeIn w base v K N F) : ∀ g, v.ownBlock = some g → base ≤ g ∧ g < w.heap.size := by
  obtain ⟨A, h1, h2, h3⟩ := h
  exact fun g hg => h2.lt g hg

theorem ForeIn.cell {w : World} {base g n cap K N : Nat} {F : Nat → Nat → Bool} (h : ForeIn w base (.slice (some ⟨g, 0, none⟩) n cap) K N F) {t : Nat} (ht : t < K) : ∃ gt, w.cell? ⟨g, t, none⟩ = some (.slice (some ⟨gt, 0, none⟩) N N) ∧ w.rowIs gt 4 N (boolV (F t)) := by
  obtain ⟨a0, cap2, hv, _, _⟩ := h.form
  obtain ⟨A, h1, h2, h3⟩ := h
  have e : n = K := by cases hv; rfl
  subst e
  obtain ⟨gt, e, hr, _⟩ := h3 t ht
  refine ⟨gt, ?_, hr⟩
  rw [own_cell h2 ht, ← e, List.getD_eq_getElem?_getD, List.getElem?_eq_getElem (by omega)]; rfl

set_option maxRecDepth 100000 in
theorem wpList_pushB {w0 : World} {ops : Array Oper} {rest : List Oper} {o : Oper} {a : Act} {Q : Exit → Act → World → Prop} (hgd : o.guard = none) (s x : Operand)
    (ho : o.op = .call { callee := .builtin .append, args := #[s, x], argTypes := #[112, 112] })
    (base : Nat) (v : Value) (K N : Nat) (F : Nat → Nat → Bool) (gy : Nat) (hs : a.eval s = v) (hown : ForeIn w0 base v K N F) (hbase : base ≤ w0.heap.size) (hy : w0.rowIs gy 4 N (boolV (F K))) (hd : ∀ g, v.ownBlock = some g → gy ≠ g) (c : Nat)
    (hx : a.eval x = .slice (some ⟨w0.heap.size, 0, none⟩) 1 c) (hL : K ≤ 100000000)
    (h : ∀ g cap w', ForeIn w' base (.slice (some ⟨g, 0, none⟩) (K + 1) cap) (K + 1) N F → Only (fun k => v.ownBlock = some k) w0 w' → (v.ownBlock = some g ∨ w0.heap.size ≤ g) → wpList Tryd.prog ops Q rest (a.put o.dst (.slice (some ⟨g, 0, none⟩) (K + 1) cap)) w') :
    wpList Tryd.prog ops Q (o :: rest) a (w0.alloc (.cells #[.slice (some ⟨gy, 0, none⟩) N N] 105)) := by
  obtain ⟨i0, hi0, hi1, hi2, hi3⟩ := info_parts Tryd.infoBl
  obtain ⟨A, h1, h2, h3⟩ := hown
  have hown1 := own_keep (w' := w0.alloc (.cells #[.slice (some ⟨gy, 0, none⟩) N N] 105)) h2 (fun g _ hg _ => Below.heap_alloc _ _ _ hg)
  refine wpList_append_lies _ hgd s x _ ho base 105 i0 _ 1 24 Tryd.underlying112 hi0 hi1 hi2 hi3 rfl (by omega) v K A hs hown1 _ 1 c [.slice (some ⟨gy, 0, none⟩) N N] hx rfl (fun j u hj => ?_) (fun u hu => ?_) (by omega) (by unfold maxLen; omega) (by omega) (by simp; omega) (w0.heap.size + 1) (by simp) ?_
  · match j, hj with
    | 0, hj => simp at hj; subst hj; simp [Addr.add]
    | j + 1, hj => simp at hj
  · simp at hu; subst hu; rfl
  · intro g cap w' ho9 hg9 hl9 _
    have hon : Only (fun k => v.ownBlock = some k) w0 w' := ⟨hg9.os, hg9.tape, hg9.output, Nat.le_trans (by simp) hg9.size, fun k hk hn => by
      rw [hg9.block k (by simp; omega) (fun e => hn e.symm)]
      exact Below.heap_alloc _ _ _ hk⟩
    have hat : v.ownBlock = some g ∨ w0.heap.size ≤ g := hl9.imp id (fun e => by omega)
    refine h g cap w' ⟨A ++ [.slice (some ⟨gy, 0, none⟩) N N], by simp [h1], ho9, fun t ht => ?_⟩ hon hat
    by_cases htl : t < K
    · obtain ⟨gt, e, hr, hne⟩ := h3 t htl
      refine ⟨gt, by rw [getD_snoc_old (by omega)]; exact e, row_block hr (hon.block gt hr.lt (fun hh => hne gt hh rfl)), fun g' hg' => ?_⟩
      have eg : g = g' := Option.some.inj hg'
      subst eg
      rcases hat with hh | hh
      · exact hne g hh
      · have := hr.lt; omega
    · have e : t = K := by omega
      subst e
      refine ⟨gy, by rw [getD_snoc_new (by omega)], row_block hy (hon.block gy hy.lt (fun hh => hd gy hh rfl)), fun g' hg' => ?_⟩
      have eg : g = g' := Option.some.inj hg'
      subst eg
      rcases hat with hh | hh
      · exact hd g hh
      · have := hy.lt; omega

/-- From where the cart can still come to its end, j instants ahead of it. -/
def bkM (co : Int) (cs : ByteArray) (n : Nat) (R : Nat → RuleM) (c T : Nat) : Nat → Nat → Bool
  | 0, a => a == c && staysM co cs n R c T
  | j + 1, a => anyB (behP co cs n R (bkM co cs n R c T j) (((T - j : Nat) : Int) - 1) (decide (j = 0)) a) cs.size

/-- Of the cells below a those on which the cart can be at an instant. -/
def outTo (co : Int) (cs : ByteArray) (n : Nat) (R : Nat → RuleM) (f c T t a : Nat) : List Nat := (List.range a).filter fun x => bkM co cs n R c T (T - t) x && reachM co cs n R f t x

theorem outTo_in {co : Int} {cs : ByteArray} {n : Nat} {R : Nat → RuleM} {f c T t a : Nat} (h : (bkM co cs n R c T (T - t) a && reachM co cs n R f t a) = true) : outTo co cs n R f c T t (a + 1) = outTo co cs n R f c T t a ++ [a] := by
  unfold outTo
  rw [List.range_succ, List.filter_append]
  simp only [List.filter_cons, List.filter_nil]
  rw [if_pos h]

theorem outTo_out {co : Int} {cs : ByteArray} {n : Nat} {R : Nat → RuleM} {f c T t a : Nat} (h : (bkM co cs n R c T (T - t) a && reachM co cs n R f t a) = false) : outTo co cs n R f c T t (a + 1) = outTo co cs n R f c T t a := by
  unfold outTo
  rw [List.range_succ, List.filter_append]
  simp only [List.filter_cons, List.filter_nil]
  rw [if_neg (by rw [h]; simp), List.append_nil]

theorem outTo_len {co : Int} {cs : ByteArray} {n : Nat} {R : Nat → RuleM} {f c T t a : Nat} : (outTo co cs n R f c T t a).length ≤ a := by
  unfold outTo
  exact Nat.le_trans (List.length_filter_le _ _) (by simp)

/-- A list of lists that can be read. -/
def PlanQ (w : World) (v : Value) (Ls : List (List Nat)) : Prop :=
  ∃ a c, v = .slice a Ls.length c ∧ (0 < Ls.length → ∃ g, a = some ⟨g, 0, none⟩ ∧ ∀ t, t < Ls.length → ∃ s, w.cell? ⟨g, t, none⟩ = some s ∧ RowQ w s (Ls.getD t []))

theorem PlanQ.below {w w' : World} {v : Value} {Ls : List (List Nat)} (h : PlanQ w v Ls) (hb : Below w.heap.size w w') : PlanQ w' v Ls := by
  obtain ⟨a, c, hv, h2⟩ := h
  refine ⟨a, c, hv, fun hp => ?_⟩
  obtain ⟨g, ha, hc⟩ := h2 hp
  refine ⟨g, ha, fun t ht => ?_⟩
  obtain ⟨s, hs, hr⟩ := hc t ht
  exact ⟨s, cell_later hb hs, hr.below hb⟩

theorem OwnN.rowQ {w : World} {base : Nat} {v : Value} {L : List Nat} (h : OwnN w base v L) : RowQ w v L := by
  obtain ⟨a, c, hv, ha, _⟩ := h.form
  refine ⟨⟨a, c, hv, fun hp => ?_⟩, fun g hg => (h.lt g hg).2⟩
  obtain ⟨g, rfl⟩ := ha hp
  subst hv
  exact ⟨g, rfl, fun j hj => h.cell hj⟩

set_option maxRecDepth 100000 in
set_option maxHeartbeats 16000000 in
theorem rlayers_ok (ro co bu : Int) (cs : ByteArray) (b off m cap : Nat) (fr tt : Nat → Int) (k f c T : Nat) (ar : Option Addr) (n capr : Nat) (R : Nat → RuleM) (w : World) (hs : cs.size ≤ maxLen) (hm : m ≤ maxLen) (hn : n ≤ maxLen) (hT : T ≤ 60)
    (hcs : CartsIn w b off m fr tt) (har : RulesAt w ar n R) (he : givenE ro co bu cs m fr tt k n R = 0) (hf : fr k = (f : Int)) (hc : tt k = (c : Int)) (hfN : f < cs.size) (hcN : c < cs.size) :
    Calls Tryd.prog 26 #[.agg #[Value.int IntKind.i64 ro, Value.int IntKind.i64 co, Value.string cs, .slice (some ⟨b, off, none⟩) m cap, Value.int IntKind.i64 bu], .int .i64 (k : Nat), .slice ar n capr, .int .i64 (T : Nat)] w fun e w' =>
      ((∃ v, e = .returned (.tuple #[v, .int .i64 0]) ∧ PlanQ w' v ((List.range (T + 1)).map fun t => outTo co cs n R f c T t cs.size) ∧ ∀ t, t ≤ T → outTo co cs n R f c T t cs.size ≠ []) ∨
        (e = .returned (.tuple #[.slice none 0 0, .int .i64 9]) ∧ ∃ t, t ≤ T ∧ outTo co cs n R f c T t cs.size = [])) ∧ Below w.heap.size w w' := by
  obtain ⟨g1, g2, g3, g4⟩ := given_side he
  have hkm : k < m := by omega
  obtain ⟨sd1, sd2, hsz⟩ := checkM_good g1
  obtain ⟨r1, r2⟩ := side_bd sd1
  obtain ⟨r3, r4⟩ := side_bd sd2
  obtain ⟨hp1, hp2⟩ := mul_bd r1 r2 r3 r4
  have hN2 : cs.size ≤ 36 := by omega
  have HA := Hid.mk har
  have HC := Hid.mk hcs
  have hmm := hm
  have HG1 := Hid.mk g1
  unfold maxLen at hm
  obtain ⟨nn, hnn⟩ : ∃ nn, nn = T + 1 := ⟨_, rfl⟩
  obtain ⟨OL, hOL⟩ : ∃ OL, OL = ((List.range (T + 1)).map fun t => outTo co cs n R f c T t cs.size) := ⟨_, rfl⟩
  rw [← hOL]
  have HOL := Hid.mk hOL
  have HNN := Hid.mk hnn
  have hn1 : nn ≤ T + 1 := by omega
  have hn2 : T + 1 ≤ nn := by omega
  have hwT : IntKind.i64.wrap ((T : Int) + 1) = (nn : Int) := by rw [wrap_mid (by omega) (by omega)]; omega
  clear har hcs g1 g2 g3 g4 sd1 sd2 hsz hp1 hp2 hnn hOL
  have HB0 : Hid (Below w.heap.size w (w.alloc (Obj.cells #[Value.int IntKind.i64 ro, Value.int IntKind.i64 co, Value.string cs, .slice (some ⟨b, off, none⟩) m cap, Value.int IntKind.i64 bu] 24))) := (Below.refl _ w).alloc (Nat.le_refl _) _
  go_enter Tryd.func26, Tryd.ntmps26
  go_wp2_with fail
  have y0 : ∀ o, (w.alloc (Obj.cells #[Value.int IntKind.i64 ro, Value.int IntKind.i64 co, Value.string cs, .slice (some ⟨b, off, none⟩) m cap, Value.int IntKind.i64 bu] 24)).cell? ⟨w.heap.size, o, none⟩ = #[Value.int IntKind.i64 ro, Value.int IntKind.i64 co, Value.string cs, .slice (some ⟨b, off, none⟩) m cap, Value.int IntKind.i64 bu][o]? := by
    intro o; go_simp
  have hz0 : (w.alloc (Obj.cells #[Value.int IntKind.i64 ro, Value.int IntKind.i64 co, Value.string cs, .slice (some ⟨b, off, none⟩) m cap, Value.int IntKind.i64 bu] 24)).heap.size = w.heap.size + 1 := by simp
  generalize w.alloc (Obj.cells #[Value.int IntKind.i64 ro, Value.int IntKind.i64 co, Value.string cs, .slice (some ⟨b, off, none⟩) m cap, Value.int IntKind.i64 bu] 24) = w1 at *
  refine (rcheck_any _ _ _ _ _ _ _ fr tt _ hs hmm (by exact fun _ => ⟨b, off, rfl, HC.out.below HB0.out⟩)).mono ?_
  rintro e w2 ⟨rfl, hb2⟩
  obtain ⟨e2, he2⟩ : ∃ v, v = (checkM ro co cs m fr tt bu).2 := ⟨_, rfl⟩
  rw [← he2, HG1.out]
  have hzl1 : w.heap.size + 1 ≤ w1.heap.size := by omega
  have B2 : Hid (Below w.heap.size w w2) := HB0.out.trans (hb2.mono (by omega))
  have Y2 : Hid (∀ o, w2.cell? ⟨w.heap.size, o, none⟩ = #[Value.int IntKind.i64 ro, Value.int IntKind.i64 co, Value.string cs, .slice (some ⟨b, off, none⟩) m cap, Value.int IntKind.i64 bu][o]?) := fun o => (hb2.cell (p := ⟨w.heap.size, o, none⟩) (by show w.heap.size < _; omega)).trans (y0 o)
  have hz2 : w.heap.size + 1 ≤ w2.heap.size := by have := hb2.size; omega
  have y20 := Y2.out 0
  have y21 := Y2.out 1
  have y22 := Y2.out 2
  have y23 := Y2.out 3
  have y24 := Y2.out 4
  have hT0 : ¬ ((T : Int) < 0) := by omega
  have hT60 : ¬ ((T : Int) > 60) := by omega
  have hT61 : ¬ (60 < (T : Int)) := by omega
  clear y0 hb2 he2 hz0
  go_wp2_with fail
  refine (given_any _ _ _ _ _ _ _ fr tt _ _ _ _ R _ hs hmm hn (by exact fun _ => ⟨b, off, rfl, HC.out.below B2.out⟩) (by exact HA.out.below B2.out)).mono ?_
  rintro e w3 ⟨rfl, hb3⟩
  rw [he]
  have B3 : Hid (Below w.heap.size w w3) := B2.out.trans (hb3.mono (by omega))
  have hz3 : w.heap.size + 1 ≤ w3.heap.size := by have := hb3.size; omega
  have Y3 : Hid (∀ o, w3.cell? ⟨w.heap.size, o, none⟩ = #[Value.int IntKind.i64 ro, Value.int IntKind.i64 co, Value.string cs, .slice (some ⟨b, off, none⟩) m cap, Value.int IntKind.i64 bu][o]?) := fun o => (hb3.cell (p := ⟨w.heap.size, o, none⟩) (by show w.heap.size < _; omega)).trans (Y2.out o)
  have HC3 := Hid.mk (HC.out.below (by exact B3.out))
  have d1 := (HC3.out k hkm).2
  rw [hc] at d1
  have hkmI : (k : Int) < (m : Int) := by omega
  have y30 := Y3.out 0
  have y31 := Y3.out 1
  have y32 := Y3.out 2
  have y33 := Y3.out 3
  have y34 := Y3.out 4
  clear hb3 he y20 y21 y22 y23 y24
  go_wp2_with fail
  refine (first_any _ _ _ _ _ _ _ _ fr tt k f _ _ _ R _ hN2 hn hkm hf hfN (by exact HC3.out) (by exact HA.out.below B3.out)).mono ?_
  rintro e w4 ⟨g0, rfl, hg0, hr4, hb4⟩
  have HR4 := Hid.mk hr4
  have B4 : Hid (Below w.heap.size w w4) := B3.out.trans (hb4.mono (by omega))
  have hz4 : w.heap.size + 1 ≤ w4.heap.size := by have := hb4.size; omega
  have Y4 : Hid (∀ o, w4.cell? ⟨w.heap.size, o, none⟩ = #[Value.int IntKind.i64 ro, Value.int IntKind.i64 co, Value.string cs, .slice (some ⟨b, off, none⟩) m cap, Value.int IntKind.i64 bu][o]?) := fun o => (hb4.cell (p := ⟨w.heap.size, o, none⟩) (by show w.heap.size < _; omega)).trans (Y3.out o)
  clear hb4 hr4 y30 y31 y32 y33 y34 d1
  go_wp2
  go_loopw [14, 15, 16] (fun v14 v15 v16 wr => ∃ (t g : Nat) (V : Value), V = v14 ∧ v15 = .slice (some ⟨g, 0, none⟩) cs.size cs.size ∧ v16 = .int .i64 t ∧ t ≤ nn ∧ wr.rowIs g 4 cs.size (boolV (reachM co cs n R f t)) ∧ ForeIn wr w4.heap.size V t cs.size (fun t => reachM co cs n R f t) ∧ (∀ g', V.ownBlock = some g' → g ≠ g') ∧ Below w4.heap.size w4 wr) (fun _ _ v16 _ => nn - (intOf v16).toNat)
  case atStart => exact ⟨0, g0, _, rfl, rfl, rfl, Nat.zero_le _, HR4.out, ForeIn.nil _ _ _ _, (fun g h => (by cases h)), Below.refl _ _⟩
  case round =>
    obtain ⟨w5, rfl⟩ : ∃ q, q = wr := ⟨_, rfl⟩
    obtain ⟨t, g, V, rfl, rfl, rfl, ht, hrow, hfo, hne, hb5⟩ := hrel
    have ROW5 := Hid.mk hrow
    have FO5 := Hid.mk hfo
    have NE5 := Hid.mk hne
    have B5 := Hid.mk hb5
    have hz5 := hb5.size
    have BW5 : Hid (Below w.heap.size w w5) := B4.out.trans (hb5.mono (by omega))
    have Y5 : Hid (∀ o, w5.cell? ⟨w.heap.size, o, none⟩ = #[Value.int IntKind.i64 ro, Value.int IntKind.i64 co, Value.string cs, .slice (some ⟨b, off, none⟩) m cap, Value.int IntKind.i64 bu][o]?) := fun o => (hb5.cell (p := ⟨w.heap.size, o, none⟩) (by show w.heap.size < _; omega)).trans (Y4.out o)
    clear hrow hfo hne hb5
    by_cases hlt : t < nn
    · have htI : (t : Int) ≤ (T : Int) := by omega
      have hKL : t ≤ 100000000 := by omega
      go_upto_region 17 with (at_builtin; go_must (refine wpList_pushB rfl _ _ rfl w4.heap.size V t cs.size (fun t => reachM co cs n R f t) g rfl FO5.out (by exact hz5) ROW5.out NE5.out _ rfl hKL ?_; intro g9 c9 w6 hfo6 hon6 hat6))
      have hz6 := hon6.size
      have ROW6 : Hid (w6.rowIs g 4 cs.size (boolV (reachM co cs n R f t))) := row_block ROW5.out (hon6.block g ROW5.out.lt (fun hh => NE5.out g hh rfl))
      have B6 : Hid (Below w4.heap.size w4 w6) := B5.out.trans ⟨hon6.os, hon6.tape, hon6.output, hon6.size, fun q hq => hon6.block q (by omega) fun hh => by have := (FO5.out.lt q hh).1; omega⟩
      have FO6 := Hid.mk hfo6
      have BW6 : Hid (Below w.heap.size w w6) := B4.out.trans (B6.out.mono (by omega))
      have Y6 : Hid (∀ o, w6.cell? ⟨w.heap.size, o, none⟩ = #[Value.int IntKind.i64 ro, Value.int IntKind.i64 co, Value.string cs, .slice (some ⟨b, off, none⟩) m cap, Value.int IntKind.i64 bu][o]?) := fun o => (B6.out.cell (p := ⟨w.heap.size, o, none⟩) (by show w.heap.size < _; omega)).trans (Y4.out o)
      have y60 := Y6.out 0
      have y61 := Y6.out 1
      have y62 := Y6.out 2
      have y63 := Y6.out 3
      have y64 := Y6.out 4
      clear hfo6 hon6 hat6
      go_wp2_with fail
      refine (ahead_any ro co bu cs _ ar n capr R g cs.size t (reachM co cs n R f t) w6 hN2 r3 r4 hn (by omega) (HA.out.below BW6.out) ROW6.out).mono ?_
      rintro e w7 ⟨g2, rfl, hg2, hr7, hb7⟩
      have ROW7 : Hid (w7.rowIs g2 4 cs.size (boolV (reachM co cs n R f (t + 1)))) := hr7
      have FO7 := Hid.mk (FO6.out.below hb7)
      have B7 : Hid (Below w4.heap.size w4 w7) := B6.out.trans (hb7.mono B6.out.size)
      have NE7 : Hid (∀ g', (Value.slice (some ⟨g9, 0, none⟩) (t + 1) c9).ownBlock = some g' → g2 ≠ g') := fun g' hg' e => by
        have := (FO6.out.lt g' hg').2
        omega
      clear hr7 hb7 y60 y61 y62 y63 y64
      go_wp2
      go_roundw
      case rel => exact ⟨t + 1, g2, _, rfl, rfl, by go_num, by omega, ROW7.out, FO7.out, NE7.out, B7.out⟩
      case measure => simp [intOf]; omega
    · have htn : t = nn := by omega
      obtain ⟨aF, cF, rfl, haF, _⟩ := FO5.out.form
      obtain ⟨gF, rfl⟩ := haF (by omega)
      have HTN := Hid.mk htn
      have htI : ¬ ((t : Int) ≤ (T : Int)) := by omega
      have y50 := Y5.out 0
      have y51 := Y5.out 1
      have y52 := Y5.out 2
      have y53 := Y5.out 3
      have y54 := Y5.out 4
      clear htn haF
      go_upto_region 19 with (at_make; go_must (refine wpList_make_all _ rfl _ _ 105 rfl 4 _ _ _ Tryd.underlying105 Tryd.infoBool _ _ _ _ cs.size rfl rfl rfl rfl (by omega) (by omega) ?_))
      have hrowb := brow_zero cs.size w5 4 w5.heap.size rfl
      have B6 : Hid (Below w5.heap.size w5 (w5.alloc (Obj.cells (madeCells #[Value.bool false] cs.size) 4))) := (Below.refl _ _).alloc (Nat.le_refl _) _
      have hz6 : (w5.alloc (Obj.cells (madeCells #[Value.bool false] cs.size) 4)).heap.size = w5.heap.size + 1 := by simp
      generalize (w5.alloc (Obj.cells (madeCells #[Value.bool false] cs.size) 4)) = w6 at *
      have ROWB := Hid.mk hrowb
      have hz6a : w5.heap.size + 1 ≤ w6.heap.size := by omega
      have BW6 : Hid (Below w.heap.size w w6) := BW5.out.trans (B6.out.mono (by have := BW5.out.size; omega))
      have Y6 : Hid (∀ o, w6.cell? ⟨w.heap.size, o, none⟩ = #[Value.int IntKind.i64 ro, Value.int IntKind.i64 co, Value.string cs, .slice (some ⟨b, off, none⟩) m cap, Value.int IntKind.i64 bu][o]?) := fun o => (B6.out.cell (p := ⟨w.heap.size, o, none⟩) (by show w.heap.size < _; omega)).trans (Y5.out o)
      have y60 := Y6.out 0
      have y61 := Y6.out 1
      have y62 := Y6.out 2
      have y63 := Y6.out 3
      have y64 := Y6.out 4
      have hcNI : (c : Int) < (cs.size : Int) := by omega
      clear hrowb hz6 y50 y51 y52 y53 y54
      go_wp2_with fail
      refine (stays_any ro co bu cs _ ar n capr R c T w6 hN2 r3 r4 hn (by omega) (HA.out.below BW6.out)).mono ?_
      rintro e w7 ⟨rfl, hb7⟩
      obtain ⟨sv, hsv⟩ : ∃ sv, sv = staysM co cs n R c T := ⟨_, rfl⟩
      rw [← hsv]
      have HSV := Hid.mk hsv
      have HB7 := Hid.mk hb7
      have hz7 := hb7.size
      have ROW7 := Hid.mk (rowIs_below ROWB.out hb7)
      have rc := ROW7.out.cell (i := c) hcN
      have rf := ROW7.out.frozen
      have Y7 : Hid (∀ o, w7.cell? ⟨w.heap.size, o, none⟩ = #[Value.int IntKind.i64 ro, Value.int IntKind.i64 co, Value.string cs, .slice (some ⟨b, off, none⟩) m cap, Value.int IntKind.i64 bu][o]?) := fun o => (hb7.cell (p := ⟨w.heap.size, o, none⟩) (by show w.heap.size < _; omega)).trans (Y6.out o)
      clear hsv hb7 y60 y61 y62 y63 y64
      go_upto_region 21 with (at_make; go_must (refine wpList_make_all _ rfl _ _ 35 rfl 26 _ _ _ Tryd.underlying35 Tryd.infoSl _ _ _ _ nn rfl rfl (by simp) (by simp) (by omega) (by omega) ?_))
      have B58 : Hid (Below w5.heap.size w5 ((w7.setCell ⟨w5.heap.size, c, none⟩ (.bool sv)).alloc (Obj.cells (madeCells #[Value.slice none 0 0] nn) 26))) := ((B6.out.trans (HB7.out.mono (by omega))).setCell (p := ⟨w5.heap.size, c, none⟩) (Nat.le_refl _) _).alloc (by simp [World.setCell]; omega) _
      have hrow8 : ((w7.setCell ⟨w5.heap.size, c, none⟩ (.bool sv)).alloc (Obj.cells (madeCells #[Value.slice none 0 0] nn) 26)).rowIs w5.heap.size 4 cs.size (boolV (bkM co cs n R c T 0)) := by
        refine row_block (brow_store ROW7.out c sv fun j _ => ?_) (Below.heap_alloc _ _ _ (by simp [World.setCell]; omega))
        show _ = (j == c && staysM co cs n R c T)
        rw [← HSV.out]
        by_cases e : j = c
        · subst e; simp
        · have e2 : (j == c) = false := by simpa using e
          rw [if_neg e, e2]; rfl
      have hrowo : ((w7.setCell ⟨w5.heap.size, c, none⟩ (.bool sv)).alloc (Obj.cells (madeCells #[Value.slice none 0 0] nn) 26)).rowIs w7.heap.size 26 nn (fun _ => .slice none 0 0) := nilRow nn (w7.setCell ⟨w5.heap.size, c, none⟩ (.bool sv)) 26 w7.heap.size (by simp [World.setCell])
      have hz8 : ((w7.setCell ⟨w5.heap.size, c, none⟩ (.bool sv)).alloc (Obj.cells (madeCells #[Value.slice none 0 0] nn) 26)).heap.size = w7.heap.size + 1 := by simp [World.setCell]
      generalize ((w7.setCell ⟨w5.heap.size, c, none⟩ (.bool sv)).alloc (Obj.cells (madeCells #[Value.slice none 0 0] nn) 26)) = w8 at *
      have ROW8 := Hid.mk hrow8
      have ROWO := Hid.mk hrowo
      have hz8a : w7.heap.size + 1 ≤ w8.heap.size := by omega
      have FO8 := Hid.mk (FO5.out.below B58.out)
      have BW8 : Hid (Below w.heap.size w w8) := BW5.out.trans (B58.out.mono (by have := BW5.out.size; omega))
      have Y8 : Hid (∀ o, w8.cell? ⟨w.heap.size, o, none⟩ = #[Value.int IntKind.i64 ro, Value.int IntKind.i64 co, Value.string cs, .slice (some ⟨b, off, none⟩) m cap, Value.int IntKind.i64 bu][o]?) := fun o => (B58.out.cell (p := ⟨w.heap.size, o, none⟩) (by show w.heap.size < _; omega)).trans (Y5.out o)
      have hfo8 := ROWO.out.frozen
      have hgF : gF < w5.heap.size := (FO5.out.lt gF rfl).2
      clear hrow8 hrowo hz8 rc rf
      go_wp2
      go_loopw [17, 19] (fun v17 v19 wr => ∃ (j gb : Nat) (z : Int), v17 = .slice (some ⟨gb, 0, none⟩) cs.size cs.size ∧ v19 = .int .i64 z ∧ z = (T : Int) - (j : Int) ∧ j ≤ T + 1 ∧ wr.rowIs gb 4 cs.size (boolV (bkM co cs n R c T j)) ∧ gb ≠ w7.heap.size ∧ (∀ s, s ≤ T → s + j ≤ T → wr.cell? ⟨w7.heap.size, s, none⟩ = some (.slice none 0 0)) ∧ (∀ o, wr.frozen? ⟨w7.heap.size, o, none⟩ = false) ∧
        (∀ s, s ≤ T → T < s + j → ∃ V, wr.cell? ⟨w7.heap.size, s, none⟩ = some V ∧ OwnN wr (w7.heap.size + 1) V (outTo co cs n R f c T s cs.size)) ∧ (∀ s, s ≤ T → T < s + j → outTo co cs n R f c T s cs.size ≠ []) ∧ Below w7.heap.size w8 wr) (fun _ v19 _ => ((intOf v19) + 1).toNat)
      case atStart => exact ⟨0, w5.heap.size, _, rfl, rfl, by omega, by omega, ROW8.out, by omega, fun s hs1 hs2 => ROWO.out.cell (i := s) (by omega), hfo8, fun s h1 h2 => by omega, fun s h1 h2 => by omega, Below.refl _ _⟩
      case round =>
        obtain ⟨w9, rfl⟩ : ∃ q, q = wr := ⟨_, rfl⟩
        obtain ⟨j, gb, z, rfl, rfl, hzj, hj, hrow9, hgb, hnil, hfz, hdone, hful, hb9⟩ := hrel
        have ROW9 := Hid.mk hrow9
        have FZ9 := Hid.mk hfz
        have NIL9 := Hid.mk hnil
        have DONE9 := Hid.mk hdone
        have FUL9 := Hid.mk hful
        have B9 := Hid.mk hb9
        have hz9 := hb9.size
        have BW9 : Hid (Below w.heap.size w w9) := BW8.out.trans (hb9.mono (by omega))
        clear hrow9 hfz hnil hdone hful hb9 hfo8
        by_cases h0 : 0 ≤ z
        · obtain ⟨s, rfl⟩ := Int.eq_ofNat_of_zero_le h0
          have hsj : s + j = T := by omega
          have hsT : s ≤ T := by omega
          have hsn : s < nn := by omega
          have hsnI : (s : Int) < (nn : Int) := by omega
          have hKs : s < t := by have := HTN.out; omega
          have hKsI : (s : Int) < (t : Int) := by omega
          have hws : IntKind.i64.wrap ((s : Int) - 1) = (s : Int) - 1 := wrap_mid (by omega) (by omega)
          have SJ := Hid.mk hsj
          have ZJ := Hid.mk hzj
          clear hzj hsj
          go_wp2
          go_loopw [20] (fun v20 wr => ∃ (x : Nat) (av : Option Addr) (cv : Nat), v20 = .int .i64 x ∧ x ≤ cs.size ∧ wr.cell? ⟨w7.heap.size, s, none⟩ = some (.slice av (outTo co cs n R f c T s x).length cv) ∧ OwnN wr w9.heap.size (.slice av (outTo co cs n R f c T s x).length cv) (outTo co cs n R f c T s x) ∧ (∀ s', s' ≠ s → wr.cell? ⟨w7.heap.size, s', none⟩ = w9.cell? ⟨w7.heap.size, s', none⟩) ∧ (∀ o, wr.frozen? ⟨w7.heap.size, o, none⟩ = false) ∧ Only (fun k => k = w7.heap.size) w9 wr) (fun v20 _ => cs.size - (intOf v20).toNat)
          case atStart => exact ⟨0, none, 0, rfl, Nat.zero_le _, NIL9.out s hsT (by have := SJ.out; omega), OwnN.nil _ _, fun _ _ => rfl, FZ9.out, Only.refl _ _⟩
          case round =>
            obtain ⟨wa, rfl⟩ : ∃ q, q = wr := ⟨_, rfl⟩
            obtain ⟨x, av, cv, rfl, hx, hcell, hown, hoth, hfz, hoa⟩ := hrel
            obtain ⟨nx, hnx⟩ : ∃ nx, nx = (outTo co cs n R f c T s x).length := ⟨_, rfl⟩
            rw [← hnx] at hcell hown
            have NX := Hid.mk hnx
            have OWNA := Hid.mk hown
            have OTHA := Hid.mk hoth
            have FZA := Hid.mk hfz
            have OA := Hid.mk hoa
            have CELLA := Hid.mk hcell
            have hza := hoa.size
            clear hown hoth hnx
            by_cases hlt2 : x < cs.size
            · obtain ⟨gt, hgt, hrt⟩ := FO5.out.cell hKs
              have hgt5 := hrt.lt
              obtain ⟨rb, hrb⟩ : ∃ rb, rb = reachM co cs n R f s x := ⟨_, rfl⟩
              obtain ⟨bb, hbb⟩ : ∃ bb, bb = bkM co cs n R c T j x := ⟨_, rfl⟩
              have hF0 : wa.cell? ⟨gF, s, none⟩ = some (.slice (some ⟨gt, 0, none⟩) cs.size cs.size) := (OA.out.cell (p := ⟨gF, s, none⟩) (by show gF < _; omega) (by show ¬ (gF = w7.heap.size); omega)).trans ((B9.out.cell (p := ⟨gF, s, none⟩) (by show gF < _; omega)).trans ((B58.out.cell (p := ⟨gF, s, none⟩) hgF).trans hgt))
              have hR0 : wa.cell? ⟨gt, x, none⟩ = some (.bool rb) := by
                rw [hrb]
                exact (OA.out.cell (p := ⟨gt, x, none⟩) (by show gt < _; omega) (by show ¬ (gt = w7.heap.size); omega)).trans ((B9.out.cell (p := ⟨gt, x, none⟩) (by show gt < _; omega)).trans ((B58.out.cell (p := ⟨gt, x, none⟩) hgt5).trans (hrt.cell (i := x) hlt2)))
              have hB0 : wa.cell? ⟨gb, x, none⟩ = some (.bool bb) := by
                rw [hbb]
                exact (OA.out.cell (p := ⟨gb, x, none⟩) ROW9.out.lt hgb).trans (ROW9.out.cell (i := x) hlt2)
              have VAL : Hid ((bkM co cs n R c T (T - s) x && reachM co cs n R f s x) = (bb && rb)) := by
                unfold Hid
                rw [hbb, hrb, show T - s = j by have := SJ.out; omega]
              have hxI : (x : Int) < (cs.size : Int) := by omega
              have hfs := FZA.out s
              clear hrb hbb hgt hrt hoa hfz
              have HSKIP : Hid ((bb && rb) = false → outTo co cs n R f c T s (x + 1) = outTo co cs n R f c T s x) := fun h => outTo_out (by rw [VAL.out]; exact h)
              cases bb with
              | false =>
                go_wp2
                go_roundw
                case rel => exact ⟨x + 1, av, cv, by go_num, by omega, by rw [HSKIP.out rfl, ← NX.out]; exact CELLA.out, by rw [HSKIP.out rfl, ← NX.out]; exact OWNA.out, OTHA.out, FZA.out, OA.out⟩
                case measure => simp [intOf]; omega
              | true =>
                cases rb with
                | false =>
                  go_wp2
                  go_roundw
                  case rel => exact ⟨x + 1, av, cv, by go_num, by omega, by rw [HSKIP.out rfl, ← NX.out]; exact CELLA.out, by rw [HSKIP.out rfl, ← NX.out]; exact OWNA.out, OTHA.out, FZA.out, OA.out⟩
                  case measure => simp [intOf]; omega
                | true =>
                  have HHIT : Hid (outTo co cs n R f c T s (x + 1) = outTo co cs n R f c T s x ++ [x]) := outTo_in (by rw [VAL.out]; rfl)
                  have LL : Hid ((outTo co cs n R f c T s x).length ≤ 100000000) := Nat.le_trans outTo_len (by omega)
                  have hnT : ¬ ((Value.slice av nx cv).ownBlock = some w7.heap.size) := fun hh => by have := (OWNA.out.lt _ hh).1; omega
                  have hglA : w7.heap.size < wa.heap.size := by omega
                  go_wp2_with (at_builtin; go_must (refine wpList_pushN rfl _ _ rfl w9.heap.size (.slice av nx cv) (outTo co cs n R f c T s x) x rfl OWNA.out (by exact hza) _ rfl LL.out ?_; intro g5 c5 wb ho5 hon5 hat5; have zc : wb.cell? ⟨w7.heap.size, s, none⟩ = some (.slice av nx cv) := (hon5.cell (p := ⟨w7.heap.size, s, none⟩) hglA hnT).trans CELLA.out; have zf : wb.frozen? ⟨w7.heap.size, s, none⟩ = false := (hon5.frozen (p := ⟨w7.heap.size, s, none⟩) hglA hnT).trans hfs))
                  go_roundw
                  case rel =>
                    have hlen : (outTo co cs n R f c T s x ++ [x]).length = (outTo co cs n R f c T s x).length + 1 := by simp
                    refine ⟨x + 1, some ⟨g5, 0, none⟩, c5, by go_num, by omega, ?_, ?_, fun s' hs' => ?_, fun o => ?_, (OA.out.trans hon5 (fun i hi hh => ?_)).setCell (p := ⟨w7.heap.size, s, none⟩) (fun _ => rfl) _⟩
                    · rw [World.cell?_setCell_same' _ _ _ (by rw [zc]; rfl), HHIT.out, hlen]
                    · rw [HHIT.out]
                      refine own_keep (w := wb) ho5 fun q hq _ _ => Below.heap_setCell wb ⟨w7.heap.size, s, none⟩ _ q (by show q ≠ w7.heap.size; omega)
                    · rw [World.cell?_setCell_other _ _ _ _ (by intro hh; injection hh with _ hh; exact hs' hh.symm), hon5.cell (p := ⟨w7.heap.size, s', none⟩) hglA hnT]
                      exact OTHA.out s' hs'
                    · rw [World.frozen?_setCell, hon5.frozen (p := ⟨w7.heap.size, o, none⟩) hglA hnT]
                      exact FZA.out o
                    · have := (OWNA.out.lt i hh).1
                      omega
                  case measure => simp [intOf]; omega
            · have hd : x = cs.size := by omega
              subst hd
              have YA : Hid (∀ o, wa.cell? ⟨w.heap.size, o, none⟩ = #[Value.int IntKind.i64 ro, Value.int IntKind.i64 co, Value.string cs, .slice (some ⟨b, off, none⟩) m cap, Value.int IntKind.i64 bu][o]?) := fun o => (OA.out.cell (p := ⟨w.heap.size, o, none⟩) (by show w.heap.size < _; omega) (by show ¬ (w.heap.size = w7.heap.size); omega)).trans ((B9.out.cell (p := ⟨w.heap.size, o, none⟩) (by show w.heap.size < _; omega)).trans (Y8.out o))
              have BWA : Hid (Below w.heap.size w wa) := BW9.out.trans (OA.out.below (by have := BW9.out.size; omega) (fun i e => by omega))
              have ROWA : Hid (wa.rowIs gb 4 cs.size (boolV (bkM co cs n R c T j))) := row_block ROW9.out (OA.out.block gb ROW9.out.lt hgb)
              clear hoa hfz
              by_cases hnx0 : nx = 0
              · have e0 : (((nx : Nat) : Int) == 0) = true := by simp [hnx0]
                have HE : Hid (outTo co cs n R f c T s cs.size = []) := by
                  unfold Hid
                  rw [← List.length_eq_zero_iff, ← NX.out]; exact hnx0
                clear hnx0
                go_wp2
                go_ret2
                exact ⟨.inr ⟨rfl, s, hsT, HE.out⟩, BWA.out⟩
              · have e0 : (((nx : Nat) : Int) == 0) = false := by simpa using hnx0
                have HE : Hid (outTo co cs n R f c T s cs.size ≠ []) := fun h => hnx0 (by rw [NX.out, h]; rfl)
                obtain ⟨jb, hjb⟩ : ∃ jb, jb = decide (j = 0) := ⟨_, rfl⟩
                have e1 : (((s : Nat) : Int) == ((T : Nat) : Int)) = jb := by
                  rw [hjb, Bool.eq_iff_iff, beq_iff_eq, decide_eq_true_eq]
                  have := SJ.out
                  omega
                have HJB := Hid.mk hjb
                have y0 := YA.out 0
                have y1 := YA.out 1
                have y2 := YA.out 2
                have y3 := YA.out 3
                have y4 := YA.out 4
                clear hnx0 hjb
                go_wp2_with fail
                refine (behind_any ro co bu cs _ ar n capr R gb cs.size s jb (bkM co cs n R c T j) wa hN2 r3 r4 hn (by omega) (HA.out.below BWA.out) ROWA.out).mono ?_
                rintro e wb ⟨g3, rfl, hg3, hrb, hbb⟩
                have ROWN : Hid (wb.rowIs g3 4 cs.size (boolV (bkM co cs n R c T (j + 1)))) := by
                  have h : bkM co cs n R c T (j + 1) = fun a => anyB (behP co cs n R (bkM co cs n R c T j) ((s : Int) - 1) jb a) cs.size := by
                    funext a
                    show anyB (behP co cs n R (bkM co cs n R c T j) (((T - j : Nat) : Int) - 1) (decide (j = 0)) a) cs.size = _
                    rw [← HJB.out, show T - j = s by have := SJ.out; omega]
                  rw [h]; exact hrb
                have HBB := Hid.mk hbb
                have hzb := hbb.size
                have hglA : w7.heap.size < wa.heap.size := by omega
                clear hrb hbb y0 y1 y2 y3 y4
                go_wp2
                go_roundw
                case rel =>
                  refine ⟨j + 1, g3, _, rfl, rfl, by have := ZJ.out; omega, by have := SJ.out; omega, ROWN.out, by omega, fun s' h1 h2 => ?_, fun o => (HBB.out.frozen (p := ⟨w7.heap.size, o, none⟩) hglA).trans (FZA.out o), fun s' h1 h2 => ?_, fun s' h1 h2 => ?_, (B9.out.trans (OA.out.below (by omega) (fun i e => by omega))).trans (HBB.out.mono (by omega))⟩
                  · rw [HBB.out.cell (p := ⟨w7.heap.size, s', none⟩) hglA, OTHA.out s' (by have := SJ.out; omega)]
                    exact NIL9.out s' h1 (by omega)
                  · by_cases e : s' = s
                    · subst e
                      exact ⟨_, (HBB.out.cell (p := ⟨w7.heap.size, s', none⟩) hglA).trans CELLA.out, OwnN.le (OWNA.out.below HBB.out) (by omega)⟩
                    · obtain ⟨V, hV, hoV⟩ := DONE9.out s' h1 (by have := SJ.out; omega)
                      refine ⟨V, (HBB.out.cell (p := ⟨w7.heap.size, s', none⟩) hglA).trans ((OTHA.out s' e).trans hV), ?_⟩
                      exact OwnN.below (own_keep hoV fun q hq hl _ => OA.out.block q hl (by omega)) HBB.out
                  · by_cases e : s' = s
                    · subst e; exact HE.out
                    · exact FUL9.out s' h1 (by have := SJ.out; omega)
                case measure => first | (simp [intOf]; done) | (simp [intOf]; omega)
        · have hjT : j = T + 1 := by omega
          subst hjT
          go_wp2
          go_ret2
          have hl : OL.length = nn := by rw [HOL.out, List.length_map, List.length_range, HNN.out]
          refine ⟨.inl ⟨.slice (some ⟨w7.heap.size, 0, none⟩) nn nn, rfl, ⟨some ⟨w7.heap.size, 0, none⟩, nn, by rw [hl], fun _ => ⟨w7.heap.size, rfl, fun s hs => ?_⟩⟩, fun s hs => FUL9.out s hs (by omega)⟩, BW9.out⟩
          rw [hl] at hs
          obtain ⟨V, hV, hoV⟩ := DONE9.out s (by omega) (by omega)
          refine ⟨V, hV, ?_⟩
          rw [HOL.out, List.getD_eq_getElem?_getD, List.getElem?_map, List.getElem?_range (by omega)]
          exact hoV.rowQ

end Go.Proofs.YtnkgpinadgacgaaDoor
