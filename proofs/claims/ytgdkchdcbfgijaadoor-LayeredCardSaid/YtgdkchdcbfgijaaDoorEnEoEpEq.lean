/- Walk of the document's Layers. -/
import Derived.Test.YtgdkchdcbfgijaaDoorEiEjEkElEm
import Derived.Test.YtgdkchdcbfgijaaDoorDu
import Derived.Test.YtgdkchdcbfgijaaDoorBe
namespace Go.Proofs.YtgdkchdcbfgijaaDoor
open Go.RowKit M

theorem Tryd.infoBl : (Tryd.prog.info? 95).map (fun i => (i.zero, i.size, i.bytes)) = some (some (.slice none 0 0), 1, 24) := by kernel_rfl

/-- A list of rows of bools that the call made. -/
def ForeIn (w : World) (base : Nat) (v : Value) (K N : Nat) (F : Nat → Nat → Bool) : Prop :=
  ∃ A : List Value, A.length = K ∧ w.ownsRow base 95 1 v K A ∧ ∀ t, t < K → ∃ g, A.getD t (.bool false) = .slice (some ⟨g, 0, none⟩) N N ∧ w.rowIs g 4 N (boolV (F t)) ∧ ∀ g', v.ownBlock = some g' → g ≠ g'

theorem ForeIn.nil (w : World) (base N : Nat) (F : Nat → Nat → Bool) : ForeIn w base (.slice none 0 0) 0 N F := ⟨[], rfl, ⟨rfl, .inl ⟨rfl, rfl⟩⟩, fun t h => absurd h (Nat.not_lt_zero t)⟩

theorem ForeIn.only {w w' : World} {base K N : Nat} {v : Value} {F : Nat → Nat → Bool} {S : Nat → Prop} (h : ForeIn w base v K N F) (ho : Only S w w') (hS : ∀ k, base ≤ k → ¬ S k) (hS2 : ∀ t g, t < K → w.rowIs g 4 N (boolV (F t)) → ¬ S g) : ForeIn w' base v K N F := by
  obtain ⟨A, h1, h2, h3⟩ := h
  refine ⟨A, h1, own_keep h2 fun g hg hl _ => ho.block g hl (hS g hg), fun t ht => ?_⟩
  obtain ⟨g, e, hr, hne⟩ := h3 t ht
  exact ⟨g, e, row_block hr (ho.block g hr.lt (hS2 t g ht hr)), hne⟩

theorem ForeIn.below {w w' : World} {base K N : Nat} {v : Value} {F : Nat → Nat → Bool} (h : ForeIn w base v K N F) (hb : Below w.heap.size w w') : ForeIn w' base v K N F :=
  h.only (Only.of_below hb : Only (fun _ => False) w w') (fun _ _ e => e) (fun _ _ _ _ e => e)

theorem ForeIn.form {w : World} {base K N : Nat} {v : Value} {F : Nat → Nat → Bool} (h : ForeIn w base v K N F) : ∃ a cap, v = .slice a K cap ∧ (0 < K → ∃ g, a = some ⟨g, 0, none⟩) ∧ K ≤ cap := by
  obtain ⟨A, h1, h2, h3⟩ := h
  exact own_form h2

theorem ForeIn.lt {w : World} {base K N : Nat} {v : Value} {F : Nat → Nat → Bool} (h : ForeIn w base v K N F) : ∀ g, v.ownBlock = some g → base ≤ g ∧ g < w.heap.size := by
  obtain ⟨A, h1, h2, h3⟩ := h
  exact fun g hg => h2.lt g hg

theorem ForeIn.cell {w : World} {base g n cap K N : Nat} {F : Nat → Nat → Bool} (h : ForeIn w base (.slice (some ⟨g, 0, none⟩) n cap) K N F) {t : Nat} (ht : t < K) : ∃ gt, w.cell? ⟨g, t, none⟩ = some (.slice (some ⟨gt, 0, none⟩) N N) ∧ w.rowIs gt 4 N (boolV (F t)) := by
  obtain ⟨a0, cap2, hv, _, _⟩ := h.form
  obtain ⟨A, h1, h2, h3⟩ := h
  have e : n = K := by cases hv; rfl
  subst e
  obtain ⟨gt, e, hr, _⟩ := h3 t ht
  refine ⟨gt, ?_, hr⟩
  rw [own_cell h2 ht, ← e, List.getD_eq_getElem?_getD, List.getElem?_eq_getElem (by omega)]; rfl

set_option maxRecDepth 100000 in
theorem wpList_pushB {w0 : World} {ops : Array Oper} {rest : List Oper} {o : Oper} {a : Act} {Q : Exit → Act → World → Prop} (hgd : o.guard = none) (s x : Operand)
    (ho : o.op = .call { callee := .builtin .append, args := #[s, x], argTypes := #[102, 102] })
    (base : Nat) (v : Value) (K N : Nat) (F : Nat → Nat → Bool) (gy : Nat) (hs : a.eval s = v) (hown : ForeIn w0 base v K N F) (hbase : base ≤ w0.heap.size) (hy : w0.rowIs gy 4 N (boolV (F K))) (hd : ∀ g, v.ownBlock = some g → gy ≠ g) (c : Nat)
    (hx : a.eval x = .slice (some ⟨w0.heap.size, 0, none⟩) 1 c) (hL : K ≤ 100000000)
    (h : ∀ g cap w', ForeIn w' base (.slice (some ⟨g, 0, none⟩) (K + 1) cap) (K + 1) N F → Only (fun k => v.ownBlock = some k) w0 w' → (v.ownBlock = some g ∨ w0.heap.size ≤ g) → wpList Tryd.prog ops Q rest (a.put o.dst (.slice (some ⟨g, 0, none⟩) (K + 1) cap)) w') :
    wpList Tryd.prog ops Q (o :: rest) a (w0.alloc (.cells #[.slice (some ⟨gy, 0, none⟩) N N] 95)) := by
  obtain ⟨i0, hi0, hi1, hi2, hi3⟩ := info_parts Tryd.infoBl
  obtain ⟨A, h1, h2, h3⟩ := hown
  have hown1 := own_keep (w' := w0.alloc (.cells #[.slice (some ⟨gy, 0, none⟩) N N] 95)) h2 (fun g _ hg _ => Below.heap_alloc _ _ _ hg)
  refine wpList_append_lies _ hgd s x _ ho base 95 i0 _ 1 24 Tryd.underlying102 hi0 hi1 hi2 hi3 rfl (by omega) v K A hs hown1 _ 1 c [.slice (some ⟨gy, 0, none⟩) N N] hx rfl (fun j u hj => ?_) (fun u hu => ?_) (by omega) (by unfold maxLen; omega) (by omega) (by simp; omega) (w0.heap.size + 1) (by simp) ?_
  · match j, hj with
    | 0, hj => simp at hj; subst hj; simp [Addr.add]
    | j + 1, hj => simp at hj
  · simp at hu; subst hu; rfl
  · intro g cap w' ho9 hg9 hl9 _
    have hon : Only (fun k => v.ownBlock = some k) w0 w' := ⟨hg9.os, hg9.tape, hg9.output, Nat.le_trans (by simp) hg9.size, fun k hk hn => by
      rw [hg9.block k (by simp; omega) (fun e => hn e.symm)]
      exact Below.heap_alloc _ _ _ hk⟩
    have hat : v.ownBlock = some g ∨ w0.heap.size ≤ g := hl9.imp id (fun e => by omega)
    refine h g cap w' ⟨A ++ [.slice (some ⟨gy, 0, none⟩) N N], by simp [h1], ho9, fun t ht => ?_⟩ hon hat
    by_cases htl : t < K
    · obtain ⟨gt, e, hr, hne⟩ := h3 t htl
      refine ⟨gt, by rw [getD_snoc_old (by omega)]; exact e, row_block hr (hon.block gt hr.lt (fun hh => hne gt hh rfl)), fun g' hg' => ?_⟩
      have eg : g = g' := Option.some.inj hg'
      subst eg
      rcases hat with hh | hh
      · exact hne g hh
      · have := hr.lt; omega
    · have e : t = K := by omega
      subst e
      refine ⟨gy, by rw [getD_snoc_new (by omega)], row_block hy (hon.block gy hy.lt (fun hh => hd gy hh rfl)), fun g' hg' => ?_⟩
      have eg : g = g' := Option.some.inj hg'
      subst eg
      rcases hat with hh | hh
      · exact hd g hh
      · have := hy.lt; omega

/-- From where the cart can still come to its end, j instants ahead of it. -/
def bkM (co : Int) (cs : ByteArray) (n : Nat) (R : Nat → RuleM) (c T : Nat) : Nat → Nat → Bool
  | 0, a => a == c && staysM co cs n R c T
  | j + 1, a => anyB (behP co cs n R (bkM co cs n R c T j) (((T - j : Nat) : Int) - 1) (decide (j = 0)) a) cs.size

/-- Of the cells below a those on which the cart can be at an instant. -/
def outTo (co : Int) (cs : ByteArray) (n : Nat) (R : Nat → RuleM) (f c T t a : Nat) : List Nat := (List.range a).filter fun x => bkM co cs n R c T (T - t) x && reachM co cs n R f t x

theorem outTo_in {co : Int} {cs : ByteArray} {n : Nat} {R : Nat → RuleM} {f c T t a : Nat} (h : (bkM co cs n R c T (T - t) a && reachM co cs n R f t a) = true) : outTo co cs n R f c T t (a + 1) = outTo co cs n R f c T t a ++ [a] := by
  unfold outTo
  rw [List.range_succ, List.filter_append]
  simp only [List.filter_cons, List.filter_nil]
  rw [if_pos h]

theorem outTo_out {co : Int} {cs : ByteArray} {n : Nat} {R : Nat → RuleM} {f c T t a : Nat} (h : (bkM co cs n R c T (T - t) a && reachM co cs n R f t a) = false) : outTo co cs n R f c T t (a + 1) = outTo co cs n R f c T t a := by
  unfold outTo
  rw [List.range_succ, List.filter_append]
  simp only [List.filter_cons, List.filter_nil]
  rw [if_neg (by rw [h]; simp), List.append_nil]

theorem outTo_len {co : Int} {cs : ByteArray} {n : Nat} {R : Nat → RuleM} {f c T t a : Nat} : (outTo co cs n R f c T t a).length ≤ a := by
  unfold outTo
  exact Nat.le_trans (List.length_filter_le _ _) (by simp)

/-- A list of lists that can be read. -/
def PlanQ (w : World) (v : Value) (Ls : List (List Nat)) : Prop :=
  ∃ a c, v = .slice a Ls.length c ∧ (0 < Ls.length → ∃ g, a = some ⟨g, 0, none⟩ ∧ ∀ t, t < Ls.length → ∃ s, w.cell? ⟨g, t, none⟩ = some s ∧ RowQ w s (Ls.getD t []))

theorem PlanQ.below {w w' : World} {v : Value} {Ls : List (List Nat)} (h : PlanQ w v Ls) (hb : Below w.heap.size w w') : PlanQ w' v Ls := by
  obtain ⟨a, c, hv, h2⟩ := h
  refine ⟨a, c, hv, fun hp => ?_⟩
  obtain ⟨g, ha, hc⟩ := h2 hp
  refine ⟨g, ha, fun t ht => ?_⟩
  obtain ⟨s, hs, hr⟩ := hc t ht
  exact ⟨s, cell_later hb hs, hr.below hb⟩

theorem OwnN.rowQ {w : World} {base : Nat} {v : Value} {L : List Nat} (h : OwnN w base v L) : RowQ w v L := by
  obtain ⟨a, c, hv, ha, _⟩ := h.form
  refine ⟨⟨a, c, hv, fun hp => ?_⟩, fun g hg => (h.lt g hg).2⟩
  obtain ⟨g, rfl⟩ := ha hp
  subst hv
  exact ⟨g, rfl, fun j hj => h.cell hj⟩

set_option maxRecDepth 100000 in
set_option maxHeartbeats 16000000 in
theorem rlayers_ok (ro co bu : Int) (cs : ByteArray) (b off m cap : Nat) (fr tt : Nat → Int) (k f c T : Nat) (ar : Option Addr) (n capr : Nat) (R : Nat → RuleM) (w : World) (hs : cs.size ≤ maxLen) (hm : m ≤ maxLen) (hn : n ≤ maxLen) (hT : T ≤ 60)
    (hcs : CartsIn w b off m fr tt) (har : RulesAt w ar n R) (he : givenE ro co bu cs m fr tt k n R = 0) (hf : fr k = (f : Int)) (hc : tt k = (c : Int)) (hfN : f < cs.size) (hcN : c < cs.size) :
    Calls Tryd.prog 25 #[.agg #[Value.int IntKind.i64 ro, Value.int IntKind.i64 co, Value.string cs, .slice (some ⟨b, off, none⟩) m cap, Value.int IntKind.i64 bu], .int .i64 (k : Nat), .slice ar n capr, .int .i64 (T : Nat)] w fun e w' =>
      ((∃ v, e = .returned (.tuple #[v, .int .i64 0]) ∧ PlanQ w' v ((List.range (T + 1)).map fun t => outTo co cs n R f c T t cs.size) ∧ ∀ t, t ≤ T → outTo co cs n R f c T t cs.size ≠ []) ∨
        (e = .returned (.tuple #[.slice none 0 0, .int .i64 9]) ∧ ∃ t, t ≤ T ∧ outTo co cs n R f c T t cs.size = [])) ∧ Below w.heap.size w w' := by
  obtain ⟨g1, g2, g3, g4⟩ := given_side he
  have hkm : k < m := by omega
  obtain ⟨sd1, sd2, hsz⟩ := checkM_good g1
  obtain ⟨r1, r2⟩ := side_bd sd1
  obtain ⟨r3, r4⟩ := side_bd sd2
  obtain ⟨hp1, hp2⟩ := mul_bd r1 r2 r3 r4
  have hN2 : cs.size ≤ 36 := by omega
  have HA := Hid.mk har
  have HC := Hid.mk hcs
  have hmm := hm
  have HG1 := Hid.mk g1
  unfold maxLen at hm
  obtain ⟨nn, hnn⟩ : ∃ nn, nn = T + 1 := ⟨_, rfl⟩
  obtain ⟨OL, hOL⟩ : ∃ OL, OL = ((List.range (T + 1)).map fun t => outTo co cs n R f c T t cs.size) := ⟨_, rfl⟩
  rw [← hOL]
  have HOL := Hid.mk hOL
  have HNN := Hid.mk hnn
  have hn1 : nn ≤ T + 1 := by omega
  have hn2 : T + 1 ≤ nn := by omega
  have hwT : IntKind.i64.wrap ((T : Int) + 1) = (nn : Int) := by rw [wrap_mid (by omega) (by omega)]; omega
  clear har hcs g1 g2 g3 g4 sd1 sd2 hsz hp1 hp2 hnn hOL
  have HB0 : Hid (Below w.heap.size w (w.alloc (Obj.cells #[Value.int IntKind.i64 ro, Value.int IntKind.i64 co, Value.string cs, .slice (some ⟨b, off, none⟩) m cap, Value.int IntKind.i64 bu] 24))) := (Below.refl _ w).alloc (Nat.le_refl _) _
  go_enter Tryd.func25, Tryd.ntmps25
  go_wp2_with fail
  have y0 : ∀ o, (w.alloc (Obj.cells #[Value.int IntKind.i64 ro, Value.int IntKind.i64 co, Value.string cs, .slice (some ⟨b, off, none⟩) m cap, Value.int IntKind.i64 bu] 24)).cell? ⟨w.heap.size, o, none⟩ = #[Value.int IntKind.i64 ro, Value.int IntKind.i64 co, Value.string cs, .slice (some ⟨b, off, none⟩) m cap, Value.int IntKind.i64 bu][o]? := by
    intro o; go_simp
  have hz0 : (w.alloc (Obj.cells #[Value.int IntKind.i64 ro, Value.int IntKind.i64 co, Value.string cs, .slice (some ⟨b, off, none⟩) m cap, Value.int IntKind.i64 bu] 24)).heap.size = w.heap.size + 1 := by simp
  generalize w.alloc (Obj.cells #[Value.int IntKind.i64 ro, Value.int IntKind.i64 co, Value.string cs, .slice (some ⟨b, off, none⟩) m cap, Value.int IntKind.i64 bu] 24) = w1 at *
  refine (rcheck_any _ _ _ _ _ _ _ fr tt _ hs hmm (by exact fun _ => ⟨b, off, rfl, HC.out.below HB0.out⟩)).mono ?_
  rintro e w2 ⟨rfl, hb2⟩
  obtain ⟨e2, he2⟩ : ∃ v, v = (checkM ro co cs m fr tt bu).2 := ⟨_, rfl⟩
  rw [← he2, HG1.out]
  have hzl1 : w.heap.size + 1 ≤ w1.heap.size := by omega
  have B2 : Hid (Below w.heap.size w w2) := HB0.out.trans (hb2.mono (by omega))
  have Y2 : Hid (∀ o, w2.cell? ⟨w.heap.size, o, none⟩ = #[Value.int IntKind.i64 ro, Value.int IntKind.i64 co, Value.string cs, .slice (some ⟨b, off, none⟩) m cap, Value.int IntKind.i64 bu][o]?) := fun o => (hb2.cell (p := ⟨w.heap.size, o, none⟩) (by show w.heap.size < _; omega)).trans (y0 o)
  have hz2 : w.heap.size + 1 ≤ w2.heap.size := by have := hb2.size; omega
  have y20 := Y2.out 0
  have y21 := Y2.out 1
  have y22 := Y2.out 2
  have y23 := Y2.out 3
  have y24 := Y2.out 4
  have hT0 : ¬ ((T : Int) < 0) := by omega
  have hT60 : ¬ ((T : Int) > 60) := by omega
  have hT61 : ¬ (60 < (T : Int)) := by omega
  clear y0 hb2 he2 hz0
  go_wp2_with fail
  refine (given_any _ _ _ _ _ _ _ fr tt _ _ _ _ R _ hs hmm hn (by exact fun _ => ⟨b, off, rfl, HC.out.below B2.out⟩) (by exact HA.out.below B2.out)).mono ?_
  rintro e w3 ⟨rfl, hb3⟩
  rw [he]
  have B3 : Hid (Below w.heap.size w w3) := B2.out.trans (hb3.mono (by omega))
  have hz3 : w.heap.size + 1 ≤ w3.heap.size := by have := hb3.size; omega
  have Y3 : Hid (∀ o, w3.cell? ⟨w.heap.size, o, none⟩ = #[Value.int IntKind.i64 ro, Value.int IntKind.i64 co, Value.string cs, .slice (some ⟨b, off, none⟩) m cap, Value.int IntKind.i64 bu][o]?) := fun o => (hb3.cell (p := ⟨w.heap.size, o, none⟩) (by show w.heap.size < _; omega)).trans (Y2.out o)
  have HC3 := Hid.mk (HC.out.below (by exact B3.out))
  have d1 := (HC3.out k hkm).2
  rw [hc] at d1
  have hkmI : (k : Int) < (m : Int) := by omega
  have y30 := Y3.out 0
  have y31 := Y3.out 1
  have y32 := Y3.out 2
  have y33 := Y3.out 3
  have y34 := Y3.out 4
  clear hb3 he y20 y21 y22 y23 y24
  go_wp2_with fail
  refine (first_any _ _ _ _ _ _ _ _ fr tt k f _ _ _ R _ hN2 hn hkm hf hfN (by exact HC3.out) (by exact HA.out.below B3.out)).mono ?_
  rintro e w4 ⟨g0, rfl, hg0, hr4, hb4⟩
  have HR4 := Hid.mk hr4
  have B4 : Hid (Below w.heap.size w w4) := B3.out.trans (hb4.mono (by omega))
  have hz4 : w.heap.size + 1 ≤ w4.heap.size := by have := hb4.size; omega
  have Y4 : Hid (∀ o, w4.cell? ⟨w.heap.size, o, none⟩ = #[Value.int IntKind.i64 ro, Value.int IntKind.i64 co, Value.string cs, .slice (some ⟨b, off, none⟩) m cap, Value.int IntKind.i64 bu][o]?) := fun o => (hb4.cell (p := ⟨w.heap.size, o, none⟩) (by show w.heap.size < _; omega)).trans (Y3.out o)
  clear hb4 hr4 y30 y31 y32 y33 y34 d1
  go_wp2
  go_loopw [14, 15, 16] (fun v14 v15 v16 wr => ∃ (t g : Nat) (V : Value), V = v14 ∧ v15 = .slice (some ⟨g, 0, none⟩) cs.size cs.size ∧ v16 = .int .i64 t ∧ t ≤ nn ∧ wr.rowIs g 4 cs.size (boolV (reachM co cs n R f t)) ∧ ForeIn wr w4.heap.size V t cs.size (fun t => reachM co cs n R f t) ∧ (∀ g', V.ownBlock = some g' → g ≠ g') ∧ Below w4.heap.size w4 wr) (fun _ _ v16 _ => nn - (intOf v16).toNat)
  case atStart => exact ⟨0, g0, _, rfl, rfl, rfl, Nat.zero_le _, HR4.out, ForeIn.nil _ _ _ _, (fun g h => (by cases h)), Below.refl _ _⟩
  case round =>
    obtain ⟨w5, rfl⟩ : ∃ q, q = wr := ⟨_, rfl⟩
    obtain ⟨t, g, V, rfl, rfl, rfl, ht, hrow, hfo, hne, hb5⟩ := hrel
    have ROW5 := Hid.mk hrow
    have FO5 := Hid.mk hfo
    have NE5 := Hid.mk hne
    have B5 := Hid.mk hb5
    have hz5 := hb5.size
    have BW5 : Hid (Below w.heap.size w w5) := B4.out.trans (hb5.mono (by omega))
    have Y5 : Hid (∀ o, w5.cell? ⟨w.heap.size, o, none⟩ = #[Value.int IntKind.i64 ro, Value.int IntKind.i64 co, Value.string cs, .slice (some ⟨b, off, none⟩) m cap, Value.int IntKind.i64 bu][o]?) := fun o => (hb5.cell (p := ⟨w.heap.size, o, none⟩) (by show w.heap.size < _; omega)).trans (Y4.out o)
    clear hrow hfo hne hb5
    by_cases hlt : t < nn
    · have htI : (t : Int) ≤ (T : Int) := by omega
      have hKL : t ≤ 100000000 := by omega
      go_upto_region 17 with (at_builtin; go_must (refine wpList_pushB rfl _ _ rfl w4.heap.size V t cs.size (fun t => reachM co cs n R f t) g rfl FO5.out (by exact hz5) ROW5.out NE5.out _ rfl hKL ?_; intro g9 c9 w6 hfo6 hon6 hat6))
      have hz6 := hon6.size
      have ROW6 : Hid (w6.rowIs g 4 cs.size (boolV (reachM co cs n R f t))) := row_block ROW5.out (hon6.block g ROW5.out.lt (fun hh => NE5.out g hh rfl))
      have B6 : Hid (Below w4.heap.size w4 w6) := B5.out.trans ⟨hon6.os, hon6.tape, hon6.output, hon6.size, fun q hq => hon6.block q (by omega) fun hh => by have := (FO5.out.lt q hh).1; omega⟩
      have FO6 := Hid.mk hfo6
      have BW6 : Hid (Below w.heap.size w w6) := B4.out.trans (B6.out.mono (by omega))
      have Y6 : Hid (∀ o, w6.cell? ⟨w.heap.size, o, none⟩ = #[Value.int IntKind.i64 ro, Value.int IntKind.i64 co, Value.string cs, .slice (some ⟨b, off, none⟩) m cap, Value.int IntKind.i64 bu][o]?) := fun o => (B6.out.cell (p := ⟨w.heap.size, o, none⟩) (by show w.heap.size < _; omega)).trans (Y4.out o)
      have y60 := Y6.out 0
      have y61 := Y6.out 1
      have y62 := Y6.out 2
      have y63 := Y6.out 3
      have y64 := Y6.out 4
      clear hfo6 hon6 hat6
      go_wp2_with fail
      refine (ahead_any ro co bu cs _ ar n capr R g cs.size t (reachM co cs n R f t) w6 hN2 r3 r4 hn (by omega) (HA.out.below BW6.out) ROW6.out).mono ?_
      rintro e w7 ⟨g2, rfl, hg2, hr7, hb7⟩
      have ROW7 : Hid (w7.rowIs g2 4 cs.size (boolV (reachM co cs n R f (t + 1)))) := hr7
      have FO7 := Hid.mk (FO6.out.below hb7)
      have B7 : Hid (Below w4.heap.size w4 w7) := B6.out.trans (hb7.mono B6.out.size)
      have NE7 : Hid (∀ g', (Value.slice (some ⟨g9, 0, none⟩) (t + 1) c9).ownBlock = some g' → g2 ≠ g') := fun g' hg' e => by
        have := (FO6.out.lt g' hg').2
        omega
      clear hr7 hb7 y60 y61 y62 y63 y64
      go_wp2
      go_roundw
      case rel => exact ⟨t + 1, g2, _, rfl, rfl, by go_num, by omega, ROW7.out, FO7.out, NE7.out, B7.out⟩
      case measure => simp [intOf]; omega
    · have htn : t = nn := by omega
      obtain ⟨aF, cF, rfl, haF, _⟩ := FO5.out.form
      obtain ⟨gF, rfl⟩ := haF (by omega)
      have HTN := Hid.mk htn
      have htI : ¬ ((t : Int) ≤ (T : Int)) := by omega
      have y50 := Y5.out 0
      have y51 := Y5.out 1
      have y52 := Y5.out 2
      have y53 := Y5.out 3
      have y54 := Y5.out 4
      clear htn haF
      go_upto_region 19 with (at_make; go_must (refine wpList_make_all _ rfl _ _ 95 rfl 4 _ _ _ Tryd.underlying95 Tryd.infoBool _ _ _ _ cs.size rfl rfl rfl rfl (by omega) (by omega) ?_))
      have hrowb := brow_zero cs.size w5 4 w5.heap.size rfl
      have B6 : Hid (Below w5.heap.size w5 (w5.alloc (Obj.cells (madeCells #[Value.bool false] cs.size) 4))) := (Below.refl _ _).alloc (Nat.le_refl _) _
      have hz6 : (w5.alloc (Obj.cells (madeCells #[Value.bool false] cs.size) 4)).heap.size = w5.heap.size + 1 := by simp
      generalize (w5.alloc (Obj.cells (madeCells #[Value.bool false] cs.size) 4)) = w6 at *
      have ROWB := Hid.mk hrowb
      have hz6a : w5.heap.size + 1 ≤ w6.heap.size := by omega
      have BW6 : Hid (Below w.heap.size w w6) := BW5.out.trans (B6.out.mono (by have := BW5.out.size; omega))
      have Y6 : Hid (∀ o, w6.cell? ⟨w.heap.size, o, none⟩ = #[Value.int IntKind.i64 ro, Value.int IntKind.i64 co, Value.string cs, .slice (some ⟨b, off, none⟩) m cap, Value.int IntKind.i64 bu][o]?) := fun o => (B6.out.cell (p := ⟨w.heap.size, o, none⟩) (by show w.heap.size < _; omega)).trans (Y5.out o)
      have y60 := Y6.out 0
      have y61 := Y6.out 1
      have y62 := Y6.out 2
      have y63 := Y6.out 3
      have y64 := Y6.out 4
      have hcNI : (c : Int) < (cs.size : Int) := by omega
      clear hrowb hz6 y50 y51 y52 y53 y54
      go_wp2_with fail
      refine (stays_any ro co bu cs _ ar n capr R c T w6 hN2 r3 r4 hn (by omega) (HA.out.below BW6.out)).mono ?_
      rintro e w7 ⟨rfl, hb7⟩
      obtain ⟨sv, hsv⟩ : ∃ sv, sv = staysM co cs n R c T := ⟨_, rfl⟩
      rw [← hsv]
      have HSV := Hid.mk hsv
      have HB7 := Hid.mk hb7
      have hz7 := hb7.size
      have ROW7 := Hid.mk (rowIs_below ROWB.out hb7)
      have rc := ROW7.out.cell (i := c) hcN
      have rf := ROW7.out.frozen
      have Y7 : Hid (∀ o, w7.cell? ⟨w.heap.size, o, none⟩ = #[Value.int IntKind.i64 ro, Value.int IntKind.i64 co, Value.string cs, .slice (some ⟨b, off, none⟩) m cap, Value.int IntKind.i64 bu][o]?) := fun o => (hb7.cell (p := ⟨w.heap.size, o, none⟩) (by show w.heap.size < _; omega)).trans (Y6.out o)
      clear hsv hb7 y60 y61 y62 y63 y64
      go_upto_region 21 with (at_make; go_must (refine wpList_make_all _ rfl _ _ 35 rfl 26 _ _ _ Tryd.underlying35 Tryd.infoSl _ _ _ _ nn rfl rfl (by simp) (by simp) (by omega) (by omega) ?_))
      have B58 : Hid (Below w5.heap.size w5 ((w7.setCell ⟨w5.heap.size, c, none⟩ (.bool sv)).alloc (Obj.cells (madeCells #[Value.slice none 0 0] nn) 26))) := ((B6.out.trans (HB7.out.mono (by omega))).setCell (p := ⟨w5.heap.size, c, none⟩) (Nat.le_refl _) _).alloc (by simp [World.setCell]; omega) _
      have hrow8 : ((w7.setCell ⟨w5.heap.size, c, none⟩ (.bool sv)).alloc (Obj.cells (madeCells #[Value.slice none 0 0] nn) 26)).rowIs w5.heap.size 4 cs.size (boolV (bkM co cs n R c T 0)) := by
        refine row_block (brow_store ROW7.out c sv fun j _ => ?_) (Below.heap_alloc _ _ _ (by simp [World.setCell]; omega))
        show _ = (j == c && staysM co cs n R c T)
        rw [← HSV.out]
        by_cases e : j = c
        · subst e; simp
        · have e2 : (j == c) = false := by simpa using e
          rw [if_neg e, e2]; rfl
      have hrowo : ((w7.setCell ⟨w5.heap.size, c, none⟩ (.bool sv)).alloc (Obj.cells (madeCells #[Value.slice none 0 0] nn) 26)).rowIs w7.heap.size 26 nn (fun _ => .slice none 0 0) := nilRow nn (w7.setCell ⟨w5.heap.size, c, none⟩ (.bool sv)) 26 w7.heap.size (by simp [World.setCell])
      have hz8 : ((w7.setCell ⟨w5.heap.size, c, none⟩ (.bool sv)).alloc (Obj.cells (madeCells #[Value.slice none 0 0] nn) 26)).heap.size = w7.heap.size + 1 := by simp [World.setCell]
      generalize ((w7.setCell ⟨w5.heap.size, c, none⟩ (.bool sv)).alloc (Obj.cells (madeCells #[Value.slice none 0 0] nn) 26)) = w8 at *
      have ROW8 := Hid.mk hrow8
      have ROWO := Hid.mk hrowo
      have hz8a : w7.heap.size + 1 ≤ w8.heap.size := by omega
      have FO8 := Hid.mk (FO5.out.below B58.out)
      have BW8 : Hid (Below w.heap.size w w8) := BW5.out.trans (B58.out.mono (by have := BW5.out.size; omega))
      have Y8 : Hid (∀ o, w8.cell? ⟨w.heap.size, o, none⟩ = #[Value.int IntKind.i64 ro, Value.int IntKind.i64 co, Value.string cs, .slice (some ⟨b, off, none⟩) m cap, Value.int IntKind.i64 bu][o]?) := fun o => (B58.out.cell (p := ⟨w.heap.size, o, none⟩) (by show w.heap.size < _; omega)).trans (Y5.out o)
      have hfo8 := ROWO.out.frozen
      have hgF : gF < w5.heap.size := (FO5.out.lt gF rfl).2
      clear hrow8 hrowo hz8 rc rf
      go_wp2
      go_loopw [17, 19] (fun v17 v19 wr => ∃ (j gb : Nat) (z : Int), v17 = .slice (some ⟨gb, 0, none⟩) cs.size cs.size ∧ v19 = .int .i64 z ∧ z = (T : Int) - (j : Int) ∧ j ≤ T + 1 ∧ wr.rowIs gb 4 cs.size (boolV (bkM co cs n R c T j)) ∧ gb ≠ w7.heap.size ∧ (∀ s, s ≤ T → s + j ≤ T → wr.cell? ⟨w7.heap.size, s, none⟩ = some (.slice none 0 0)) ∧ (∀ o, wr.frozen? ⟨w7.heap.size, o, none⟩ = false) ∧
        (∀ s, s ≤ T → T < s + j → ∃ V, wr.cell? ⟨w7.heap.size, s, none⟩ = some V ∧ OwnN wr (w7.heap.size + 1) V (outTo co cs n R f c T s cs.size)) ∧ (∀ s, s ≤ T → T < s + j → outTo co cs n R f c T s cs.size ≠ []) ∧ Below w7.heap.size w8 wr) (fun _ v19 _ => ((intOf v19) + 1).toNat)
      case atStart => exact ⟨0, w5.heap.size, _, rfl, rfl, by omega, by omega, ROW8.out, by omega, fun s hs1 hs2 => ROWO.out.cell (i := s) (by omega), hfo8, fun s h1 h2 => by omega, fun s h1 h2 => by omega, Below.refl _ _⟩
      case round =>
        obtain ⟨w9, rfl⟩ : ∃ q, q = wr := ⟨_, rfl⟩
        obtain ⟨j, gb, z, rfl, rfl, hzj, hj, hrow9, hgb, hnil, hfz, hdone, hful, hb9⟩ := hrel
        have ROW9 := Hid.mk hrow9
        have FZ9 := Hid.mk hfz
        have NIL9 := Hid.mk hnil
        have DONE9 := Hid.mk hdone
        have FUL9 := Hid.mk hful
        have B9 := Hid.mk hb9
        have hz9 := hb9.size
        have BW9 : Hid (Below w.heap.size w w9) := BW8.out.trans (hb9.mono (by omega))
        clear hrow9 hfz hnil hdone hful hb9 hfo8
        by_cases h0 : 0 ≤ z
        · obtain ⟨s, rfl⟩ := Int.eq_ofNat_of_zero_le h0
          have hsj : s + j = T := by omega
          have hsT : s ≤ T := by omega
          have hsn : s < nn := by omega
          have hsnI : (s : Int) < (nn : Int) := by omega
          have hKs : s < t := by have := HTN.out; omega
          have hKsI : (s : Int) < (t : Int) := by omega
          have hws : IntKind.i64.wrap ((s : Int) - 1) = (s : Int) - 1 := wrap_mid (by omega) (by omega)
          have SJ := Hid.mk hsj
          have ZJ := Hid.mk hzj
          clear hzj hsj
          go_wp2
          go_loopw [20] (fun v20 wr => ∃ (x : Nat) (av : Option Addr) (cv : Nat), v20 = .int .i64 x ∧ x ≤ cs.size ∧ wr.cell? ⟨w7.heap.size, s, none⟩ = some (.slice av (outTo co cs n R f c T s x).length cv) ∧ OwnN wr w9.heap.size (.slice av (outTo co cs n R f c T s x).length cv) (outTo co cs n R f c T s x) ∧ (∀ s', s' ≠ s → wr.cell? ⟨w7.heap.size, s', none⟩ = w9.cell? ⟨w7.heap.size, s', none⟩) ∧ (∀ o, wr.frozen? ⟨w7.heap.size, o, none⟩ = false) ∧ Only (fun k => k = w7.heap.size) w9 wr) (fun v20 _ => cs.size - (intOf v20).toNat)
          case atStart => exact ⟨0, none, 0, rfl, Nat.zero_le _, NIL9.out s hsT (by have := SJ.out; omega), OwnN.nil _ _, fun _ _ => rfl, FZ9.out, Only.refl _ _⟩
          case round =>
            obtain ⟨wa, rfl⟩ : ∃ q, q = wr := ⟨_, rfl⟩
            obtain ⟨x, av, cv, rfl, hx, hcell, hown, hoth, hfz, hoa⟩ := hrel
            obtain ⟨nx, hnx⟩ : ∃ nx, nx = (outTo co cs n R f c T s x).length := ⟨_, rfl⟩
            rw [← hnx] at hcell hown
            have NX := Hid.mk hnx
            have OWNA := Hid.mk hown
            have OTHA := Hid.mk hoth
            have FZA := Hid.mk hfz
            have OA := Hid.mk hoa
            have CELLA := Hid.mk hcell
            have hza := hoa.size
            clear hown hoth hnx
            by_cases hlt2 : x < cs.size
            · obtain ⟨gt, hgt, hrt⟩ := FO5.out.cell hKs
              have hgt5 := hrt.lt
              obtain ⟨rb, hrb⟩ : ∃ rb, rb = reachM co cs n R f s x := ⟨_, rfl⟩
              obtain ⟨bb, hbb⟩ : ∃ bb, bb = bkM co cs n R c T j x := ⟨_, rfl⟩
              have hF0 : wa.cell? ⟨gF, s, none⟩ = some (.slice (some ⟨gt, 0, none⟩) cs.size cs.size) := (OA.out.cell (p := ⟨gF, s, none⟩) (by show gF < _; omega) (by show ¬ (gF = w7.heap.size); omega)).trans ((B9.out.cell (p := ⟨gF, s, none⟩) (by show gF < _; omega)).trans ((B58.out.cell (p := ⟨gF, s, none⟩) hgF).trans hgt))
              have hR0 : wa.cell? ⟨gt, x, none⟩ = some (.bool rb) := by
                rw [hrb]
                exact (OA.out.cell (p := ⟨gt, x, none⟩) (by show gt < _; omega) (by show ¬ (gt = w7.heap.size); omega)).trans ((B9.out.cell (p := ⟨gt, x, none⟩) (by show gt < _; omega)).trans ((B58.out.cell (p := ⟨gt, x, none⟩) hgt5).trans (hrt.cell (i := x) hlt2)))
              have hB0 : wa.cell? ⟨gb, x, none⟩ = some (.bool bb) := by
                rw [hbb]
                exact (OA.out.cell (p := ⟨gb, x, none⟩) ROW9.out.lt hgb).trans (ROW9.out.cell (i := x) hlt2)
              have VAL : Hid ((bkM co cs n R c T (T - s) x && reachM co cs n R f s x) = (bb && rb)) := by
                unfold Hid
                rw [hbb, hrb, show T - s = j by have := SJ.out; omega]
              have hxI : (x : Int) < (cs.size : Int) := by omega
              have hfs := FZA.out s
              clear hrb hbb hgt hrt hoa hfz
              have HSKIP : Hid ((bb && rb) = false → outTo co cs n R f c T s (x + 1) = outTo co cs n R f c T s x) := fun h => outTo_out (by rw [VAL.out]; exact h)
              cases bb with
              | false =>
                go_wp2
                go_roundw
                case rel => exact ⟨x + 1, av, cv, by go_num, by omega, by rw [HSKIP.out rfl, ← NX.out]; exact CELLA.out, by rw [HSKIP.out rfl, ← NX.out]; exact OWNA.out, OTHA.out, FZA.out, OA.out⟩
                case measure => simp [intOf]; omega
              | true =>
                cases rb with
                | false =>
                  go_wp2
                  go_roundw
                  case rel => exact ⟨x + 1, av, cv, by go_num, by omega, by rw [HSKIP.out rfl, ← NX.out]; exact CELLA.out, by rw [HSKIP.out rfl, ← NX.out]; exact OWNA.out, OTHA.out, FZA.out, OA.out⟩
                  case measure => simp [intOf]; omega
                | true =>
                  have HHIT : Hid (outTo co cs n R f c T s (x + 1) = outTo co cs n R f c T s x ++ [x]) := outTo_in (by rw [VAL.out]; rfl)
                  have LL : Hid ((outTo co cs n R f c T s x).length ≤ 100000000) := Nat.le_trans outTo_len (by omega)
                  have hnT : ¬ ((Value.slice av nx cv).ownBlock = some w7.heap.size) := fun hh => by have := (OWNA.out.lt _ hh).1; omega
                  have hglA : w7.heap.size < wa.heap.size := by omega
                  go_wp2_with (at_builtin; go_must (refine wpList_pushN rfl _ _ rfl w9.heap.size (.slice av nx cv) (outTo co cs n R f c T s x) x rfl OWNA.out (by exact hza) _ rfl LL.out ?_; intro g5 c5 wb ho5 hon5 hat5; have zc : wb.cell? ⟨w7.heap.size, s, none⟩ = some (.slice av nx cv) := (hon5.cell (p := ⟨w7.heap.size, s, none⟩) hglA hnT).trans CELLA.out; have zf : wb.frozen? ⟨w7.heap.size, s, none⟩ = false := (hon5.frozen (p := ⟨w7.heap.size, s, none⟩) hglA hnT).trans hfs))
                  go_roundw
                  case rel =>
                    have hlen : (outTo co cs n R f c T s x ++ [x]).length = (outTo co cs n R f c T s x).length + 1 := by simp
                    refine ⟨x + 1, some ⟨g5, 0, none⟩, c5, by go_num, by omega, ?_, ?_, fun s' hs' => ?_, fun o => ?_, (OA.out.trans hon5 (fun i hi hh => ?_)).setCell (p := ⟨w7.heap.size, s, none⟩) (fun _ => rfl) _⟩
                    · rw [World.cell?_setCell_same' _ _ _ (by rw [zc]; rfl), HHIT.out, hlen]
                    · rw [HHIT.out]
                      refine own_keep (w := wb) ho5 fun q hq _ _ => Below.heap_setCell wb ⟨w7.heap.size, s, none⟩ _ q (by show q ≠ w7.heap.size; omega)
                    · rw [World.cell?_setCell_other _ _ _ _ (by intro hh; injection hh with _ hh; exact hs' hh.symm), hon5.cell (p := ⟨w7.heap.size, s', none⟩) hglA hnT]
                      exact OTHA.out s' hs'
                    · rw [World.frozen?_setCell, hon5.frozen (p := ⟨w7.heap.size, o, none⟩) hglA hnT]
                      exact FZA.out o
                    · have := (OWNA.out.lt i hh).1
                      omega
                  case measure => simp [intOf]; omega
            · have hd : x = cs.size := by omega
              subst hd
              have YA : Hid (∀ o, wa.cell? ⟨w.heap.size, o, none⟩ = #[Value.int IntKind.i64 ro, Value.int IntKind.i64 co, Value.string cs, .slice (some ⟨b, off, none⟩) m cap, Value.int IntKind.i64 bu][o]?) := fun o => (OA.out.cell (p := ⟨w.heap.size, o, none⟩) (by show w.heap.size < _; omega) (by show ¬ (w.heap.size = w7.heap.size); omega)).trans ((B9.out.cell (p := ⟨w.heap.size, o, none⟩) (by show w.heap.size < _; omega)).trans (Y8.out o))
              have BWA : Hid (Below w.heap.size w wa) := BW9.out.trans (OA.out.below (by have := BW9.out.size; omega) (fun i e => by omega))
              have ROWA : Hid (wa.rowIs gb 4 cs.size (boolV (bkM co cs n R c T j))) := row_block ROW9.out (OA.out.block gb ROW9.out.lt hgb)
              clear hoa hfz
              by_cases hnx0 : nx = 0
              · have e0 : (((nx : Nat) : Int) == 0) = true := by simp [hnx0]
                have HE : Hid (outTo co cs n R f c T s cs.size = []) := by
                  unfold Hid
                  rw [← List.length_eq_zero_iff, ← NX.out]; exact hnx0
                clear hnx0
                go_wp2
                go_ret2
                exact ⟨.inr ⟨rfl, s, hsT, HE.out⟩, BWA.out⟩
              · have e0 : (((nx : Nat) : Int) == 0) = false := by simpa using hnx0
                have HE : Hid (outTo co cs n R f c T s cs.size ≠ []) := fun h => hnx0 (by rw [NX.out, h]; rfl)
                obtain ⟨jb, hjb⟩ : ∃ jb, jb = decide (j = 0) := ⟨_, rfl⟩
                have e1 : (((s : Nat) : Int) == ((T : Nat) : Int)) = jb := by
                  rw [hjb, Bool.eq_iff_iff, beq_iff_eq, decide_eq_true_eq]
                  have := SJ.out
                  omega
                have HJB := Hid.mk hjb
                have y0 := YA.out 0
                have y1 := YA.out 1
                have y2 := YA.out 2
                have y3 := YA.out 3
                have y4 := YA.out 4
                clear hnx0 hjb
                go_wp2_with fail
                refine (behind_any ro co bu cs _ ar n capr R gb cs.size s jb (bkM co cs n R c T j) wa hN2 r3 r4 hn (by omega) (HA.out.below BWA.out) ROWA.out).mono ?_
                rintro e wb ⟨g3, rfl, hg3, hrb, hbb⟩
                have ROWN : Hid (wb.rowIs g3 4 cs.size (boolV (bkM co cs n R c T (j + 1)))) := by
                  have h : bkM co cs n R c T (j + 1) = fun a => anyB (behP co cs n R (bkM co cs n R c T j) ((s : Int) - 1) jb a) cs.size := by
                    funext a
                    show anyB (behP co cs n R (bkM co cs n R c T j) (((T - j : Nat) : Int) - 1) (decide (j = 0)) a) cs.size = _
                    rw [← HJB.out, show T - j = s by have := SJ.out; omega]
                  rw [h]; exact hrb
                have HBB := Hid.mk hbb
                have hzb := hbb.size
                have hglA : w7.heap.size < wa.heap.size := by omega
                clear hrb hbb y0 y1 y2 y3 y4
                go_wp2
                go_roundw
                case rel =>
                  refine ⟨j + 1, g3, _, rfl, rfl, by have := ZJ.out; omega, by have := SJ.out; omega, ROWN.out, by omega, fun s' h1 h2 => ?_, fun o => (HBB.out.frozen (p := ⟨w7.heap.size, o, none⟩) hglA).trans (FZA.out o), fun s' h1 h2 => ?_, fun s' h1 h2 => ?_, (B9.out.trans (OA.out.below (by omega) (fun i e => by omega))).trans (HBB.out.mono (by omega))⟩
                  · rw [HBB.out.cell (p := ⟨w7.heap.size, s', none⟩) hglA, OTHA.out s' (by have := SJ.out; omega)]
                    exact NIL9.out s' h1 (by omega)
                  · by_cases e : s' = s
                    · subst e
                      exact ⟨_, (HBB.out.cell (p := ⟨w7.heap.size, s', none⟩) hglA).trans CELLA.out, OwnN.le (OWNA.out.below HBB.out) (by omega)⟩
                    · obtain ⟨V, hV, hoV⟩ := DONE9.out s' h1 (by have := SJ.out; omega)
                      refine ⟨V, (HBB.out.cell (p := ⟨w7.heap.size, s', none⟩) hglA).trans ((OTHA.out s' e).trans hV), ?_⟩
                      exact OwnN.below (own_keep hoV fun q hq hl _ => OA.out.block q hl (by omega)) HBB.out
                  · by_cases e : s' = s
                    · subst e; exact HE.out
                    · exact FUL9.out s' h1 (by have := SJ.out; omega)
                case measure => first | (simp [intOf]; done) | (simp [intOf]; omega)
        · have hjT : j = T + 1 := by omega
          subst hjT
          go_wp2
          go_ret2
          have hl : OL.length = nn := by rw [HOL.out, List.length_map, List.length_range, HNN.out]
          refine ⟨.inl ⟨.slice (some ⟨w7.heap.size, 0, none⟩) nn nn, rfl, ⟨some ⟨w7.heap.size, 0, none⟩, nn, by rw [hl], fun _ => ⟨w7.heap.size, rfl, fun s hs => ?_⟩⟩, fun s hs => FUL9.out s hs (by omega)⟩, BW9.out⟩
          rw [hl] at hs
          obtain ⟨V, hV, hoV⟩ := DONE9.out s (by omega) (by omega)
          refine ⟨V, hV, ?_⟩
          rw [HOL.out, List.getD_eq_getElem?_getD, List.getElem?_map, List.getElem?_range (by omega)]
          exact hoV.rowQ

end Go.Proofs.YtgdkchdcbfgijaaDoor

/- The program's layers and the document's are the same. -/
namespace Go.Proofs.YtgdkchdcbfgijaaDoor
open Go.RowKit M

section
variable {co : Int} {cs : ByteArray} {n : Nat} {R : Nat → RuleM} {f c T : Nat}

theorem ext_goes {a b t : Nat} : goesM co cs (n + 1) (extR n R c T) a b t = (goesM co cs n R a b t && !(a == c && b == c && t + 1 == T)) := by
  unfold goesM
  rw [ext_on, ext_ways]
  have e : (((a : Nat) : Int) == (c : Int) && ((b : Nat) : Int) == (c : Int) && ((t : Nat) : Int) == (T : Int) - 1) = (a == c && b == c && t + 1 == T) := by
    rw [Bool.eq_iff_iff]
    simp only [Bool.and_eq_true, beq_iff_eq]
    omega
  rw [e]
  cases adjM co cs a b <;> cases onM n R b (t + 1 : Nat) <;> cases noWayM n R a b t <;> cases (a == c && b == c && t + 1 == T) <;> rfl

theorem ext_reach : ∀ {t : Nat}, t < T → ∀ b, reachM co cs (n + 1) (extR n R c T) f t b = reachM co cs n R f t b
  | 0, _, b => by
    show (b == f && onM (n + 1) (extR n R c T) b 0) = (b == f && onM n R b 0)
    rw [ext_on]
  | t + 1, h, b => by
    show anyB _ cs.size = anyB _ cs.size
    refine anyB_congr fun a _ => ?_
    rw [ext_reach (by omega) a, ext_goes]
    have e : (t + 1 == T) = false := by simp; omega
    rw [e]
    simp

theorem ext_reach_le : ∀ {t b : Nat}, reachM co cs (n + 1) (extR n R c T) f t b = true → reachM co cs n R f t b = true
  | 0, b, h => by
    have h : (b == f && onM (n + 1) (extR n R c T) b 0) = true := h
    rw [ext_on] at h; exact h
  | t + 1, b, h => by
    have h : anyB (fun a => reachM co cs (n + 1) (extR n R c T) f t a && goesM co cs (n + 1) (extR n R c T) a b t) cs.size = true := h
    show anyB (fun a => reachM co cs n R f t a && goesM co cs n R a b t) cs.size = true
    rw [anyB_iff] at h ⊢
    obtain ⟨a, ha, h2⟩ := h
    rw [Bool.and_eq_true] at h2
    rw [ext_goes, Bool.and_eq_true] at h2
    exact ⟨a, ha, by rw [Bool.and_eq_true]; exact ⟨ext_reach_le h2.1, h2.2.1⟩⟩

/-- Where the program's search backwards is, j instants ahead of the end. -/
def kp (co : Int) (cs : ByteArray) (n : Nat) (R : Nat → RuleM) (f c T j : Nat) : Nat → Bool :=
  keepJ cs.size T c (fun t => reachM co cs (n + 1) (extR n R c T) f t) (fun a b t => goesM co cs (n + 1) (extR n R c T) a b t) j

theorem kp_zero {z : Nat} : kp co cs n R f c T 0 z = (reachM co cs (n + 1) (extR n R c T) f T z && z == c) := rfl
theorem kp_next {j z : Nat} : kp co cs n R f c T (j + 1) z = (reachM co cs (n + 1) (extR n R c T) f (T - (j + 1)) z && anyB (fun y => kp co cs n R f c T j y && goesM co cs (n + 1) (extR n R c T) z y (T - (j + 1))) cs.size) := rfl

theorem bk_next {j a : Nat} (hj : j < T) : bkM co cs n R c T (j + 1) a = anyB (fun b => bkM co cs n R c T j b && goesM co cs n R a b (T - (j + 1)) && !(decide (j = 0) && a == b)) cs.size := by
  show anyB (behP co cs n R (bkM co cs n R c T j) (((T - j : Nat) : Int) - 1) (decide (j = 0)) a) cs.size = _
  refine anyB_congr fun b _ => ?_
  unfold behP
  rw [show (((T - j : Nat) : Int) - 1) = ((T - (j + 1) : Nat) : Int) by omega, goesI_nat]

/-- Where the program is, the document is. -/
theorem kp_bk (hst : staysM co cs n R c T = true) : ∀ {j z : Nat}, j ≤ T → kp co cs n R f c T j z = true → bkM co cs n R c T j z = true ∧ reachM co cs n R f (T - j) z = true
  | 0, z, _, h => by
    rw [kp_zero, Bool.and_eq_true] at h
    refine ⟨?_, ext_reach_le h.1⟩
    show (z == c && staysM co cs n R c T) = true
    rw [hst, h.2]; rfl
  | j + 1, z, hj, h => by
    rw [kp_next, Bool.and_eq_true] at h
    refine ⟨?_, ext_reach_le h.1⟩
    rw [bk_next (by omega), anyB_iff]
    have h2 := h.2
    rw [anyB_iff] at h2
    obtain ⟨y, hy, h3⟩ := h2
    rw [Bool.and_eq_true, ext_goes, Bool.and_eq_true] at h3
    obtain ⟨h4, h5, h6⟩ := h3
    refine ⟨y, hy, ?_⟩
    rw [(kp_bk hst (by omega) h4).1, h5]
    by_cases e : j = 0
    · subst e
      rw [kp_zero, Bool.and_eq_true] at h4
      have hyc : y = c := by simpa using h4.2
      subst hyc
      by_cases e2 : z = y
      · exfalso
        subst e2
        have e3 : (T - (0 + 1) + 1 == T) = true := by simp; omega
        rw [e3] at h6
        simp at h6
      · simp [e2]
    · simp [e]

theorem kp_some : ∀ {j z : Nat}, kp co cs n R f c T (j + 1) z = true → ∃ y, y < cs.size ∧ kp co cs n R f c T j y = true := by
  intro j z h
  rw [kp_next, Bool.and_eq_true] at h
  have h2 := h.2
  rw [anyB_iff] at h2
  obtain ⟨y, hy, h3⟩ := h2
  rw [Bool.and_eq_true] at h3
  exact ⟨y, hy, h3.1⟩

/-- Where the document is, the program is: ahead of the end. -/
theorem bk_kp : ∀ {j z : Nat}, 1 ≤ j → j ≤ T → z < cs.size → bkM co cs n R c T j z = true → reachM co cs n R f (T - j) z = true → kp co cs n R f c T j z = true
  | j + 1, z, _, hj, hz, hb, hr => by
    rw [bk_next (by omega), anyB_iff] at hb
    obtain ⟨y, hy, h⟩ := hb
    rw [Bool.and_eq_true, Bool.and_eq_true] at h
    obtain ⟨⟨h1, h2⟩, h3⟩ := h
    have hr' : reachM co cs (n + 1) (extR n R c T) f (T - (j + 1)) z = true := by rw [ext_reach (by omega)]; exact hr
    have hry : reachM co cs n R f (T - j) y = true := by
      rw [show T - j = T - (j + 1) + 1 by omega]
      show anyB (fun a => reachM co cs n R f (T - (j + 1)) a && goesM co cs n R a y (T - (j + 1))) cs.size = true
      rw [anyB_iff]
      exact ⟨z, hz, by rw [hr, h2]; rfl⟩
    rw [kp_next, hr', Bool.true_and, anyB_iff]
    refine ⟨y, hy, ?_⟩
    by_cases e : j = 0
    · subst e
      have hyc : y = c := by
        have h4 : (y == c && staysM co cs n R c T) = true := h1
        rw [Bool.and_eq_true] at h4
        simpa using h4.1
      subst hyc
      have hzy : (z == y) = false := by
        simp at h3
        simpa using h3
      have hg : goesM co cs (n + 1) (extR n R y T) z y (T - (0 + 1)) = true := by
        rw [ext_goes, h2, hzy]; rfl
      have hry' : reachM co cs (n + 1) (extR n R y T) f T y = true := by
        have eT : T = T - (0 + 1) + 1 := by omega
        have h5 : reachM co cs (n + 1) (extR n R y T) f (T - (0 + 1) + 1) y = true := by
          show anyB (fun a => reachM co cs (n + 1) (extR n R y T) f (T - (0 + 1)) a && goesM co cs (n + 1) (extR n R y T) a y (T - (0 + 1))) cs.size = true
          rw [anyB_iff]
          exact ⟨z, hz, by rw [hr', hg]; rfl⟩
        rw [← eT] at h5
        exact h5
      rw [kp_zero, hry', hg]
      simp
    · have hg : goesM co cs (n + 1) (extR n R c T) z y (T - (j + 1)) = true := by
        rw [ext_goes, h2]
        have e2 : (T - (j + 1) + 1 == T) = false := by simp; omega
        rw [e2]; simp
      rw [bk_kp (by omega) (by omega) hy h1 hry, hg]; rfl

theorem outTo_mem {t x : Nat} : x ∈ outTo co cs n R f c T t cs.size ↔ x < cs.size ∧ bkM co cs n R c T (T - t) x = true ∧ reachM co cs n R f t x = true := by
  unfold outTo
  rw [List.mem_filter, List.mem_range, Bool.and_eq_true]

theorem out_some {t : Nat} (h : outTo co cs n R f c T t cs.size ≠ []) : ∃ x, x < cs.size ∧ bkM co cs n R c T (T - t) x = true ∧ reachM co cs n R f t x = true := by
  cases e : outTo co cs n R f c T t cs.size with
  | nil => exact absurd e h
  | cons x l => exact ⟨x, outTo_mem.1 (by rw [e]; simp)⟩

theorem lay_out (hff : freeB cs f = true) (hN : cs.size ≤ 36) (hst : staysM co cs n R c T = true) (hful : ∀ t, t ≤ T → outTo co cs n R f c T t cs.size ≠ []) {t : Nat} (ht : t ≤ T) : cellsL (layM co cs n R f c T t) = outTo co cs n R f c T t cs.size := by
  have key : ∀ z, kp co cs n R f c T (T - t) z = (bkM co cs n R c T (T - t) z && reachM co cs n R f t z) := by
    intro z
    rw [Bool.eq_iff_iff, Bool.and_eq_true]
    constructor
    · intro h
      have h2 := kp_bk hst (by omega) h
      rw [show T - (T - t) = t by omega] at h2
      exact h2
    · rintro ⟨h1, h2⟩
      have hz : z < cs.size := free_lt (reach_in hff h2)
      by_cases e : t = T
      · subst e
        rw [Nat.sub_self] at h1 ⊢
        have h3 : (z == c && staysM co cs n R c t) = true := h1
        rw [Bool.and_eq_true] at h3
        have hzc : z = c := by simpa using h3.1
        subst hzc
        rw [kp_zero]
        have hr : reachM co cs (n + 1) (extR n R z t) f t z = true := by
          cases t with
          | zero =>
            show (z == f && onM (n + 1) (extR n R z 0) z 0) = true
            rw [ext_on]; exact h2
          | succ t =>
            obtain ⟨x, hx, hb, hrx⟩ := out_some (hful t (by omega))
            rw [show t + 1 - t = 0 + 1 by omega] at hb
            have hk := bk_kp (f := f) (Nat.le_refl _) (by omega) hx hb (by rw [show t + 1 - (0 + 1) = t by omega]; exact hrx)
            obtain ⟨y, hy, hk0⟩ := kp_some hk
            rw [kp_zero, Bool.and_eq_true] at hk0
            have hyz : y = z := by simpa using hk0.2
            subst hyz
            exact hk0.1
        rw [hr]; simp
      · exact bk_kp (by omega) (by omega) hz h1 (by rw [show T - (T - t) = t by omega]; exact h2)
  have e1 : layM co cs n R f c T t = kp co cs n R f c T (T - t) := rfl
  rw [e1]
  unfold cellsL outTo
  have e2 : List.range 36 = List.range cs.size ++ (List.range (36 - cs.size)).map (fun i => cs.size + i) := by
    rw [← List.range_add, show cs.size + (36 - cs.size) = 36 by omega]
  rw [e2, List.filter_append]
  have e3 : ((List.range (36 - cs.size)).map (fun i => cs.size + i)).filter (kp co cs n R f c T (T - t)) = [] := by
    rw [List.filter_eq_nil_iff]
    intro x hx h
    obtain ⟨i, hi, rfl⟩ := List.mem_map.1 hx
    rw [key, Bool.and_eq_true] at h
    have := free_lt (reach_in hff h.2)
    omega
  rw [e3, List.append_nil]
  exact List.filter_congr fun x _ => key x

theorem lay_full (hr : rulesB cs.size n R = true) (hff : freeB cs f = true) (hc : freeB cs c = true) (hN : cs.size ≤ 36) (hful : ∀ t, t ≤ T → outTo co cs n R f c T t cs.size ≠ []) : layO co cs n R f c T = some ((List.range (T + 1)).map fun t => outTo co cs n R f c T t cs.size) := by
  obtain ⟨x, hx, hb, hrx⟩ := out_some (hful T (Nat.le_refl _))
  rw [Nat.sub_self] at hb
  have hb : (x == c && staysM co cs n R c T) = true := hb
  rw [Bool.and_eq_true] at hb
  have hxc : x = c := by simpa using hb.1
  subst hxc
  have hS := ((hit_goal (f := f) hr hc).1 (by unfold hitM; rw [hrx, hb.2]; rfl)).2
  unfold layO
  rw [if_pos ⟨hS, fun h => hful 0 (Nat.zero_le _) (by rw [← lay_out hff hN hb.2 hful (Nat.zero_le _)]; exact List.length_eq_zero_iff.1 h)⟩]
  congr 1
  refine List.map_congr_left fun t ht => ?_
  rw [List.mem_range] at ht
  exact lay_out hff hN hb.2 hful (by omega)

theorem lay_none (hr : rulesB cs.size n R = true) (hff : freeB cs f = true) (hc : freeB cs c = true) (hno : ∃ t, t ≤ T ∧ outTo co cs n R f c T t cs.size = []) : layO co cs n R f c T = none := by
  unfold layO
  by_cases h : settledM c R n ≤ (T : Int) ∧ (cellsL (layM co cs n R f c T 0)).length ≠ 0
  · exfalso
    obtain ⟨hS, hl⟩ := h
    have hz : ∃ z, kp co cs n R f c T T z = true := by
      cases e : cellsL (layM co cs n R f c T 0) with
      | nil => rw [e] at hl; exact absurd rfl hl
      | cons z l => exact ⟨z, (cellsL_mem.1 (show z ∈ cellsL (layM co cs n R f c T 0) by rw [e]; simp)).2⟩
    have all : ∀ d, d ≤ T → ∃ z, kp co cs n R f c T (T - d) z = true := by
      intro d
      induction d with
      | zero => intro _; exact hz
      | succ d ih =>
        intro hd
        obtain ⟨z, h⟩ := ih (by omega)
        rw [show T - d = T - (d + 1) + 1 by omega] at h
        obtain ⟨y, _, hy⟩ := kp_some h
        exact ⟨y, hy⟩
    obtain ⟨y, hy⟩ := all T (Nat.le_refl _)
    rw [Nat.sub_self, kp_zero, Bool.and_eq_true] at hy
    have hyc : y = c := by simpa using hy.2
    subst hyc
    have hry := ext_reach_le hy.1
    have hst : staysM co cs n R y T = true := by
      have h := (hit_goal (f := f) hr hc).2 ⟨hry, hS⟩
      unfold hitM at h
      rw [Bool.and_eq_true] at h
      exact h.2
    obtain ⟨t, ht, he⟩ := hno
    obtain ⟨z, hz2⟩ := all t ht
    have h2 := kp_bk hst (by omega) hz2
    rw [show T - (T - t) = t by omega] at h2
    have hm : z ∈ outTo co cs n R f y T t cs.size := outTo_mem.2 ⟨free_lt (reach_in hff h2.2), h2⟩
    rw [he] at hm
    cases hm
  · rw [if_neg h]
end

end Go.Proofs.YtgdkchdcbfgijaaDoor

/- Lists that are written over: fill, where there may be spare room. -/
namespace Go.Proofs.YtgdkchdcbfgijaaDoor
open Go.RowKit M

theorem own_to_row {w : World} {base g n cap : Nat} {L : List Int} (h : OwnZ w base (.slice (some ⟨g, 0, none⟩) n cap) L) (hn : 0 < n) :
    ∃ F, w.rowIs g 3 cap F ∧ (∀ j, j < n → F j = .int .i64 (L.getD j 0)) ∧ base ≤ g ∧ n ≤ cap ∧ cap ≤ maxLen ∧ n = L.length := by
  obtain ⟨a, cap2, hv, _, _⟩ := h.form
  have e : n = L.length := by cases hv; rfl
  subst e
  have h2 := h
  rcases h with ⟨h1, h3 | ⟨g', cap', cur, hv', hg, hh, hnc, hcm, hs, ht⟩⟩
  · cases h3.1
  · cases hv'
    refine ⟨fun j => (cur[j]?).getD (.int .i64 0), ⟨cur, hh, by omega, fun i hi => ?_⟩, fun j hj => ?_, hg, hnc, hcm, rfl⟩
    · show _ = some ((cur[i]?).getD (.int .i64 0))
      rw [Array.getElem?_eq_getElem (by omega)]; rfl
    · have hc := h2.cell hj
      have hc2 : w.cell? ⟨g, j, none⟩ = cur[j]? := by simp [World.cell?, hh]
      rw [hc2] at hc
      show (cur[j]?).getD (.int .i64 0) = _
      rw [hc]; rfl

theorem row_to_own {w : World} {base g n cap : Nat} {L : List Int} {F : Nat → Value} (h : w.rowIs g 3 cap F) (hF : ∀ j, j < n → F j = .int .i64 (L.getD j 0)) (hg : base ≤ g) (hn : n ≤ cap) (hc : cap ≤ maxLen) (hl : n = L.length) : OwnZ w base (.slice (some ⟨g, 0, none⟩) n cap) L := by
  obtain ⟨cur, hh, hs, hf⟩ := h
  subst hl
  refine ⟨by simp [ints], .inr ⟨g, cap, cur, rfl, hg, hh, hn, hc, by omega, ?_⟩⟩
  refine List.ext_getElem? fun j => ?_
  by_cases hj : j < L.length
  · rw [List.getElem?_take, if_pos (by omega), Array.getElem?_toList, hf j (by omega), hF j hj]
    unfold ints
    rw [List.getElem?_map, List.getElem?_eq_getElem hj, List.getD_eq_getElem?_getD, List.getElem?_eq_getElem hj]; rfl
  · rw [List.getElem?_eq_none (by simp; omega), List.getElem?_eq_none (by simp [ints]; omega)]

theorem wpList_push3 {P : Program} {w : World} {ops : Array Oper} {rest : List Oper} {o : Oper} {a : Act} {Q : Exit → Act → World → Prop} (hgd : o.guard = none) (s x : Operand) (t : TypeId)
    (ho : o.op = .call { callee := .builtin .append, args := #[s, x], argTypes := #[t, t] })
    (base : Nat) (e : TypeId) (z : Value) (bytes : Nat) (ht : P.underlying t = some (.slice e)) (hinfo : (P.info? e).map (fun i => (i.zero, i.size, i.bytes)) = some (some z, 1, bytes)) (hzs : z.cells.size = 1)
    (gq n cap : Nat) (xs : List Value) (hs : a.eval s = .slice (some ⟨gq, 0, none⟩) n cap) (hown : w.ownsRow base e 1 (.slice (some ⟨gq, 0, none⟩) n cap) n xs)
    (ad : Addr) (c : Nat) (u : Value) (hx : a.eval x = .slice (some ad) 1 c) (hu : w.cell? ad = some u) (h1 : u.oneCell' = true)
    (h63 : n + 1 ≤ maxLen) (hbytes : (n + 1) * bytes ≤ 140737488355328) (hbase : base ≤ w.heap.size)
    (h : ∀ g cap' w', w'.ownsRow base e 1 (.slice (some ⟨g, 0, none⟩) (n + 1) cap') (n + 1) (xs ++ [u]) → w.grownBy w' (some gq) → (g = gq ∨ (w.heap.size ≤ g ∧ Below w.heap.size w w')) → wpList P ops Q rest (a.put o.dst (.slice (some ⟨g, 0, none⟩) (n + 1) cap')) w') :
    wpList P ops Q (o :: rest) a w := by
  by_cases hroom : n + 1 ≤ cap
  · obtain ⟨i, h2, h3, h4, h5⟩ := info_parts hinfo
    refine wpList_append_fits_any w hgd s x t ho base e i 1 ht h2 h4 gq n cap xs hs hown (some ad) 1 c [u] hx rfl (fun hh => by cases hh) ?_ ?_ hroom ?_
    · intro ad' had j v' hj
      cases had
      match j, hj with
      | 0, hj =>
        simp at hj; subst hj
        simpa [Addr.add] using hu
    · intro v' hv'
      simp at hv'; subst hv'; exact h1
    · intro w' hown' hgr
      exact h gq cap w' hown' hgr (Or.inl rfl)
  · have hnc : cap = n := by have := own_cap hown; omega
    subst hnc
    refine wpList_push_full hgd s x t ho e z bytes ht hinfo hzs (some ⟨gq, 0, none⟩) cap xs hs (fun hh => by cases hh) (by have := hown.1; simpa using this) ?_ ad c u hx hu h1 h63 hbytes ?_
    · intro b hb j v' hj
      cases hb
      have hjl : j < cap := by
        have h1 := (List.getElem?_eq_some_iff.1 hj).1
        have h2 := hown.1
        omega
      have e1 : (⟨gq, 0, none⟩ : Addr).add j = ⟨gq, j, none⟩ := by unfold Addr.add; split <;> simp_all
      rw [e1, own_cell hown hjl]; exact hj
    · intro g cap' w' hown' hb
      exact h g cap' w' (own_base hown' hbase) ⟨hb.os, hb.tape, hb.output, hb.size, fun k hk _ => hb.block k hk⟩ (Or.inr ⟨(own_lt hown').1, hb⟩)


set_option maxRecDepth 100000 in
set_option maxHeartbeats 4000000 in
theorem fill_own (base g n cap : Nat) (L : List Int) (mv : Int) (w : World) (hn : 0 < n) (hn2 : n ≤ 1000) (_hbase : base ≤ w.heap.size) (h1 : OwnZ w base (.slice (some ⟨g, 0, none⟩) n cap) L) :
    Calls Tryd.prog 59 #[.slice (some ⟨g, 0, none⟩) n cap, .int .i64 mv] w fun e w' =>
      ∃ h c, e = .returned (.slice (some ⟨h, 0, none⟩) (n + 1) c) ∧ (∀ j, j < n + 1 → w'.cell? ⟨h, j, none⟩ = some (.int .i64 mv)) ∧ (h = g ∨ w.heap.size ≤ h) ∧ (∀ j, j < n → w'.cell? ⟨g, j, none⟩ = some (.int .i64 mv)) ∧ Only (fun k => k = g) w w' := by
  obtain ⟨F, hrow, hF, hbg, hnc, hcm, hnl⟩ := own_to_row h1 hn
  have HR := Hid.mk hrow
  have HF := Hid.mk hF
  have hgl := hrow.lt
  clear h1 hrow hF hnl
  go_enter Tryd.func59, Tryd.ntmps59
  go_wp2
  go_loopw [5] (fun v5 wr => ∃ k : Nat, v5 = .int .i64 k ∧ k ≤ n ∧ wr.rowIs g 3 cap (fun j => if j < k then .int .i64 mv else F j) ∧ Only (fun k => k = g) w wr) (fun v5 _ => n - (intOf v5).toNat)
  case atStart => exact ⟨0, rfl, Nat.zero_le _, HR.out.congr (fun i _ => by rw [if_neg (by omega)]), Only.refl _ _⟩
  case round =>
    obtain ⟨w1, rfl⟩ : ∃ q, q = wr := ⟨_, rfl⟩
    obtain ⟨k, rfl, hk, hr, ho⟩ := hrel
    have R1 := Hid.mk hr
    have O1 := Hid.mk ho
    have hz1 := ho.size
    by_cases hlt : k < n
    · have rc := hr.cell (i := k) (by omega)
      rw [if_neg (by omega), HF.out k hlt] at rc
      have rf := hr.frozen
      clear hr ho
      go_wp2
      go_roundw
      case rel =>
        refine ⟨k + 1, by go_num, by omega, (R1.out.set k (.int .i64 mv)).congr (fun i _ => ?_), O1.out.setCell (p := ⟨g, k, none⟩) (fun _ => rfl) _⟩
        by_cases e : i = k
        · rw [if_pos e, if_pos (by omega)]
        · rw [if_neg e]
          by_cases e2 : i < k
          · rw [if_pos e2, if_pos (by omega)]
          · rw [if_neg e2, if_neg (by omega)]
      case measure => simp [intOf]; omega
    · have hd : k = n := by omega
      subst hd
      have OW : Hid (OwnZ w1 base (.slice (some ⟨g, 0, none⟩) k cap) (List.replicate k mv)) := row_to_own R1.out (fun j hj => by rw [if_pos hj, List.getD_eq_getElem?_getD, List.getElem?_replicate, if_pos hj]; rfl) hbg hnc hcm (by simp)
      have hb1 : base ≤ w1.heap.size := by omega
      have hb2 : base ≤ (w1.alloc (Obj.cells #[Value.int .i64 mv] 3)).heap.size := by simp; omega
      have OW2 : Hid (OwnZ (w1.alloc (Obj.cells #[Value.int .i64 mv] 3)) base (.slice (some ⟨g, 0, none⟩) k cap) (List.replicate k mv)) := own_keep OW.out (fun q _ hq _ => Below.heap_alloc _ _ _ hq)
      have R2 := Hid.mk R1.out
      clear hr ho
      go_wp2_with (at_builtin; go_must (refine wpList_push3 rfl _ _ 26 rfl base 3 _ _ Tryd.underlying26 Tryd.infoInt2 rfl g k cap (ints (List.replicate k mv)) rfl (by have h := OW2.out; unfold OwnZ at h; rw [List.length_replicate] at h; exact h) ⟨w1.heap.size, 0, none⟩ 1 (.int .i64 mv) rfl (by go_simp) rfl (by unfold maxLen; omega) (by omega) (by exact hb2) ?_; intro g5 c5 w2 ho5 hgr5 hat5))
      go_ret
      have hz1' : (w1.alloc (Obj.cells #[Value.int .i64 mv] 3)).heap.size = w1.heap.size + 1 := by simp
      have hon : Only (fun q => q = g) w1 w2 := ((Only.refl _ w1).alloc _).trans (Only.of_grown hgr5) (fun _ _ e => e)
      have hcell : ∀ j, j < k + 1 → w2.cell? ⟨g5, j, none⟩ = some (.int .i64 mv) := fun j hj => by
        rw [own_cell ho5 hj]
        have e : ints (List.replicate k mv) ++ [Value.int .i64 mv] = ints (List.replicate (k + 1) mv) := by rw [List.replicate_succ']; simp [ints]
        rw [e, ints_at' (by simp; omega), List.getD_eq_getElem?_getD, List.getElem?_replicate, if_pos hj]; rfl
      refine ⟨g5, c5, rfl, hcell, ?_, fun j hj => ?_, O1.out.trans hon (fun _ _ e => e)⟩
      · rcases hat5 with e | ⟨e, _⟩
        · exact .inl e
        · exact .inr (by omega)
      · rcases hat5 with e | ⟨_, hb⟩
        · subst e; exact hcell j (by omega)
        · have hrc := R2.out.cell (i := j) (by omega)
          rw [if_pos hj] at hrc
          rw [cell_block (hb.block g (by omega)), cell_block (Below.heap_alloc _ _ _ (by omega))]
          exact hrc

end Go.Proofs.YtgdkchdcbfgijaaDoor

/- Walk of apart, for any number of lists of one's own. -/
namespace Go.Proofs.YtgdkchdcbfgijaaDoor
open Go.RowKit M

set_option maxRecDepth 100000 in
/-- A slice is pushed onto a list of slices. -/
theorem wpList_pushV {w0 : World} {ops : Array Oper} {rest : List Oper} {o : Oper} {a : Act} {Q : Exit → Act → World → Prop} (hgd : o.guard = none) (s x : Operand)
    (ho : o.op = .call { callee := .builtin .append, args := #[s, x], argTypes := #[35, 35] })
    (base : Nat) (v : Value) (K : Nat) (A : List Value) (ay : Option Addr) (ny cy : Nat) (hs : a.eval s = v) (hown : w0.ownsRow base 26 1 v K A) (hbase : base ≤ w0.heap.size) (c : Nat)
    (hx : a.eval x = .slice (some ⟨w0.heap.size, 0, none⟩) 1 c) (hL : K ≤ 100000000)
    (h : ∀ g cap w', w'.ownsRow base 26 1 (.slice (some ⟨g, 0, none⟩) (K + 1) cap) (K + 1) (A ++ [.slice ay ny cy]) → Only (fun k => v.ownBlock = some k) w0 w' → (v.ownBlock = some g ∨ w0.heap.size ≤ g) → wpList Tryd.prog ops Q rest (a.put o.dst (.slice (some ⟨g, 0, none⟩) (K + 1) cap)) w') :
    wpList Tryd.prog ops Q (o :: rest) a (w0.alloc (.cells #[.slice ay ny cy] 26)) := by
  obtain ⟨i0, hi0, hi1, hi2, hi3⟩ := info_parts Tryd.infoSl
  have hown1 := own_keep (w' := w0.alloc (.cells #[.slice ay ny cy] 26)) hown (fun g _ hg _ => Below.heap_alloc _ _ _ hg)
  refine wpList_append_lies _ hgd s x _ ho base 26 i0 _ 1 24 Tryd.underlying35 hi0 hi1 hi2 hi3 rfl (by omega) v K A hs hown1 _ 1 c [.slice ay ny cy] hx rfl (fun j u hj => ?_) (fun u hu => ?_) (by omega) (by unfold maxLen; omega) (by omega) (by simp; omega) (w0.heap.size + 1) (by simp) ?_
  · match j, hj with
    | 0, hj => simp at hj; subst hj; simp [Addr.add]
    | j + 1, hj => simp at hj
  · simp at hu; subst hu; rfl
  · intro g cap w' ho9 hg9 hl9 _
    refine h g cap w' ho9 ⟨hg9.os, hg9.tape, hg9.output, Nat.le_trans (by simp) hg9.size, fun k hk hn => ?_⟩ (hl9.imp id (fun e => by omega))
    rw [hg9.block k (by simp; omega) (fun e => hn e.symm)]
    exact Below.heap_alloc _ _ _ hk

/-- What fill has written, list by list. -/
structure Tails (w wr : World) (i : Nat) (g n : Nat → Nat) (V : Value) (A : List Value) (H C : Nat → Nat) : Prop where
  own : wr.ownsRow w.heap.size 26 1 V i A
  at' : ∀ t, t < i → A.getD t (.bool false) = .slice (some ⟨H t, 0, none⟩) (n t + 1) (C t)
  cells : ∀ t, t < i → ∀ j, j < n t + 1 → wr.cell? ⟨H t, j, none⟩ = some (.int .i64 (-9 - (t : Int)))
  lies : ∀ t, t < i → H t = g t ∨ w.heap.size ≤ H t
  ne : ∀ t, t < i → V.ownBlock ≠ some (H t)
  old : ∀ t, t < i → ∀ j, j < n t → wr.cell? ⟨g t, j, none⟩ = some (.int .i64 (-9 - (t : Int)))

set_option maxRecDepth 100000 in
set_option maxHeartbeats 8000000 in
theorem apart_own (base K gp cp : Nat) (g n c : Nat → Nat) (Lz : Nat → List Int) (w : World) (hK : K ≤ 300) (hbase : base ≤ w.heap.size)
    (hp : ∀ t, t < K → w.cell? ⟨gp, t, none⟩ = some (.slice (some ⟨g t, 0, none⟩) (n t) (c t))) (hown : ∀ t, t < K → OwnZ w base (.slice (some ⟨g t, 0, none⟩) (n t) (c t)) (Lz t)) (hn : ∀ t, t < K → 0 < n t ∧ n t ≤ 100)
    (hinj : ∀ s t, s < K → t < K → g s = g t → s = t) (hgp : ∀ t, t < K → g t ≠ gp) (hgpl : gp < w.heap.size) :
    Calls Tryd.prog 17 #[.slice (some ⟨gp, 0, none⟩) K cp] w fun e w' => e = .returned (.bool true) ∧ Only (fun k => ∃ t, t < K ∧ k = g t) w w' := by
  have HP := Hid.mk hp
  have HOWN := Hid.mk hown
  have HN := Hid.mk hn
  have HINJ := Hid.mk hinj
  have HGP := Hid.mk hgp
  have GL : Hid (∀ t, t < K → base ≤ g t ∧ g t < w.heap.size) := fun t ht => (hown t ht).lt (g t) rfl
  clear hp hown hn hinj hgp
  go_enter Tryd.func17, Tryd.ntmps17
  go_wp2
  go_loopw [3, 4] (fun v3 v4 wr => ∃ (i : Nat) (V : Value) (A : List Value) (H C : Nat → Nat), V = v3 ∧ v4 = .int .i64 i ∧ i ≤ K ∧ Tails w wr i g n V A H C ∧ Only (fun k => ∃ t, t < i ∧ k = g t) w wr) (fun _ v4 _ => K - (intOf v4).toNat)
  case atStart => exact ⟨0, _, [], fun _ => 0, fun _ => 0, rfl, rfl, Nat.zero_le _, ⟨⟨rfl, .inl ⟨rfl, rfl⟩⟩, fun t h => absurd h (Nat.not_lt_zero t), fun t h => absurd h (Nat.not_lt_zero t), fun t h => absurd h (Nat.not_lt_zero t), fun t h => absurd h (Nat.not_lt_zero t), fun t h => absurd h (Nat.not_lt_zero t)⟩, Only.refl _ _⟩
  case round =>
    obtain ⟨w1, rfl⟩ : ∃ q, q = wr := ⟨_, rfl⟩
    obtain ⟨i, V, A, H, C, rfl, rfl, hi, htl, ho⟩ := hrel
    have TL := Hid.mk htl
    have O1 := Hid.mk ho
    have hz1 := ho.size
    clear htl ho
    by_cases hlt : i < K
    · have d0 := (O1.out.cell (p := ⟨gp, i, none⟩) hgpl (by rintro ⟨t, ht, e⟩; exact HGP.out t (by omega) e.symm)).trans (HP.out i hlt)
      have hiI : (i : Int) < (K : Int) := by omega
      have hwi : IntKind.i64.wrap (-9 - (i : Int)) = -9 - (i : Int) := wrap_mid (by omega) (by omega)
      have hni := HN.out i hlt
      have hgi := GL.out i hlt
      have OW1 : Hid (OwnZ w1 base (.slice (some ⟨g i, 0, none⟩) (n i) (c i)) (Lz i)) := own_keep (HOWN.out i hlt) (fun q _ hq hv => O1.out.block q hq (by
        have e : g i = q := Option.some.inj hv
        rintro ⟨t, ht, e2⟩
        have := HINJ.out i t hlt (by omega) (by omega)
        omega))
      go_wp2_with fail
      refine (fill_own base (g i) (n i) (c i) (Lz i) (-9 - (i : Int)) w1 hni.1 (by omega) (by omega) OW1.out).mono ?_
      rintro e w2 ⟨h, ch, rfl, hcells, hlies, hold, ho2⟩
      have hz2 := ho2.size
      have hVlo : ∀ q, V.ownBlock = some q → w.heap.size ≤ q ∧ q < w1.heap.size := fun q hq => TL.out.own.lt q hq
      have OWV : Hid (w2.ownsRow w.heap.size 26 1 V i A) := own_keep TL.out.own (fun q hq hl _ => ho2.block q hl (by omega))
      have CE := Hid.mk hcells
      have LI := Hid.mk hlies
      have OLD := Hid.mk hold
      have O2 := Hid.mk ho2
      have hw2 : w.heap.size ≤ w2.heap.size := by omega
      have hi8 : i ≤ 100000000 := by omega
      have hhl : h < w2.heap.size := World.block_lt_of_cell? (a := ⟨h, 0, none⟩) _ (hcells 0 (by omega))
      clear hcells hlies hold ho2 d0
      go_wp2_with (at_builtin; go_must (refine wpList_pushV rfl _ _ rfl w.heap.size V i A (some ⟨h, 0, none⟩) (n i + 1) ch rfl OWV.out (by exact hw2) _ rfl hi8 ?_; intro g5 c5 w3 ho5 hon5 hat5))
      go_roundw
      case rel =>
        have hz3 := hon5.size
        have nV : ∀ q, q < w.heap.size → ¬ (V.ownBlock = some q) := fun q hq hh => by have := (hVlo q hh).1; omega
        have hA : A.length = i := by have := TL.out.own.1; omega
        have hhV : V.ownBlock ≠ some h := fun hh => by
          have h1 := hVlo h hh
          rcases LI.out with e | e <;> omega
        have h12 : Only (fun k => ∃ t, t < i + 1 ∧ k = g t) w w2 := (O1.out.mono (fun q _ e => by obtain ⟨t, ht, e⟩ := e; exact ⟨t, by omega, e⟩)).trans O2.out (fun q _ e => ⟨i, by omega, e⟩)
        refine ⟨i + 1, _, A ++ [.slice (some ⟨h, 0, none⟩) (n i + 1) ch], fun t => if t = i then h else H t, fun t => if t = i then ch else C t, rfl, by go_num, by omega, ⟨ho5, fun t ht => ?_, fun t ht j hj => ?_, fun t ht => ?_, fun t ht hh => ?_, fun t ht j hj => ?_⟩, h12.trans hon5 (fun q hq e => absurd e (nV q hq))⟩
        · show _ = Value.slice (some ⟨if t = i then h else H t, 0, none⟩) (n t + 1) (if t = i then ch else C t)
          by_cases e : t = i
          · rw [if_pos e, if_pos e, e, getD_snoc_new hA.symm]
          · rw [if_neg e, if_neg e, getD_snoc_old (by omega)]
            exact TL.out.at' t (by omega)
        · show w3.cell? ⟨if t = i then h else H t, j, none⟩ = _
          by_cases e : t = i
          · subst e
            rw [if_pos rfl, hon5.cell (p := ⟨h, j, none⟩) hhl hhV]
            exact CE.out j hj
          · rw [if_neg e]
            have hc := TL.out.cells t (by omega) j hj
            have hHl := World.block_lt_of_cell? (a := ⟨H t, j, none⟩) _ hc
            have hHi : H t ≠ g i := by
              rcases TL.out.lies t (by omega) with e2 | e2
              · rw [e2]
                intro e3
                exact e (HINJ.out t i (by omega) hlt e3)
              · have := hgi.2
                omega
            rw [hon5.cell (p := ⟨H t, j, none⟩) (by show H t < _; have : H t < w1.heap.size := hHl; omega) (TL.out.ne t (by omega)), O2.out.cell (p := ⟨H t, j, none⟩) hHl hHi]
            exact hc
        · show (if t = i then h else H t) = g t ∨ w.heap.size ≤ (if t = i then h else H t)
          by_cases e : t = i
          · rw [if_pos e, e]
            rcases LI.out with e2 | e2
            · exact .inl e2
            · exact .inr (by omega)
          · rw [if_neg e]
            exact TL.out.lies t (by omega)
        · have hh2 : g5 = (if t = i then h else H t) := Option.some.inj hh
          by_cases e : t = i
          · rw [if_pos e] at hh2
            rcases hat5 with e2 | e2
            · exact hhV (by rw [e2, hh2])
            · omega
          · rw [if_neg e] at hh2
            have hc := TL.out.cells t (by omega) 0 (by omega)
            have hHl : H t < w1.heap.size := World.block_lt_of_cell? (a := ⟨H t, 0, none⟩) _ hc
            rcases hat5 with e2 | e2
            · exact TL.out.ne t (by omega) (by rw [e2, hh2])
            · omega
        · by_cases e : t = i
          · subst e
            rw [hon5.cell (p := ⟨g t, j, none⟩) (by show g t < _; have := hgi.2; omega) (nV (g t) hgi.2)]
            exact OLD.out j hj
          · have hgt := (GL.out t (by omega)).2
            rw [hon5.cell (p := ⟨g t, j, none⟩) (by show g t < _; omega) (nV (g t) hgt), O2.out.cell (p := ⟨g t, j, none⟩) (by show g t < _; omega) (by show ¬ (g t = g i); exact fun e3 => e (HINJ.out t i (by omega) hlt e3))]
            exact TL.out.old t (by omega) j hj
      case measure => simp [intOf]; omega
    · have hd : i = K := by omega
      subst hd
      obtain ⟨aV, cV, rfl, haV, _⟩ := own_form TL.out.own
      have HAV := Hid.mk haV
      clear haV
      go_wp2
      go_loopw [6] (fun v6 wr => ∃ k : Nat, v6 = .int .i64 k ∧ k ≤ i ∧ wr = w1) (fun v6 _ => i - (intOf v6).toNat)
      case atStart => exact ⟨0, rfl, Nat.zero_le _, rfl⟩
      case round =>
        obtain ⟨k, rfl, hk, rfl⟩ := hrel
        by_cases hltk : k < i
        · obtain ⟨gV, rfl⟩ := HAV.out (by omega)
          have d0 := (O1.out.cell (p := ⟨gp, k, none⟩) hgpl (by rintro ⟨t, ht, e⟩; exact HGP.out t (by omega) e.symm)).trans (HP.out k hltk)
          have d1 : wr.cell? ⟨gV, k, none⟩ = some (.slice (some ⟨H k, 0, none⟩) (n k + 1) (C k)) := by
            rw [own_cell TL.out.own hltk, ← TL.out.at' k hltk]
            have hA : A.length = i := by have := TL.out.own.1; omega
            rw [List.getD_eq_getElem?_getD, List.getElem?_eq_getElem (by omega)]; rfl
          have hkI : (k : Int) < (i : Int) := by omega
          have hwk : IntKind.i64.wrap (-9 - (k : Int)) = -9 - (k : Int) := wrap_mid (by omega) (by omega)
          have hnk := (HN.out k hltk).2
          go_wp2_with fail
          refine (filled_any _ (n k) (c k) (-9 - (k : Int)) wr (by omega) (fun _ => ⟨g k, rfl, fun j hj => TL.out.old k hltk j hj⟩)).mono ?_
          rintro e w9 ⟨rfl, hw9⟩
          have hw9 := hw9.symm
          subst hw9
          go_wp2_with fail
          refine (filled_any _ (n k + 1) (C k) (-9 - (k : Int)) wr (by omega) (fun _ => ⟨H k, rfl, fun j hj => TL.out.cells k hltk j hj⟩)).mono ?_
          rintro e w9 ⟨rfl, hw9⟩
          have hw9 := hw9.symm
          subst hw9
          clear d0 d1
          go_wp2
          go_roundw
          case rel => exact ⟨k + 1, by go_num, by omega, (by first | rfl | trivial)⟩
          case measure => simp [intOf]; omega
        · go_wp2
          go_ret
          exact ⟨rfl, O1.out⟩

end Go.Proofs.YtgdkchdcbfgijaaDoor
