/- The law Texts, walked. -/
import Derived.Test.YtnkgpinadgacgaaDoorUo
namespace Go.Proofs.YtnkgpinadgacgaaDoor
open Go.RowKit Go.Shelf Go.Deep M

theorem readT_cartsU {l r : List UInt8} {t : TX.Told} (h : TX.readT l = (r, some t)) : t.carts.length ≤ l.length := by
  unfold TX.readT at h
  obtain ⟨u, l1, h1, h⟩ := TX.andP_some h
  obtain ⟨q, l2, h2, h⟩ := TX.andP_some h
  obtain ⟨cs, l3, h3, h⟩ := TX.andP_some h
  obtain ⟨qc, qn, qC⟩ := q
  cases h
  show cs.length ≤ l.length
  have key : ∀ (R C f : Nat) (l r : List UInt8) (acc acc' : List (Int × Int)), TX.cartsP R C f l acc = (r, some acc') → acc'.length ≤ acc.length + l.length := by
    intro R C f
    induction f with
    | zero => intro l r acc acc' h; cases h; omega
    | succ f ih =>
      intro l r acc acc' h
      have h' : (if acc ≠ [] ∧ l = [] then (l, some acc) else TX.andP (TX.cartP R C l) fun c l1 => TX.cartsP R C f l1 (acc ++ [c])) = (r, some acc') := h
      by_cases hd : acc ≠ [] ∧ l = []
      · rw [if_pos hd] at h'; cases h'; omega
      · rw [if_neg hd] at h'
        obtain ⟨v, l1, g1, g2⟩ := TX.andP_some h'
        have := ih _ _ _ _ g2
        have := cartP_lt g1
        rw [List.length_append] at *
        simp at *
        omega
  have e1 := key _ _ _ _ _ _ _ h3
  have e2 : l2.length ≤ l1.length := by
    unfold TX.rowsP at h2
    obtain ⟨c1, _⟩ := TX.cellsP_form l1.length l1
    by_cases he : (TX.cellsP l1.length l1).1 = []
    · rw [if_pos he] at h2; cases h2
    · rw [if_neg he] at h2
      obtain ⟨m1, d1, h2⟩ := TX.okP_some h2
      obtain ⟨a, m2, d2, h2⟩ := TX.andP_some h2
      obtain ⟨acs, an⟩ := a
      cases h2
      obtain ⟨rows, f1, _⟩ := TX.rows_form _ _ _ _ _ d2
      have hlen := congrArg List.length c1
      rw [TX.take_form d1, f1] at hlen
      simp only [List.length_append, List.length_cons] at hlen
      omega
  have e3 : l1.length ≤ l.length := by
    unfold TX.budgetP at h1
    obtain ⟨k1, b1, h1⟩ := TX.okP_some h1
    obtain ⟨n, k2, b2, h1⟩ := TX.andP_some h1
    obtain ⟨k3, b3, h1⟩ := TX.okP_some h1
    cases h1
    rw [TX.takes_form b1, (TX.number_form b2).1, TX.take_form b3]
    simp only [List.length_append, List.length_cons]
    omega
  simp at e1
  omega

/-- Of a text both readers tell one yard, one error, one place. -/
theorem read_both (s : ByteArray) (hs : s.size ≤ 2000000) : ∃ (r c u e1 e2 : Int) (F : ByteArray) (m : Nat) (f2 t2 : Nat → Int), m ≤ s.size ∧
    (∀ w, Calls Tryd.prog 43 #[.string s] w fun e w' => ∃ a cap, e = .returned (.tuple #[.agg #[.int .i64 r, .int .i64 c, .string F, .slice a m cap, .int .i64 u], .int .i64 e1, .int .i64 e2]) ∧ w'.ownsRow w.heap.size 87 2 (.slice a m cap) m (cartCells f2 t2 m) ∧ (0 < m → ∃ b off, a = some ⟨b, off, none⟩ ∧ CartsIn w' b off m f2 t2) ∧ Below w.heap.size w w') ∧
    (∀ w, Calls Tryd.prog 44 #[.string s] w fun e w' => ∃ a cap, e = .returned (.tuple #[.agg #[.int .i64 r, .int .i64 c, .string F, .slice a m cap, .int .i64 u], .int .i64 e1, .int .i64 e2]) ∧ (0 < m → ∃ b off, a = some ⟨b, off, none⟩ ∧ CartsIn w' b off m f2 t2) ∧ (∀ b off, a = some ⟨b, off, none⟩ → w.heap.size ≤ b) ∧ Below w.heap.size w w') := by
  cases ho : (rdT s).1 with
  | none =>
    refine ⟨0, 0, 0, (rdT s).2.1, (rdT s).2.2, ⟨#[]⟩, 0, fun _ => 0, fun _ => 0, Nat.zero_le _, fun w => ?_, fun w => ?_⟩
    · refine (yread_told s w hs).mono ?_
      rintro e w' ⟨v, rfl, hv, hb⟩
      rw [ho] at hv
      cases hv
      exact ⟨none, 0, rfl, ⟨rfl, .inl ⟨rfl, rfl⟩⟩, fun h => absurd h (Nat.lt_irrefl 0), hb⟩
    · refine (xread_told s w hs).mono ?_
      rintro e w' ⟨v, rfl, hv, hb⟩
      rw [ho] at hv
      cases hv
      exact ⟨none, 0, rfl, fun h => absurd h (Nat.lt_irrefl 0), fun b off h => (by cases h), hb⟩
  | some t =>
    have hm : t.carts.length ≤ s.size := by
      unfold rdT at ho
      split at ho
      · cases ho
      · next t' ht =>
        split at ho
        · cases ho
          have h := readT_cartsU (l := s.data.toList) (r := (TX.readT s.data.toList).1) (t := t) (by rw [← ht])
          rw [Array.length_toList] at h
          exact h
        · cases ho
    refine ⟨t.R, t.C, t.U, (rdT s).2.1, (rdT s).2.2, ⟨t.cs.toArray⟩, t.carts.length, frL t.carts, ttL t.carts, hm, fun w => ?_, fun w => ?_⟩
    · refine (yread_told s w hs).mono ?_
      rintro e w' ⟨v, rfl, hv, hb⟩
      rw [ho] at hv
      obtain ⟨g, cap, rfl, hc, hg, _⟩ := hv
      exact ⟨some ⟨g, 0, none⟩, cap, rfl, own_le hc.o hg, fun _ => ⟨g, 0, rfl, hc.c⟩, hb⟩
    · refine (xread_told s w hs).mono ?_
      rintro e w' ⟨v, rfl, hv, hb⟩
      rw [ho] at hv
      obtain ⟨g, cap, rfl, hc, hg⟩ := hv
      exact ⟨some ⟨g, 0, none⟩, cap, rfl, fun _ => ⟨g, 0, rfl, hc⟩, fun b off h => (by cases h; exact hg), hb⟩

set_option maxRecDepth 100000 in
set_option maxHeartbeats 8000000 in
theorem texts_any (ro co bu : Int) (cs : ByteArray) (a : Option Addr) (n cap : Nat) (fr tt : Nat → Int) (s : ByteArray) (w : World) (hs : cs.size ≤ maxLen) (hn : n * 16 ≤ 140737488351232) (hS : s.size ≤ 2000000) (hT : Lib.TabIs Tryd.prog w "internal/strconv.uint64pow10" .u64 Lib.pow10Tab)
    (ha : 0 < n → ∃ b off, a = some ⟨b, off, none⟩ ∧ CartsIn w b off n fr tt) :
    Calls Tryd.prog 9 #[.agg #[.int .i64 ro, .int .i64 co, .string cs, .slice a n cap, .int .i64 bu], .string s] w fun e w' => e = .returned (.bool true) ∧ Below w.heap.size w w' := by
  have hmm : n ≤ maxLen := by unfold maxLen; omega
  have HA := Hid.mk ha
  have HT := Hid.mk (Lib.tabBelow_of_tabIs hT)
  have TW : Hid (∀ u, Below w.heap.size w u → Lib.TabBelow Tryd.prog u.heap.size u "internal/strconv.uint64pow10" .u64 Lib.pow10Tab) := Hid.mk fun u hu v hv => HT.out v (hu.trans (hv.mono hu.size))
  obtain ⟨r, c, u, e1, e2, F, m, f2, t2, hm, hyr, hxr⟩ := read_both s hS
  have YR := Hid.mk hyr
  have XR := Hid.mk hxr
  have hm2 : m ≤ 2000000 := by omega
  clear ha hT hyr hxr hm
  go_enter Tryd.func9, Tryd.ntmps9
  have Y1 : Hid (Box (w.alloc (.cells #[.int .i64 ro, .int .i64 co, .string cs, .slice a n cap, .int .i64 bu] 24)) w.heap.size #[.int .i64 ro, .int .i64 co, .string cs, .slice a n cap, .int .i64 bu]) := Hid.mk (box_new _ _)
  have B1 : Hid (Below w.heap.size w (w.alloc (.cells #[.int .i64 ro, .int .i64 co, .string cs, .slice a n cap, .int .i64 bu] 24))) := Hid.mk ((Below.refl _ w).alloc (Nat.le_refl _) _)
  go_wp2_with fail
  generalize (w.alloc (.cells #[.int .i64 ro, .int .i64 co, .string cs, .slice a n cap, .int .i64 bu] 24)) = w1 at *
  refine (handed_any _ _ _ _ _ _ _ fr tt _ hn (by exact opt_below HA.out B1.out)).mono ?_
  rintro e w2 ⟨g, rfl, hg, hrow, hb2⟩
  have B2 : Hid (Below w.heap.size w w2) := Hid.mk (B1.out.trans (hb2.mono B1.out.size))
  have Y2 := Hid.mk (Y1.out.belowB hb2 Y1.out.lt)
  have HR2 := Hid.mk hrow
  have HA2 := Hid.mk (opt_below HA.out B2.out)
  have Y3 : Hid (Box (w2.alloc (.cells #[.int .i64 ro, .int .i64 co, .string cs, .slice (some ⟨g, 0, none⟩) n (n + 8), .int .i64 bu] 24)) w.heap.size #[.int .i64 ro, .int .i64 co, .string cs, .slice a n cap, .int .i64 bu]) := Hid.mk (box_alloc Y2.out _)
  have H3 : Hid (Box (w2.alloc (.cells #[.int .i64 ro, .int .i64 co, .string cs, .slice (some ⟨g, 0, none⟩) n (n + 8), .int .i64 bu] 24)) w2.heap.size #[.int .i64 ro, .int .i64 co, .string cs, .slice (some ⟨g, 0, none⟩) n (n + 8), .int .i64 bu]) := Hid.mk (box_new _ _)
  have Q3 : Hid (Below w2.heap.size w2 (w2.alloc (.cells #[.int .i64 ro, .int .i64 co, .string cs, .slice (some ⟨g, 0, none⟩) n (n + 8), .int .i64 bu] 24))) := Hid.mk ((Below.refl _ w2).alloc (Nat.le_refl _) _)
  have hz2 : w.heap.size ≤ w2.heap.size := B2.out.size
  clear hrow hb2
  go_wp2_with fail
  generalize (w2.alloc (.cells #[.int .i64 ro, .int .i64 co, .string cs, .slice (some ⟨g, 0, none⟩) n (n + 8), .int .i64 bu] 24)) = w3 at *
  have B3 : Hid (Below w.heap.size w w3) := Hid.mk (B2.out.trans (Q3.out.mono hz2))
  have HR3 := Hid.mk (rowIs_below HR2.out Q3.out)
  have HA3 := Hid.mk (opt_below HA.out B3.out)
  refine (ywrite_told ro co bu g n (n + 8) cs fr tt w3 hs hmm (by omega) (TW.out _ B3.out) (row_carts HR3.out)).mono ?_
  rintro e w4 ⟨rfl, hb4⟩
  obtain ⟨F1, hF1⟩ : ∃ q, Hid (q = (wtT ro co bu cs n fr tt).1) := ⟨_, Hid.mk rfl⟩
  obtain ⟨k1, hk1⟩ : ∃ q, Hid (q = (wtT ro co bu cs n fr tt).2) := ⟨_, Hid.mk rfl⟩
  rw [← hF1.out, ← hk1.out]
  have B4 : Hid (Below w.heap.size w w4) := Hid.mk (B3.out.trans (hb4.mono B3.out.size))
  have Y4 := Hid.mk (Y3.out.belowB hb4 Y3.out.lt)
  have H4 := Hid.mk (H3.out.belowB hb4 H3.out.lt)
  have HR4 := Hid.mk (rowIs_below HR3.out hb4)
  have HA4 := Hid.mk (opt_below HA3.out hb4)
  clear hb4
  have y0 := Y4.out.c 0
  have y1 := Y4.out.c 1
  have y2 := Y4.out.c 2
  have y3 := Y4.out.c 3
  have y4 := Y4.out.c 4
  have h0 := H4.out.c 0
  have h1 := H4.out.c 1
  have h2 := H4.out.c 2
  have h3 := H4.out.c 3
  have h4 := H4.out.c 4
  simp only [List.getElem?_toArray, List.getElem?_cons_zero, List.getElem?_cons_succ] at y0 y1 y2 y3 y4 h0 h1 h2 h3 h4
  go_wp2_with fail
  refine (still_any _ _ _ _ _ _ _ _ fr tt _ hn (by exact HA4.out) (by exact HR4.out)).mono ?_
  rintro e w5 ⟨rfl, hb5⟩
  have B5 : Hid (Below w.heap.size w w5) := Hid.mk (B4.out.trans (hb5.mono B4.out.size))
  have Y5 := Hid.mk (Y4.out.belowB hb5 Y4.out.lt)
  have HA5 := Hid.mk (opt_below HA4.out hb5)
  clear hb5
  clear y0 y1 y2 y3 y4 h0 h1 h2 h3 h4
  have y0 := Y5.out.c 0
  have y1 := Y5.out.c 1
  have y2 := Y5.out.c 2
  have y3 := Y5.out.c 3
  have y4 := Y5.out.c 4
  simp only [List.getElem?_toArray, List.getElem?_cons_zero, List.getElem?_cons_succ] at y0 y1 y2 y3 y4
  go_wp2_with fail
  refine (xwrite_told ro co bu a n cap cs fr tt w5 hs hmm HA5.out).mono ?_
  rintro e w6 ⟨rfl, hb6⟩
  rw [← hF1.out, ← hk1.out]
  have B6 : Hid (Below w.heap.size w w6) := Hid.mk (B5.out.trans (hb6.mono B5.out.size))
  clear hb6
  have ek : (k1 != k1) = false := by simp
  have e11 : (e1 != e1) = false := by simp
  have e22 : (e2 != e2) = false := by simp
  have e13 : (e1 == e1) = true := by simp
  have e23 : (e2 == e2) = true := by simp
  go_wp2_with fail
  refine (num_any _ _).mono ?_
  rintro e w9 ⟨rfl, hw9⟩
  have hw9 := hw9.symm
  subst hw9
  go_wp2_with fail
  refine (YR.out _).mono ?_
  rintro e w7 ⟨ax, cx, rfl, hox, hcx, hb7⟩
  have B7 : Hid (Below w.heap.size w w7) := Hid.mk (B6.out.trans (hb7.mono B6.out.size))
  have OX7 := Hid.mk hox
  have CX7 := Hid.mk hcx
  have hz6 := hb7.size
  clear hox hcx hb7
  have X8 : Hid (Box (w7.alloc (.cells #[.int .i64 r, .int .i64 c, .string F, .slice ax m cx, .int .i64 u] 24)) w7.heap.size #[.int .i64 r, .int .i64 c, .string F, .slice ax m cx, .int .i64 u]) := Hid.mk (box_new _ _)
  have Q8 : Hid (Below w7.heap.size w7 (w7.alloc (.cells #[.int .i64 r, .int .i64 c, .string F, .slice ax m cx, .int .i64 u] 24))) := Hid.mk ((Below.refl _ w7).alloc (Nat.le_refl _) _)
  go_wp2_with fail
  generalize (w7.alloc (.cells #[.int .i64 r, .int .i64 c, .string F, .slice ax m cx, .int .i64 u] 24)) = w8 at *
  have B8 : Hid (Below w.heap.size w w8) := Hid.mk (B7.out.trans (Q8.out.mono B7.out.size))
  have OX8 := Hid.mk (own_later OX7.out Q8.out)
  have CX8 := Hid.mk (opt_below CX7.out Q8.out)
  refine (YR.out _).mono ?_
  rintro e w9 ⟨ak, ck, rfl, hok, hck, hb9⟩
  have B9 : Hid (Below w.heap.size w w9) := Hid.mk (B8.out.trans (hb9.mono B8.out.size))
  have OX9 := Hid.mk (own_later OX8.out hb9)
  have CX9 := Hid.mk (opt_below CX8.out hb9)
  have X9 := Hid.mk (X8.out.belowB hb9 X8.out.lt)
  have OK9 := Hid.mk hok
  have CK9 := Hid.mk hck
  have hz9 := hb9.size
  clear hok hck hb9
  have K10 : Hid (Box (w9.alloc (.cells #[.int .i64 r, .int .i64 c, .string F, .slice ak m ck, .int .i64 u] 24)) w9.heap.size #[.int .i64 r, .int .i64 c, .string F, .slice ak m ck, .int .i64 u]) := Hid.mk (box_new _ _)
  have X10 : Hid (Box (w9.alloc (.cells #[.int .i64 r, .int .i64 c, .string F, .slice ak m ck, .int .i64 u] 24)) w7.heap.size #[.int .i64 r, .int .i64 c, .string F, .slice ax m cx, .int .i64 u]) := Hid.mk (box_alloc X9.out _)
  have Q10 : Hid (Below w9.heap.size w9 (w9.alloc (.cells #[.int .i64 r, .int .i64 c, .string F, .slice ak m ck, .int .i64 u] 24))) := Hid.mk ((Below.refl _ w9).alloc (Nat.le_refl _) _)
  go_wp2_with fail
  generalize (w9.alloc (.cells #[.int .i64 r, .int .i64 c, .string F, .slice ak m ck, .int .i64 u] 24)) = w10 at *
  have B10 : Hid (Below w.heap.size w w10) := Hid.mk (B9.out.trans (Q10.out.mono B9.out.size))
  have OX10 := Hid.mk (own_later OX9.out Q10.out)
  have CX10 := Hid.mk (opt_below CX9.out Q10.out)
  have OK10 := Hid.mk (own_later OK9.out Q10.out)
  have CK10 := Hid.mk (opt_below CK9.out Q10.out)
  refine (XR.out _).mono ?_
  rintro e w11 ⟨az, cz, rfl, hcz, haz, hb11⟩
  have AZ := Hid.mk haz
  have hz11 := hb11.size
  have B11 : Hid (Below w.heap.size w w11) := Hid.mk (B10.out.trans (hb11.mono B10.out.size))
  have OX11 := Hid.mk (own_later OX10.out hb11)
  have CX11 := Hid.mk (opt_below CX10.out hb11)
  have OK11 := Hid.mk (own_later OK10.out hb11)
  have CK11 := Hid.mk (opt_below CK10.out hb11)
  have X11 := Hid.mk (X10.out.belowB hb11 X10.out.lt)
  have K11 := Hid.mk (K10.out.belowB hb11 K10.out.lt)
  have CZ11 := Hid.mk hcz
  clear hcz haz hb11
  have X12 : Hid (Box (w11.alloc (.cells #[.int .i64 r, .int .i64 c, .string F, .slice az m cz, .int .i64 u] 24)) w7.heap.size #[.int .i64 r, .int .i64 c, .string F, .slice ax m cx, .int .i64 u]) := Hid.mk (box_alloc X11.out _)
  have K12 : Hid (Box (w11.alloc (.cells #[.int .i64 r, .int .i64 c, .string F, .slice az m cz, .int .i64 u] 24)) w9.heap.size #[.int .i64 r, .int .i64 c, .string F, .slice ak m ck, .int .i64 u]) := Hid.mk (box_alloc K11.out _)
  have Z12 : Hid (Box (w11.alloc (.cells #[.int .i64 r, .int .i64 c, .string F, .slice az m cz, .int .i64 u] 24)) w11.heap.size #[.int .i64 r, .int .i64 c, .string F, .slice az m cz, .int .i64 u]) := Hid.mk (box_new _ _)
  have Q12 : Hid (Below w11.heap.size w11 (w11.alloc (.cells #[.int .i64 r, .int .i64 c, .string F, .slice az m cz, .int .i64 u] 24))) := Hid.mk ((Below.refl _ w11).alloc (Nat.le_refl _) _)
  have w12 := 0
  clear w12
  have hxz : ∀ o, (w11.alloc (.cells #[.int .i64 r, .int .i64 c, .string F, .slice az m cz, .int .i64 u] 24)).cell? ⟨w7.heap.size, o, none⟩ = #[Value.int .i64 r, .int .i64 c, .string F, .slice ax m cx, .int .i64 u][o]? := X12.out.c
  have hzz : ∀ o, (w11.alloc (.cells #[.int .i64 r, .int .i64 c, .string F, .slice az m cz, .int .i64 u] 24)).cell? ⟨w11.heap.size, o, none⟩ = #[Value.int .i64 r, .int .i64 c, .string F, .slice az m cz, .int .i64 u][o]? := Z12.out.c
  have x0 := hxz 0
  have x1 := hxz 1
  have x2 := hxz 2
  have x3 := hxz 3
  have x4 := hxz 4
  have z0 := hzz 0
  have z1 := hzz 1
  have z2 := hzz 2
  have z3 := hzz 3
  have z4 := hzz 4
  simp only [List.getElem?_toArray, List.getElem?_cons_zero, List.getElem?_cons_succ] at x0 x1 x2 x3 x4 z0 z1 z2 z3 z4
  clear hxz hzz
  go_upto_region 10 with fail
  generalize (w11.alloc (.cells #[.int .i64 r, .int .i64 c, .string F, .slice az m cz, .int .i64 u] 24)) = w12 at *
  have B12 : Hid (Below w.heap.size w w12) := Hid.mk (B11.out.trans (Q12.out.mono B11.out.size))
  have OX12 := Hid.mk (own_later OX11.out Q12.out)
  have CX12 := Hid.mk (opt_below CX11.out Q12.out)
  have OK12 := Hid.mk (own_later OK11.out Q12.out)
  have CK12 := Hid.mk (opt_below CK11.out Q12.out)
  have CZ12 := Hid.mk (opt_below CZ11.out Q12.out)
  go_wp2_with fail
  refine (sameY_any r c u ax az m cx cz F f2 t2 _ hm2 CX12.out CZ12.out).mono ?_
  rintro e w13 ⟨rfl, hb13⟩
  have B13 : Hid (Below w.heap.size w w13) := Hid.mk (B12.out.trans (hb13.mono B12.out.size))
  have OX13 := Hid.mk (own_later OX12.out hb13)
  have CX13 := Hid.mk (opt_below CX12.out hb13)
  have OK13 := Hid.mk (own_later OK12.out hb13)
  have CK13 := Hid.mk (opt_below CK12.out hb13)
  have CZ13 := Hid.mk (opt_below CZ12.out hb13)
  have X13 := Hid.mk (X12.out.belowB hb13 X12.out.lt)
  have K13 := Hid.mk (K12.out.belowB hb13 K12.out.lt)
  have Z13 := Hid.mk (Z12.out.belowB hb13 Z12.out.lt)
  have hz13 := hb13.size
  clear hb13
  clear x0 x1 x2 x3 x4 z0 z1 z2 z3 z4
  have k0 := K13.out.c 0
  have k1 := K13.out.c 1
  have k2 := K13.out.c 2
  have k3 := K13.out.c 3
  have k4 := K13.out.c 4
  have z0 := Z13.out.c 0
  have z1 := Z13.out.c 1
  have z2 := Z13.out.c 2
  have z3 := Z13.out.c 3
  have z4 := Z13.out.c 4
  simp only [List.getElem?_toArray, List.getElem?_cons_zero, List.getElem?_cons_succ] at k0 k1 k2 k3 k4 z0 z1 z2 z3 z4
  go_wp2_with fail
  refine (sameY_any r c u ak az m ck cz F f2 t2 _ hm2 CK13.out CZ13.out).mono ?_
  rintro e w14 ⟨rfl, hb14⟩
  have B14 : Hid (Below w.heap.size w w14) := Hid.mk (B13.out.trans (hb14.mono B13.out.size))
  have OX14 := Hid.mk (own_later OX13.out hb14)
  have OK14 := Hid.mk (own_later OK13.out hb14)
  have CZ14 := Hid.mk (opt_below CZ13.out hb14)
  have X14 := Hid.mk (X13.out.belowB hb14 X13.out.lt)
  have K14 := Hid.mk (K13.out.belowB hb14 K13.out.lt)
  have Z14 := Hid.mk (Z13.out.belowB hb14 Z13.out.lt)
  have hz14 := hb14.size
  clear hb14
  clear k0 k1 k2 k3 k4 z0 z1 z2 z3 z4
  go_wp2_with fail
  refine (num_any _ _).mono ?_
  rintro e wn ⟨rfl, hwn⟩
  have hwn := hwn.symm
  subst hwn
  go_wp2_with fail
  refine (num_any _ _).mono ?_
  rintro e wn ⟨rfl, hwn⟩
  have hwn := hwn.symm
  subst hwn
  have x3 := X14.out.c 3
  have k3 := K14.out.c 3
  simp only [List.getElem?_toArray, List.getElem?_cons_zero, List.getElem?_cons_succ] at x3 k3
  have HDIS : Hid (∀ b, (Value.slice ax m cx).ownBlock = some b → (Value.slice ak m ck).ownBlock ≠ some b) := Hid.mk fun b e1 e2 => by
    have h1 := (OX7.out.lt b e1).2
    have h2 := (OK9.out.lt b e2).1
    have h3 := Q8.out.size
    omega
  go_wp2_with fail
  refine (bothCarts_any w6.heap.size ax ak m m cx ck _ _ _ (by omega) (by omega) ?hBB OX14.out (own_le OK14.out ?hB2) HDIS.out).mono ?_
  case hBB => have := Q8.out.size; have := Q10.out.size; have := Q12.out.size; omega
  case hB2 => have := Q8.out.size; omega
  rintro e w15 ⟨rfl, ho15⟩
  have hx8 : w7.heap.size < w8.heap.size := X8.out.lt
  have hq10 := Q10.out.size
  have hq12 := Q12.out.size
  have S1 : Hid (∀ b, (Value.slice ax m cx).ownBlock = some b → w6.heap.size ≤ b ∧ b < w7.heap.size) := Hid.mk fun b e => OX7.out.lt b e
  have S2 : Hid (∀ b, (Value.slice ak m ck).ownBlock = some b → w8.heap.size ≤ b ∧ b < w9.heap.size) := Hid.mk fun b e => OK9.out.lt b e
  have hz66 := B6.out.size
  have hz77 := B7.out.size
  have hz88 := B8.out.size
  have hz144 := B14.out.size
  have B15 : Hid (Below w.heap.size w w15) := Hid.mk (B14.out.trans (ho15.below B14.out.size (fun i hi => by
    rcases hi with hi | hi
    · have := (S1.out i hi).1; omega
    · have := (S2.out i hi).1; omega)))
  have X15 : Hid (Box w15 w7.heap.size #[.int .i64 r, .int .i64 c, .string F, .slice ax m cx, .int .i64 u]) := Hid.mk (X14.out.only ho15 (fun hi => by
    rcases hi with hi | hi
    · have := (S1.out _ hi).2; omega
    · have := (S2.out _ hi).1; omega))
  have Z15 : Hid (Box w15 w11.heap.size #[.int .i64 r, .int .i64 c, .string F, .slice az m cz, .int .i64 u]) := Hid.mk (Z14.out.only ho15 (fun hi => by
    rcases hi with hi | hi
    · have := (S1.out _ hi).2; omega
    · have := (S2.out _ hi).2; omega))
  have CZ15 : Hid (0 < m → ∃ b off, az = some ⟨b, off, none⟩ ∧ CartsIn w15 b off m f2 t2) := Hid.mk fun h => by
    obtain ⟨b, off, e, hc⟩ := CZ14.out h
    have hb10 := AZ.out b off e
    refine ⟨b, off, e, fun i hi => ?_⟩
    obtain ⟨p1, p2⟩ := hc i hi
    have hlt := World.block_lt_of_cell? _ _ p1
    have hn : ¬ ((Value.slice ax m cx).ownBlock = some b ∨ (Value.slice ak m ck).ownBlock = some b) := fun hi => by
      rcases hi with hi | hi
      · have := (S1.out _ hi).2; omega
      · have := (S2.out _ hi).2; omega
    exact ⟨(ho15.cell (p := ⟨b, off + i * 2, none⟩) hlt hn).trans p1, (ho15.cell (p := ⟨b, off + i * 2 + 1, none⟩) hlt hn).trans p2⟩
  have hz15 := ho15.size
  clear ho15 x3 k3
  go_wp2_with fail
  refine (YR.out _).mono ?_
  rintro e w16 ⟨a3, c3, rfl, ho3, hc3, hb16⟩
  have B16 : Hid (Below w.heap.size w w16) := Hid.mk (B15.out.trans (hb16.mono B15.out.size))
  have X16 := Hid.mk (X15.out.belowB hb16 X15.out.lt)
  have Z16 := Hid.mk (Z15.out.belowB hb16 Z15.out.lt)
  have CZ16 := Hid.mk (opt_below CZ15.out hb16)
  have hz16 := hb16.size
  have A3 : Hid (∀ b off, a3 = some ⟨b, off, none⟩ → w15.heap.size ≤ b) := Hid.mk fun b off e => (ho3.lt b (by rw [e]; rfl)).1
  have CX16 := Hid.mk hc3
  have fz := X16.out.fz
  have hxl : w7.heap.size < w16.heap.size := X16.out.lt
  have X17 : Hid (Box (((((w16.setCell ⟨w7.heap.size, 0, none⟩ (.int .i64 r)).setCell ⟨w7.heap.size, 1, none⟩ (.int .i64 c)).setCell ⟨w7.heap.size, 2, none⟩ (.string F)).setCell ⟨w7.heap.size, 3, none⟩ (.slice a3 m c3)).setCell ⟨w7.heap.size, 4, none⟩ (.int .i64 u)) w7.heap.size #[.int .i64 r, .int .i64 c, .string F, .slice a3 m c3, .int .i64 u]) := Hid.mk (((((X16.out.set (i := 0) (x := .int .i64 r) (by simp) (v' := #[.int .i64 r, .int .i64 c, .string F, .slice ax m cx, .int .i64 u]) rfl).set (i := 1) (x := .int .i64 c) (by simp) (v' := #[.int .i64 r, .int .i64 c, .string F, .slice ax m cx, .int .i64 u]) rfl).set (i := 2) (x := .string F) (by simp) (v' := #[.int .i64 r, .int .i64 c, .string F, .slice ax m cx, .int .i64 u]) rfl).set (i := 3) (x := .slice a3 m c3) (by simp) (v' := #[.int .i64 r, .int .i64 c, .string F, .slice a3 m c3, .int .i64 u]) rfl).set (i := 4) (x := .int .i64 u) (by simp) (v' := #[.int .i64 r, .int .i64 c, .string F, .slice a3 m c3, .int .i64 u]) rfl)
  have ZZ : ∀ (v : Value) (o : Nat) (q : World), Box q w11.heap.size #[.int .i64 r, .int .i64 c, .string F, .slice az m cz, .int .i64 u] → Box (q.setCell ⟨w7.heap.size, o, none⟩ v) w11.heap.size #[.int .i64 r, .int .i64 c, .string F, .slice az m cz, .int .i64 u] := fun v o q h => h.only (Only.setCell (S := fun x => x = w7.heap.size) (Only.refl _ q) (p := ⟨w7.heap.size, o, none⟩) (fun _ => rfl) v) (fun e => by omega)
  have Z17 : Hid (Box (((((w16.setCell ⟨w7.heap.size, 0, none⟩ (.int .i64 r)).setCell ⟨w7.heap.size, 1, none⟩ (.int .i64 c)).setCell ⟨w7.heap.size, 2, none⟩ (.string F)).setCell ⟨w7.heap.size, 3, none⟩ (.slice a3 m c3)).setCell ⟨w7.heap.size, 4, none⟩ (.int .i64 u)) w11.heap.size #[.int .i64 r, .int .i64 c, .string F, .slice az m cz, .int .i64 u]) := Hid.mk (ZZ _ _ _ (ZZ _ _ _ (ZZ _ _ _ (ZZ _ _ _ (ZZ _ _ _ Z16.out)))))
  have CC : ∀ (av : Option Addr), (∀ b off, av = some ⟨b, off, none⟩ → w7.heap.size < b) → (0 < m → ∃ b off, av = some ⟨b, off, none⟩ ∧ CartsIn w16 b off m f2 t2) → (0 < m → ∃ b off, av = some ⟨b, off, none⟩ ∧ CartsIn (((((w16.setCell ⟨w7.heap.size, 0, none⟩ (.int .i64 r)).setCell ⟨w7.heap.size, 1, none⟩ (.int .i64 c)).setCell ⟨w7.heap.size, 2, none⟩ (.string F)).setCell ⟨w7.heap.size, 3, none⟩ (.slice a3 m c3)).setCell ⟨w7.heap.size, 4, none⟩ (.int .i64 u)) b off m f2 t2) := fun av hv h hm0 => by
    obtain ⟨b, off, e, hc⟩ := h hm0
    have hne : b ≠ w7.heap.size := by have := hv b off e; omega
    exact ⟨b, off, e, carts_set (carts_set (carts_set (carts_set (carts_set hc hne) hne) hne) hne) hne⟩
  have CX17 := Hid.mk (CC a3 (fun b off e => by have := A3.out b off e; omega) CX16.out)
  have CZ17 := Hid.mk (CC az (fun b off e => by have := AZ.out b off e; omega) CZ16.out)
  have OO : Hid (Only (fun x => x = w7.heap.size) w16 (((((w16.setCell ⟨w7.heap.size, 0, none⟩ (.int .i64 r)).setCell ⟨w7.heap.size, 1, none⟩ (.int .i64 c)).setCell ⟨w7.heap.size, 2, none⟩ (.string F)).setCell ⟨w7.heap.size, 3, none⟩ (.slice a3 m c3)).setCell ⟨w7.heap.size, 4, none⟩ (.int .i64 u))) := Hid.mk (((((Only.setCell (S := fun x => x = w7.heap.size) (Only.refl _ w16) (p := ⟨w7.heap.size, 0, none⟩) (fun _ => rfl) _).setCell (p := ⟨w7.heap.size, 1, none⟩) (fun _ => rfl) _).setCell (p := ⟨w7.heap.size, 2, none⟩) (fun _ => rfl) _).setCell (p := ⟨w7.heap.size, 3, none⟩) (fun _ => rfl) _).setCell (p := ⟨w7.heap.size, 4, none⟩) (fun _ => rfl) _)
  clear ZZ CC ho3 hc3 hb16
  have x0 := X16.out.c 0
  have x1 := X16.out.c 1
  have x2 := X16.out.c 2
  have x3 := X16.out.c 3
  have x4 := X16.out.c 4
  simp only [List.getElem?_toArray, List.getElem?_cons_zero, List.getElem?_cons_succ] at x0 x1 x2 x3 x4
  have q0 := X17.out.c 0
  have q1 := X17.out.c 1
  have q2 := X17.out.c 2
  have q3 := X17.out.c 3
  have q4 := X17.out.c 4
  have z0 := Z17.out.c 0
  have z1 := Z17.out.c 1
  have z2 := Z17.out.c 2
  have z3 := Z17.out.c 3
  have z4 := Z17.out.c 4
  simp only [List.getElem?_toArray, List.getElem?_cons_zero, List.getElem?_cons_succ] at q0 q1 q2 q3 q4 z0 z1 z2 z3 z4
  go_upto_region 16 with fail
  generalize (((((w16.setCell ⟨w7.heap.size, 0, none⟩ (.int .i64 r)).setCell ⟨w7.heap.size, 1, none⟩ (.int .i64 c)).setCell ⟨w7.heap.size, 2, none⟩ (.string F)).setCell ⟨w7.heap.size, 3, none⟩ (.slice a3 m c3)).setCell ⟨w7.heap.size, 4, none⟩ (.int .i64 u)) = w17 at *
  have B17 : Hid (Below w.heap.size w w17) := Hid.mk (B16.out.trans (OO.out.below B16.out.size (fun i hi => by omega)))
  go_wp2_with fail
  refine (sameY_any r c u a3 az m c3 cz F f2 t2 _ hm2 CX17.out CZ17.out).mono ?_
  rintro e w18 ⟨rfl, hb18⟩
  have B18 : Hid (Below w.heap.size w w18) := Hid.mk (B17.out.trans (hb18.mono B17.out.size))
  clear hb18
  go_wp2_with fail
  refine (num_any _ _).mono ?_
  rintro e wn ⟨rfl, hwn⟩
  have hwn := hwn.symm
  subst hwn
  go_wp2
  go_ret
  exact ⟨rfl, B18.out⟩

end Go.Proofs.YtnkgpinadgacgaaDoor
