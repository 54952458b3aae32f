/- Several texts in one: Tp, Tq. -/
import Derived.Test.YtnkgpinadgacgabDoorMkr
namespace Go.Proofs.YtnkgpinadgacgabDoor
open Go.RowKit Go.Shelf Go.Deep M

/-- The number beside an error lies within the text. -/
theorem chk_place {l r : List UInt8} {t : TX.Told} (h : TX.readT l = (r, some t)) (hn : t.carts.length ≤ l.length) : 0 ≤ (chkT t).2 ∧ (chkT t).2 ≤ (l.length : Int) := by
  have hb := (readT_bound h).1
  have hsz : ((⟨t.cs.toArray⟩ : ByteArray).size : Int) ≤ (l.length : Int) := by
    show ((t.cs.toArray.size : Nat) : Int) ≤ _
    rw [List.size_toArray]
    omega
  unfold chkT checkM
  by_cases h1 : (sideB (t.R : Int) && sideB (t.C : Int)) = false
  · rw [if_pos h1]; exact ⟨by simp, by simp⟩
  · rw [if_neg h1]
    by_cases h2 : 0 ≤ cellsM (t.R : Int) (t.C : Int) ⟨t.cs.toArray⟩
    · rw [if_pos h2]
      refine ⟨h2, Int.le_trans ?_ hsz⟩
      show cellsM (t.R : Int) (t.C : Int) ⟨t.cs.toArray⟩ ≤ _
      unfold cellsM
      split
      · omega
      · split <;> omega
    · rw [if_neg h2]
      by_cases h3 : t.carts.length < 1 ∨ 4 < t.carts.length
      · rw [if_pos h3]; exact ⟨by simp, by simp⟩
      · rw [if_neg h3]
        by_cases h4 : firstOf (fun i => !(cartM ⟨t.cs.toArray⟩ (frL t.carts) (ttL t.carts) i == 0)) t.carts.length < t.carts.length
        · rw [if_pos h4]
          refine ⟨?_, ?_⟩
          · show (0 : Int) ≤ ((firstOf _ _ : Nat) : Int)
            omega
          · show ((firstOf (fun i => !(cartM ⟨t.cs.toArray⟩ (frL t.carts) (ttL t.carts) i == 0)) t.carts.length : Nat) : Int) ≤ _
            omega
        · rw [if_neg h4]
          split <;> exact ⟨by simp, by simp⟩

/-- A yard that a text tells and Check lets by is written as that text. -/
theorem text_back {l r : List UInt8} {t : TX.Told} (h : TX.readT l = (r, some t)) (hc : (chkT t).1 = 0) : TX.writeT t.R t.C t.cs t.carts t.U = l := by
  obtain ⟨_, _, _, _, _, _, _, hw⟩ := TX.write_read h
  have hg := chk_form (R := t.R) (C := t.C) (U := t.U) (m := t.carts.length) (cs := ⟨t.cs.toArray⟩) (fr := frL t.carts) (tt := ttL t.carts) hc
  refine (hw fun c hc => ?_).symm
  obtain ⟨i, hi, rfl⟩ := List.getElem_of_mem hc
  have h2 := hg.inn i hi
  have e1 : frL t.carts i = t.carts[i].1 := by unfold frL; rw [List.getD_eq_getElem?_getD, List.getElem?_eq_getElem hi]; rfl
  have e2 : ttL t.carts i = t.carts[i].2 := by unfold ttL; rw [List.getD_eq_getElem?_getD, List.getElem?_eq_getElem hi]; rfl
  rw [e1, e2] at h2
  exact ⟨h2.1, h2.2.2.1⟩

theorem readT_carts {l r : List UInt8} {t : TX.Told} (h : TX.readT l = (r, some t)) : t.carts.length ≤ l.length := by
  unfold TX.readT at h
  obtain ⟨u, l1, h1, h⟩ := TX.andP_some h
  obtain ⟨q, l2, h2, h⟩ := TX.andP_some h
  obtain ⟨cs, l3, h3, h⟩ := TX.andP_some h
  obtain ⟨qc, qn, qC⟩ := q
  cases h
  show cs.length ≤ l.length
  have key : ∀ (R C f : Nat) (l r : List UInt8) (acc acc' : List (Int × Int)), TX.cartsP R C f l acc = (r, some acc') → acc'.length ≤ acc.length + l.length := by
    intro R C f
    induction f with
    | zero => intro l r acc acc' h; cases h; omega
    | succ f ih =>
      intro l r acc acc' h
      have h' : (if acc ≠ [] ∧ l = [] then (l, some acc) else TX.andP (TX.cartP R C l) fun c l1 => TX.cartsP R C f l1 (acc ++ [c])) = (r, some acc') := h
      by_cases hd : acc ≠ [] ∧ l = []
      · rw [if_pos hd] at h'; cases h'; omega
      · rw [if_neg hd] at h'
        obtain ⟨v, l1, g1, g2⟩ := TX.andP_some h'
        have := ih _ _ _ _ g2
        have := cartP_lt g1
        rw [List.length_append] at *
        simp at *
        omega
  have e1 := key _ _ _ _ _ _ _ h3
  have e2 : l2.length ≤ l1.length := by
    unfold TX.rowsP at h2
    obtain ⟨c1, _⟩ := TX.cellsP_form l1.length l1
    by_cases he : (TX.cellsP l1.length l1).1 = []
    · rw [if_pos he] at h2; cases h2
    · rw [if_neg he] at h2
      obtain ⟨m1, d1, h2⟩ := TX.okP_some h2
      obtain ⟨a, m2, d2, h2⟩ := TX.andP_some h2
      obtain ⟨acs, an⟩ := a
      cases h2
      obtain ⟨rows, f1, _⟩ := TX.rows_form _ _ _ _ _ d2
      have hlen := congrArg List.length c1
      rw [TX.take_form d1, f1] at hlen
      simp only [List.length_append, List.length_cons] at hlen
      omega
  have e3 : l1.length ≤ l.length := by
    unfold TX.budgetP at h1
    obtain ⟨k1, b1, h1⟩ := TX.okP_some h1
    obtain ⟨n, k2, b2, h1⟩ := TX.andP_some h1
    obtain ⟨k3, b3, h1⟩ := TX.okP_some h1
    cases h1
    rw [TX.takes_form b1, (TX.number_form b2).1, TX.take_form b3]
    simp only [List.length_append, List.length_cons]
    omega
  simp at e1
  omega

theorem cartT_len {C : Nat} {c : Int × Int} (h1 : c.1 ≤ 1000000) (h2 : c.2 ≤ 1000000) : (TX.cartT C c).length ≤ 81 := by
  have hq : ∀ x ∈ [c.1.toNat / C, c.1.toNat % C, c.2.toNat / C, c.2.toNat % C], x ≤ 9223372036854775807 := by
    intro x hx
    simp only [List.mem_cons, List.not_mem_nil, or_false] at hx
    have d1 := Nat.div_le_self c.1.toNat C
    have d2 := Nat.mod_le c.1.toNat C
    have d3 := Nat.div_le_self c.2.toNat C
    have d4 := Nat.mod_le c.2.toNat C
    omega
  have h4 : (TX.sep [c.1.toNat / C, c.1.toNat % C, c.2.toNat / C, c.2.toNat % C]).length ≤ 80 := sep_len _ hq 4 (Nat.le_refl _)
  unfold TX.cartT TX.lineT
  rw [List.length_append]
  simp only [List.length_cons, List.length_nil]
  omega

theorem cartsT_len {C : Nat} : ∀ (l : List (Int × Int)), (∀ c ∈ l, (TX.cartT C c).length ≤ 81) → (TX.cartsT C l).length ≤ 81 * l.length
  | [], _ => by simp [TX.cartsT]
  | c :: l, h => by
    have ih := cartsT_len l (fun x hx => h x (by simp [hx]))
    have h1 := h c (by simp)
    have e : TX.cartsT C (c :: l) = TX.cartT C c ++ TX.cartsT C l := rfl
    rw [e, List.length_append, List.length_cons]
    omega

theorem textY_len {R C U m : Nat} {cs : ByteArray} {fr tt : Nat → Int} (h : GoodY R C U m cs fr tt) : (textY R C U m cs fr tt).length ≤ 500 := by
  have h1 := rowsT_len (C := C) (TX.chunk C R cs.data.toList) (fun r hr => by
    obtain ⟨q, _, rfl⟩ := List.mem_map.1 hr
    rw [List.length_take]
    omega)
  rw [TX.chunk_length] at h1
  have h2 : R * (C + 1) ≤ 6 * 7 := Nat.mul_le_mul h.r2 (by have := h.c2; omega)
  have h36 := Nat.mul_le_mul h.r2 h.c2
  have h3 := cartsT_len (C := C) (pairsL fr tt m) (fun c hc => by
    obtain ⟨i, hi, rfl⟩ := List.mem_map.1 hc
    obtain ⟨_, p1, _, p2⟩ := h.inn i (List.mem_range.1 hi)
    exact cartT_len (by show fr i ≤ _; omega) (by show tt i ≤ _; omega))
  rw [pairs_len] at h3
  have h4 := dec_len19 (n := U) (by have := h.u2; omega)
  have h5 := h.m2
  unfold textY TX.writeT
  simp only [List.length_append]
  have h6 : (TX.lineT [U]).length ≤ 20 := by simp [TX.lineT, TX.sep]; omega
  have h7 : TX.headB.length = 5 := rfl
  omega

theorem pairs_back (l : List (Int × Int)) : pairsL (frL l) (ttL l) l.length = l := by
  refine List.ext_getElem (by simp [pairsL]) fun i h1 h2 => ?_
  simp [pairsL, frL, ttL, List.getElem?_eq_getElem h2]

set_option maxRecDepth 100000 in
set_option maxHeartbeats 1000000 in
theorem back_any (SH : Shapes) (rr rc rb xa xh xb : Int) (s : ByteArray) (a : Option Addr) (n cap : Nat) (x : Nat → Int) (w : World) (hs : s.size ≤ maxLen) (hn : n ≤ 17592186044415) (hT : Lib.TabIs Tryd.prog w "internal/strconv.uint64pow10" .u64 Lib.pow10Tab)
    (h0 : (Lit.int .i64 rr).wf = true) (h1 : (Lit.int .i64 rc).wf = true) (h2 : (Lit.int .i64 rb).wf = true) (h3 : (Lit.int .i64 xa).wf = true) (h4 : (Lit.int .i64 xh).wf = true) (h5 : (Lit.int .i64 xb).wf = true)
    (hx : (∀ i, i < n → (Lit.int .i64 (x i)).wf = true) ∧ (0 < n → ∃ b off, a = some ⟨b, off, none⟩ ∧ ∀ i, i < n → w.cell? ⟨b, off + i, none⟩ = some (.int .i64 (x i)))) :
    Calls Tryd.prog 8 #[.agg #[.int .i64 rr, .int .i64 rc, .string s, .slice a n cap, .int .i64 rb], .int .i64 xa, .int .i64 xh, .int .i64 xb] w fun e w' => e = .returned (.bool true) ∧ Below w.heap.size w w' := by
  have HT := Hid.mk (Lib.tabBelow_of_tabIs hT)
  have W3 := Hid.mk h3
  have W4 := Hid.mk h4
  have W5 := Hid.mk h5
  have HSH : Hid (∀ u : World, Below w.heap.size w u → Calls Tryd.prog 19 #[.agg #[.int .i64 rr, .int .i64 rc, .string s, .slice a n cap, .int .i64 rb]] u fun e w' =>
      ∃ (R C U m cc g : Nat) (cs : ByteArray) (fr tt : Nat → Int), e = .returned (.agg #[.int .i64 (R : Int), .int .i64 (C : Int), .string cs, .slice (some ⟨g, 0, none⟩) m cc, .int .i64 (U : Int)]) ∧
        1 ≤ m ∧ m ≤ 4 ∧ m ≤ cc ∧ CartsIn w' g 0 m fr tt ∧ checkM R C cs m fr tt U = (0, 0) ∧ freeB cs 0 = true ∧ cs.size ≤ 36 ∧ Below u.heap.size u w') := fun u hu => by
    refine SH rr rc rb s a n cap x u hs hn h0 h1 h2 ⟨hx.1, fun hp => ?_⟩
    obtain ⟨b, off, e, hc⟩ := hx.2 hp
    exact ⟨b, off, e, fun i hi => cell_later hu (hc i hi)⟩
  clear hT hx h3 h4 h5
  go_enter Tryd.func8, Tryd.ntmps8
  go_wp2_with fail
  have B1 : Hid (Below w.heap.size w (w.alloc (Obj.cells #[Value.int IntKind.i64 rr, Value.int IntKind.i64 rc, Value.string s, .slice a n cap, Value.int IntKind.i64 rb] 24))) := (Below.refl _ w).alloc (Nat.le_refl _) _
  generalize (w.alloc (Obj.cells #[Value.int IntKind.i64 rr, Value.int IntKind.i64 rc, Value.string s, .slice a n cap, Value.int IntKind.i64 rb] 24)) = w1 at *
  refine (HSH.out _ B1.out).mono ?_
  rintro e w2 ⟨R, C, U, m, cc, g, cs, fr, tt, rfl, hm1, hm4, hmc, hcs, hck, hf0, hs36, hb2⟩
  have B2 : Hid (Below w.heap.size w w2) := B1.out.trans (hb2.mono B1.out.size)
  have CK : Hid (checkM R C cs m fr tt U = (0, 0)) := hck
  have CK1 : Hid ((checkM R C cs m fr tt U).1 = 0) := by unfold Hid; rw [hck]
  have GY := Hid.mk (chk_form CK1.out)
  have Y3 : Hid (Box (w2.alloc (.cells #[.int .i64 (R : Int), .int .i64 (C : Int), .string cs, .slice (some ⟨g, 0, none⟩) m cc, .int .i64 (U : Int)] 28)) w2.heap.size #[.int .i64 (R : Int), .int .i64 (C : Int), .string cs, .slice (some ⟨g, 0, none⟩) m cc, .int .i64 (U : Int)]) := box_new _ _
  have B3 : Hid (Below w.heap.size w (w2.alloc (.cells #[.int .i64 (R : Int), .int .i64 (C : Int), .string cs, .slice (some ⟨g, 0, none⟩) m cc, .int .i64 (U : Int)] 28))) := B2.out.alloc B2.out.size _
  have C3 : Hid (CartsIn (w2.alloc (.cells #[.int .i64 (R : Int), .int .i64 (C : Int), .string cs, .slice (some ⟨g, 0, none⟩) m cc, .int .i64 (U : Int)] 28)) g 0 m fr tt) := hcs.below ((Below.refl _ w2).alloc (Nat.le_refl _) _)
  have TW : Hid (∀ u, Below w.heap.size w u → Lib.TabBelow Tryd.prog u.heap.size u "internal/strconv.uint64pow10" .u64 Lib.pow10Tab) := fun u hu v hv => HT.out v (hu.trans (hv.mono hu.size))
  clear hck hcs hb2 HSH hf0
  go_wp2_with fail
  generalize (w2.alloc (.cells #[.int .i64 (R : Int), .int .i64 (C : Int), .string cs, .slice (some ⟨g, 0, none⟩) m cc, .int .i64 (U : Int)] 28)) = w3 at *
  refine (ywrite_good R C U m g cc cs fr tt w3 (TW.out _ B3.out) CK1.out hmc C3.out).mono ?_
  rintro e w4 ⟨F, rfl, hF, hb4⟩
  have HF := Hid.mk hF
  have hFs : F.size ≤ 500 := by rw [Lib.size_eq, hF]; exact textY_len GY.out
  have Y4 : Hid (Box w4 w2.heap.size #[.int .i64 (R : Int), .int .i64 (C : Int), .string cs, .slice (some ⟨g, 0, none⟩) m cc, .int .i64 (U : Int)]) := Y3.out.belowB hb4 Y3.out.lt
  have B4 : Hid (Below w.heap.size w w4) := B3.out.trans (hb4.mono B3.out.size)
  have C4 : Hid (CartsIn w4 g 0 m fr tt) := C3.out.below hb4
  clear hF hb4
  go_wp2_with fail
  refine (yread_any F w4 (by omega)).mono ?_
  rintro e w5 ⟨hb5, hway⟩
  have hrt := read_text GY.out
  rw [← HF.out] at hrt
  rcases hway with ⟨t, g2, cap2, hf, hc0, rfl, hci, hg2, hcap2, hal⟩ | ⟨t, hf, hc0, _⟩ | ⟨k, hf, _⟩
  rotate_left
  · rw [hrt] at hf
    cases hf
    rw [chk_text, CK.out] at hc0
    exact absurd rfl hc0
  · rw [hrt] at hf
    have hf2 := congrArg Prod.snd hf
    cases hf2
  · rw [hrt] at hf
    cases hf
    have Y5 : Hid (Box w5 w2.heap.size #[.int .i64 (R : Int), .int .i64 (C : Int), .string cs, .slice (some ⟨g, 0, none⟩) m cc, .int .i64 (U : Int)]) := Y4.out.belowB hb5 Y4.out.lt
    have B5 : Hid (Below w.heap.size w w5) := B4.out.trans (hb5.mono B4.out.size)
    have C5 : Hid (CartsIn w5 g 0 m fr tt) := C4.out.below hb5
    have D5 : Hid (CartsIn w5 g2 0 m fr tt) := by
      unfold Hid
      have hci' : CartsIn w5 g2 0 (pairsL fr tt m).length (frL (pairsL fr tt m)) (ttL (pairsL fr tt m)) := hci
      rw [pairs_len] at hci'
      intro i hi
      have h := hci' i hi
      rw [(pairs_at hi).1, (pairs_at hi).2] at h
      exact h
    have ecs : (⟨cs.data.toList.toArray⟩ : ByteArray) = cs := by simp
    have eln : (pairsL fr tt m).length = m := pairs_len fr tt m
    unfold yardV
    rw [ecs]
    show _
    simp only [eln]
    have hcap' : m ≤ cap2 := by rw [← eln]; exact hcap2
    clear hci hcap2 hal hb5 ecs eln hrt hc0
    apply_assumption
    have Z6 : Hid (Box (w5.alloc (.cells #[.int .i64 (R : Int), .int .i64 (C : Int), .string cs, .slice (some ⟨g2, 0, none⟩) m cap2, .int .i64 (U : Int)] 28)) w5.heap.size #[.int .i64 (R : Int), .int .i64 (C : Int), .string cs, .slice (some ⟨g2, 0, none⟩) m cap2, .int .i64 (U : Int)]) := box_new _ _
    have Y6 : Hid (Box (w5.alloc (.cells #[.int .i64 (R : Int), .int .i64 (C : Int), .string cs, .slice (some ⟨g2, 0, none⟩) m cap2, .int .i64 (U : Int)] 28)) w2.heap.size #[.int .i64 (R : Int), .int .i64 (C : Int), .string cs, .slice (some ⟨g, 0, none⟩) m cc, .int .i64 (U : Int)]) := box_alloc Y5.out _
    have B6 : Hid (Below w.heap.size w (w5.alloc (.cells #[.int .i64 (R : Int), .int .i64 (C : Int), .string cs, .slice (some ⟨g2, 0, none⟩) m cap2, .int .i64 (U : Int)] 28))) := B5.out.alloc B5.out.size _
    have C6 : Hid (CartsIn (w5.alloc (.cells #[.int .i64 (R : Int), .int .i64 (C : Int), .string cs, .slice (some ⟨g2, 0, none⟩) m cap2, .int .i64 (U : Int)] 28)) g 0 m fr tt) := C5.out.below ((Below.refl _ w5).alloc (Nat.le_refl _) _)
    have D6 : Hid (CartsIn (w5.alloc (.cells #[.int .i64 (R : Int), .int .i64 (C : Int), .string cs, .slice (some ⟨g2, 0, none⟩) m cap2, .int .i64 (U : Int)] 28)) g2 0 m fr tt) := D5.out.below ((Below.refl _ w5).alloc (Nat.le_refl _) _)
    go_upto_region 4 with fail
    generalize (w5.alloc (.cells #[.int .i64 (R : Int), .int .i64 (C : Int), .string cs, .slice (some ⟨g2, 0, none⟩) m cap2, .int .i64 (U : Int)] 28)) = w6 at *
    have y0 := Y6.out.c 0
    have y1 := Y6.out.c 1
    have y2 := Y6.out.c 2
    have y3 := Y6.out.c 3
    have y4 := Y6.out.c 4
    have z0 := Z6.out.c 0
    have z1 := Z6.out.c 1
    have z2 := Z6.out.c 2
    have z3 := Z6.out.c 3
    have z4 := Z6.out.c 4
    simp only [List.getElem?_toArray, List.getElem?_cons_zero, List.getElem?_cons_succ] at y0 y1 y2 y3 y4 z0 z1 z2 z3 z4
    go_wp2
    clear y0 y1 y2 y3 y4 z0 z1 z2 z3 z4
    go_loopw [15] (fun si wr => ∃ i : Nat, si = .int .i64 (i : Int) ∧ i ≤ m ∧ Below w6.heap.size w6 wr) (fun si _ => m - (intOf si).toNat)
    case atStart => exact ⟨0, rfl, Nat.zero_le _, Below.refl _ _⟩
    case round =>
      obtain ⟨i, rfl, him, hbr⟩ := hrel
      obtain ⟨wo, rfl⟩ : ∃ x, x = wr := ⟨_, rfl⟩
      have BO := Hid.mk hbr
      have YO : Hid (Box wo w2.heap.size #[.int .i64 (R : Int), .int .i64 (C : Int), .string cs, .slice (some ⟨g, 0, none⟩) m cc, .int .i64 (U : Int)]) := Y6.out.belowB hbr Y6.out.lt
      have ZO : Hid (Box wo w5.heap.size #[.int .i64 (R : Int), .int .i64 (C : Int), .string cs, .slice (some ⟨g2, 0, none⟩) m cap2, .int .i64 (U : Int)]) := Z6.out.belowB hbr Z6.out.lt
      have CO : Hid (CartsIn wo g 0 m fr tt) := C6.out.below hbr
      have DO : Hid (CartsIn wo g2 0 m fr tt) := D6.out.below hbr
      have y3 := YO.out.c 3
      have z3 := ZO.out.c 3
      simp only [List.getElem?_toArray, List.getElem?_cons_zero, List.getElem?_cons_succ] at y3 z3
      clear hbr
      by_cases hlt : i < m
      · have e1 : decide (((i : Nat) : Int) < (m : Int)) = true := by simp; omega
        have hiI : (i : Int) < (m : Int) := by omega
        obtain ⟨c0, c1⟩ := CO.out i hlt
        obtain ⟨d0, d1⟩ := DO.out i hlt
        rw [Nat.zero_add] at c0 c1 d0 d1
        go_wp2
        go_quiet (fail)
        go_wp2
        go_round
        case rel => exact ⟨i + 1, by go_num, by omega, ⟨BO.out.os, BO.out.tape, BO.out.output, BO.out.size, BO.out.block⟩⟩
        case measure => simp [intOf]; omega
      · have e1 : decide (((i : Nat) : Int) < (m : Int)) = false := by simp; omega
        have hge : ¬ (i : Int) < (m : Int) := by omega
        have BW : Hid (Below w.heap.size w wo) := B6.out.trans (BO.out.mono B6.out.size)
        go_wp2_with fail
        refine (bent_any F xa xh xb wo (by omega) W3.out W4.out W5.out).mono ?_
        rintro e w7 ⟨T, rfl, hTs, hb7⟩
        have B7 : Hid (Below w.heap.size w w7) := BW.out.trans (hb7.mono BW.out.size)
        clear hb7
        go_wp2_with fail
        refine (yread_any T w7 (by omega)).mono ?_
        rintro e w8 ⟨hb8, hway8⟩
        have B8 : Hid (Below w.heap.size w w8) := B7.out.trans (hb8.mono B7.out.size)
        have hTl : T.data.toList.length = T.size := (Lib.size_eq T).symm
        rcases hway8 with ⟨t, g8, cap8, hf, hc8, rfl, hci8, hg8, hcap8, hal8⟩ | ⟨t, hf, hc8, rfl⟩ | ⟨k, hf, hk8, rfl⟩
        · have htb := text_back hf hc8
          obtain ⟨E, hE⟩ : ∃ E : ByteArray, E = ⟨t.cs.toArray⟩ := ⟨_, rfl⟩
          have hEl : E.data.toList = t.cs := by rw [hE]
          have hck8 : (checkM (t.R : Int) (t.C : Int) E t.carts.length (frL t.carts) (ttL t.carts) (t.U : Int)).1 = 0 := by rw [hE]; exact hc8
          have HE := Hid.mk hEl
          have CK8 := Hid.mk hck8
          have TBK := Hid.mk htb
          unfold yardV
          rw [← hE]
          have X9 : Hid (Box (w8.alloc (.cells #[.int .i64 (t.R : Int), .int .i64 (t.C : Int), .string E, .slice (some ⟨g8, 0, none⟩) t.carts.length cap8, .int .i64 (t.U : Int)] 28)) w8.heap.size #[.int .i64 (t.R : Int), .int .i64 (t.C : Int), .string E, .slice (some ⟨g8, 0, none⟩) t.carts.length cap8, .int .i64 (t.U : Int)]) := box_new _ _
          have B9 : Hid (Below w.heap.size w (w8.alloc (.cells #[.int .i64 (t.R : Int), .int .i64 (t.C : Int), .string E, .slice (some ⟨g8, 0, none⟩) t.carts.length cap8, .int .i64 (t.U : Int)] 28))) := B8.out.alloc B8.out.size _
          have C9 : Hid (CartsIn (w8.alloc (.cells #[.int .i64 (t.R : Int), .int .i64 (t.C : Int), .string E, .slice (some ⟨g8, 0, none⟩) t.carts.length cap8, .int .i64 (t.U : Int)] 28)) g8 0 t.carts.length (frL t.carts) (ttL t.carts)) := hci8.below ((Below.refl _ w8).alloc (Nat.le_refl _) _)
          clear htb hEl hck8 hE hf hc8 hci8 hb8
          go_wp2_with fail
          generalize (w8.alloc (.cells #[.int .i64 (t.R : Int), .int .i64 (t.C : Int), .string E, .slice (some ⟨g8, 0, none⟩) t.carts.length cap8, .int .i64 (t.U : Int)] 28)) = w9 at *
          refine (ywrite_good t.R t.C t.U t.carts.length g8 cap8 E (frL t.carts) (ttL t.carts) w9 (TW.out _ B9.out) CK8.out hcap8 C9.out).mono ?_
          rintro e w10 ⟨F2, rfl, hF2, hb10⟩
          have hFT : F2 = T := by
            have h1 : F2.data.toList = T.data.toList := by
              rw [hF2, ← TBK.out]
              unfold textY
              rw [HE.out, pairs_back]
            exact ByteArray.ext (Array.toList_inj.1 h1)
          subst hFT
          have B10 : Hid (Below w.heap.size w w10) := B9.out.trans (hb10.mono B9.out.size)
          clear hF2 hb10
          go_wp2
          go_ret
          exact ⟨rfl, B10.out⟩
        · have hpl := chk_place hf (readT_carts hf)
          obtain ⟨c1, hc1⟩ : ∃ c, c = (chkT t).1 := ⟨_, rfl⟩
          obtain ⟨c2, hc2⟩ : ∃ c, c = (chkT t).2 := ⟨_, rfl⟩
          rw [← hc1, ← hc2]
          rw [← hc2, hTl] at hpl
          rw [← hc1] at hc8
          obtain ⟨p1, p2⟩ := hpl
          have e2 : (c1 != 0) = true := by simp [hc8]
          have p3 : decide (0 ≤ c2) = true := decide_eq_true p1
          have p4 : decide (c2 ≤ (T.size : Int)) = true := decide_eq_true p2
          have BF : Hid (∀ o, Below w.heap.size w (w8.alloc o)) := fun o => B8.out.alloc B8.out.size o
          clear hf hc8 hc1 hc2 hb8
          unfold yard0
          go_wp2
          go_ret
          exact ⟨rfl, BF.out _⟩
        · have p4 : decide ((k : Int) ≤ (T.size : Int)) = true := by simp; omega
          have BF : Hid (∀ o, Below w.heap.size w (w8.alloc o)) := fun o => B8.out.alloc B8.out.size o
          clear hf hb8
          unfold yard0
          go_wp2
          go_ret
          exact ⟨rfl, BF.out _⟩

end Go.Proofs.YtnkgpinadgacgabDoor

namespace Go.Proofs.YtnkgpinadgacgabDoor
open Go.RowKit Go.Shelf Go.Deep M

/-- The letter of a step. -/
def letB (C a b : Nat) : UInt8 := if b / C < a / C then 117 else if a / C < b / C then 100 else if b % C < a % C then 108 else if a % C < b % C then 114 else 119

set_option maxRecDepth 100000 in
set_option maxHeartbeats 1000000 in
theorem letter_any (R C U a b : Nat) (cs : ByteArray) (sv : Value) (w : World) (hC : 1 ≤ C) (ha : a ≤ 900) (hb : b ≤ 900) :
    Calls Tryd.prog 76 #[.agg #[.int .i64 (R : Int), .int .i64 (C : Int), .string cs, sv, .int .i64 (U : Int)], .int .i64 (a : Int), .int .i64 (b : Int)] w fun e w' => e = .returned (.int .u8 ((letB C a b).toNat : Int)) ∧ Below w.heap.size w w' := by
  obtain ⟨a1, h1⟩ : ∃ x, x = a / C := ⟨_, rfl⟩
  obtain ⟨a2, h2⟩ : ∃ x, x = a % C := ⟨_, rfl⟩
  obtain ⟨b1, h3⟩ : ∃ x, x = b / C := ⟨_, rfl⟩
  obtain ⟨b2, h4⟩ : ∃ x, x = b % C := ⟨_, rfl⟩
  have l1 : a1 ≤ 900 := by rw [h1]; exact Nat.le_trans (Nat.div_le_self a C) ha
  have l2 : a2 ≤ 900 := by rw [h2]; exact Nat.le_trans (Nat.mod_le a C) ha
  have l3 : b1 ≤ 900 := by rw [h3]; exact Nat.le_trans (Nat.div_le_self b C) hb
  have l4 : b2 ≤ 900 := by rw [h4]; exact Nat.le_trans (Nat.mod_le b C) hb
  have q1 : IntKind.i64.wrap ((a : Int) / (C : Int)) = (a1 : Int) := by rw [show (a : Int) / (C : Int) = (a1 : Int) by rw [h1]; simp]; exact wrap_nat (by omega)
  have q3 : IntKind.i64.wrap ((b : Int) / (C : Int)) = (b1 : Int) := by rw [show (b : Int) / (C : Int) = (b1 : Int) by rw [h3]; simp]; exact wrap_nat (by omega)
  have q2 : (a : Int).tmod (C : Int) = (a2 : Int) := by rw [h2]; exact Int.ofNat_tmod a C |>.symm
  have q4 : (b : Int).tmod (C : Int) = (b2 : Int) := by rw [h4]; exact Int.ofNat_tmod b C |>.symm
  have hL : Hid (letB C a b = if b1 < a1 then 117 else if a1 < b1 then 100 else if b2 < a2 then 108 else if a2 < b2 then 114 else 119) := by unfold Hid letB; rw [h1, h2, h3, h4]
  have hC0 : ¬ (C : Int) = 0 := by omega
  have hC0n : ¬ C = 0 := by omega
  have B1 : Hid (Below w.heap.size w (w.alloc (.cells #[.int .i64 (R : Int), .int .i64 (C : Int), .string cs, sv, .int .i64 (U : Int)] 28))) := (Below.refl _ w).alloc (Nat.le_refl _) _
  clear h1 h2 h3 h4 ha hb
  go_enter Tryd.func76, Tryd.ntmps76
  go_wp2
  have YB : Box (w.alloc (.cells #[.int .i64 (R : Int), .int .i64 (C : Int), .string cs, sv, .int .i64 (U : Int)] 28)) w.heap.size #[.int .i64 (R : Int), .int .i64 (C : Int), .string cs, sv, .int .i64 (U : Int)] := box_new _ _
  generalize (w.alloc (.cells #[.int .i64 (R : Int), .int .i64 (C : Int), .string cs, sv, .int .i64 (U : Int)] 28)) = w1 at *
  have y1 : w1.cell? ⟨w.heap.size, 1, none⟩ = some (.int .i64 (C : Int)) := YB.c 1
  clear YB
  go_quiet (fail)
  have BF : Hid (Below w.heap.size w (w1.drewN nq)) := ⟨B1.out.os, B1.out.tape, B1.out.output, B1.out.size, B1.out.block⟩
  have f1 : decide ((b1 : Int) - (a1 : Int) < 0) = decide (b1 < a1) := by rw [decide_eq_decide]; omega
  have f2 : decide ((0 : Int) < (b1 : Int) - (a1 : Int)) = decide (a1 < b1) := by rw [decide_eq_decide]; omega
  have f3 : decide ((b2 : Int) - (a2 : Int) < 0) = decide (b2 < a2) := by rw [decide_eq_decide]; omega
  have f4 : decide ((0 : Int) < (b2 : Int) - (a2 : Int)) = decide (a2 < b2) := by rw [decide_eq_decide]; omega
  obtain ⟨dr, hdr⟩ : ∃ x, x = (b1 : Int) - (a1 : Int) := ⟨_, rfl⟩
  obtain ⟨dc, hdc⟩ : ∃ x, x = (b2 : Int) - (a2 : Int) := ⟨_, rfl⟩
  rw [← hdr] at f1 f2
  rw [← hdc] at f3 f4
  simp only [← hdr, ← hdc]
  have HDR := Hid.mk hdr
  have HDC := Hid.mk hdc
  clear hdr hdc q1 q2 q3 q4 y1
  by_cases g1 : b1 < a1
  · rw [decide_eq_true g1] at f1
    have G1 := Hid.mk g1
    clear g1 f2 f3 f4
    go_wp2
    go_ret
    exact ⟨by rw [hL.out, if_pos G1.out]; rfl, BF.out⟩
  · rw [decide_eq_false g1] at f1
    by_cases g2 : a1 < b1
    · rw [decide_eq_true g2] at f2
      have G1 := Hid.mk g1
      have G2 := Hid.mk g2
      clear g1 g2 f3 f4
      go_wp2
      go_ret
      exact ⟨by rw [hL.out, if_neg G1.out, if_pos G2.out]; rfl, BF.out⟩
    · rw [decide_eq_false g2] at f2
      by_cases g3 : b2 < a2
      · rw [decide_eq_true g3] at f3
        have G1 := Hid.mk g1
        have G2 := Hid.mk g2
        have G3 := Hid.mk g3
        clear g1 g2 g3 f4
        go_wp2
        go_ret
        exact ⟨by rw [hL.out, if_neg G1.out, if_neg G2.out, if_pos G3.out]; rfl, BF.out⟩
      · rw [decide_eq_false g3] at f3
        by_cases g4 : a2 < b2
        · rw [decide_eq_true g4] at f4
          have G1 := Hid.mk g1
          have G2 := Hid.mk g2
          have G3 := Hid.mk g3
          have G4 := Hid.mk g4
          clear g1 g2 g3 g4
          go_wp2
          go_ret
          exact ⟨by rw [hL.out, if_neg G1.out, if_neg G2.out, if_neg G3.out, if_pos G4.out]; rfl, BF.out⟩
        · rw [decide_eq_false g4] at f4
          have G1 := Hid.mk g1
          have G2 := Hid.mk g2
          have G3 := Hid.mk g3
          have G4 := Hid.mk g4
          clear g1 g2 g3 g4
          go_wp2
          go_ret
          exact ⟨by rw [hL.out, if_neg G1.out, if_neg G2.out, if_neg G3.out, if_neg G4.out]; rfl, BF.out⟩

end Go.Proofs.YtnkgpinadgacgabDoor
