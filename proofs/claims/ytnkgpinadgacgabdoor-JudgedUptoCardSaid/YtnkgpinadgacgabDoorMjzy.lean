/- Several texts in one: Lo. -/
import Derived.Test.YtnkgpinadgacgabDoorMjzx
import Derived.Test.YtnkgpinadgacgabDoorMjzq
namespace Go.Proofs.YtnkgpinadgacgabDoor
open Go.RowKit M SM
section
variable {ro bu : Int} {C m : Nat} {cs cs' : ByteArray} {fr tt : Nat → Int}
/-- The Froms and Tos of the yard that is seen from the other side. -/
def mirFr (C m : Nat) (fr : Nat → Int) (i : Nat) : Int := (mirC C (fr (m - 1 - i)).toNat : Nat)

theorem cells_none_of {ro co bu : Int} {cs : ByteArray} {m : Nat} {fr tt : Nat → Int} (h : (checkM ro co cs m fr tt bu).1 = 0) : ∀ j, j < cs.size → badB cs j = false := by
  obtain ⟨s1, s2, s3⟩ := checkM_good h
  have hc : ¬ 0 ≤ cellsM ro co cs := fun hh => by
    rw [← checkM_cells s1 s2 hh] at h
    cases h
  intro j hj
  cases e : badB cs j with
  | false => rfl
  | true =>
    exfalso
    apply hc
    unfold cellsM
    rw [if_neg (by rw [s3]; simp)]
    by_cases e2 : M.firstOf (badB cs) cs.size < cs.size
    · rw [if_pos e2]; omega
    · have := M.firstOf_none e2 j hj
      rw [e] at this
      cases this

theorem check_mir (H : MirY C cs cs') (hck : (checkM ro (C : Int) cs m fr tt bu).1 = 0) : checkM ro (C : Int) cs' m (mirFr C m fr) (mirFr C m tt) bu = (0, 0) := by
  obtain ⟨s1, s2, s3⟩ := checkM_good hck
  obtain ⟨r3, r4⟩ := side_bd s2
  have hC : 0 < C := by omega
  obtain ⟨m4, hf⟩ := carts_free hck
  have ha := carts_apart hck
  obtain ⟨b1, b2, m1⟩ := check_bu hck
  have hb := cells_none_of hck
  have hfree : ∀ {f : Nat → Int}, (∀ i, i < m → freeB cs (f i) = true) → ∀ i, i < m → freeB cs' (mirFr C m f i) = true := fun {f} h i hi => by
    obtain ⟨z, e, hz⟩ := free_nat (h (m - 1 - i) (by omega))
    have h2 := h (m - 1 - i) (by omega)
    unfold mirFr
    rw [e] at h2 ⊢
    rw [Int.toNat_natCast, H.free z hz]
    exact h2
  have hdis : ∀ {f : Nat → Int}, (∀ i, i < m → freeB cs (f i) = true) → (∀ i k, i < k → k < m → f i ≠ f k) → ∀ i k, i < k → k < m → mirFr C m f i ≠ mirFr C m f k := fun {f} h h2 i k hik hk e => by
    obtain ⟨z1, e1, _⟩ := free_nat (h (m - 1 - i) (by omega))
    obtain ⟨z2, e2, _⟩ := free_nat (h (m - 1 - k) (by omega))
    unfold mirFr at e
    rw [e1, e2, Int.toNat_natCast, Int.toNat_natCast] at e
    have e3 := mir_inj hC (Int.ofNat.inj e)
    exact h2 (m - 1 - k) (m - 1 - i) (by omega) (by omega) (by rw [e1, e2, e3])
  have hc : ¬ 0 ≤ cellsM ro (C : Int) cs' := by
    rw [← cellsM_none (by rw [H.size]; exact s3) (fun j hj => by
      rw [H.size] at hj
      have h1 := H.bad (mirC C j) (H.lt j hj)
      rw [mir_mir hC] at h1
      rw [h1]
      exact hb _ (H.lt j hj))]
    decide
  refine (checkM_ok s1 s2 hc (by omega) (by omega) (fun j hj => cartM_ok (hfree (fun i hi => (hf i hi).1) j hj) (hfree (fun i hi => (hf i hi).2) j hj) (fun k hk => ?_)) (by omega)).symm
  unfold twiceB
  simp only [Bool.or_eq_false_iff, beq_eq_false_iff_ne]
  exact ⟨hdis (fun i hi => (hf i hi).1) (fun i k h1 h2 => (ha i k h1 h2).1) k j hk hj, hdis (fun i hi => (hf i hi).2) (fun i k h1 h2 => (ha i k h1 h2).2) k j hk hj⟩

theorem told_mirY {n : Nat} {d : Bool} (H : MirY C cs cs') (hck : (checkM ro (C : Int) cs m fr tt bu).1 = 0) (h : M.Told (stepP ro (C : Int) cs m) (cellsOf fr m) (cellsOf tt m) bu n d) :
    M.Told (stepP ro (C : Int) cs' m) (cellsOf (mirFr C m fr) m) (cellsOf (mirFr C m tt) m) bu n d := by
  obtain ⟨s1, s2, s3⟩ := checkM_good hck
  obtain ⟨r3, r4⟩ := side_bd s2
  obtain ⟨hp1, hp2⟩ := cells_pos hck
  have cells : ∀ f : Nat → Int, cellsOf (mirFr C m f) m = mirP C m (cellsOf f m) := fun f =>
    SM.list_ext (d := 0) (n := m) (cellsOf_len _ _) (mirP_len _ _) fun i hi => by
      rw [cellsOf_at hi, mirP_at hi, cellsOf_at (show m - 1 - i < m by omega)]
      unfold mirFr
      rw [Int.toNat_natCast]
  rw [cells, cells]
  exact told_mir (by omega) (by omega) s3 H hp1 hp2 h

end
section
variable {ro co bu : Int} {cs : ByteArray} {m n1 : Nat} {d1 : Bool} {fr tt : Nat → Int}
theorem pos_as (g cc : Nat) (w : World) (T1 : M.Told (stepP ro co cs m) (cellsOf fr m) (cellsOf tt m) bu n1 d1) (hck : (checkM ro co cs m fr tt bu).1 = 0) (hmc : m ≤ cc) (hm4 : m ≤ 4) (hs : cs.size ≤ 36) (hsd : SidesIn w) (hcs : CartsIn w g 0 m fr tt) :
    Calls Tryd.prog 14 #[.agg #[.int .i64 ro, .int .i64 co, .string cs, .slice (some ⟨g, 0, none⟩) m cc, .int .i64 bu]] w fun e w' =>
      ((bu < n1 ∧ e = .returned (.tuple #[.int .i64 0, .bool false, .int .i64 10])) ∨ (¬ bu < n1 ∧ e = .returned (.tuple #[.int .i64 n1, .bool d1, .int .i64 0]))) ∧ Below w.heap.size w w' := by
  refine (pos_told g cc w hck hmc hm4 hs hsd hcs).mono ?_
  rintro e w' ⟨n2, d2, ht2, hway, hb⟩
  obtain ⟨k1, k2⟩ := M.Told.all T1 ht2
  refine ⟨?_, hb⟩
  rcases hway with ⟨q, rfl⟩ | ⟨q, rfl⟩
  · exact .inl ⟨k1.2 q, rfl⟩
  · have hq : ¬ bu < n1 := fun e => q (k1.1 e)
    obtain ⟨e1, e2⟩ := k2 hq
    exact .inr ⟨hq, by rw [e1, e2]⟩

theorem sol_as (F0 : Nat) (hF0 : 200400000 ≤ F0) (g cc : Nat) (w : World) (T1 : M.Told (stepP ro co cs m) (cellsOf fr m) (cellsOf tt m) bu n1 d1) (hck : (checkM ro co cs m fr tt bu).1 = 0) (hmc : m ≤ cc) (hm4 : m ≤ 4) (hs : cs.size ≤ 36) (hsd : SidesIn w) (hcs : CartsIn w g 0 m fr tt) :
    Calls Tryd.prog 15 #[.agg #[.int .i64 ro, .int .i64 co, .string cs, .slice (some ⟨g, 0, none⟩) m cc, .int .i64 bu]] w fun e w' =>
      ((bu < n1 ∧ e = .returned (.tuple #[.slice none 0 0, .int .i64 0, .int .i64 10])) ∨ (¬ bu < n1 ∧ d1 = false ∧ e = .returned (.tuple #[.slice none 0 0, .int .i64 0, .int .i64 9])) ∨
        (¬ bu < n1 ∧ d1 = true ∧ ∃ (gp : Nat) (h T c : Nat → Nat) (p : Nat → Nat → Nat), e = .returned (.tuple #[.slice (some ⟨gp, 0, none⟩) m m, .int .i64 (costY F0 ro co cs m fr tt : Nat), .int .i64 0]) ∧ PlanC w' gp m h T c p ∧ GoodK co cs m fr tt T p ∧ costY F0 ro co cs m fr tt = sumN T m)) ∧ Below w.heap.size w w' := by
  refine (solG_told F0 hF0 ro co bu cs m fr tt g cc w hck hmc hm4 hs hsd hcs).mono ?_
  rintro e w' ⟨n2, d2, ht2, hway, hb⟩
  obtain ⟨k1, k2⟩ := M.Told.all T1 ht2
  refine ⟨?_, hb⟩
  rcases hway with ⟨q, rfl⟩ | ⟨q, hd, rfl⟩ | ⟨q, hd, hrest⟩
  · exact .inl ⟨k1.2 q, rfl⟩
  · have hq : ¬ bu < n1 := fun e => q (k1.1 e)
    obtain ⟨e1, e2⟩ := k2 hq
    exact .inr (.inl ⟨hq, by rw [e2, hd], rfl⟩)
  · have hq : ¬ bu < n1 := fun e => q (k1.1 e)
    obtain ⟨e1, e2⟩ := k2 hq
    exact .inr (.inr ⟨hq, by rw [e2, hd], hrest⟩)

end
set_option maxRecDepth 100000 in
set_option maxHeartbeats 8000000 in
theorem mirroredS_any (SH : Shapes) (rr rc rb : Int) (s : ByteArray) (a : Option Addr) (n cap : Nat) (x : Nat → Int) (w : World) (hs : s.size ≤ maxLen) (hn : n ≤ 17592186044415) (hsd : SidesIn w)
    (h0 : (Lit.int .i64 rr).wf = true) (h1 : (Lit.int .i64 rc).wf = true) (h2 : (Lit.int .i64 rb).wf = true)
    (hx : (∀ i, i < n → (Lit.int .i64 (x i)).wf = true) ∧ (0 < n → ∃ b off, a = some ⟨b, off, none⟩ ∧ ∀ i, i < n → w.cell? ⟨b, off + i, none⟩ = some (.int .i64 (x i)))) :
    Calls Tryd.prog 4 #[.agg #[.int .i64 rr, .int .i64 rc, .string s, .slice a n cap, .int .i64 rb]] w fun e w' => e = .returned (.bool true) ∧ Below w.heap.size w w' := by
  have HSD := Hid.mk hsd
  have HSH : Hid (∀ u : World, Below w.heap.size w u → Calls Tryd.prog 19 #[.agg #[.int .i64 rr, .int .i64 rc, .string s, .slice a n cap, .int .i64 rb]] u fun e w' =>
      ∃ (R C U m cc g : Nat) (cs : ByteArray) (fr tt : Nat → Int), e = .returned (.agg #[.int .i64 (R : Int), .int .i64 (C : Int), .string cs, .slice (some ⟨g, 0, none⟩) m cc, .int .i64 (U : Int)]) ∧
        1 ≤ m ∧ m ≤ 4 ∧ m ≤ cc ∧ CartsIn w' g 0 m fr tt ∧ checkM R C cs m fr tt U = (0, 0) ∧ freeB cs 0 = true ∧ cs.size ≤ 36 ∧ Below u.heap.size u w') := fun u hu => by
    refine SH rr rc rb s a n cap x u hs hn h0 h1 h2 ⟨hx.1, fun hp => ?_⟩
    obtain ⟨b, off, e, hc⟩ := hx.2 hp
    exact ⟨b, off, e, fun i hi => cell_later hu (hc i hi)⟩
  clear hsd hx
  go_enter Tryd.func4, Tryd.ntmps4
  go_wp2_with fail
  obtain ⟨w1, hw1⟩ : ∃ q, q = w.alloc (Obj.cells #[Value.int IntKind.i64 rr, Value.int IntKind.i64 rc, Value.string s, .slice a n cap, Value.int IntKind.i64 rb] 24) := ⟨_, rfl⟩
  have B1 : Hid (Below w.heap.size w w1) := by unfold Hid; rw [hw1]; exact (Below.refl _ w).alloc (Nat.le_refl _) _
  have hz1 : w1.heap.size = w.heap.size + 1 := by rw [hw1]; simp
  rw [← hw1]
  clear hw1
  refine (HSH.out _ B1.out).mono ?_
  rintro e w2 ⟨R, C, U, m, cc, g, cs, fr, tt, rfl, hm1, hm4, hmc, hcs, hck, hf0, hs36, hb2⟩
  have B2 : Hid (Below w.heap.size w w2) := B1.out.trans (hb2.mono (by omega))
  have CK2 := Hid.mk hck
  have CK : Hid ((checkM R C cs m fr tt U).1 = 0) := by unfold Hid; rw [hck]
  have HCS := Hid.mk hcs
  obtain ⟨s1, s2, s3⟩ := checkM_good CK.out
  obtain ⟨r3, r4⟩ := side_bd s2
  have hC1 : 1 ≤ C := by omega
  have hC6 : C ≤ 6 := by omega
  have HSZ : Hid (cs.size = R * C) := by unfold Hid; have e := s3; rw [← Int.natCast_mul] at e; exact Int.ofNat.inj e
  have MY : Hid (MirY C cs (mirS C cs)) := mir_yard (by omega) HSZ.out
  have CKM : Hid (checkM R C (mirS C cs) m (mirFr C m fr) (mirFr C m tt) U = (0, 0)) := check_mir MY.out CK.out
  have CKM1 : Hid ((checkM R C (mirS C cs) m (mirFr C m fr) (mirFr C m tt) U).1 = 0) := by unfold Hid; rw [CKM.out]
  have HFR := Hid.mk (carts_free CK.out).2
  obtain ⟨cz, hcz⟩ : ∃ q, q = mirS C cs := ⟨_, rfl⟩
  have hz36 : cz.size ≤ 36 := by rw [hcz, mirS_size]; exact hs36
  have HCZ := Hid.mk hcz
  obtain ⟨fz, hfz⟩ : ∃ q, q = mirFr C m fr := ⟨_, rfl⟩
  obtain ⟨tz, htz⟩ : ∃ q, q = mirFr C m tt := ⟨_, rfl⟩
  have HFZ := Hid.mk hfz
  have HTZ := Hid.mk htz
  rw [← hcz, ← hfz, ← htz] at CKM CKM1
  rw [← hcz] at MY
  obtain ⟨F0, hF0⟩ : ∃ F0 : Nat, 200400000 ≤ F0 := ⟨_, Nat.le_refl _⟩
  clear hck hcs hb2 s1 s2 s3 HSH hf0 hcz hfz htz
  go_upto_region 2 with fail
  obtain ⟨w3, hw3⟩ : ∃ q, q = w2.alloc (Obj.cells #[Value.int .i64 (R : Int), .int .i64 (C : Int), .string cs, .slice (some ⟨g, 0, none⟩) m cc, .int .i64 (U : Int)] 28) := ⟨_, rfl⟩
  rw [← hw3]
  have B3 : Hid (Below w2.heap.size w2 w3) := by unfold Hid; rw [hw3]; exact (Below.refl _ w2).alloc (Nat.le_refl _) _
  have Y3 : Hid (∀ o, w3.cell? ⟨w2.heap.size, o, none⟩ = #[Value.int .i64 (R : Int), .int .i64 (C : Int), .string cs, .slice (some ⟨g, 0, none⟩) m cc, .int .i64 (U : Int)][o]?) := by
    rw [hw3]
    unfold Hid
    intro o; go_simp
  have hz3 : w3.heap.size = w2.heap.size + 1 := by rw [hw3]; simp
  clear hw3
  obtain ⟨yb, hyb⟩ : ∃ q, q = w2.heap.size := ⟨_, rfl⟩
  rw [← hyb] at Y3 hz3 ⊢
  have C3 : Hid (CartsIn w3 g 0 m fr tt) := HCS.out.below B3.out
  have B03 : Hid (Below w.heap.size w w3) := B2.out.trans (B3.out.mono B2.out.size)
  have q0 := Y3.out 0
  have q1 := Y3.out 1
  have q2 := Y3.out 2
  have q3 := Y3.out 3
  have q4 := Y3.out 4
  clear hyb
  go_wp2_with fail
  refine (mirrored_any R U R C cs g m cc fr tt w3 hs36 hC1 hC6 HSZ.out hm1 hm4 C3.out HFR.out).mono ?_
  rintro e w4 ⟨v, rfl, gz, cc2, rfl, hmc2, hcz4, hb4⟩
  rw [← HCZ.out]
  have C4z : Hid (CartsIn w4 gz 0 m fz tz) := by unfold Hid; rw [HFZ.out, HTZ.out]; exact hcz4
  have B4 : Hid (Below w3.heap.size w3 w4) := hb4
  have Y4 : Hid (∀ o, w4.cell? ⟨yb, o, none⟩ = #[Value.int .i64 (R : Int), .int .i64 (C : Int), .string cs, .slice (some ⟨g, 0, none⟩) m cc, .int .i64 (U : Int)][o]?) := fun o => (hb4.cell (p := ⟨yb, o, none⟩) (by show yb < _; omega)).trans (Y3.out o)
  have hz4 := hb4.size
  clear hcz4 hb4 q0 q1 q2 q3 q4
  go_upto_region 3 with fail
  obtain ⟨w5, hw5⟩ : ∃ q, q = w4.alloc (Obj.cells #[Value.int .i64 (R : Int), .int .i64 (C : Int), .string cz, .slice (some ⟨gz, 0, none⟩) m cc2, .int .i64 (U : Int)] 28) := ⟨_, rfl⟩
  rw [← hw5]
  have B5 : Hid (Below w4.heap.size w4 w5) := by unfold Hid; rw [hw5]; exact (Below.refl _ w4).alloc (Nat.le_refl _) _
  have Z5 : Hid (∀ o, w5.cell? ⟨w4.heap.size, o, none⟩ = #[Value.int .i64 (R : Int), .int .i64 (C : Int), .string cz, .slice (some ⟨gz, 0, none⟩) m cc2, .int .i64 (U : Int)][o]?) := by
    rw [hw5]
    unfold Hid
    intro o; go_simp
  have hz5 : w5.heap.size = w4.heap.size + 1 := by rw [hw5]; simp
  clear hw5
  obtain ⟨zb, hzb⟩ : ∃ q, q = w4.heap.size := ⟨_, rfl⟩
  rw [← hzb] at Z5 hz5 ⊢
  have Y5 : Hid (∀ o, w5.cell? ⟨yb, o, none⟩ = #[Value.int .i64 (R : Int), .int .i64 (C : Int), .string cs, .slice (some ⟨g, 0, none⟩) m cc, .int .i64 (U : Int)][o]?) := fun o => (B5.out.cell (p := ⟨yb, o, none⟩) (by show yb < _; omega)).trans (Y4.out o)
  have B05 : Hid (Below w.heap.size w w5) := B03.out.trans ((B4.out.mono B03.out.size).trans (B5.out.mono (by have := B03.out.size; omega)))
  have S5 : Hid (SidesIn w5) := HSD.out.below B05.out
  have C5 : Hid (CartsIn w5 g 0 m fr tt) := (C3.out.below B4.out).below B5.out
  have D5 : Hid (CartsIn w5 gz 0 m fz tz) := C4z.out.below B5.out
  have hyz : yb < w5.heap.size := by omega
  have hzz : zb < w5.heap.size := by omega
  clear hzb
  have q0 := Y5.out 0
  have q1 := Y5.out 1
  have q2 := Y5.out 2
  have q3 := Y5.out 3
  have q4 := Y5.out 4
  go_wp2_with fail
  refine (right_any R C U cs (some ⟨g, 0, none⟩) m cc fr tt w5 (by unfold maxLen; omega) (by unfold maxLen; omega) hmc (fun _ => ⟨g, 0, rfl, C5.out⟩) CK2.out).mono ?_
  rintro e w6 ⟨rfl, hb6⟩
  have B6 : Hid (Below w5.heap.size w5 w6) := hb6
  clear hb6 q0 q1 q2 q3 q4
  have Z6 : Hid (∀ o, w6.cell? ⟨zb, o, none⟩ = #[Value.int .i64 (R : Int), .int .i64 (C : Int), .string cz, .slice (some ⟨gz, 0, none⟩) m cc2, .int .i64 (U : Int)][o]?) := fun o => (B6.out.cell (p := ⟨zb, o, none⟩) hzz).trans (Z5.out o)
  have q0 := Z6.out 0
  have q1 := Z6.out 1
  have q2 := Z6.out 2
  have q3 := Z6.out 3
  have q4 := Z6.out 4
  go_wp2_with fail
  refine (right_any R C U cz (some ⟨gz, 0, none⟩) m cc2 fz tz w6 (by unfold maxLen; omega) (by unfold maxLen; omega) hmc2 (fun _ => ⟨gz, 0, rfl, D5.out.below B6.out⟩) CKM.out).mono ?_
  rintro e w7 ⟨rfl, hb7⟩
  have B7 : Hid (Below w5.heap.size w5 w7) := B6.out.trans (hb7.mono B6.out.size)
  clear hb7 q0 q1 q2 q3 q4
  have Y7 : Hid (∀ o, w7.cell? ⟨yb, o, none⟩ = #[Value.int .i64 (R : Int), .int .i64 (C : Int), .string cs, .slice (some ⟨g, 0, none⟩) m cc, .int .i64 (U : Int)][o]?) := fun o => (B7.out.cell (p := ⟨yb, o, none⟩) hyz).trans (Y5.out o)
  have q0 := Y7.out 0
  have q1 := Y7.out 1
  have q2 := Y7.out 2
  have q3 := Y7.out 3
  have q4 := Y7.out 4
  go_wp2_with fail
  refine (pos_told g cc w7 CK.out hmc hm4 hs36 (S5.out.below B7.out) (C5.out.below B7.out)).mono ?_
  rintro e w8 ⟨n1, d1, ht1, hway1, hb8⟩
  have T1 := Hid.mk ht1
  have T2 : Hid (M.Told (stepP R C cz m) (cellsOf fz m) (cellsOf tz m) U n1 d1) := by unfold Hid; rw [HFZ.out, HTZ.out]; exact told_mirY MY.out CK.out T1.out
  have COST : Hid (¬ (U : Int) < n1 → d1 = true → costY F0 R C cs m fr tt = costY F0 R C cz m fz tz) := fun hq hd => by
    have CKM2 := CKM1.out
    have T22 := T2.out
    rw [HFZ.out, HTZ.out] at CKM2 T22 ⊢
    exact ((mir_same hF0 MY.out (fun i _ => rfl) (fun i _ => rfl) CK.out CKM2 T1.out T22).2 hq).2.2 hd
  clear ht1
  have B8 : Hid (Below w5.heap.size w5 w8) := B7.out.trans (hb8.mono B7.out.size)
  clear hb8 q0 q1 q2 q3 q4
  have POSZ : Hid (∀ u : World, Below w5.heap.size w5 u → Calls Tryd.prog 14 #[.agg #[.int .i64 (R : Int), .int .i64 (C : Int), .string cz, .slice (some ⟨gz, 0, none⟩) m cc2, .int .i64 (U : Int)]] u fun e w' =>
      (((U : Int) < n1 ∧ e = .returned (.tuple #[.int .i64 0, .bool false, .int .i64 10])) ∨ (¬ (U : Int) < n1 ∧ e = .returned (.tuple #[.int .i64 n1, .bool d1, .int .i64 0]))) ∧ Below u.heap.size u w') := fun u hu => pos_as gz cc2 u T2.out CKM1.out hmc2 hm4 hz36 (S5.out.below hu) (D5.out.below hu)
  have SOLY : Hid (∀ u : World, Below w5.heap.size w5 u → _) := fun u (hu : Below w5.heap.size w5 u) => sol_as F0 hF0 g cc u T1.out CK.out hmc hm4 hs36 (S5.out.below hu) (C5.out.below hu)
  have SOLZ : Hid (∀ u : World, Below w5.heap.size w5 u → _) := fun u (hu : Below w5.heap.size w5 u) => sol_as F0 hF0 gz cc2 u T2.out CKM1.out hmc2 hm4 hz36 (S5.out.below hu) (D5.out.below hu)
  have Z8 : Hid (∀ o, w8.cell? ⟨zb, o, none⟩ = #[Value.int .i64 (R : Int), .int .i64 (C : Int), .string cz, .slice (some ⟨gz, 0, none⟩) m cc2, .int .i64 (U : Int)][o]?) := fun o => (B8.out.cell (p := ⟨zb, o, none⟩) hzz).trans (Z5.out o)
  have q0 := Z8.out 0
  have q1 := Z8.out 1
  have q2 := Z8.out 2
  have q3 := Z8.out 3
  have q4 := Z8.out 4
  rcases hway1 with ⟨hlt, rfl⟩ | ⟨hlt, rfl⟩
  · have HN := Hid.mk hlt
    clear hlt
    go_wp2_with fail
    refine (POSZ.out _ B8.out).mono ?_
    rintro e w9 ⟨⟨_, rfl⟩ | ⟨hh, _⟩, hb9⟩
    · have B9 : Hid (Below w5.heap.size w5 w9) := B8.out.trans (hb9.mono B8.out.size)
      clear hb9 q0 q1 q2 q3 q4
      have Y9 : Hid (∀ o, w9.cell? ⟨yb, o, none⟩ = #[Value.int .i64 (R : Int), .int .i64 (C : Int), .string cs, .slice (some ⟨g, 0, none⟩) m cc, .int .i64 (U : Int)][o]?) := fun o => (B9.out.cell (p := ⟨yb, o, none⟩) hyz).trans (Y5.out o)
      have q0 := Y9.out 0
      have q1 := Y9.out 1
      have q2 := Y9.out 2
      have q3 := Y9.out 3
      have q4 := Y9.out 4
      go_wp2_with fail
      refine (SOLY.out _ B9.out).mono ?_
      rintro e w10 ⟨⟨_, rfl⟩ | ⟨hh, _⟩ | ⟨hh, _⟩, hb10⟩
      · have B10 : Hid (Below w5.heap.size w5 w10) := B9.out.trans (hb10.mono B9.out.size)
        clear hb10 q0 q1 q2 q3 q4
        have Z10 : Hid (∀ o, w10.cell? ⟨zb, o, none⟩ = #[Value.int .i64 (R : Int), .int .i64 (C : Int), .string cz, .slice (some ⟨gz, 0, none⟩) m cc2, .int .i64 (U : Int)][o]?) := fun o => (B10.out.cell (p := ⟨zb, o, none⟩) hzz).trans (Z5.out o)
        have q0 := Z10.out 0
        have q1 := Z10.out 1
        have q2 := Z10.out 2
        have q3 := Z10.out 3
        have q4 := Z10.out 4
        go_wp2_with fail
        refine (SOLZ.out _ B10.out).mono ?_
        rintro e w11 ⟨⟨_, rfl⟩ | ⟨hh, _⟩ | ⟨hh, _⟩, hb11⟩
        · have B11 : Hid (Below w5.heap.size w5 w11) := B10.out.trans (hb11.mono B10.out.size)
          clear hb11 q0 q1 q2 q3 q4
          have Y11 : Hid (∀ o, w11.cell? ⟨yb, o, none⟩ = #[Value.int .i64 (R : Int), .int .i64 (C : Int), .string cs, .slice (some ⟨g, 0, none⟩) m cc, .int .i64 (U : Int)][o]?) := fun o => (B11.out.cell (p := ⟨yb, o, none⟩) hyz).trans (Y5.out o)
          have q0 := Y11.out 0
          have q1 := Y11.out 1
          have q2 := Y11.out 2
          have q3 := Y11.out 3
          have q4 := Y11.out 4
          go_wp2_with fail
          refine (many_told g cc w11 CK.out hs36 hm4).mono ?_
          rintro e w12 ⟨mb, rfl, hmb, hb12⟩
          have hmb := hmb ⟨n1, d1, T1.out, HN.out⟩
          subst hmb
          have B12 : Hid (Below w5.heap.size w5 w12) := B11.out.trans (hb12.mono B11.out.size)
          clear hb12 q0 q1 q2 q3 q4
          go_wp2_with fail
          go_ret
          exact ⟨rfl, B05.out.trans (B12.out.mono B05.out.size)⟩
        · have h7 := HN.out; omega
        · have h7 := HN.out; omega
      · have h7 := HN.out; omega
      · have h7 := HN.out; omega
    · have h7 := HN.out; omega
  · have HN := Hid.mk hlt
    clear hlt
    go_wp2_with fail
    refine (POSZ.out _ B8.out).mono ?_
    rintro e w9 ⟨⟨hh, _⟩ | ⟨_, rfl⟩, hb9⟩
    · have h7 := HN.out; omega
    · have B9 : Hid (Below w5.heap.size w5 w9) := B8.out.trans (hb9.mono B8.out.size)
      clear hb9 q0 q1 q2 q3 q4
      have Y9 : Hid (∀ o, w9.cell? ⟨yb, o, none⟩ = #[Value.int .i64 (R : Int), .int .i64 (C : Int), .string cs, .slice (some ⟨g, 0, none⟩) m cc, .int .i64 (U : Int)][o]?) := fun o => (B9.out.cell (p := ⟨yb, o, none⟩) hyz).trans (Y5.out o)
      have q0 := Y9.out 0
      have q1 := Y9.out 1
      have q2 := Y9.out 2
      have q3 := Y9.out 3
      have q4 := Y9.out 4
      go_wp2_with fail
      refine (SOLY.out _ B9.out).mono ?_
      rintro e w10 ⟨⟨hh, _⟩ | ⟨_, hd1, rfl⟩ | ⟨_, hd1, gp1, h1', T1', c1', p1', rfl, hpl1, hG1, hk1⟩, hb10⟩
      · have h7 := HN.out; omega
      · subst hd1
        have B10 : Hid (Below w5.heap.size w5 w10) := B9.out.trans (hb10.mono B9.out.size)
        clear hb10 q0 q1 q2 q3 q4
        have Z10 : Hid (∀ o, w10.cell? ⟨zb, o, none⟩ = #[Value.int .i64 (R : Int), .int .i64 (C : Int), .string cz, .slice (some ⟨gz, 0, none⟩) m cc2, .int .i64 (U : Int)][o]?) := fun o => (B10.out.cell (p := ⟨zb, o, none⟩) hzz).trans (Z5.out o)
        have q0 := Z10.out 0
        have q1 := Z10.out 1
        have q2 := Z10.out 2
        have q3 := Z10.out 3
        have q4 := Z10.out 4
        go_wp2_with fail
        refine (SOLZ.out _ B10.out).mono ?_
        rintro e w11 ⟨⟨hh, _⟩ | ⟨_, _, rfl⟩ | ⟨_, hh, _⟩, hb11⟩
        · have h7 := HN.out; omega
        · have B11 : Hid (Below w5.heap.size w5 w11) := B10.out.trans (hb11.mono B10.out.size)
          clear hb11 q0 q1 q2 q3 q4
          have Y11 : Hid (∀ o, w11.cell? ⟨yb, o, none⟩ = #[Value.int .i64 (R : Int), .int .i64 (C : Int), .string cs, .slice (some ⟨g, 0, none⟩) m cc, .int .i64 (U : Int)][o]?) := fun o => (B11.out.cell (p := ⟨yb, o, none⟩) hyz).trans (Y5.out o)
          have q0 := Y11.out 0
          have q1 := Y11.out 1
          have q2 := Y11.out 2
          have q3 := Y11.out 3
          have q4 := Y11.out 4
          go_wp2_with fail
          refine (many_told g cc w11 CK.out hs36 hm4).mono ?_
          rintro e w12 ⟨mb, rfl, _, hb12⟩
          have B12 : Hid (Below w5.heap.size w5 w12) := B11.out.trans (hb12.mono B11.out.size)
          clear hb12 q0 q1 q2 q3 q4
          cases mb
          · go_wp2_with fail
            go_ret
            exact ⟨rfl, B05.out.trans (B12.out.mono B05.out.size)⟩
          · go_wp2_with fail
            go_ret
            exact ⟨rfl, B05.out.trans (B12.out.mono B05.out.size)⟩
        · cases hh
      · subst hd1
        have PL1 := Hid.mk hpl1
        have HG1 := Hid.mk hG1
        obtain ⟨k1, hk1e⟩ : ∃ q, q = costY F0 R C cs m fr tt := ⟨_, rfl⟩
        rw [← hk1e]
        rw [← hk1e] at hk1
        have HK1 := Hid.mk hk1
        have HK1e := Hid.mk hk1e
        clear hpl1 hG1 hk1 hk1e
        have B10 : Hid (Below w5.heap.size w5 w10) := B9.out.trans (hb10.mono B9.out.size)
        clear hb10 q0 q1 q2 q3 q4
        have Z10 : Hid (∀ o, w10.cell? ⟨zb, o, none⟩ = #[Value.int .i64 (R : Int), .int .i64 (C : Int), .string cz, .slice (some ⟨gz, 0, none⟩) m cc2, .int .i64 (U : Int)][o]?) := fun o => (B10.out.cell (p := ⟨zb, o, none⟩) hzz).trans (Z5.out o)
        have q0 := Z10.out 0
        have q1 := Z10.out 1
        have q2 := Z10.out 2
        have q3 := Z10.out 3
        have q4 := Z10.out 4
        go_wp2_with fail
        refine (SOLZ.out _ B10.out).mono ?_
        rintro e w11 ⟨⟨hh, _⟩ | ⟨_, hh, _⟩ | ⟨_, _, gp2, h2', T2', c2', p2', rfl, hpl2, hG2, hk2⟩, hb11⟩
        · have h7 := HN.out; omega
        · cases hh
        · have PL2 := Hid.mk hpl2
          have HG2 := Hid.mk hG2
          have ek : costY F0 R C cz m fz tz = k1 := by rw [HK1e.out]; exact (COST.out HN.out trivial).symm
          rw [ek]
          rw [ek] at hk2
          have HK2 := Hid.mk hk2
          clear hpl2 hG2 hk2 ek
          have PL1b : Hid (PlanC w11 gp1 m h1' T1' c1' p1') := PL1.out.below hb11
          have B11 : Hid (Below w5.heap.size w5 w11) := B10.out.trans (hb11.mono B10.out.size)
          clear hb11 q0 q1 q2 q3 q4
          have Y11 : Hid (∀ o, w11.cell? ⟨yb, o, none⟩ = #[Value.int .i64 (R : Int), .int .i64 (C : Int), .string cs, .slice (some ⟨g, 0, none⟩) m cc, .int .i64 (U : Int)][o]?) := fun o => (B11.out.cell (p := ⟨yb, o, none⟩) hyz).trans (Y5.out o)
          have q0 := Y11.out 0
          have q1 := Y11.out 1
          have q2 := Y11.out 2
          have q3 := Y11.out 3
          have q4 := Y11.out 4
          go_wp2_with fail
          refine (solved_yes R C U cs g m cc fr tt gp1 m k1 h1' T1' c1' p1' w11 hs36 r3 r4 hm4 (C5.out.below B11.out) PL1b.out HG1.out HK1.out).mono ?_
          rintro e w12 ⟨rfl, hb12⟩
          have PL2b : Hid (PlanC w12 gp2 m h2' T2' c2' p2') := PL2.out.below hb12
          have B12 : Hid (Below w5.heap.size w5 w12) := B11.out.trans (hb12.mono B11.out.size)
          clear hb12 q0 q1 q2 q3 q4
          have Z12 : Hid (∀ o, w12.cell? ⟨zb, o, none⟩ = #[Value.int .i64 (R : Int), .int .i64 (C : Int), .string cz, .slice (some ⟨gz, 0, none⟩) m cc2, .int .i64 (U : Int)][o]?) := fun o => (B12.out.cell (p := ⟨zb, o, none⟩) hzz).trans (Z5.out o)
          have q0 := Z12.out 0
          have q1 := Z12.out 1
          have q2 := Z12.out 2
          have q3 := Z12.out 3
          have q4 := Z12.out 4
          go_wp2_with fail
          refine (solved_yes R C U cz gz m cc2 fz tz gp2 m k1 h2' T2' c2' p2' w12 hz36 r3 r4 hm4 (D5.out.below B12.out) PL2b.out HG2.out HK2.out).mono ?_
          rintro e w13 ⟨rfl, hb13⟩
          have B13 : Hid (Below w5.heap.size w5 w13) := B12.out.trans (hb13.mono B12.out.size)
          clear hb13 q0 q1 q2 q3 q4
          go_wp2_with fail
          go_ret
          exact ⟨rfl, B05.out.trans (B13.out.mono B05.out.size)⟩

end Go.Proofs.YtnkgpinadgacgabDoor
