/- Several texts in one: Kb. -/
import Derived.Test.YtnkgpinadgacgabDoorMmze
import Derived.Test.YtnkgpinadgacgabDoorMmzb
namespace Go.Proofs.YtnkgpinadgacgabDoor
open Go.RowKit M SM
/-- A good yard stays good with another budget. -/
theorem check_with {ro co U B : Int} {cs : ByteArray} {m : Nat} {fr tt : Nat → Int} (h : (checkM ro co cs m fr tt U).1 = 0) (b1 : 1 ≤ B) (b2 : B ≤ 20000) : (checkM ro co cs m fr tt B).1 = 0 := by
  unfold checkM at h ⊢
  by_cases h1 : (sideB ro && sideB co) = false
  · rw [if_pos h1] at h; simp at h
  · rw [if_neg h1] at h ⊢
    by_cases h2 : 0 ≤ cellsM ro co cs
    · rw [if_pos h2] at h; simp at h
    · rw [if_neg h2] at h ⊢
      by_cases h3 : m < 1 ∨ 4 < m
      · rw [if_pos h3] at h; simp at h
      · rw [if_neg h3] at h ⊢
        by_cases h4 : firstOf (fun i => !(cartM cs fr tt i == 0)) m < m
        · rw [if_pos h4] at h
          have := M.firstOf_is (p := fun i => !(cartM cs fr tt i == 0)) m h4
          simp only [] at h this
          rw [h] at this; cases this
        · rw [if_neg h4, if_neg (by omega)]

/-- What the search of a yard costs. -/
noncomputable def costY (F0 : Nat) (ro co : Int) (cs : ByteArray) (m : Nat) (fr tt : Nat → Int) : Nat := match solY F0 ro co cs m fr tt with
  | some (b, s') => costO (s'.seen b)
  | none => 0

theorem told_work {S : List Nat → List Nat → Prop} {s g : List Nat} {bu : Int} {n : Nat} {b : Bool} (h : M.Told S s g bu n b) : ∃ L i, Work S s L i ∧ n = L.length := by
  rcases h with ⟨L, h1, h2, _⟩ | ⟨L, i, h1, h2, _⟩
  · exact ⟨L, _, h1, h2⟩
  · exact ⟨L, i, h1, h2⟩

/-- Where all were told, another budget tells as many, or that there are more. -/
theorem told_other {S : List Nat → List Nat → Prop} {s g : List Nat} {bu bu' : Int} {n n' : Nat} {b b' : Bool} (h : M.Told S s g bu n b) (hn : ¬ bu < n) (h' : M.Told S s g bu' n' b') : (bu' < n ↔ bu' < n') ∧ (¬ bu' < n → n = n' ∧ b = b') := by
  rcases h with ⟨L, h1, h2, h3⟩ | ⟨L, i, h1, h2, h3⟩
  · exact M.Told.all (.inl ⟨L, h1, h2, h3⟩) h'
  · exact absurd h3 hn

set_option maxRecDepth 100000 in
set_option maxHeartbeats 4000000 in
theorem few_any (SH : Shapes) (rr rc rb less : Int) (s : ByteArray) (a : Option Addr) (n cap : Nat) (x : Nat → Int) (w : World) (hs : s.size ≤ maxLen) (hn : n ≤ 17592186044415) (hsd : SidesIn w)
    (h0 : (Lit.int .i64 rr).wf = true) (h1 : (Lit.int .i64 rc).wf = true) (h2 : (Lit.int .i64 rb).wf = true) (hl : (Lit.int .i64 less).wf = true)
    (hx : (∀ i, i < n → (Lit.int .i64 (x i)).wf = true) ∧ (0 < n → ∃ b off, a = some ⟨b, off, none⟩ ∧ ∀ i, i < n → w.cell? ⟨b, off + i, none⟩ = some (.int .i64 (x i)))) :
    Calls Tryd.prog 6 #[.agg #[.int .i64 rr, .int .i64 rc, .string s, .slice a n cap, .int .i64 rb], .int .i64 less] w fun e w' => e = .returned (.bool true) ∧ Below w.heap.size w w' := by
  have HSD := Hid.mk hsd
  have HL := Hid.mk hl
  have HSH : Hid (∀ u : World, Below w.heap.size w u → Calls Tryd.prog 19 #[.agg #[.int .i64 rr, .int .i64 rc, .string s, .slice a n cap, .int .i64 rb]] u fun e w' =>
      ∃ (R C U m cc g : Nat) (cs : ByteArray) (fr tt : Nat → Int), e = .returned (.agg #[.int .i64 (R : Int), .int .i64 (C : Int), .string cs, .slice (some ⟨g, 0, none⟩) m cc, .int .i64 (U : Int)]) ∧
        1 ≤ m ∧ m ≤ 4 ∧ m ≤ cc ∧ CartsIn w' g 0 m fr tt ∧ checkM R C cs m fr tt U = (0, 0) ∧ freeB cs 0 = true ∧ cs.size ≤ 36 ∧ Below u.heap.size u w') := fun u hu => by
    refine SH rr rc rb s a n cap x u hs hn h0 h1 h2 ⟨hx.1, fun hp => ?_⟩
    obtain ⟨b, off, e, hc⟩ := hx.2 hp
    exact ⟨b, off, e, fun i hi => cell_later hu (hc i hi)⟩
  clear hsd hl hx
  go_enter Tryd.func6, Tryd.ntmps6
  go_wp2_with fail
  have B1 : Hid (Below w.heap.size w (w.alloc (Obj.cells #[Value.int IntKind.i64 rr, Value.int IntKind.i64 rc, Value.string s, .slice a n cap, Value.int IntKind.i64 rb] 24))) := (Below.refl _ w).alloc (Nat.le_refl _) _
  have hz1 : (w.alloc (Obj.cells #[Value.int IntKind.i64 rr, Value.int IntKind.i64 rc, Value.string s, .slice a n cap, Value.int IntKind.i64 rb] 24)).heap.size = w.heap.size + 1 := by simp
  generalize w.alloc (Obj.cells #[Value.int IntKind.i64 rr, Value.int IntKind.i64 rc, Value.string s, .slice a n cap, Value.int IntKind.i64 rb] 24) = w1 at *
  refine (HSH.out _ B1.out).mono ?_
  rintro e w2 ⟨R, C, U, m, cc, g, cs, fr, tt, rfl, hm1, hm4, hmc, hcs, hck, hf0, hs36, hb2⟩
  have BW2 : Hid (Below w.heap.size w w2) := B1.out.trans (hb2.mono (by omega))
  have HCS := Hid.mk hcs
  have hgl : g < w2.heap.size := World.block_lt_of_cell? (a := ⟨g, 0 + 0 * 2, none⟩) w2 (hcs 0 hm1).1
  have hc0 : (checkM R C cs m fr tt U).1 = 0 := by rw [hck]
  have CK : Hid (∀ B : Int, 1 ≤ B → B ≤ 20000 → (checkM R C cs m fr tt B).1 = 0) := fun B b1 b2 => check_with hc0 b1 b2
  obtain ⟨hpf, hpt⟩ := cells_pos hc0
  obtain ⟨F0, hF0⟩ : ∃ F0 : Nat, 200400000 ≤ F0 := ⟨_, Nat.le_refl _⟩
  obtain ⟨K, hK⟩ : ∃ K, K = costY F0 R C cs m fr tt := ⟨_, rfl⟩
  obtain ⟨T, hT⟩ : ∃ T : Int → Nat → Bool → Prop, T = M.Told (stepP R C cs m) (cellsOf fr m) (cellsOf tt m) := ⟨_, rfl⟩
  have POS : Hid (∀ (B : Int) (u : World), 1 ≤ B → B ≤ 20000 → Below w2.heap.size w2 u → Calls Tryd.prog 14 #[.agg #[.int .i64 (R : Int), .int .i64 (C : Int), .string cs, .slice (some ⟨g, 0, none⟩) m cc, .int .i64 B]] u fun e w' =>
      ∃ (n : Nat) (d : Bool), T B n d ∧ ((B < n ∧ e = .returned (.tuple #[.int .i64 0, .bool false, .int .i64 10])) ∨ (¬ B < n ∧ e = .returned (.tuple #[.int .i64 n, .bool d, .int .i64 0]))) ∧ Below u.heap.size u w') := fun B u b1 b2 hu => by
    refine (positions_any R C B cs (some ⟨g, 0, none⟩) m cc fr tt u (by unfold maxLen; omega) (by unfold maxLen; omega) hmc (HSD.out.below (BW2.out.trans (hu.mono BW2.out.size))) (fun _ => ⟨g, 0, rfl, HCS.out.below hu⟩)).mono ?_
    rintro e w' ⟨x, y, z, rfl, hp, hb⟩
    rcases hp with ⟨hck, _⟩ | ⟨_, n, d, ht, hp⟩
    · exact absurd (CK.out B b1 b2) hck
    · refine ⟨n, d, by rw [hT]; exact ht, ?_, hb⟩
      rcases hp with ⟨q, rfl, rfl, rfl⟩ | ⟨q, rfl, rfl, rfl⟩
      · exact .inl ⟨q, rfl⟩
      · exact .inr ⟨q, rfl⟩
  have SOL : Hid (∀ (B : Int) (u : World), 1 ≤ B → B ≤ 20000 → Below w2.heap.size w2 u → Calls Tryd.prog 15 #[.agg #[.int .i64 (R : Int), .int .i64 (C : Int), .string cs, .slice (some ⟨g, 0, none⟩) m cc, .int .i64 B]] u fun e w' =>
      ∃ (n : Nat) (d : Bool), T B n d ∧ ((B < n ∧ e = .returned (.tuple #[.slice none 0 0, .int .i64 0, .int .i64 10])) ∨ (¬ B < n ∧ d = false ∧ e = .returned (.tuple #[.slice none 0 0, .int .i64 0, .int .i64 9])) ∨ (¬ B < n ∧ d = true ∧ ∃ b l, e = .returned (.tuple #[.slice (some ⟨b, 0, none⟩) l l, .int .i64 (K : Nat), .int .i64 0]))) ∧ Below u.heap.size u w') := fun B u b1 b2 hu => by
    refine (solve_any F0 hF0 R C B cs (some ⟨g, 0, none⟩) m cc fr tt u (by unfold maxLen; omega) (by unfold maxLen; omega) hmc (HSD.out.below (BW2.out.trans (hu.mono BW2.out.size))) (fun _ => ⟨g, 0, rfl, HCS.out.below hu⟩)).mono ?_
    rintro e w' ⟨x, y, z, rfl, hp, hb⟩
    rcases hp with ⟨hck, _⟩ | ⟨_, n, d, ht, hp⟩
    · exact absurd (CK.out B b1 b2) hck
    · refine ⟨n, d, by rw [hT]; exact ht, ?_, hb⟩
      rcases hp with ⟨q, rfl, rfl, rfl⟩ | ⟨q, rfl, rfl, rfl, rfl⟩ | ⟨q, rfl, rfl, L, k, b, s', _, _, _, hsol, hk, rfl, hpl⟩
      · exact .inl ⟨q, rfl⟩
      · exact .inr (.inl ⟨q, rfl, rfl⟩)
      · obtain ⟨gp, A, rfl, _⟩ := hpl
        have e : k = K := by
          rw [hK, hk]
          unfold costY
          rw [hsol]
        exact .inr (.inr ⟨q, rfl, gp, _, by rw [e]⟩)
  have MAN : Hid (∀ (B : Int) (u : World), Calls Tryd.prog 16 #[.agg #[.int .i64 (R : Int), .int .i64 (C : Int), .string cs, .slice (some ⟨g, 0, none⟩) m cc, .int .i64 B]] u fun e w' => ∃ mb : Bool, e = .returned (.bool mb) ∧ ((∃ n d, T B n d ∧ B < n) → mb = true) ∧ Below u.heap.size u w') := fun B u => by
    have hfm : m ≤ (freeTo cs cs.size).length := by
      have := few_pos (m := m) (L := [cellsOf fr m]) (cs := cs) (by simp) (fun q hq => by simp at hq; rw [hq]; exact hpf)
      refine Nat.le_of_not_lt fun hlt => ?_
      have hz : ∀ k, (freeTo cs cs.size).length < k → k ≤ 4 → fallF (freeTo cs cs.size).length k = 0 := by
        intro k hk
        induction k with
        | zero => omega
        | succ k ih =>
          intro h4
          simp only [fallF]
          by_cases e : (freeTo cs cs.size).length = k
          · rw [e, Nat.sub_self, Nat.mul_zero]
          · rw [ih (by omega) (by omega), Nat.zero_mul]
      rw [hz m hlt hm4] at this
      simp at this
    refine (many_any R C B cs g m cc u hs36 hm4 hfm).mono ?_
    rintro e w' ⟨rfl, hb⟩
    refine ⟨_, rfl, fun ⟨n, d, ht, hlt⟩ => ?_, hb⟩
    rw [hT] at ht
    obtain ⟨L, i, hW, hnL⟩ := told_work ht
    have h3 := few_pos (cs := cs) (m := m) hW.nodup fun q hq => by
      obtain ⟨j, hj⟩ := hW.come q hq
      exact come_pos hpf hj
    refine decide_eq_true ?_
    omega
  have OTH : Hid (∀ (bu bu' : Int) (n n' : Nat) (b b' : Bool), T bu n b → ¬ bu < n → T bu' n' b' → (bu' < n ↔ bu' < n') ∧ (¬ bu' < n → n = n' ∧ b = b')) := fun bu bu' n n' b b' q1 q2 q3 => by
    rw [hT] at q1 q3
    exact told_other q1 q2 q3
  have ALL : Hid (∀ (bu : Int) (n n' : Nat) (b b' : Bool), T bu n b → T bu n' b' → (bu < n ↔ bu < n')) := fun bu n n' b b' q1 q3 => by
    rw [hT] at q1 q3
    exact (M.Told.all q1 q3).1
  have ONE : Hid (∀ (bu : Int) (n : Nat) (b : Bool), T bu n b → 1 ≤ n) := fun bu n b q => by
    rw [hT] at q
    obtain ⟨L, i, hW, e⟩ := told_work q
    have := List.length_pos_of_mem hW.start
    omega
  clear hcs hck hc0 hf0 hpf hpt hF0 hK hT hb2
  go_upto_region 3 with fail
  obtain ⟨w3, hw3⟩ : ∃ q, q = w2.alloc (Obj.cells #[Value.int .i64 (R : Int), .int .i64 (C : Int), .string cs, .slice (some ⟨g, 0, none⟩) m cc, .int .i64 20000] 28) := ⟨_, rfl⟩
  rw [← hw3]
  have B3 : Hid (Below w2.heap.size w2 w3) := by unfold Hid; rw [hw3]; exact (Below.refl _ w2).alloc (Nat.le_refl _) _
  have y3 : Hid (∀ o, w3.cell? ⟨w2.heap.size, o, none⟩ = #[Value.int .i64 (R : Int), .int .i64 (C : Int), .string cs, .slice (some ⟨g, 0, none⟩) m cc, .int .i64 20000][o]?) := by
    rw [hw3]
    unfold Hid
    intro o; go_simp
  have z3 : Hid (∀ o, w3.frozen? ⟨w2.heap.size, o, none⟩ = false) := by
    rw [hw3]
    unfold Hid
    intro o; go_simp
  have hz3 : w3.heap.size = w2.heap.size + 1 := by rw [hw3]; simp
  clear hw3
  have q0 := y3.out 0
  have q1 := y3.out 1
  have q2 := y3.out 2
  have q3 := y3.out 3
  have q4 := y3.out 4
  go_wp2_with fail
  refine (POS.out 20000 _ (by omega) (by omega) B3.out).mono ?_
  rintro e w4 ⟨n1, d1, ht1, hway1, hb4⟩
  have T1 := Hid.mk ht1
  have b4 := Hid.mk hb4
  have B4 : Hid (Below w2.heap.size w2 w4) := B3.out.trans (hb4.mono (by omega))
  have hz4 := hb4.size
  have y4 : Hid (∀ o, w4.cell? ⟨w2.heap.size, o, none⟩ = #[Value.int .i64 (R : Int), .int .i64 (C : Int), .string cs, .slice (some ⟨g, 0, none⟩) m cc, .int .i64 20000][o]?) := fun o => (hb4.cell (p := ⟨w2.heap.size, o, none⟩) (by show w2.heap.size < w3.heap.size; omega)).trans (y3.out o)
  have z4 : Hid (∀ o, w4.frozen? ⟨w2.heap.size, o, none⟩ = false) := fun o => (hb4.frozen (p := ⟨w2.heap.size, o, none⟩) (by show w2.heap.size < w3.heap.size; omega)).trans (z3.out o)
  clear q0 q1 q2 q3 q4 ht1 hb4
  have q0 := y4.out 0
  have q1 := y4.out 1
  have q2 := y4.out 2
  have q3 := y4.out 3
  have q4 := y4.out 4
  rcases hway1 with ⟨hn1, rfl⟩ | ⟨hn1, rfl⟩
  · have HN1 := Hid.mk hn1
    clear hn1
    go_wp2_with fail
    refine (SOL.out 20000 _ (by omega) (by omega) B4.out).mono ?_
    rintro e w5 ⟨n2, d2, ht2, hway2, hb5⟩
    have B5 : Hid (Below w2.heap.size w2 w5) := B4.out.trans (hb5.mono (by omega))
    have hz5 := hb5.size
    have hiff := (ALL.out 20000 n1 n2 d1 d2 T1.out ht2).1 HN1.out
    have y5 : Hid (∀ o, w5.cell? ⟨w2.heap.size, o, none⟩ = #[Value.int .i64 (R : Int), .int .i64 (C : Int), .string cs, .slice (some ⟨g, 0, none⟩) m cc, .int .i64 20000][o]?) := fun o => (hb5.cell (p := ⟨w2.heap.size, o, none⟩) (by show w2.heap.size < w4.heap.size; omega)).trans (y4.out o)
    have HIFF := Hid.mk hiff
    rcases hway2 with ⟨_, rfl⟩ | ⟨q, _⟩ | ⟨q, _⟩
    · clear q0 q1 q2 q3 q4 ht2 hb5 hiff
      have q0 := y5.out 0
      have q1 := y5.out 1
      have q2 := y5.out 2
      have q3 := y5.out 3
      have q4 := y5.out 4
      go_wp2_with fail
      refine (MAN.out 20000 _).mono ?_
      rintro e w6 ⟨mb, rfl, hmb, hb6⟩
      have hmt : mb = true := hmb ⟨n1, d1, T1.out, HN1.out⟩
      subst hmt
      have B6 : Hid (Below w2.heap.size w2 w6) := B5.out.trans (hb6.mono (by omega))
      clear hmb hb6 q0 q1 q2 q3 q4
      go_wp2_with fail
      go_ret
      exact ⟨rfl, BW2.out.trans (B6.out.mono BW2.out.size)⟩
    · exact absurd hiff (by omega)
    · exact absurd hiff (by omega)
  · have HN1 := Hid.mk hn1
    have h1n := ONE.out 20000 n1 d1 T1.out
    have hn20 : n1 ≤ 20000 := by omega
    clear hn1
    go_wp2_with fail
    refine (SOL.out 20000 _ (by omega) (by omega) B4.out).mono ?_
    rintro e w5 ⟨n2, d2, ht2, hway2, hb5⟩
    have B5 : Hid (Below w2.heap.size w2 w5) := B4.out.trans (hb5.mono (by omega))
    have hz5 := hb5.size
    obtain ⟨hiff, hsame⟩ := OTH.out 20000 20000 n1 n2 d1 d2 T1.out (by have := HN1.out; omega) ht2
    have y5 : Hid (∀ o, w5.cell? ⟨w2.heap.size, o, none⟩ = #[Value.int .i64 (R : Int), .int .i64 (C : Int), .string cs, .slice (some ⟨g, 0, none⟩) m cc, .int .i64 20000][o]?) := fun o => (hb5.cell (p := ⟨w2.heap.size, o, none⟩) (by show w2.heap.size < w4.heap.size; omega)).trans (y4.out o)
    have z5 : Hid (∀ o, w5.frozen? ⟨w2.heap.size, o, none⟩ = false) := fun o => (hb5.frozen (p := ⟨w2.heap.size, o, none⟩) (by show w2.heap.size < w4.heap.size; omega)).trans (z4.out o)
    obtain ⟨hx2, hd2⟩ := hsame (by have := HN1.out; omega)
    clear hx2
    subst hd2
    obtain ⟨vs, cst, er, rfl, HER⟩ : ∃ vs cst er, e = .returned (.tuple #[vs, .int .i64 (cst : Nat), .int .i64 (er : Nat)]) ∧ Hid (((d1 = false ∧ vs = .slice none 0 0 ∧ cst = 0 ∧ er = 9) ∨ (d1 = true ∧ cst = K ∧ er = 0 ∧ ∃ b l, vs = .slice (some ⟨b, 0, none⟩) l l))) := by
      rcases hway2 with ⟨q, _⟩ | ⟨_, q, rfl⟩ | ⟨_, q, b, l, rfl⟩
      · exact absurd (hiff.2 q) (by have := HN1.out; omega)
      · exact ⟨_, 0, 9, rfl, .inl ⟨q, rfl, rfl, rfl⟩⟩
      · exact ⟨_, K, 0, rfl, .inr ⟨q, rfl, rfl, b, l, rfl⟩⟩
    clear hway2 hiff hsame ht2 hb5 q0 q1 q2 q3 q4
    rcases HER.out with ⟨rfl, rfl, rfl, rfl⟩ | ⟨rfl, rfl, rfl, b, l, rfl⟩
    · clear HER
      have q0 := y5.out 0
      have q1 := y5.out 1
      have q2 := y5.out 2
      have q3 := y5.out 3
      have q4 := y5.out 4
      have qf := z5.out 4
      go_upto_region 9 with fail
      have B6 : Hid (Below w2.heap.size w2 (w5.setCell ⟨w2.heap.size, 4, none⟩ (.int .i64 (n1 : Nat)))) := B5.out.setCell (p := ⟨w2.heap.size, 4, none⟩) (Nat.le_refl _) _
      have y6 : Hid (∀ o, (w5.setCell ⟨w2.heap.size, 4, none⟩ (.int .i64 (n1 : Nat))).cell? ⟨w2.heap.size, o, none⟩ = #[Value.int .i64 (R : Int), .int .i64 (C : Int), .string cs, .slice (some ⟨g, 0, none⟩) m cc, .int .i64 (n1 : Nat)][o]?) := fun o => by
        by_cases e : o = 4
        · subst e
          rw [World.cell?_setCell_same _ _ _ (by rw [q4]; rfl)]; rfl
        · rw [World.cell?_setCell_other _ _ _ _ (fun h => e (congrArg Addr.off h).symm), y5.out o]
          match o, e with
          | 0, _ => rfl
          | 1, _ => rfl
          | 2, _ => rfl
          | 3, _ => rfl
          | 4, e => exact absurd rfl e
          | o + 5, _ => simp
      have z6 : Hid (∀ o, (w5.setCell ⟨w2.heap.size, 4, none⟩ (.int .i64 (n1 : Nat))).frozen? ⟨w2.heap.size, o, none⟩ = false) := fun o => by rw [World.frozen?_setCell]; exact z5.out o
      have hz6 : (w5.setCell ⟨w2.heap.size, 4, none⟩ (.int .i64 (n1 : Nat))).heap.size = w5.heap.size := by simp [World.setCell]
      generalize (w5.setCell ⟨w2.heap.size, 4, none⟩ (.int .i64 (n1 : Nat))) = w6 at *
      clear q0 q1 q2 q3 q4 qf
      have q0 := y6.out 0
      have q1 := y6.out 1
      have q2 := y6.out 2
      have q3 := y6.out 3
      have q4 := y6.out 4
      go_wp2_with fail
      refine (POS.out (n1 : Nat) _ (by omega) (by omega) B6.out).mono ?_
      rintro e w7 ⟨n3, d3, ht3, hway3, hb7⟩
      obtain ⟨hiff, hsame⟩ := OTH.out 20000 (n1 : Nat) n1 n3 false d3 T1.out (by have := HN1.out; omega) ht3
      have hno : ¬ ((n1 : Nat) : Int) < n1 := by omega
      obtain ⟨e3, ed3⟩ := hsame (by omega)
      subst e3 ed3
      have B7 : Hid (Below w2.heap.size w2 w7) := B6.out.trans (hb7.mono (by omega))
      have hz7 := hb7.size
      have y7 : Hid (∀ o, w7.cell? ⟨w2.heap.size, o, none⟩ = #[Value.int .i64 (R : Int), .int .i64 (C : Int), .string cs, .slice (some ⟨g, 0, none⟩) m cc, .int .i64 (n1 : Nat)][o]?) := fun o => (hb7.cell (p := ⟨w2.heap.size, o, none⟩) (by show w2.heap.size < w6.heap.size; omega)).trans (y6.out o)
      have z7 : Hid (∀ o, w7.frozen? ⟨w2.heap.size, o, none⟩ = false) := fun o => (hb7.frozen (p := ⟨w2.heap.size, o, none⟩) (by show w2.heap.size < w6.heap.size; omega)).trans (z6.out o)
      rcases hway3 with ⟨q, _⟩ | ⟨_, rfl⟩
      · exact absurd q (by omega)
      clear q0 q1 q2 q3 q4 hb7 ht3 hiff hsame
      have q0 := y7.out 0
      have q1 := y7.out 1
      have q2 := y7.out 2
      have q3 := y7.out 3
      have q4 := y7.out 4
      have HNO := Hid.mk hno
      clear hno
      go_wp2_with fail
      refine (SOL.out (n1 : Nat) _ (by omega) (by omega) B7.out).mono ?_
      rintro e w8 ⟨n4, d4, ht4, hway4, hb8⟩
      obtain ⟨hiff, hsame⟩ := OTH.out 20000 (n1 : Nat) n1 n4 false d4 T1.out (by have := HN1.out; omega) ht4
      obtain ⟨e4, ed4⟩ := hsame (by omega)
      subst e4 ed4
      have B8 : Hid (Below w2.heap.size w2 w8) := B7.out.trans (hb8.mono (by omega))
      have hz8 := hb8.size
      have y8 : Hid (∀ o, w8.cell? ⟨w2.heap.size, o, none⟩ = #[Value.int .i64 (R : Int), .int .i64 (C : Int), .string cs, .slice (some ⟨g, 0, none⟩) m cc, .int .i64 (n1 : Nat)][o]?) := fun o => (hb8.cell (p := ⟨w2.heap.size, o, none⟩) (by show w2.heap.size < w7.heap.size; omega)).trans (y7.out o)
      have z8 : Hid (∀ o, w8.frozen? ⟨w2.heap.size, o, none⟩ = false) := fun o => (hb8.frozen (p := ⟨w2.heap.size, o, none⟩) (by show w2.heap.size < w7.heap.size; omega)).trans (z7.out o)
      obtain ⟨vs, rfl, HVS⟩ : ∃ vs, e = .returned (.tuple #[vs, .int .i64 (0 : Nat), .int .i64 (9 : Nat)]) ∧ Hid (vs = .slice none 0 0 ∨ ∃ b l, vs = .slice (some ⟨b, 0, none⟩) l l) := by
        rcases hway4 with ⟨q, _⟩ | ⟨_, q, rfl⟩ | ⟨_, q, b, l, rfl⟩
        · exact absurd q (by omega)
        · exact ⟨_, rfl, .inl rfl⟩
        · cases q
      clear q0 q1 q2 q3 q4 hb8 ht4 hiff hsame hway4
      have q0 := y8.out 0
      have q1 := y8.out 1
      have q2 := y8.out 2
      have q3 := y8.out 3
      have q4 := y8.out 4
      have qf := z8.out 4
      obtain ⟨av, lv, cv, rfl⟩ : ∃ av lv cv, vs = .slice av lv cv := by
        rcases HVS.out with h | ⟨b, l, h⟩
        · exact ⟨_, _, _, h⟩
        · exact ⟨_, _, _, h⟩
      by_cases hone : n1 = 1
      · have honeI : ((n1 : Int) == 1) = true := by simp; omega
        clear q0 q1 q2 q3 q4 qf
        go_wp2_with fail
        go_ret
        exact ⟨rfl, BW2.out.trans (B8.out.mono BW2.out.size)⟩
      · have honeI : ((n1 : Int) == 1) = false := by simp; omega
        obtain ⟨n2', hn2'⟩ : ∃ k, k = n1 - 1 := ⟨_, rfl⟩
        have hnI : ((n1 : Nat) : Int) - 1 = ((n2' : Nat) : Int) := by omega
        have PK : Hid (∀ u : World, Calls Tryd.prog 21 #[.int .i64 less, .int .i64 (((n1 : Nat) : Int) - 1)] u fun e w' => ∃ r : Nat, r < n1 - 1 ∧ e = .returned (.int .i64 r) ∧ w' = u) := fun u => by
          rw [hnI]
          refine (pick_any less n2' u (by omega) (by omega) HL.out).mono ?_
          rintro e w' ⟨r, h1, h2, h3⟩
          exact ⟨r, by omega, h2, h3⟩
        clear hn2' hnI
        go_wp2_with fail
        refine (PK.out _).mono ?_
        rintro e w9 ⟨r, hr, rfl, hw9⟩
        rw [hw9]
        clear honeI hw9
        go_upto_region 16 with fail
        have B10 : Hid (Below w2.heap.size w2 (w8.setCell ⟨w2.heap.size, 4, none⟩ (.int .i64 (1 + (r : Nat) : Int)))) := B8.out.setCell (p := ⟨w2.heap.size, 4, none⟩) (Nat.le_refl _) _
        have y10 : Hid (∀ o, (w8.setCell ⟨w2.heap.size, 4, none⟩ (.int .i64 (1 + (r : Nat) : Int))).cell? ⟨w2.heap.size, o, none⟩ = #[Value.int .i64 (R : Int), .int .i64 (C : Int), .string cs, .slice (some ⟨g, 0, none⟩) m cc, .int .i64 (1 + (r : Nat) : Int)][o]?) := fun o => by
          by_cases e : o = 4
          · subst e
            rw [World.cell?_setCell_same _ _ _ (by rw [q4]; rfl)]; rfl
          · rw [World.cell?_setCell_other _ _ _ _ (fun h => e (congrArg Addr.off h).symm), y8.out o]
            match o, e with
            | 0, _ => rfl
            | 1, _ => rfl
            | 2, _ => rfl
            | 3, _ => rfl
            | 4, e => exact absurd rfl e
            | o + 5, _ => simp
        have hz10 : (w8.setCell ⟨w2.heap.size, 4, none⟩ (.int .i64 (1 + (r : Nat) : Int))).heap.size = w8.heap.size := by simp [World.setCell]
        generalize (w8.setCell ⟨w2.heap.size, 4, none⟩ (.int .i64 (1 + (r : Nat) : Int))) = w10 at *
        clear q0 q1 q2 q3 q4 qf
        have q0 := y10.out 0
        have q1 := y10.out 1
        have q2 := y10.out 2
        have q3 := y10.out 3
        have q4 := y10.out 4
        go_wp2_with fail
        refine (POS.out (1 + (r : Nat) : Int) _ (by omega) (by omega) B10.out).mono ?_
        rintro e w11 ⟨n5, d5, ht5, hway5, hb11⟩
        have hiff5 := (OTH.out 20000 (1 + (r : Nat) : Int) n1 n5 false d5 T1.out (by have := HN1.out; omega) ht5).1
        have B11 : Hid (Below w2.heap.size w2 w11) := B10.out.trans (hb11.mono (by omega))
        have hz11 := hb11.size
        have y11 : Hid (∀ o, w11.cell? ⟨w2.heap.size, o, none⟩ = #[Value.int .i64 (R : Int), .int .i64 (C : Int), .string cs, .slice (some ⟨g, 0, none⟩) m cc, .int .i64 (1 + (r : Nat) : Int)][o]?) := fun o => (hb11.cell (p := ⟨w2.heap.size, o, none⟩) (by show w2.heap.size < w10.heap.size; omega)).trans (y10.out o)
        have hlt5 := hiff5.1 (by omega)
        rcases hway5 with ⟨_, rfl⟩ | ⟨q, _⟩
        · clear q0 q1 q2 q3 q4 hb11 ht5 hiff5 hlt5
          have q0 := y11.out 0
          have q1 := y11.out 1
          have q2 := y11.out 2
          have q3 := y11.out 3
          have q4 := y11.out 4
          go_wp2_with fail
          refine (SOL.out (1 + (r : Nat) : Int) _ (by omega) (by omega) B11.out).mono ?_
          rintro e w12 ⟨n6, d6, ht6, hway6, hb12⟩
          have hiff6 := (OTH.out 20000 (1 + (r : Nat) : Int) n1 n6 false d6 T1.out (by have := HN1.out; omega) ht6).1
          have B12 : Hid (Below w2.heap.size w2 w12) := B11.out.trans (hb12.mono (by omega))
          have hlt6 := hiff6.1 (by omega)
          rcases hway6 with ⟨_, rfl⟩ | ⟨q, _⟩ | ⟨q, _⟩
          · clear q0 q1 q2 q3 q4 hb12 ht6 hiff6 hlt6
            go_wp2_with fail
            go_ret
            exact ⟨rfl, BW2.out.trans (B12.out.mono BW2.out.size)⟩
          · exact absurd hlt6 (by omega)
          · exact absurd hlt6 (by omega)
        · exact absurd hlt5 (by omega)
    · clear HER
      have q0 := y5.out 0
      have q1 := y5.out 1
      have q2 := y5.out 2
      have q3 := y5.out 3
      have q4 := y5.out 4
      have qf := z5.out 4
      go_upto_region 9 with fail
      have B6 : Hid (Below w2.heap.size w2 (w5.setCell ⟨w2.heap.size, 4, none⟩ (.int .i64 (n1 : Nat)))) := B5.out.setCell (p := ⟨w2.heap.size, 4, none⟩) (Nat.le_refl _) _
      have y6 : Hid (∀ o, (w5.setCell ⟨w2.heap.size, 4, none⟩ (.int .i64 (n1 : Nat))).cell? ⟨w2.heap.size, o, none⟩ = #[Value.int .i64 (R : Int), .int .i64 (C : Int), .string cs, .slice (some ⟨g, 0, none⟩) m cc, .int .i64 (n1 : Nat)][o]?) := fun o => by
        by_cases e : o = 4
        · subst e
          rw [World.cell?_setCell_same _ _ _ (by rw [q4]; rfl)]; rfl
        · rw [World.cell?_setCell_other _ _ _ _ (fun h => e (congrArg Addr.off h).symm), y5.out o]
          match o, e with
          | 0, _ => rfl
          | 1, _ => rfl
          | 2, _ => rfl
          | 3, _ => rfl
          | 4, e => exact absurd rfl e
          | o + 5, _ => simp
      have z6 : Hid (∀ o, (w5.setCell ⟨w2.heap.size, 4, none⟩ (.int .i64 (n1 : Nat))).frozen? ⟨w2.heap.size, o, none⟩ = false) := fun o => by rw [World.frozen?_setCell]; exact z5.out o
      have hz6 : (w5.setCell ⟨w2.heap.size, 4, none⟩ (.int .i64 (n1 : Nat))).heap.size = w5.heap.size := by simp [World.setCell]
      generalize (w5.setCell ⟨w2.heap.size, 4, none⟩ (.int .i64 (n1 : Nat))) = w6 at *
      clear q0 q1 q2 q3 q4 qf
      have q0 := y6.out 0
      have q1 := y6.out 1
      have q2 := y6.out 2
      have q3 := y6.out 3
      have q4 := y6.out 4
      go_wp2_with fail
      refine (POS.out (n1 : Nat) _ (by omega) (by omega) B6.out).mono ?_
      rintro e w7 ⟨n3, d3, ht3, hway3, hb7⟩
      obtain ⟨hiff, hsame⟩ := OTH.out 20000 (n1 : Nat) n1 n3 true d3 T1.out (by have := HN1.out; omega) ht3
      have hno : ¬ ((n1 : Nat) : Int) < n1 := by omega
      obtain ⟨e3, ed3⟩ := hsame (by omega)
      subst e3 ed3
      have B7 : Hid (Below w2.heap.size w2 w7) := B6.out.trans (hb7.mono (by omega))
      have hz7 := hb7.size
      have y7 : Hid (∀ o, w7.cell? ⟨w2.heap.size, o, none⟩ = #[Value.int .i64 (R : Int), .int .i64 (C : Int), .string cs, .slice (some ⟨g, 0, none⟩) m cc, .int .i64 (n1 : Nat)][o]?) := fun o => (hb7.cell (p := ⟨w2.heap.size, o, none⟩) (by show w2.heap.size < w6.heap.size; omega)).trans (y6.out o)
      have z7 : Hid (∀ o, w7.frozen? ⟨w2.heap.size, o, none⟩ = false) := fun o => (hb7.frozen (p := ⟨w2.heap.size, o, none⟩) (by show w2.heap.size < w6.heap.size; omega)).trans (z6.out o)
      rcases hway3 with ⟨q, _⟩ | ⟨_, rfl⟩
      · exact absurd q (by omega)
      clear q0 q1 q2 q3 q4 hb7 ht3 hiff hsame
      have q0 := y7.out 0
      have q1 := y7.out 1
      have q2 := y7.out 2
      have q3 := y7.out 3
      have q4 := y7.out 4
      have HNO := Hid.mk hno
      clear hno
      go_wp2_with fail
      refine (SOL.out (n1 : Nat) _ (by omega) (by omega) B7.out).mono ?_
      rintro e w8 ⟨n4, d4, ht4, hway4, hb8⟩
      obtain ⟨hiff, hsame⟩ := OTH.out 20000 (n1 : Nat) n1 n4 true d4 T1.out (by have := HN1.out; omega) ht4
      obtain ⟨e4, ed4⟩ := hsame (by omega)
      subst e4 ed4
      have B8 : Hid (Below w2.heap.size w2 w8) := B7.out.trans (hb8.mono (by omega))
      have hz8 := hb8.size
      have y8 : Hid (∀ o, w8.cell? ⟨w2.heap.size, o, none⟩ = #[Value.int .i64 (R : Int), .int .i64 (C : Int), .string cs, .slice (some ⟨g, 0, none⟩) m cc, .int .i64 (n1 : Nat)][o]?) := fun o => (hb8.cell (p := ⟨w2.heap.size, o, none⟩) (by show w2.heap.size < w7.heap.size; omega)).trans (y7.out o)
      have z8 : Hid (∀ o, w8.frozen? ⟨w2.heap.size, o, none⟩ = false) := fun o => (hb8.frozen (p := ⟨w2.heap.size, o, none⟩) (by show w2.heap.size < w7.heap.size; omega)).trans (z7.out o)
      obtain ⟨vs, rfl, HVS⟩ : ∃ vs, e = .returned (.tuple #[vs, .int .i64 (cst : Nat), .int .i64 (0 : Nat)]) ∧ Hid (vs = .slice none 0 0 ∨ ∃ b l, vs = .slice (some ⟨b, 0, none⟩) l l) := by
        rcases hway4 with ⟨q, _⟩ | ⟨_, q, rfl⟩ | ⟨_, q, b, l, rfl⟩
        · exact absurd q (by omega)
        · cases q
        · exact ⟨_, rfl, .inr ⟨b, l, rfl⟩⟩
      clear q0 q1 q2 q3 q4 hb8 ht4 hiff hsame hway4
      have q0 := y8.out 0
      have q1 := y8.out 1
      have q2 := y8.out 2
      have q3 := y8.out 3
      have q4 := y8.out 4
      have qf := z8.out 4
      obtain ⟨av, lv, cv, rfl⟩ : ∃ av lv cv, vs = .slice av lv cv := by
        rcases HVS.out with h | ⟨b, l, h⟩
        · exact ⟨_, _, _, h⟩
        · exact ⟨_, _, _, h⟩
      by_cases hone : n1 = 1
      · have honeI : ((n1 : Int) == 1) = true := by simp; omega
        clear q0 q1 q2 q3 q4 qf
        go_wp2_with fail
        go_ret
        exact ⟨rfl, BW2.out.trans (B8.out.mono BW2.out.size)⟩
      · have honeI : ((n1 : Int) == 1) = false := by simp; omega
        obtain ⟨n2', hn2'⟩ : ∃ k, k = n1 - 1 := ⟨_, rfl⟩
        have hnI : ((n1 : Nat) : Int) - 1 = ((n2' : Nat) : Int) := by omega
        have PK : Hid (∀ u : World, Calls Tryd.prog 21 #[.int .i64 less, .int .i64 (((n1 : Nat) : Int) - 1)] u fun e w' => ∃ r : Nat, r < n1 - 1 ∧ e = .returned (.int .i64 r) ∧ w' = u) := fun u => by
          rw [hnI]
          refine (pick_any less n2' u (by omega) (by omega) HL.out).mono ?_
          rintro e w' ⟨r, h1, h2, h3⟩
          exact ⟨r, by omega, h2, h3⟩
        clear hn2' hnI
        go_wp2_with fail
        refine (PK.out _).mono ?_
        rintro e w9 ⟨r, hr, rfl, hw9⟩
        rw [hw9]
        clear honeI hw9
        go_upto_region 16 with fail
        have B10 : Hid (Below w2.heap.size w2 (w8.setCell ⟨w2.heap.size, 4, none⟩ (.int .i64 (1 + (r : Nat) : Int)))) := B8.out.setCell (p := ⟨w2.heap.size, 4, none⟩) (Nat.le_refl _) _
        have y10 : Hid (∀ o, (w8.setCell ⟨w2.heap.size, 4, none⟩ (.int .i64 (1 + (r : Nat) : Int))).cell? ⟨w2.heap.size, o, none⟩ = #[Value.int .i64 (R : Int), .int .i64 (C : Int), .string cs, .slice (some ⟨g, 0, none⟩) m cc, .int .i64 (1 + (r : Nat) : Int)][o]?) := fun o => by
          by_cases e : o = 4
          · subst e
            rw [World.cell?_setCell_same _ _ _ (by rw [q4]; rfl)]; rfl
          · rw [World.cell?_setCell_other _ _ _ _ (fun h => e (congrArg Addr.off h).symm), y8.out o]
            match o, e with
            | 0, _ => rfl
            | 1, _ => rfl
            | 2, _ => rfl
            | 3, _ => rfl
            | 4, e => exact absurd rfl e
            | o + 5, _ => simp
        have hz10 : (w8.setCell ⟨w2.heap.size, 4, none⟩ (.int .i64 (1 + (r : Nat) : Int))).heap.size = w8.heap.size := by simp [World.setCell]
        generalize (w8.setCell ⟨w2.heap.size, 4, none⟩ (.int .i64 (1 + (r : Nat) : Int))) = w10 at *
        clear q0 q1 q2 q3 q4 qf
        have q0 := y10.out 0
        have q1 := y10.out 1
        have q2 := y10.out 2
        have q3 := y10.out 3
        have q4 := y10.out 4
        go_wp2_with fail
        refine (POS.out (1 + (r : Nat) : Int) _ (by omega) (by omega) B10.out).mono ?_
        rintro e w11 ⟨n5, d5, ht5, hway5, hb11⟩
        have hiff5 := (OTH.out 20000 (1 + (r : Nat) : Int) n1 n5 true d5 T1.out (by have := HN1.out; omega) ht5).1
        have B11 : Hid (Below w2.heap.size w2 w11) := B10.out.trans (hb11.mono (by omega))
        have hz11 := hb11.size
        have y11 : Hid (∀ o, w11.cell? ⟨w2.heap.size, o, none⟩ = #[Value.int .i64 (R : Int), .int .i64 (C : Int), .string cs, .slice (some ⟨g, 0, none⟩) m cc, .int .i64 (1 + (r : Nat) : Int)][o]?) := fun o => (hb11.cell (p := ⟨w2.heap.size, o, none⟩) (by show w2.heap.size < w10.heap.size; omega)).trans (y10.out o)
        have hlt5 := hiff5.1 (by omega)
        rcases hway5 with ⟨_, rfl⟩ | ⟨q, _⟩
        · clear q0 q1 q2 q3 q4 hb11 ht5 hiff5 hlt5
          have q0 := y11.out 0
          have q1 := y11.out 1
          have q2 := y11.out 2
          have q3 := y11.out 3
          have q4 := y11.out 4
          go_wp2_with fail
          refine (SOL.out (1 + (r : Nat) : Int) _ (by omega) (by omega) B11.out).mono ?_
          rintro e w12 ⟨n6, d6, ht6, hway6, hb12⟩
          have hiff6 := (OTH.out 20000 (1 + (r : Nat) : Int) n1 n6 true d6 T1.out (by have := HN1.out; omega) ht6).1
          have B12 : Hid (Below w2.heap.size w2 w12) := B11.out.trans (hb12.mono (by omega))
          have hlt6 := hiff6.1 (by omega)
          rcases hway6 with ⟨_, rfl⟩ | ⟨q, _⟩ | ⟨q, _⟩
          · clear q0 q1 q2 q3 q4 hb12 ht6 hiff6 hlt6
            go_wp2_with fail
            go_ret
            exact ⟨rfl, BW2.out.trans (B12.out.mono BW2.out.size)⟩
          · exact absurd hlt6 (by omega)
          · exact absurd hlt6 (by omega)
        · exact absurd hlt5 (by omega)

end Go.Proofs.YtnkgpinadgacgabDoor
