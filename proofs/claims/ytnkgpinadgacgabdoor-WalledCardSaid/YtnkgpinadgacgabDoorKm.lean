/- Several texts in one: Ka, Kb, Hk, Kc, Kd. -/
import Derived.Test.YtnkgpinadgacgabDoorHi
import Derived.Test.YtnkgpinadgacgabDoorBt
import Derived.Test.YtnkgpinadgacgabDoorHe
import Derived.Test.YtnkgpinadgacgabDoorBf
import Derived.Test.YtnkgpinadgacgabDoorHg
import Derived.Test.YtnkgpinadgacgabDoorHf
namespace Go.Proofs.YtnkgpinadgacgabDoor
open Go.RowKit M SM
theorem freeTo_nat (cs : ByteArray) : ∀ k : Nat, freeTo cs k = ((List.range k).filter fun c : Nat => freeB cs (c : Int)).map fun c : Nat => (c : Int)
  | 0 => rfl
  | k + 1 => by
    rw [freeTo, List.range_succ, List.filter_append, List.map_append, ← freeTo_nat cs k]
    by_cases h : freeB cs (k : Int) = true
    · rw [if_pos h]; simp [h]
    · rw [if_neg h]; simp [h]

/-- There are no more positions than the free cells allow. -/
theorem few_pos {cs : ByteArray} {m : Nat} {L : List (List Nat)} (hL : L.Nodup) (h : ∀ q, q ∈ L → PosG cs m q) : L.length ≤ fallF (freeTo cs cs.size).length m := by
  have e : (freeTo cs cs.size).length = ((List.range cs.size).filter fun c : Nat => freeB cs (c : Int)).length := by rw [freeTo_nat, List.length_map]
  rw [e]
  refine inj_few hL fun q hq => ⟨(h q hq).1.1, fun i hi => ?_, (h q hq).2⟩
  obtain ⟨h1, h2⟩ := (h q hq).1.2 i hi
  exact List.mem_filter.2 ⟨List.mem_range.2 h1, h2⟩

theorem fall_le {f : Nat} (hf : f ≤ 36) : ∀ k, k ≤ 4 → fallF f k ≤ 1679616
  | 0, _ => by simp [fallF]
  | 1, _ => by simp only [fallF]; omega
  | 2, _ => by
    simp only [fallF, Nat.one_mul, Nat.sub_zero]
    exact Nat.le_trans (Nat.mul_le_mul hf (show f - 1 ≤ 36 by omega)) (by decide)
  | 3, _ => by
    simp only [fallF, Nat.one_mul, Nat.sub_zero]
    exact Nat.le_trans (Nat.mul_le_mul (Nat.mul_le_mul hf (show f - 1 ≤ 36 by omega)) (show f - 2 ≤ 36 by omega)) (by decide)
  | 4, _ => by
    simp only [fallF, Nat.one_mul, Nat.sub_zero]
    exact Nat.le_trans (Nat.mul_le_mul (Nat.mul_le_mul (Nat.mul_le_mul hf (show f - 1 ≤ 36 by omega)) (show f - 2 ≤ 36 by omega)) (show f - 3 ≤ 36 by omega)) (by decide)
  | k + 5, h => by omega

set_option maxRecDepth 100000 in
set_option maxHeartbeats 2000000 in
theorem many_any (ro co bu : Int) (cs : ByteArray) (b m cc : Nat) (w : World) (hs : cs.size ≤ 36) (hm : m ≤ 4) (hmf : m ≤ (freeTo cs cs.size).length) :
    Calls Tryd.prog 16 #[.agg #[.int .i64 ro, .int .i64 co, .string cs, .slice (some ⟨b, 0, none⟩) m cc, .int .i64 bu]] w fun e w' =>
      e = .returned (.bool (decide (bu < (fallF (freeTo cs cs.size).length m : Nat)))) ∧ Below w.heap.size w w' := by
  obtain ⟨F, hF⟩ : ∃ F, F = (freeTo cs cs.size).length := ⟨_, rfl⟩
  have hF36 : F ≤ 36 := by rw [hF]; have := freeTo_len cs cs.size; omega
  rw [← hF] at hmf ⊢
  have FRE : Hid (∀ u : World, Calls Tryd.prog 39 #[.agg #[.int .i64 ro, .int .i64 co, .string cs, .slice (some ⟨b, 0, none⟩) m cc, .int .i64 bu]] u fun e w' => ∃ a c, e = .returned (.slice a F c) ∧ Below u.heap.size u w') := fun u => by
    refine (kfree_any ro co bu cs _ u hs).mono ?_
    rintro e w' ⟨v, rfl, ho, hb⟩
    obtain ⟨a, c, hv, _, _⟩ := own_form ho
    exact ⟨a, c, by rw [hv, hF], hb⟩
  clear hF
  go_enter Tryd.func16, Tryd.ntmps16
  go_wp2_with fail
  have B1 : Hid (Below w.heap.size w (w.alloc (Obj.cells #[Value.int IntKind.i64 ro, Value.int IntKind.i64 co, Value.string cs, .slice (some ⟨b, 0, none⟩) m cc, Value.int IntKind.i64 bu] 28))) := (Below.refl _ w).alloc (Nat.le_refl _) _
  have yc : ∀ o, (w.alloc (Obj.cells #[Value.int IntKind.i64 ro, Value.int IntKind.i64 co, Value.string cs, .slice (some ⟨b, 0, none⟩) m cc, Value.int IntKind.i64 bu] 28)).cell? ⟨w.heap.size, o, none⟩ = #[Value.int .i64 ro, .int .i64 co, .string cs, .slice (some ⟨b, 0, none⟩) m cc, .int .i64 bu][o]? := by
    intro o; go_simp
  have hz1 : (w.alloc (Obj.cells #[Value.int IntKind.i64 ro, Value.int IntKind.i64 co, Value.string cs, .slice (some ⟨b, 0, none⟩) m cc, Value.int IntKind.i64 bu] 28)).heap.size = w.heap.size + 1 := by simp
  generalize w.alloc (Obj.cells #[Value.int IntKind.i64 ro, Value.int IntKind.i64 co, Value.string cs, .slice (some ⟨b, 0, none⟩) m cc, Value.int IntKind.i64 bu] 28) = w1 at *
  refine (FRE.out _).mono ?_
  rintro e w2 ⟨a, c, rfl, hb2⟩
  have BW2 : Hid (Below w.heap.size w w2) := B1.out.trans (hb2.mono (by omega))
  have y3 := cell_later hb2 (yc 3)
  have y4 := cell_later hb2 (yc 4)
  clear hb2 yc
  go_wp2_with fail
  go_loopw [4, 5] (fun v4 v5 wr => ∃ i : Nat, i ≤ m ∧ v4 = .int .i64 (fallF F i : Nat) ∧ v5 = .int .i64 i ∧ w2 = wr) (fun _ v5 _ => m - (intOf v5).toNat)
  case atStart => exact ⟨0, Nat.zero_le _, rfl, rfl, rfl⟩
  case round =>
    obtain ⟨i, hi, rfl, rfl, rfl⟩ := hrel
    by_cases hlt : i < m
    · have hb := fall_le hF36 (i + 1) (by omega)
      have hN : ((fallF F i : Nat) : Int) * ((F : Int) - (i : Int)) = ((fallF F (i + 1) : Nat) : Int) := by
        simp only [fallF]
        rw [Int.natCast_mul, Int.natCast_sub (by omega)]
      obtain ⟨x, hx⟩ : ∃ x, x = fallF F i := ⟨_, rfl⟩
      obtain ⟨y, hy⟩ : ∃ y, y = fallF F (i + 1) := ⟨_, rfl⟩
      rw [← hy] at hb hN
      rw [← hx] at hN ⊢
      have HY := Hid.mk hy
      have HN := Hid.mk hN
      have hw1 : IntKind.i64.wrap ((F : Int) - (i : Int)) = (F : Int) - (i : Int) := by rw [IntKind.wrap_i64]; omega
      have hw2 : IntKind.i64.wrap ((x : Int) * ((F : Int) - (i : Int))) = (y : Int) := by rw [hN, IntKind.wrap_i64]; omega
      clear hx hy hN
      go_wp2
      go_roundw
      case rel => exact ⟨i + 1, by omega, by rw [← HY.out], by go_num, trivial⟩
      case measure => simp [intOf]; omega
    · have hd : i = m := by omega
      subst hd
      go_wp2
      go_ret
      exact ⟨rfl, BW2.out⟩

end Go.Proofs.YtnkgpinadgacgabDoor

namespace Go.Proofs.YtnkgpinadgacgabDoor
open Go.RowKit M SM
/-- A good yard stays good with another budget. -/
theorem check_with {ro co U B : Int} {cs : ByteArray} {m : Nat} {fr tt : Nat → Int} (h : (checkM ro co cs m fr tt U).1 = 0) (b1 : 1 ≤ B) (b2 : B ≤ 20000) : (checkM ro co cs m fr tt B).1 = 0 := by
  unfold checkM at h ⊢
  by_cases h1 : (sideB ro && sideB co) = false
  · rw [if_pos h1] at h; simp at h
  · rw [if_neg h1] at h ⊢
    by_cases h2 : 0 ≤ cellsM ro co cs
    · rw [if_pos h2] at h; simp at h
    · rw [if_neg h2] at h ⊢
      by_cases h3 : m < 1 ∨ 4 < m
      · rw [if_pos h3] at h; simp at h
      · rw [if_neg h3] at h ⊢
        by_cases h4 : firstOf (fun i => !(cartM cs fr tt i == 0)) m < m
        · rw [if_pos h4] at h
          have := M.firstOf_is (p := fun i => !(cartM cs fr tt i == 0)) m h4
          simp only [] at h this
          rw [h] at this; cases this
        · rw [if_neg h4, if_neg (by omega)]

/-- What the search of a yard costs. -/
noncomputable def costY (F0 : Nat) (ro co : Int) (cs : ByteArray) (m : Nat) (fr tt : Nat → Int) : Nat := match solY F0 ro co cs m fr tt with
  | some (b, s') => costO (s'.seen b)
  | none => 0

theorem told_work {S : List Nat → List Nat → Prop} {s g : List Nat} {bu : Int} {n : Nat} {b : Bool} (h : M.Told S s g bu n b) : ∃ L i, Work S s L i ∧ n = L.length := by
  rcases h with ⟨L, h1, h2, _⟩ | ⟨L, i, h1, h2, _⟩
  · exact ⟨L, _, h1, h2⟩
  · exact ⟨L, i, h1, h2⟩

/-- Where all were told, another budget tells as many, or that there are more. -/
theorem told_other {S : List Nat → List Nat → Prop} {s g : List Nat} {bu bu' : Int} {n n' : Nat} {b b' : Bool} (h : M.Told S s g bu n b) (hn : ¬ bu < n) (h' : M.Told S s g bu' n' b') : (bu' < n ↔ bu' < n') ∧ (¬ bu' < n → n = n' ∧ b = b') := by
  rcases h with ⟨L, h1, h2, h3⟩ | ⟨L, i, h1, h2, h3⟩
  · exact M.Told.all (.inl ⟨L, h1, h2, h3⟩) h'
  · exact absurd h3 hn

set_option maxRecDepth 100000 in
set_option maxHeartbeats 4000000 in
theorem few_any (SH : Shapes) (rr rc rb less : Int) (s : ByteArray) (a : Option Addr) (n cap : Nat) (x : Nat → Int) (w : World) (hs : s.size ≤ maxLen) (hn : n ≤ 17592186044415) (hsd : SidesIn w)
    (h0 : (Lit.int .i64 rr).wf = true) (h1 : (Lit.int .i64 rc).wf = true) (h2 : (Lit.int .i64 rb).wf = true) (hl : (Lit.int .i64 less).wf = true)
    (hx : (∀ i, i < n → (Lit.int .i64 (x i)).wf = true) ∧ (0 < n → ∃ b off, a = some ⟨b, off, none⟩ ∧ ∀ i, i < n → w.cell? ⟨b, off + i, none⟩ = some (.int .i64 (x i)))) :
    Calls Tryd.prog 6 #[.agg #[.int .i64 rr, .int .i64 rc, .string s, .slice a n cap, .int .i64 rb], .int .i64 less] w fun e w' => e = .returned (.bool true) ∧ Below w.heap.size w w' := by
  have HSD := Hid.mk hsd
  have HL := Hid.mk hl
  have HSH : Hid (∀ u : World, Below w.heap.size w u → Calls Tryd.prog 19 #[.agg #[.int .i64 rr, .int .i64 rc, .string s, .slice a n cap, .int .i64 rb]] u fun e w' =>
      ∃ (R C U m cc g : Nat) (cs : ByteArray) (fr tt : Nat → Int), e = .returned (.agg #[.int .i64 (R : Int), .int .i64 (C : Int), .string cs, .slice (some ⟨g, 0, none⟩) m cc, .int .i64 (U : Int)]) ∧
        1 ≤ m ∧ m ≤ 4 ∧ m ≤ cc ∧ CartsIn w' g 0 m fr tt ∧ checkM R C cs m fr tt U = (0, 0) ∧ freeB cs 0 = true ∧ cs.size ≤ 36 ∧ Below u.heap.size u w') := fun u hu => by
    refine SH rr rc rb s a n cap x u hs hn h0 h1 h2 ⟨hx.1, fun hp => ?_⟩
    obtain ⟨b, off, e, hc⟩ := hx.2 hp
    exact ⟨b, off, e, fun i hi => cell_later hu (hc i hi)⟩
  clear hsd hl hx
  go_enter Tryd.func6, Tryd.ntmps6
  go_wp2_with fail
  have B1 : Hid (Below w.heap.size w (w.alloc (Obj.cells #[Value.int IntKind.i64 rr, Value.int IntKind.i64 rc, Value.string s, .slice a n cap, Value.int IntKind.i64 rb] 24))) := (Below.refl _ w).alloc (Nat.le_refl _) _
  have hz1 : (w.alloc (Obj.cells #[Value.int IntKind.i64 rr, Value.int IntKind.i64 rc, Value.string s, .slice a n cap, Value.int IntKind.i64 rb] 24)).heap.size = w.heap.size + 1 := by simp
  generalize w.alloc (Obj.cells #[Value.int IntKind.i64 rr, Value.int IntKind.i64 rc, Value.string s, .slice a n cap, Value.int IntKind.i64 rb] 24) = w1 at *
  refine (HSH.out _ B1.out).mono ?_
  rintro e w2 ⟨R, C, U, m, cc, g, cs, fr, tt, rfl, hm1, hm4, hmc, hcs, hck, hf0, hs36, hb2⟩
  have BW2 : Hid (Below w.heap.size w w2) := B1.out.trans (hb2.mono (by omega))
  have HCS := Hid.mk hcs
  have hgl : g < w2.heap.size := World.block_lt_of_cell? (a := ⟨g, 0 + 0 * 2, none⟩) w2 (hcs 0 hm1).1
  have hc0 : (checkM R C cs m fr tt U).1 = 0 := by rw [hck]
  have CK : Hid (∀ B : Int, 1 ≤ B → B ≤ 20000 → (checkM R C cs m fr tt B).1 = 0) := fun B b1 b2 => check_with hc0 b1 b2
  obtain ⟨hpf, hpt⟩ := cells_pos hc0
  obtain ⟨F0, hF0⟩ : ∃ F0 : Nat, 200400000 ≤ F0 := ⟨_, Nat.le_refl _⟩
  obtain ⟨K, hK⟩ : ∃ K, K = costY F0 R C cs m fr tt := ⟨_, rfl⟩
  obtain ⟨T, hT⟩ : ∃ T : Int → Nat → Bool → Prop, T = M.Told (stepP R C cs m) (cellsOf fr m) (cellsOf tt m) := ⟨_, rfl⟩
  have POS : Hid (∀ (B : Int) (u : World), 1 ≤ B → B ≤ 20000 → Below w2.heap.size w2 u → Calls Tryd.prog 14 #[.agg #[.int .i64 (R : Int), .int .i64 (C : Int), .string cs, .slice (some ⟨g, 0, none⟩) m cc, .int .i64 B]] u fun e w' =>
      ∃ (n : Nat) (d : Bool), T B n d ∧ ((B < n ∧ e = .returned (.tuple #[.int .i64 0, .bool false, .int .i64 10])) ∨ (¬ B < n ∧ e = .returned (.tuple #[.int .i64 n, .bool d, .int .i64 0]))) ∧ Below u.heap.size u w') := fun B u b1 b2 hu => by
    refine (positions_any R C B cs (some ⟨g, 0, none⟩) m cc fr tt u (by unfold maxLen; omega) (by unfold maxLen; omega) hmc (HSD.out.below (BW2.out.trans (hu.mono BW2.out.size))) (fun _ => ⟨g, 0, rfl, HCS.out.below hu⟩)).mono ?_
    rintro e w' ⟨x, y, z, rfl, hp, hb⟩
    rcases hp with ⟨hck, _⟩ | ⟨_, n, d, ht, hp⟩
    · exact absurd (CK.out B b1 b2) hck
    · refine ⟨n, d, by rw [hT]; exact ht, ?_, hb⟩
      rcases hp with ⟨q, rfl, rfl, rfl⟩ | ⟨q, rfl, rfl, rfl⟩
      · exact .inl ⟨q, rfl⟩
      · exact .inr ⟨q, rfl⟩
  have SOL : Hid (∀ (B : Int) (u : World), 1 ≤ B → B ≤ 20000 → Below w2.heap.size w2 u → Calls Tryd.prog 15 #[.agg #[.int .i64 (R : Int), .int .i64 (C : Int), .string cs, .slice (some ⟨g, 0, none⟩) m cc, .int .i64 B]] u fun e w' =>
      ∃ (n : Nat) (d : Bool), T B n d ∧ ((B < n ∧ e = .returned (.tuple #[.slice none 0 0, .int .i64 0, .int .i64 10])) ∨ (¬ B < n ∧ d = false ∧ e = .returned (.tuple #[.slice none 0 0, .int .i64 0, .int .i64 9])) ∨ (¬ B < n ∧ d = true ∧ ∃ b l, e = .returned (.tuple #[.slice (some ⟨b, 0, none⟩) l l, .int .i64 (K : Nat), .int .i64 0]))) ∧ Below u.heap.size u w') := fun B u b1 b2 hu => by
    refine (solve_any F0 hF0 R C B cs (some ⟨g, 0, none⟩) m cc fr tt u (by unfold maxLen; omega) (by unfold maxLen; omega) hmc (HSD.out.below (BW2.out.trans (hu.mono BW2.out.size))) (fun _ => ⟨g, 0, rfl, HCS.out.below hu⟩)).mono ?_
    rintro e w' ⟨x, y, z, rfl, hp, hb⟩
    rcases hp with ⟨hck, _⟩ | ⟨_, n, d, ht, hp⟩
    · exact absurd (CK.out B b1 b2) hck
    · refine ⟨n, d, by rw [hT]; exact ht, ?_, hb⟩
      rcases hp with ⟨q, rfl, rfl, rfl⟩ | ⟨q, rfl, rfl, rfl, rfl⟩ | ⟨q, rfl, rfl, L, k, b, s', _, _, _, hsol, hk, rfl, hpl⟩
      · exact .inl ⟨q, rfl⟩
      · exact .inr (.inl ⟨q, rfl, rfl⟩)
      · obtain ⟨gp, A, rfl, _⟩ := hpl
        have e : k = K := by
          rw [hK, hk]
          unfold costY
          rw [hsol]
        exact .inr (.inr ⟨q, rfl, gp, _, by rw [e]⟩)
  have MAN : Hid (∀ (B : Int) (u : World), Calls Tryd.prog 16 #[.agg #[.int .i64 (R : Int), .int .i64 (C : Int), .string cs, .slice (some ⟨g, 0, none⟩) m cc, .int .i64 B]] u fun e w' => ∃ mb : Bool, e = .returned (.bool mb) ∧ ((∃ n d, T B n d ∧ B < n) → mb = true) ∧ Below u.heap.size u w') := fun B u => by
    have hfm : m ≤ (freeTo cs cs.size).length := by
      have := few_pos (m := m) (L := [cellsOf fr m]) (cs := cs) (by simp) (fun q hq => by simp at hq; rw [hq]; exact hpf)
      refine Nat.le_of_not_lt fun hlt => ?_
      have hz : ∀ k, (freeTo cs cs.size).length < k → k ≤ 4 → fallF (freeTo cs cs.size).length k = 0 := by
        intro k hk
        induction k with
        | zero => omega
        | succ k ih =>
          intro h4
          simp only [fallF]
          by_cases e : (freeTo cs cs.size).length = k
          · rw [e, Nat.sub_self, Nat.mul_zero]
          · rw [ih (by omega) (by omega), Nat.zero_mul]
      rw [hz m hlt hm4] at this
      simp at this
    refine (many_any R C B cs g m cc u hs36 hm4 hfm).mono ?_
    rintro e w' ⟨rfl, hb⟩
    refine ⟨_, rfl, fun ⟨n, d, ht, hlt⟩ => ?_, hb⟩
    rw [hT] at ht
    obtain ⟨L, i, hW, hnL⟩ := told_work ht
    have h3 := few_pos (cs := cs) (m := m) hW.nodup fun q hq => by
      obtain ⟨j, hj⟩ := hW.come q hq
      exact come_pos hpf hj
    refine decide_eq_true ?_
    omega
  have OTH : Hid (∀ (bu bu' : Int) (n n' : Nat) (b b' : Bool), T bu n b → ¬ bu < n → T bu' n' b' → (bu' < n ↔ bu' < n') ∧ (¬ bu' < n → n = n' ∧ b = b')) := fun bu bu' n n' b b' q1 q2 q3 => by
    rw [hT] at q1 q3
    exact told_other q1 q2 q3
  have ALL : Hid (∀ (bu : Int) (n n' : Nat) (b b' : Bool), T bu n b → T bu n' b' → (bu < n ↔ bu < n')) := fun bu n n' b b' q1 q3 => by
    rw [hT] at q1 q3
    exact (M.Told.all q1 q3).1
  have ONE : Hid (∀ (bu : Int) (n : Nat) (b : Bool), T bu n b → 1 ≤ n) := fun bu n b q => by
    rw [hT] at q
    obtain ⟨L, i, hW, e⟩ := told_work q
    have := List.length_pos_of_mem hW.start
    omega
  clear hcs hck hc0 hf0 hpf hpt hF0 hK hT hb2
  go_upto_region 3 with fail
  obtain ⟨w3, hw3⟩ : ∃ q, q = w2.alloc (Obj.cells #[Value.int .i64 (R : Int), .int .i64 (C : Int), .string cs, .slice (some ⟨g, 0, none⟩) m cc, .int .i64 20000] 28) := ⟨_, rfl⟩
  rw [← hw3]
  have B3 : Hid (Below w2.heap.size w2 w3) := by unfold Hid; rw [hw3]; exact (Below.refl _ w2).alloc (Nat.le_refl _) _
  have y3 : Hid (∀ o, w3.cell? ⟨w2.heap.size, o, none⟩ = #[Value.int .i64 (R : Int), .int .i64 (C : Int), .string cs, .slice (some ⟨g, 0, none⟩) m cc, .int .i64 20000][o]?) := by
    rw [hw3]
    unfold Hid
    intro o; go_simp
  have z3 : Hid (∀ o, w3.frozen? ⟨w2.heap.size, o, none⟩ = false) := by
    rw [hw3]
    unfold Hid
    intro o; go_simp
  have hz3 : w3.heap.size = w2.heap.size + 1 := by rw [hw3]; simp
  clear hw3
  have q0 := y3.out 0
  have q1 := y3.out 1
  have q2 := y3.out 2
  have q3 := y3.out 3
  have q4 := y3.out 4
  go_wp2_with fail
  refine (POS.out 20000 _ (by omega) (by omega) B3.out).mono ?_
  rintro e w4 ⟨n1, d1, ht1, hway1, hb4⟩
  have T1 := Hid.mk ht1
  have b4 := Hid.mk hb4
  have B4 : Hid (Below w2.heap.size w2 w4) := B3.out.trans (hb4.mono (by omega))
  have hz4 := hb4.size
  have y4 : Hid (∀ o, w4.cell? ⟨w2.heap.size, o, none⟩ = #[Value.int .i64 (R : Int), .int .i64 (C : Int), .string cs, .slice (some ⟨g, 0, none⟩) m cc, .int .i64 20000][o]?) := fun o => (hb4.cell (p := ⟨w2.heap.size, o, none⟩) (by show w2.heap.size < w3.heap.size; omega)).trans (y3.out o)
  have z4 : Hid (∀ o, w4.frozen? ⟨w2.heap.size, o, none⟩ = false) := fun o => (hb4.frozen (p := ⟨w2.heap.size, o, none⟩) (by show w2.heap.size < w3.heap.size; omega)).trans (z3.out o)
  clear q0 q1 q2 q3 q4 ht1 hb4
  have q0 := y4.out 0
  have q1 := y4.out 1
  have q2 := y4.out 2
  have q3 := y4.out 3
  have q4 := y4.out 4
  rcases hway1 with ⟨hn1, rfl⟩ | ⟨hn1, rfl⟩
  · have HN1 := Hid.mk hn1
    clear hn1
    go_wp2_with fail
    refine (SOL.out 20000 _ (by omega) (by omega) B4.out).mono ?_
    rintro e w5 ⟨n2, d2, ht2, hway2, hb5⟩
    have B5 : Hid (Below w2.heap.size w2 w5) := B4.out.trans (hb5.mono (by omega))
    have hz5 := hb5.size
    have hiff := (ALL.out 20000 n1 n2 d1 d2 T1.out ht2).1 HN1.out
    have y5 : Hid (∀ o, w5.cell? ⟨w2.heap.size, o, none⟩ = #[Value.int .i64 (R : Int), .int .i64 (C : Int), .string cs, .slice (some ⟨g, 0, none⟩) m cc, .int .i64 20000][o]?) := fun o => (hb5.cell (p := ⟨w2.heap.size, o, none⟩) (by show w2.heap.size < w4.heap.size; omega)).trans (y4.out o)
    have HIFF := Hid.mk hiff
    rcases hway2 with ⟨_, rfl⟩ | ⟨q, _⟩ | ⟨q, _⟩
    · clear q0 q1 q2 q3 q4 ht2 hb5 hiff
      have q0 := y5.out 0
      have q1 := y5.out 1
      have q2 := y5.out 2
      have q3 := y5.out 3
      have q4 := y5.out 4
      go_wp2_with fail
      refine (MAN.out 20000 _).mono ?_
      rintro e w6 ⟨mb, rfl, hmb, hb6⟩
      have hmt : mb = true := hmb ⟨n1, d1, T1.out, HN1.out⟩
      subst hmt
      have B6 : Hid (Below w2.heap.size w2 w6) := B5.out.trans (hb6.mono (by omega))
      clear hmb hb6 q0 q1 q2 q3 q4
      go_wp2_with fail
      go_ret
      exact ⟨rfl, BW2.out.trans (B6.out.mono BW2.out.size)⟩
    · exact absurd hiff (by omega)
    · exact absurd hiff (by omega)
  · have HN1 := Hid.mk hn1
    have h1n := ONE.out 20000 n1 d1 T1.out
    have hn20 : n1 ≤ 20000 := by omega
    clear hn1
    go_wp2_with fail
    refine (SOL.out 20000 _ (by omega) (by omega) B4.out).mono ?_
    rintro e w5 ⟨n2, d2, ht2, hway2, hb5⟩
    have B5 : Hid (Below w2.heap.size w2 w5) := B4.out.trans (hb5.mono (by omega))
    have hz5 := hb5.size
    obtain ⟨hiff, hsame⟩ := OTH.out 20000 20000 n1 n2 d1 d2 T1.out (by have := HN1.out; omega) ht2
    have y5 : Hid (∀ o, w5.cell? ⟨w2.heap.size, o, none⟩ = #[Value.int .i64 (R : Int), .int .i64 (C : Int), .string cs, .slice (some ⟨g, 0, none⟩) m cc, .int .i64 20000][o]?) := fun o => (hb5.cell (p := ⟨w2.heap.size, o, none⟩) (by show w2.heap.size < w4.heap.size; omega)).trans (y4.out o)
    have z5 : Hid (∀ o, w5.frozen? ⟨w2.heap.size, o, none⟩ = false) := fun o => (hb5.frozen (p := ⟨w2.heap.size, o, none⟩) (by show w2.heap.size < w4.heap.size; omega)).trans (z4.out o)
    obtain ⟨hx2, hd2⟩ := hsame (by have := HN1.out; omega)
    clear hx2
    subst hd2
    obtain ⟨vs, cst, er, rfl, HER⟩ : ∃ vs cst er, e = .returned (.tuple #[vs, .int .i64 (cst : Nat), .int .i64 (er : Nat)]) ∧ Hid (((d1 = false ∧ vs = .slice none 0 0 ∧ cst = 0 ∧ er = 9) ∨ (d1 = true ∧ cst = K ∧ er = 0 ∧ ∃ b l, vs = .slice (some ⟨b, 0, none⟩) l l))) := by
      rcases hway2 with ⟨q, _⟩ | ⟨_, q, rfl⟩ | ⟨_, q, b, l, rfl⟩
      · exact absurd (hiff.2 q) (by have := HN1.out; omega)
      · exact ⟨_, 0, 9, rfl, .inl ⟨q, rfl, rfl, rfl⟩⟩
      · exact ⟨_, K, 0, rfl, .inr ⟨q, rfl, rfl, b, l, rfl⟩⟩
    clear hway2 hiff hsame ht2 hb5 q0 q1 q2 q3 q4
    rcases HER.out with ⟨rfl, rfl, rfl, rfl⟩ | ⟨rfl, rfl, rfl, b, l, rfl⟩
    · clear HER
      have q0 := y5.out 0
      have q1 := y5.out 1
      have q2 := y5.out 2
      have q3 := y5.out 3
      have q4 := y5.out 4
      have qf := z5.out 4
      go_upto_region 9 with fail
      have B6 : Hid (Below w2.heap.size w2 (w5.setCell ⟨w2.heap.size, 4, none⟩ (.int .i64 (n1 : Nat)))) := B5.out.setCell (p := ⟨w2.heap.size, 4, none⟩) (Nat.le_refl _) _
      have y6 : Hid (∀ o, (w5.setCell ⟨w2.heap.size, 4, none⟩ (.int .i64 (n1 : Nat))).cell? ⟨w2.heap.size, o, none⟩ = #[Value.int .i64 (R : Int), .int .i64 (C : Int), .string cs, .slice (some ⟨g, 0, none⟩) m cc, .int .i64 (n1 : Nat)][o]?) := fun o => by
        by_cases e : o = 4
        · subst e
          rw [World.cell?_setCell_same _ _ _ (by rw [q4]; rfl)]; rfl
        · rw [World.cell?_setCell_other _ _ _ _ (fun h => e (congrArg Addr.off h).symm), y5.out o]
          match o, e with
          | 0, _ => rfl
          | 1, _ => rfl
          | 2, _ => rfl
          | 3, _ => rfl
          | 4, e => exact absurd rfl e
          | o + 5, _ => simp
      have z6 : Hid (∀ o, (w5.setCell ⟨w2.heap.size, 4, none⟩ (.int .i64 (n1 : Nat))).frozen? ⟨w2.heap.size, o, none⟩ = false) := fun o => by rw [World.frozen?_setCell]; exact z5.out o
      have hz6 : (w5.setCell ⟨w2.heap.size, 4, none⟩ (.int .i64 (n1 : Nat))).heap.size = w5.heap.size := by simp [World.setCell]
      generalize (w5.setCell ⟨w2.heap.size, 4, none⟩ (.int .i64 (n1 : Nat))) = w6 at *
      clear q0 q1 q2 q3 q4 qf
      have q0 := y6.out 0
      have q1 := y6.out 1
      have q2 := y6.out 2
      have q3 := y6.out 3
      have q4 := y6.out 4
      go_wp2_with fail
      refine (POS.out (n1 : Nat) _ (by omega) (by omega) B6.out).mono ?_
      rintro e w7 ⟨n3, d3, ht3, hway3, hb7⟩
      obtain ⟨hiff, hsame⟩ := OTH.out 20000 (n1 : Nat) n1 n3 false d3 T1.out (by have := HN1.out; omega) ht3
      have hno : ¬ ((n1 : Nat) : Int) < n1 := by omega
      obtain ⟨e3, ed3⟩ := hsame (by omega)
      subst e3 ed3
      have B7 : Hid (Below w2.heap.size w2 w7) := B6.out.trans (hb7.mono (by omega))
      have hz7 := hb7.size
      have y7 : Hid (∀ o, w7.cell? ⟨w2.heap.size, o, none⟩ = #[Value.int .i64 (R : Int), .int .i64 (C : Int), .string cs, .slice (some ⟨g, 0, none⟩) m cc, .int .i64 (n1 : Nat)][o]?) := fun o => (hb7.cell (p := ⟨w2.heap.size, o, none⟩) (by show w2.heap.size < w6.heap.size; omega)).trans (y6.out o)
      have z7 : Hid (∀ o, w7.frozen? ⟨w2.heap.size, o, none⟩ = false) := fun o => (hb7.frozen (p := ⟨w2.heap.size, o, none⟩) (by show w2.heap.size < w6.heap.size; omega)).trans (z6.out o)
      rcases hway3 with ⟨q, _⟩ | ⟨_, rfl⟩
      · exact absurd q (by omega)
      clear q0 q1 q2 q3 q4 hb7 ht3 hiff hsame
      have q0 := y7.out 0
      have q1 := y7.out 1
      have q2 := y7.out 2
      have q3 := y7.out 3
      have q4 := y7.out 4
      have HNO := Hid.mk hno
      clear hno
      go_wp2_with fail
      refine (SOL.out (n1 : Nat) _ (by omega) (by omega) B7.out).mono ?_
      rintro e w8 ⟨n4, d4, ht4, hway4, hb8⟩
      obtain ⟨hiff, hsame⟩ := OTH.out 20000 (n1 : Nat) n1 n4 false d4 T1.out (by have := HN1.out; omega) ht4
      obtain ⟨e4, ed4⟩ := hsame (by omega)
      subst e4 ed4
      have B8 : Hid (Below w2.heap.size w2 w8) := B7.out.trans (hb8.mono (by omega))
      have hz8 := hb8.size
      have y8 : Hid (∀ o, w8.cell? ⟨w2.heap.size, o, none⟩ = #[Value.int .i64 (R : Int), .int .i64 (C : Int), .string cs, .slice (some ⟨g, 0, none⟩) m cc, .int .i64 (n1 : Nat)][o]?) := fun o => (hb8.cell (p := ⟨w2.heap.size, o, none⟩) (by show w2.heap.size < w7.heap.size; omega)).trans (y7.out o)
      have z8 : Hid (∀ o, w8.frozen? ⟨w2.heap.size, o, none⟩ = false) := fun o => (hb8.frozen (p := ⟨w2.heap.size, o, none⟩) (by show w2.heap.size < w7.heap.size; omega)).trans (z7.out o)
      obtain ⟨vs, rfl, HVS⟩ : ∃ vs, e = .returned (.tuple #[vs, .int .i64 (0 : Nat), .int .i64 (9 : Nat)]) ∧ Hid (vs = .slice none 0 0 ∨ ∃ b l, vs = .slice (some ⟨b, 0, none⟩) l l) := by
        rcases hway4 with ⟨q, _⟩ | ⟨_, q, rfl⟩ | ⟨_, q, b, l, rfl⟩
        · exact absurd q (by omega)
        · exact ⟨_, rfl, .inl rfl⟩
        · cases q
      clear q0 q1 q2 q3 q4 hb8 ht4 hiff hsame hway4
      have q0 := y8.out 0
      have q1 := y8.out 1
      have q2 := y8.out 2
      have q3 := y8.out 3
      have q4 := y8.out 4
      have qf := z8.out 4
      obtain ⟨av, lv, cv, rfl⟩ : ∃ av lv cv, vs = .slice av lv cv := by
        rcases HVS.out with h | ⟨b, l, h⟩
        · exact ⟨_, _, _, h⟩
        · exact ⟨_, _, _, h⟩
      by_cases hone : n1 = 1
      · have honeI : ((n1 : Int) == 1) = true := by simp; omega
        clear q0 q1 q2 q3 q4 qf
        go_wp2_with fail
        go_ret
        exact ⟨rfl, BW2.out.trans (B8.out.mono BW2.out.size)⟩
      · have honeI : ((n1 : Int) == 1) = false := by simp; omega
        obtain ⟨n2', hn2'⟩ : ∃ k, k = n1 - 1 := ⟨_, rfl⟩
        have hnI : ((n1 : Nat) : Int) - 1 = ((n2' : Nat) : Int) := by omega
        have PK : Hid (∀ u : World, Calls Tryd.prog 21 #[.int .i64 less, .int .i64 (((n1 : Nat) : Int) - 1)] u fun e w' => ∃ r : Nat, r < n1 - 1 ∧ e = .returned (.int .i64 r) ∧ w' = u) := fun u => by
          rw [hnI]
          refine (pick_any less n2' u (by omega) (by omega) HL.out).mono ?_
          rintro e w' ⟨r, h1, h2, h3⟩
          exact ⟨r, by omega, h2, h3⟩
        clear hn2' hnI
        go_wp2_with fail
        refine (PK.out _).mono ?_
        rintro e w9 ⟨r, hr, rfl, hw9⟩
        rw [hw9]
        clear honeI hw9
        go_upto_region 16 with fail
        have B10 : Hid (Below w2.heap.size w2 (w8.setCell ⟨w2.heap.size, 4, none⟩ (.int .i64 (1 + (r : Nat) : Int)))) := B8.out.setCell (p := ⟨w2.heap.size, 4, none⟩) (Nat.le_refl _) _
        have y10 : Hid (∀ o, (w8.setCell ⟨w2.heap.size, 4, none⟩ (.int .i64 (1 + (r : Nat) : Int))).cell? ⟨w2.heap.size, o, none⟩ = #[Value.int .i64 (R : Int), .int .i64 (C : Int), .string cs, .slice (some ⟨g, 0, none⟩) m cc, .int .i64 (1 + (r : Nat) : Int)][o]?) := fun o => by
          by_cases e : o = 4
          · subst e
            rw [World.cell?_setCell_same _ _ _ (by rw [q4]; rfl)]; rfl
          · rw [World.cell?_setCell_other _ _ _ _ (fun h => e (congrArg Addr.off h).symm), y8.out o]
            match o, e with
            | 0, _ => rfl
            | 1, _ => rfl
            | 2, _ => rfl
            | 3, _ => rfl
            | 4, e => exact absurd rfl e
            | o + 5, _ => simp
        have hz10 : (w8.setCell ⟨w2.heap.size, 4, none⟩ (.int .i64 (1 + (r : Nat) : Int))).heap.size = w8.heap.size := by simp [World.setCell]
        generalize (w8.setCell ⟨w2.heap.size, 4, none⟩ (.int .i64 (1 + (r : Nat) : Int))) = w10 at *
        clear q0 q1 q2 q3 q4 qf
        have q0 := y10.out 0
        have q1 := y10.out 1
        have q2 := y10.out 2
        have q3 := y10.out 3
        have q4 := y10.out 4
        go_wp2_with fail
        refine (POS.out (1 + (r : Nat) : Int) _ (by omega) (by omega) B10.out).mono ?_
        rintro e w11 ⟨n5, d5, ht5, hway5, hb11⟩
        have hiff5 := (OTH.out 20000 (1 + (r : Nat) : Int) n1 n5 false d5 T1.out (by have := HN1.out; omega) ht5).1
        have B11 : Hid (Below w2.heap.size w2 w11) := B10.out.trans (hb11.mono (by omega))
        have hz11 := hb11.size
        have y11 : Hid (∀ o, w11.cell? ⟨w2.heap.size, o, none⟩ = #[Value.int .i64 (R : Int), .int .i64 (C : Int), .string cs, .slice (some ⟨g, 0, none⟩) m cc, .int .i64 (1 + (r : Nat) : Int)][o]?) := fun o => (hb11.cell (p := ⟨w2.heap.size, o, none⟩) (by show w2.heap.size < w10.heap.size; omega)).trans (y10.out o)
        have hlt5 := hiff5.1 (by omega)
        rcases hway5 with ⟨_, rfl⟩ | ⟨q, _⟩
        · clear q0 q1 q2 q3 q4 hb11 ht5 hiff5 hlt5
          have q0 := y11.out 0
          have q1 := y11.out 1
          have q2 := y11.out 2
          have q3 := y11.out 3
          have q4 := y11.out 4
          go_wp2_with fail
          refine (SOL.out (1 + (r : Nat) : Int) _ (by omega) (by omega) B11.out).mono ?_
          rintro e w12 ⟨n6, d6, ht6, hway6, hb12⟩
          have hiff6 := (OTH.out 20000 (1 + (r : Nat) : Int) n1 n6 false d6 T1.out (by have := HN1.out; omega) ht6).1
          have B12 : Hid (Below w2.heap.size w2 w12) := B11.out.trans (hb12.mono (by omega))
          have hlt6 := hiff6.1 (by omega)
          rcases hway6 with ⟨_, rfl⟩ | ⟨q, _⟩ | ⟨q, _⟩
          · clear q0 q1 q2 q3 q4 hb12 ht6 hiff6 hlt6
            go_wp2_with fail
            go_ret
            exact ⟨rfl, BW2.out.trans (B12.out.mono BW2.out.size)⟩
          · exact absurd hlt6 (by omega)
          · exact absurd hlt6 (by omega)
        · exact absurd hlt5 (by omega)
    · clear HER
      have q0 := y5.out 0
      have q1 := y5.out 1
      have q2 := y5.out 2
      have q3 := y5.out 3
      have q4 := y5.out 4
      have qf := z5.out 4
      go_upto_region 9 with fail
      have B6 : Hid (Below w2.heap.size w2 (w5.setCell ⟨w2.heap.size, 4, none⟩ (.int .i64 (n1 : Nat)))) := B5.out.setCell (p := ⟨w2.heap.size, 4, none⟩) (Nat.le_refl _) _
      have y6 : Hid (∀ o, (w5.setCell ⟨w2.heap.size, 4, none⟩ (.int .i64 (n1 : Nat))).cell? ⟨w2.heap.size, o, none⟩ = #[Value.int .i64 (R : Int), .int .i64 (C : Int), .string cs, .slice (some ⟨g, 0, none⟩) m cc, .int .i64 (n1 : Nat)][o]?) := fun o => by
        by_cases e : o = 4
        · subst e
          rw [World.cell?_setCell_same _ _ _ (by rw [q4]; rfl)]; rfl
        · rw [World.cell?_setCell_other _ _ _ _ (fun h => e (congrArg Addr.off h).symm), y5.out o]
          match o, e with
          | 0, _ => rfl
          | 1, _ => rfl
          | 2, _ => rfl
          | 3, _ => rfl
          | 4, e => exact absurd rfl e
          | o + 5, _ => simp
      have z6 : Hid (∀ o, (w5.setCell ⟨w2.heap.size, 4, none⟩ (.int .i64 (n1 : Nat))).frozen? ⟨w2.heap.size, o, none⟩ = false) := fun o => by rw [World.frozen?_setCell]; exact z5.out o
      have hz6 : (w5.setCell ⟨w2.heap.size, 4, none⟩ (.int .i64 (n1 : Nat))).heap.size = w5.heap.size := by simp [World.setCell]
      generalize (w5.setCell ⟨w2.heap.size, 4, none⟩ (.int .i64 (n1 : Nat))) = w6 at *
      clear q0 q1 q2 q3 q4 qf
      have q0 := y6.out 0
      have q1 := y6.out 1
      have q2 := y6.out 2
      have q3 := y6.out 3
      have q4 := y6.out 4
      go_wp2_with fail
      refine (POS.out (n1 : Nat) _ (by omega) (by omega) B6.out).mono ?_
      rintro e w7 ⟨n3, d3, ht3, hway3, hb7⟩
      obtain ⟨hiff, hsame⟩ := OTH.out 20000 (n1 : Nat) n1 n3 true d3 T1.out (by have := HN1.out; omega) ht3
      have hno : ¬ ((n1 : Nat) : Int) < n1 := by omega
      obtain ⟨e3, ed3⟩ := hsame (by omega)
      subst e3 ed3
      have B7 : Hid (Below w2.heap.size w2 w7) := B6.out.trans (hb7.mono (by omega))
      have hz7 := hb7.size
      have y7 : Hid (∀ o, w7.cell? ⟨w2.heap.size, o, none⟩ = #[Value.int .i64 (R : Int), .int .i64 (C : Int), .string cs, .slice (some ⟨g, 0, none⟩) m cc, .int .i64 (n1 : Nat)][o]?) := fun o => (hb7.cell (p := ⟨w2.heap.size, o, none⟩) (by show w2.heap.size < w6.heap.size; omega)).trans (y6.out o)
      have z7 : Hid (∀ o, w7.frozen? ⟨w2.heap.size, o, none⟩ = false) := fun o => (hb7.frozen (p := ⟨w2.heap.size, o, none⟩) (by show w2.heap.size < w6.heap.size; omega)).trans (z6.out o)
      rcases hway3 with ⟨q, _⟩ | ⟨_, rfl⟩
      · exact absurd q (by omega)
      clear q0 q1 q2 q3 q4 hb7 ht3 hiff hsame
      have q0 := y7.out 0
      have q1 := y7.out 1
      have q2 := y7.out 2
      have q3 := y7.out 3
      have q4 := y7.out 4
      have HNO := Hid.mk hno
      clear hno
      go_wp2_with fail
      refine (SOL.out (n1 : Nat) _ (by omega) (by omega) B7.out).mono ?_
      rintro e w8 ⟨n4, d4, ht4, hway4, hb8⟩
      obtain ⟨hiff, hsame⟩ := OTH.out 20000 (n1 : Nat) n1 n4 true d4 T1.out (by have := HN1.out; omega) ht4
      obtain ⟨e4, ed4⟩ := hsame (by omega)
      subst e4 ed4
      have B8 : Hid (Below w2.heap.size w2 w8) := B7.out.trans (hb8.mono (by omega))
      have hz8 := hb8.size
      have y8 : Hid (∀ o, w8.cell? ⟨w2.heap.size, o, none⟩ = #[Value.int .i64 (R : Int), .int .i64 (C : Int), .string cs, .slice (some ⟨g, 0, none⟩) m cc, .int .i64 (n1 : Nat)][o]?) := fun o => (hb8.cell (p := ⟨w2.heap.size, o, none⟩) (by show w2.heap.size < w7.heap.size; omega)).trans (y7.out o)
      have z8 : Hid (∀ o, w8.frozen? ⟨w2.heap.size, o, none⟩ = false) := fun o => (hb8.frozen (p := ⟨w2.heap.size, o, none⟩) (by show w2.heap.size < w7.heap.size; omega)).trans (z7.out o)
      obtain ⟨vs, rfl, HVS⟩ : ∃ vs, e = .returned (.tuple #[vs, .int .i64 (cst : Nat), .int .i64 (0 : Nat)]) ∧ Hid (vs = .slice none 0 0 ∨ ∃ b l, vs = .slice (some ⟨b, 0, none⟩) l l) := by
        rcases hway4 with ⟨q, _⟩ | ⟨_, q, rfl⟩ | ⟨_, q, b, l, rfl⟩
        · exact absurd q (by omega)
        · cases q
        · exact ⟨_, rfl, .inr ⟨b, l, rfl⟩⟩
      clear q0 q1 q2 q3 q4 hb8 ht4 hiff hsame hway4
      have q0 := y8.out 0
      have q1 := y8.out 1
      have q2 := y8.out 2
      have q3 := y8.out 3
      have q4 := y8.out 4
      have qf := z8.out 4
      obtain ⟨av, lv, cv, rfl⟩ : ∃ av lv cv, vs = .slice av lv cv := by
        rcases HVS.out with h | ⟨b, l, h⟩
        · exact ⟨_, _, _, h⟩
        · exact ⟨_, _, _, h⟩
      by_cases hone : n1 = 1
      · have honeI : ((n1 : Int) == 1) = true := by simp; omega
        clear q0 q1 q2 q3 q4 qf
        go_wp2_with fail
        go_ret
        exact ⟨rfl, BW2.out.trans (B8.out.mono BW2.out.size)⟩
      · have honeI : ((n1 : Int) == 1) = false := by simp; omega
        obtain ⟨n2', hn2'⟩ : ∃ k, k = n1 - 1 := ⟨_, rfl⟩
        have hnI : ((n1 : Nat) : Int) - 1 = ((n2' : Nat) : Int) := by omega
        have PK : Hid (∀ u : World, Calls Tryd.prog 21 #[.int .i64 less, .int .i64 (((n1 : Nat) : Int) - 1)] u fun e w' => ∃ r : Nat, r < n1 - 1 ∧ e = .returned (.int .i64 r) ∧ w' = u) := fun u => by
          rw [hnI]
          refine (pick_any less n2' u (by omega) (by omega) HL.out).mono ?_
          rintro e w' ⟨r, h1, h2, h3⟩
          exact ⟨r, by omega, h2, h3⟩
        clear hn2' hnI
        go_wp2_with fail
        refine (PK.out _).mono ?_
        rintro e w9 ⟨r, hr, rfl, hw9⟩
        rw [hw9]
        clear honeI hw9
        go_upto_region 16 with fail
        have B10 : Hid (Below w2.heap.size w2 (w8.setCell ⟨w2.heap.size, 4, none⟩ (.int .i64 (1 + (r : Nat) : Int)))) := B8.out.setCell (p := ⟨w2.heap.size, 4, none⟩) (Nat.le_refl _) _
        have y10 : Hid (∀ o, (w8.setCell ⟨w2.heap.size, 4, none⟩ (.int .i64 (1 + (r : Nat) : Int))).cell? ⟨w2.heap.size, o, none⟩ = #[Value.int .i64 (R : Int), .int .i64 (C : Int), .string cs, .slice (some ⟨g, 0, none⟩) m cc, .int .i64 (1 + (r : Nat) : Int)][o]?) := fun o => by
          by_cases e : o = 4
          · subst e
            rw [World.cell?_setCell_same _ _ _ (by rw [q4]; rfl)]; rfl
          · rw [World.cell?_setCell_other _ _ _ _ (fun h => e (congrArg Addr.off h).symm), y8.out o]
            match o, e with
            | 0, _ => rfl
            | 1, _ => rfl
            | 2, _ => rfl
            | 3, _ => rfl
            | 4, e => exact absurd rfl e
            | o + 5, _ => simp
        have hz10 : (w8.setCell ⟨w2.heap.size, 4, none⟩ (.int .i64 (1 + (r : Nat) : Int))).heap.size = w8.heap.size := by simp [World.setCell]
        generalize (w8.setCell ⟨w2.heap.size, 4, none⟩ (.int .i64 (1 + (r : Nat) : Int))) = w10 at *
        clear q0 q1 q2 q3 q4 qf
        have q0 := y10.out 0
        have q1 := y10.out 1
        have q2 := y10.out 2
        have q3 := y10.out 3
        have q4 := y10.out 4
        go_wp2_with fail
        refine (POS.out (1 + (r : Nat) : Int) _ (by omega) (by omega) B10.out).mono ?_
        rintro e w11 ⟨n5, d5, ht5, hway5, hb11⟩
        have hiff5 := (OTH.out 20000 (1 + (r : Nat) : Int) n1 n5 true d5 T1.out (by have := HN1.out; omega) ht5).1
        have B11 : Hid (Below w2.heap.size w2 w11) := B10.out.trans (hb11.mono (by omega))
        have hz11 := hb11.size
        have y11 : Hid (∀ o, w11.cell? ⟨w2.heap.size, o, none⟩ = #[Value.int .i64 (R : Int), .int .i64 (C : Int), .string cs, .slice (some ⟨g, 0, none⟩) m cc, .int .i64 (1 + (r : Nat) : Int)][o]?) := fun o => (hb11.cell (p := ⟨w2.heap.size, o, none⟩) (by show w2.heap.size < w10.heap.size; omega)).trans (y10.out o)
        have hlt5 := hiff5.1 (by omega)
        rcases hway5 with ⟨_, rfl⟩ | ⟨q, _⟩
        · clear q0 q1 q2 q3 q4 hb11 ht5 hiff5 hlt5
          have q0 := y11.out 0
          have q1 := y11.out 1
          have q2 := y11.out 2
          have q3 := y11.out 3
          have q4 := y11.out 4
          go_wp2_with fail
          refine (SOL.out (1 + (r : Nat) : Int) _ (by omega) (by omega) B11.out).mono ?_
          rintro e w12 ⟨n6, d6, ht6, hway6, hb12⟩
          have hiff6 := (OTH.out 20000 (1 + (r : Nat) : Int) n1 n6 true d6 T1.out (by have := HN1.out; omega) ht6).1
          have B12 : Hid (Below w2.heap.size w2 w12) := B11.out.trans (hb12.mono (by omega))
          have hlt6 := hiff6.1 (by omega)
          rcases hway6 with ⟨_, rfl⟩ | ⟨q, _⟩ | ⟨q, _⟩
          · clear q0 q1 q2 q3 q4 hb12 ht6 hiff6 hlt6
            go_wp2_with fail
            go_ret
            exact ⟨rfl, BW2.out.trans (B12.out.mono BW2.out.size)⟩
          · exact absurd hlt6 (by omega)
          · exact absurd hlt6 (by omega)
        · exact absurd hlt5 (by omega)

end Go.Proofs.YtnkgpinadgacgabDoor

namespace Go.Proofs.YtnkgpinadgacgabDoor
open M SM BM
section
variable {ro co bu : Int} {cs : ByteArray} {m : Nat} {fr tt : Nat → Int} {L : List (List Nat)} {F0 : Nat}
theorem stY_is (hs : PosG cs m (cellsOf fr m)) : ∀ t, t < m → IsFar cs.size (adjM co cs) ((cellsOf fr m).getD t 0) (stY co cs fr t) := fun t ht => by
  have h := (hs.1.2 t ht).1
  rw [cellsOf_at ht] at h ⊢
  exact stF_is (orow_isFar h)

theorem sol_gnd (hck : (checkM ro co cs m fr tt bu).1 = 0) (hW : Work (stepP ro co cs m) (cellsOf fr m) L L.length) (hg : cellsOf tt m ∈ L) (hL : L.length ≤ 20000) :
    Gnd (fun p => growL (mvN ro co cs) p m) (restF (stY co cs fr) m) m (cellsOf fr m) (cellsOf tt m) L ∧ (∀ p, p ∈ L → PosG cs m p ∧ PosOK m cs.size (stY co cs fr) p) ∧
      ∃ j b K, BM.Way (E (fun p => growL (mvN ro co cs) p m) m L) j (s0 m (cellsOf tt m)) b K ∧ b.1 = cellsOf fr m := by
  obtain ⟨s1, s2, s3⟩ := checkM_good hck
  obtain ⟨r1, r2⟩ := side_bd s1
  obtain ⟨r3, r4⟩ := side_bd s2
  obtain ⟨hm4, hfree⟩ := carts_free hck
  obtain ⟨_, hs36⟩ := mul_bd r1 r2 r3 r4
  obtain ⟨hp1, hp2⟩ := cells_pos hck
  obtain ⟨h1, h2⟩ := gnd_yard r3 r4 s3 (by omega) hm4 hp1 (stY_is (co := co) hp1) hW hg hL
  exact ⟨h1, h2, way_yard r3 r4 s3 hp1 hW hg h1⟩

/-- What the search tells is a way, and there is none of less. -/
theorem sol_least (hF : 200400000 ≤ F0) (hck : (checkM ro co cs m fr tt bu).1 = 0) (hW : Work (stepP ro co cs m) (cellsOf fr m) L L.length) (hg : cellsOf tt m ∈ L) (hL : L.length ≤ 20000) {b : St} {s' : Srch} (hsol : solY F0 ro co cs m fr tt = some (b, s')) :
    b.1 = cellsOf fr m ∧ (∃ j, BM.Way (E (fun p => growL (mvN ro co cs) p m) m L) j (s0 m (cellsOf tt m)) b (costO (s'.seen b))) ∧
      (∀ j b' K, BM.Way (E (fun p => growL (mvN ro co cs) p m) m L) j (s0 m (cellsOf tt m)) b' K → b'.1 = cellsOf fr m → costO (s'.seen b) ≤ K) := by
  obtain ⟨G, _, hway⟩ := sol_gnd hck hW hg hL
  obtain ⟨R, hn⟩ := run_begin G
  obtain ⟨x, s2, X2, hcome, hx, ⟨s3, hseen, hR3⟩, g, hgx, hleast⟩ := come_ok G hway F0 _ [] R (by unfold left; rw [hn]; simp only [List.length_nil]; omega)
  have e : some (x, s2) = some (b, s') := hcome.symm.trans hsol
  injection e with e
  injection e with e1 e2
  subst e1 e2
  have hk : costO (s2.seen x) = g := by
    cases e : s2.seen x with
    | none => rw [e] at hgx; cases hgx
    | some v => rw [e] at hgx; simp at hgx; exact hgx
  refine ⟨hx, ?_, fun j b' K W hb => by rw [hk]; exact hleast j b' K W hb⟩
  rw [hk]
  exact hR3.best.way x g (by rw [hseen]; exact hgx)

end
end Go.Proofs.YtnkgpinadgacgabDoor

namespace Go.Proofs.YtnkgpinadgacgabDoor
open M SM BM
/-- The second yard's cells, with a wall at r. -/
def wallC (cs : ByteArray) (r : Nat) : ByteArray := (cs.extract 0 r ++ ⟨#[35]⟩) ++ cs.extract (r + 1) cs.size

theorem wallC_size {cs : ByteArray} {r : Nat} (hr : r < cs.size) : (wallC cs r).size = cs.size := by
  unfold wallC
  rw [ByteArray.size_append, ByteArray.size_append, ByteArray.size_extract, ByteArray.size_extract]
  show min r cs.size - 0 + 1 + (min cs.size cs.size - (r + 1)) = cs.size
  omega

theorem wallC_at {cs : ByteArray} {r j : Nat} (hr : r < cs.size) (hj : j < (wallC cs r).size) : (wallC cs r)[j] = if h : j = r then 35 else cs[j]'(by rw [wallC_size hr] at hj; exact hj) := by
  have hs := wallC_size hr
  have e : (wallC cs r).data = (cs.data.extract 0 r ++ #[35]) ++ cs.data.extract (r + 1) cs.size := by
    unfold wallC
    rw [ByteArray.data_append, ByteArray.data_append, ByteArray.data_extract, ByteArray.data_extract]
  have hz : cs.data.size = cs.size := rfl
  have hl : (cs.data.extract 0 r).size = r := by rw [Array.size_extract]; omega
  have h1 : (wallC cs r)[j] = ((cs.data.extract 0 r ++ #[35]) ++ cs.data.extract (r + 1) cs.size)[j]'(by rw [← e]; exact hj) := by
    show (wallC cs r).data[j]'hj = _
    simp only [e]
  rw [h1]
  by_cases h : j = r
  · subst h
    rw [dif_pos rfl, Array.getElem_append_left (by rw [Array.size_append, hl]; simp), Array.getElem_append_right (by omega)]
    simp [hl]
  · rw [dif_neg h]
    by_cases h2 : j < r
    · rw [Array.getElem_append_left (by rw [Array.size_append, hl]; simp; omega), Array.getElem_append_left (by omega), Array.getElem_extract]
      show cs.data[0 + j]'_ = cs.data[j]'_
      simp
    · rw [Array.getElem_append_right (by rw [Array.size_append, hl]; simp; omega), Array.getElem_extract]
      show cs.data[_]'_ = cs.data[j]'_
      congr 1
      rw [Array.size_append, hl]
      show r + 1 + (j - (r + 1)) = j
      omega

/-- What is free with the wall is free without it. -/
def SubC (cs2 cs : ByteArray) : Prop := cs2.size = cs.size ∧ ∀ z : Int, freeB cs2 z = true → freeB cs z = true

theorem wall_sub {cs : ByteArray} {r : Nat} (hr : r < cs.size) : SubC (wallC cs r) cs ∧ (∀ z : Int, freeB cs z = true → z ≠ r → freeB (wallC cs r) z = true) := by
  have hs := wallC_size hr
  refine ⟨⟨hs, fun z hz => ?_⟩, fun z hz hne => ?_⟩
  · obtain ⟨n, e, hn⟩ := free_nat hz
    subst e
    rw [freeB_in (by omega) (by omega)] at hz ⊢
    simp only [Int.toNat_natCast] at hz ⊢
    rw [wallC_at hr] at hz
    by_cases h : n = r
    · rw [dif_pos h] at hz; cases hz
    · rw [dif_neg h] at hz; exact hz
  · obtain ⟨n, e, hn⟩ := free_nat hz
    subst e
    rw [freeB_in (by omega) (by omega)] at hz ⊢
    simp only [Int.toNat_natCast] at hz ⊢
    rw [wallC_at hr, dif_neg (by omega)]
    exact hz

theorem wall_bad {cs : ByteArray} {r : Nat} (hr : r < cs.size) (h : ∀ j, j < cs.size → badB cs j = false) : ∀ j, j < (wallC cs r).size → badB (wallC cs r) j = false := fun j hj => by
  have hs := wallC_size hr
  have hb := h j (by omega)
  rw [badB_in hj, wallC_at hr]
  rw [badB_in (by omega)] at hb
  by_cases e : j = r
  · rw [dif_pos e]; rfl
  · rw [dif_neg e]; exact hb

/-- The yard with the wall is a good one. -/
theorem check_wall {ro co U : Int} {cs : ByteArray} {m r : Nat} {fr tt : Nat → Int} (hr : r < cs.size) (h : (checkM ro co cs m fr tt U).1 = 0) (hc : ∀ i, i < m → fr i ≠ r ∧ tt i ≠ r) : (checkM ro co (wallC cs r) m fr tt U).1 = 0 := by
  have hs := wallC_size hr
  obtain ⟨_, hfree⟩ := carts_free h
  obtain ⟨_, hsub⟩ := wall_sub hr
  unfold checkM at h ⊢
  by_cases h1 : (sideB ro && sideB co) = false
  · rw [if_pos h1] at h; simp at h
  · rw [if_neg h1] at h ⊢
    by_cases h2 : 0 ≤ cellsM ro co cs
    · rw [if_pos h2] at h; simp at h
    · have h2' : ¬ 0 ≤ cellsM ro co (wallC cs r) := by
        unfold cellsM at h2 ⊢
        rw [hs]
        by_cases e : (cs.size : Int) ≠ ro * co
        · rw [if_pos e] at h2; exact absurd (Int.natCast_nonneg _) h2
        · rw [if_neg e] at h2 ⊢
          by_cases e2 : firstOf (badB cs) cs.size < cs.size
          · rw [if_pos e2] at h2; exact absurd (Int.natCast_nonneg _) h2
          · have e3 : ¬ firstOf (badB (wallC cs r)) cs.size < cs.size := fun hh => by
              have h7 := M.firstOf_is (p := badB (wallC cs r)) cs.size hh
              rw [wall_bad hr (fun j hj => M.firstOf_none e2 j hj) _ (by rw [hs]; exact hh)] at h7
              cases h7
            rw [if_neg e3]; decide
      rw [if_neg h2] at h
      rw [if_neg h2']
      by_cases h3 : m < 1 ∨ 4 < m
      · rw [if_pos h3] at h; simp at h
      · rw [if_neg h3] at h ⊢
        have ec : ∀ i, i < m → cartM (wallC cs r) fr tt i = cartM cs fr tt i := fun i hi => by
          unfold cartM
          obtain ⟨f1, f2⟩ := hfree i hi
          rw [f1, f2, hsub _ f1 (hc i hi).1, hsub _ f2 (hc i hi).2]
        by_cases h4 : firstOf (fun i => !(cartM cs fr tt i == 0)) m < m
        · rw [if_pos h4] at h
          have := M.firstOf_is (p := fun i => !(cartM cs fr tt i == 0)) m h4
          simp only [] at h this
          rw [h] at this; cases this
        · have h4' : ¬ firstOf (fun i => !(cartM (wallC cs r) fr tt i == 0)) m < m := fun hh => by
            have h7 := M.firstOf_is (p := fun i => !(cartM (wallC cs r) fr tt i == 0)) m hh
            rw [ec _ hh] at h7
            have h8 := M.firstOf_none h4 _ hh
            rw [h8] at h7
            cases h7
          rw [if_neg h4] at h
          rw [if_neg h4']
          exact h

section
variable {ro co : Int} {cs cs2 : ByteArray} {m : Nat}
theorem sub_pos (hS : SubC cs2 cs) {q : List Nat} (h : PosG cs2 m q) : PosG cs m q :=
  ⟨⟨h.1.1, fun k hk => ⟨by rw [← hS.1]; exact (h.1.2 k hk).1, hS.2 _ (h.1.2 k hk).2⟩⟩, h.2⟩

/-- Each step with the wall is one without it. -/
theorem sub_step (h1 : 1 ≤ co) (h2 : co ≤ 6) (hsz : (cs.size : Int) = ro * co) (hS : SubC cs2 cs) {p q : List Nat} (hp : PosG cs2 m p) (h : q ∈ growL (mvN ro co cs2) p m) : q ∈ growL (mvN ro co cs) p m := by
  have h3 := (step_same h1 h2 (by rw [hS.1]; exact hsz) hp.1).1 h
  refine (step_same h1 h2 hsz (sub_pos hS hp).1).2 ?_
  obtain ⟨g1, g2⟩ := growL_mem.1 h3
  refine growL_mem.2 ⟨g1, fun k hk => ⟨?_, (g2 k hk).2⟩⟩
  obtain ⟨g3, g4⟩ := mayN_mem.1 (g2 k hk).1
  refine mayN_mem.2 ⟨by rw [← hS.1]; exact g3, ?_⟩
  unfold mayM at g4 ⊢
  simp only [Bool.and_eq_true, decide_eq_true_eq] at g4 ⊢
  exact ⟨hS.2 _ g4.1, g4.2.1, by rw [← hS.1]; exact g4.2.2.1, g4.2.2.2⟩

theorem sub_reach (h1 : 1 ≤ co) (h2 : co ≤ 6) (hsz : (cs.size : Int) = ro * co) (hS : SubC cs2 cs) {s : List Nat} (hs : PosG cs2 m s) : ∀ {n : Nat} {q : List Nat}, reachN (stepP ro co cs2 m) s n q → reachN (stepP ro co cs m) s n q
  | 0, _, h => h
  | _ + 1, _, ⟨p, hp, h⟩ => ⟨p, sub_reach h1 h2 hsz hS hs hp, sub_step h1 h2 hsz hS (come_pos hs hp) h⟩

theorem sub_in (h1 : 1 ≤ co) (h2 : co ≤ 6) (hsz : (cs.size : Int) = ro * co) (hS : SubC cs2 cs) {s : List Nat} (hs : PosG cs2 m s) {L L2 : List (List Nat)} {i : Nat} (hW : Work (stepP ro co cs m) s L L.length) (hW2 : Work (stepP ro co cs2 m) s L2 i) : ∀ q, q ∈ L2 → q ∈ L := fun q hq => by
  obtain ⟨n, hn⟩ := hW2.come q hq
  exact hW.all rfl q ⟨n, sub_reach h1 h2 hsz hS hs hn⟩

theorem sub_way (h1 : 1 ≤ co) (h2 : co ≤ 6) (hsz : (cs.size : Int) = ro * co) (hS : SubC cs2 cs) {s t : List Nat} (hs : PosG cs2 m s) {L L2 : List (List Nat)} (hW : Work (stepP ro co cs m) s L L.length) (hW2 : Work (stepP ro co cs2 m) s L2 L2.length) :
    ∀ {j : Nat} {b : St} {K : Nat}, BM.Way (E (fun p => growL (mvN ro co cs2) p m) m L2) j (s0 m t) b K → BM.Way (E (fun p => growL (mvN ro co cs) p m) m L) j (s0 m t) b K
  | 0, b, K, W => W
  | j + 1, b, K, ⟨c, k1, d, W1, ⟨⟨g1, g2⟩, g3, g4, g5, g6⟩, e⟩ => by
    refine ⟨c, k1, d, sub_way h1 h2 hsz hS hs hW hW2 W1, ⟨⟨sub_in h1 h2 hsz hS hs hW hW2 _ g1, g2⟩, ?_, g4, g5, g6⟩, e⟩
    obtain ⟨n, hn⟩ := hW2.come _ g1
    exact sub_step h1 h2 hsz hS (come_pos hs hn) g3

end
end Go.Proofs.YtnkgpinadgacgabDoor

namespace Go.Proofs.YtnkgpinadgacgabDoor
open Go.RowKit M SM
section
variable {ro co bu : Int} {cs : ByteArray} {m : Nat} {fr tt : Nat → Int}
theorem pos_told (g cc : Nat) (w : World) (hck : (checkM ro co cs m fr tt bu).1 = 0) (hmc : m ≤ cc) (hm4 : m ≤ 4) (hs : cs.size ≤ 36) (hsd : SidesIn w) (hcs : CartsIn w g 0 m fr tt) :
    Calls Tryd.prog 14 #[.agg #[.int .i64 ro, .int .i64 co, .string cs, .slice (some ⟨g, 0, none⟩) m cc, .int .i64 bu]] w fun e w' =>
      ∃ (n : Nat) (d : Bool), M.Told (stepP ro co cs m) (cellsOf fr m) (cellsOf tt m) bu n d ∧ ((bu < n ∧ e = .returned (.tuple #[.int .i64 0, .bool false, .int .i64 10])) ∨ (¬ bu < n ∧ e = .returned (.tuple #[.int .i64 n, .bool d, .int .i64 0]))) ∧ Below w.heap.size w w' := by
  refine (positions_any ro co bu cs (some ⟨g, 0, none⟩) m cc fr tt w (by unfold maxLen; omega) (by unfold maxLen; omega) hmc hsd (fun _ => ⟨g, 0, rfl, hcs⟩)).mono ?_
  rintro e w' ⟨x, y, z, rfl, hp, hb⟩
  rcases hp with ⟨hc, _⟩ | ⟨_, n, d, ht, hp⟩
  · exact absurd hck hc
  · refine ⟨n, d, ht, ?_, hb⟩
    rcases hp with ⟨q, rfl, rfl, rfl⟩ | ⟨q, rfl, rfl, rfl⟩
    · exact .inl ⟨q, rfl⟩
    · exact .inr ⟨q, rfl⟩

theorem sol_told (F0 : Nat) (hF0 : 200400000 ≤ F0) (g cc : Nat) (w : World) (hck : (checkM ro co cs m fr tt bu).1 = 0) (hmc : m ≤ cc) (hm4 : m ≤ 4) (hs : cs.size ≤ 36) (hsd : SidesIn w) (hcs : CartsIn w g 0 m fr tt) :
    Calls Tryd.prog 15 #[.agg #[.int .i64 ro, .int .i64 co, .string cs, .slice (some ⟨g, 0, none⟩) m cc, .int .i64 bu]] w fun e w' =>
      ∃ (n : Nat) (d : Bool), M.Told (stepP ro co cs m) (cellsOf fr m) (cellsOf tt m) bu n d ∧ ((bu < n ∧ e = .returned (.tuple #[.slice none 0 0, .int .i64 0, .int .i64 10])) ∨ (¬ bu < n ∧ d = false ∧ e = .returned (.tuple #[.slice none 0 0, .int .i64 0, .int .i64 9])) ∨
        (¬ bu < n ∧ d = true ∧ ∃ b l, e = .returned (.tuple #[.slice (some ⟨b, 0, none⟩) l l, .int .i64 (costY F0 ro co cs m fr tt : Nat), .int .i64 0]))) ∧ Below w.heap.size w w' := by
  refine (solve_any F0 hF0 ro co bu cs (some ⟨g, 0, none⟩) m cc fr tt w (by unfold maxLen; omega) (by unfold maxLen; omega) hmc hsd (fun _ => ⟨g, 0, rfl, hcs⟩)).mono ?_
  rintro e w' ⟨x, y, z, rfl, hp, hb⟩
  rcases hp with ⟨hc, _⟩ | ⟨_, n, d, ht, hp⟩
  · exact absurd hck hc
  · refine ⟨n, d, ht, ?_, hb⟩
    rcases hp with ⟨q, rfl, rfl, rfl⟩ | ⟨q, rfl, rfl, rfl, rfl⟩ | ⟨q, rfl, rfl, L, k, b, s', _, _, _, hsol, hk, rfl, hpl⟩
    · exact .inl ⟨q, rfl⟩
    · exact .inr (.inl ⟨q, rfl, rfl⟩)
    · obtain ⟨gp, A, rfl, _⟩ := hpl
      have e : k = costY F0 ro co cs m fr tt := by
        rw [hk]
        unfold costY
        rw [hsol]
      exact .inr (.inr ⟨q, rfl, gp, _, by rw [e]⟩)

theorem many_told (g cc : Nat) (w : World) (hck : (checkM ro co cs m fr tt bu).1 = 0) (hs : cs.size ≤ 36) (hm4 : m ≤ 4) :
    Calls Tryd.prog 16 #[.agg #[.int .i64 ro, .int .i64 co, .string cs, .slice (some ⟨g, 0, none⟩) m cc, .int .i64 bu]] w fun e w' => ∃ mb : Bool, e = .returned (.bool mb) ∧ ((∃ n d, M.Told (stepP ro co cs m) (cellsOf fr m) (cellsOf tt m) bu n d ∧ bu < n) → mb = true) ∧ Below w.heap.size w w' := by
  obtain ⟨hpf, _⟩ := cells_pos hck
  have hfm : m ≤ (freeTo cs cs.size).length := by
    have := few_pos (m := m) (L := [cellsOf fr m]) (cs := cs) (by simp) (fun q hq => by simp at hq; rw [hq]; exact hpf)
    refine Nat.le_of_not_lt fun hlt => ?_
    have hz : ∀ k, (freeTo cs cs.size).length < k → k ≤ 4 → fallF (freeTo cs cs.size).length k = 0 := by
      intro k hk
      induction k with
      | zero => omega
      | succ k ih =>
        intro h4
        simp only [fallF]
        by_cases e : (freeTo cs cs.size).length = k
        · rw [e, Nat.sub_self, Nat.mul_zero]
        · rw [ih (by omega) (by omega), Nat.zero_mul]
    rw [hz m hlt hm4] at this
    simp at this
  refine (many_any ro co bu cs g m cc w hs hm4 hfm).mono ?_
  rintro e w' ⟨rfl, hb⟩
  refine ⟨_, rfl, fun ⟨n, d, ht, hlt⟩ => ?_, hb⟩
  obtain ⟨L, i, hW, hnL⟩ := told_work ht
  have h3 := few_pos (cs := cs) (m := m) hW.nodup fun q hq => by
    obtain ⟨j, hj⟩ := hW.come q hq
    exact come_pos hpf hj
  refine decide_eq_true ?_
  omega

theorem sol_some (F0 : Nat) (hF : 200400000 ≤ F0) {L : List (List Nat)} (hck : (checkM ro co cs m fr tt bu).1 = 0) (hW : Work (stepP ro co cs m) (cellsOf fr m) L L.length) (hg : cellsOf tt m ∈ L) (hL : L.length ≤ 20000) : ∃ b s', solY F0 ro co cs m fr tt = some (b, s') := by
  obtain ⟨G, _, hway⟩ := sol_gnd hck hW hg hL
  obtain ⟨R, hn⟩ := run_begin G
  obtain ⟨x, s2, X2, hcome, _⟩ := come_ok G hway F0 _ [] R (by unfold left; rw [hn]; simp only [List.length_nil]; omega)
  exact ⟨x, s2, hcome⟩

/-- What a wall more changes of what is told. -/
theorem wall_told (F0 : Nat) (hF : 200400000 ≤ F0) {cs2 : ByteArray} (hS : SubC cs2 cs) (hck : (checkM ro co cs m fr tt bu).1 = 0) (hck2 : (checkM ro co cs2 m fr tt bu).1 = 0) {n n2 : Nat} {d d2 : Bool}
    (h : M.Told (stepP ro co cs m) (cellsOf fr m) (cellsOf tt m) bu n d) (hn : ¬ bu < n) (h2 : M.Told (stepP ro co cs2 m) (cellsOf fr m) (cellsOf tt m) bu n2 d2) :
    n2 ≤ n ∧ 1 ≤ n2 ∧ (d2 = true → d = true ∧ costY F0 ro co cs m fr tt ≤ costY F0 ro co cs2 m fr tt) := by
  obtain ⟨s1, s2, s3⟩ := checkM_good hck
  obtain ⟨r3, r4⟩ := side_bd s2
  obtain ⟨_, hb20, _⟩ := check_bu hck
  obtain ⟨hp2, _⟩ := cells_pos hck2
  rcases h with ⟨L, hW, hnL, hd⟩ | ⟨L, i, _, _, q⟩
  · have key : ∀ {L2 : List (List Nat)} {i : Nat}, Work (stepP ro co cs2 m) (cellsOf fr m) L2 i → L2.length ≤ L.length ∧ 1 ≤ L2.length := fun {L2 i} hW2 =>
      ⟨nodup_len hW2.nodup (sub_in r3 r4 s3 hS hp2 hW hW2), List.length_pos_of_mem hW2.start⟩
    rcases h2 with ⟨L2, hW2, hnL2, hd2⟩ | ⟨L2, i, hW2, hnL2, q2⟩
    · obtain ⟨k1, k2⟩ := key hW2
      refine ⟨by omega, by omega, fun e => ?_⟩
      have hg2 : cellsOf tt m ∈ L2 := of_decide_eq_true (by rw [← hd2]; exact e)
      have hg := sub_in r3 r4 s3 hS hp2 hW hW2 _ hg2
      obtain ⟨b, s', hsol⟩ := sol_some F0 hF hck hW hg (by omega)
      obtain ⟨b2, s2', hsol2⟩ := sol_some F0 hF hck2 hW2 hg2 (by omega)
      obtain ⟨_, _, hleast⟩ := sol_least hF hck hW hg (by omega) hsol
      obtain ⟨hb2, ⟨j2, hway2⟩, _⟩ := sol_least hF hck2 hW2 hg2 (by omega) hsol2
      refine ⟨by rw [hd]; exact decide_eq_true hg, ?_⟩
      unfold costY
      rw [hsol, hsol2]
      exact hleast j2 b2 _ (sub_way r3 r4 s3 hS hp2 hW hW2 hway2) hb2
    · obtain ⟨k1, k2⟩ := key hW2
      omega
  · exact absurd q hn

end
end Go.Proofs.YtnkgpinadgacgabDoor
