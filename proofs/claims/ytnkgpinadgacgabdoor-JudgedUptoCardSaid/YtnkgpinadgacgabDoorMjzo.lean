/- Several texts in one: He, Ka, Kb, Hk, Kd, Ho. -/
import Derived.Test.YtnkgpinadgacgabDoorMjzc
import Derived.Test.YtnkgpinadgacgabDoorMjzm
import Derived.Test.YtnkgpinadgacgabDoorMjzn
import Derived.Test.YtnkgpinadgacgabDoorMjm
import Derived.Test.YtnkgpinadgacgabDoorMjzl
import Derived.Test.YtnkgpinadgacgabDoorMjk
import Derived.Test.YtnkgpinadgacgabDoorMjzj
namespace Go.Proofs.YtnkgpinadgacgabDoor.M
/-- f (f - 1) .. : k factors. -/
def fallF (f : Nat) : Nat → Nat
  | 0 => 1
  | k + 1 => fallF f k * (f - k)

/-- All lists of m different ones of A. -/
def injL (A : List Nat) : Nat → List (List Nat)
  | 0 => [[]]
  | m + 1 => (injL A m).flatMap fun q => (A.filter fun c => !q.contains c).map fun c => q ++ [c]

theorem injL_mem {A : List Nat} : ∀ {m : Nat} {q : List Nat}, q ∈ injL A m ↔ q.length = m ∧ q.Nodup ∧ ∀ c, c ∈ q → c ∈ A
  | 0, q => by
    simp only [injL, List.mem_singleton]
    constructor
    · intro h; subst h; exact ⟨rfl, List.nodup_nil, fun c hc => by cases hc⟩
    · intro h; exact List.eq_nil_of_length_eq_zero h.1
  | m + 1, q => by
    simp only [injL, List.mem_flatMap, List.mem_map, List.mem_filter]
    constructor
    · rintro ⟨q0, h0, c, ⟨hc, hn⟩, rfl⟩
      obtain ⟨h1, h2, h3⟩ := injL_mem.1 h0
      have hn : c ∉ q0 := by simpa using hn
      refine ⟨by simp [h1], List.nodup_append.2 ⟨h2, by simp, fun a ha b hb e => ?_⟩, fun z hz => ?_⟩
      · simp at hb; subst hb e; exact hn ha
      · rcases List.mem_append.1 hz with h | h
        · exact h3 z h
        · simp at h; subst h; exact hc
    · rintro ⟨h1, h2, h3⟩
      have hne : q ≠ [] := fun e => by rw [e] at h1; simp at h1
      have e := List.dropLast_concat_getLast hne
      have h4 := h2
      rw [← e] at h4
      obtain ⟨h5, _, h6⟩ := List.nodup_append.1 h4
      refine ⟨q.dropLast, injL_mem.2 ⟨by rw [List.length_dropLast]; omega, h5, fun c hc => h3 c (by rw [← e]; exact List.mem_append_left _ hc)⟩, q.getLast hne, ⟨h3 _ (List.getLast_mem hne), ?_⟩, e⟩
      have : q.getLast hne ∉ q.dropLast := fun hh => h6 _ hh _ (List.mem_singleton.2 rfl) rfl
      simpa using this

theorem filter_both (A : List Nat) (f : Nat → Bool) : (A.filter f).length + (A.filter fun c => !f c).length = A.length := by
  induction A with
  | nil => rfl
  | cons a A ih =>
    cases h : f a
    · rw [List.filter_cons_of_neg (by simp [h]), List.filter_cons_of_pos (by simp [h])]; simp only [List.length_cons]; omega
    · rw [List.filter_cons_of_pos h, List.filter_cons_of_neg (by simp [h])]; simp only [List.length_cons]; omega

theorem injL_len {A : List Nat} : ∀ m, (injL A m).length ≤ fallF A.length m
  | 0 => by simp [injL, fallF]
  | m + 1 => by
    have ih := injL_len (A := A) m
    have key : ∀ Q : List (List Nat), (∀ q, q ∈ Q → q.length = m ∧ q.Nodup ∧ ∀ c, c ∈ q → c ∈ A) → (Q.flatMap fun q => (A.filter fun c => !q.contains c).map fun c => q ++ [c]).length ≤ Q.length * (A.length - m) := by
      intro Q
      induction Q with
      | nil => intro _; simp
      | cons q Q ihQ =>
        intro h
        obtain ⟨h1, h2, h3⟩ := h q (by simp)
        have h4 := ihQ fun q' hq' => h q' (by simp [hq'])
        have h5 := filter_both A fun c => q.contains c
        have h6 : q.length ≤ (A.filter fun c => q.contains c).length := List.Nodup.length_le_of_subset h2 fun c hc => List.mem_filter.2 ⟨h3 c hc, by simpa using hc⟩
        simp only [List.flatMap_cons, List.length_append, List.length_map, List.length_cons]
        rw [Nat.add_mul, Nat.one_mul]
        omega
    have h2 := key (injL A m) fun q hq => injL_mem.1 hq
    show ((injL A m).flatMap fun q => (A.filter fun c => !q.contains c).map fun c => q ++ [c]).length ≤ fallF A.length m * (A.length - m)
    exact Nat.le_trans h2 (Nat.mul_le_mul ih (Nat.le_refl _))

theorem inj_few {A : List Nat} {m : Nat} {L : List (List Nat)} (hL : L.Nodup) (h : ∀ q, q ∈ L → q.length = m ∧ (∀ i, i < m → q.getD i 0 ∈ A) ∧ ∀ i k, i < m → k < m → i ≠ k → q.getD i 0 ≠ q.getD k 0) : L.length ≤ fallF A.length m := by
  refine Nat.le_trans (List.Nodup.length_le_of_subset hL fun q hq => ?_) (injL_len m)
  obtain ⟨h1, h2, h3⟩ := h q hq
  refine injL_mem.2 ⟨h1, ?_, fun c hc => ?_⟩
  · show List.Pairwise _ q
    rw [List.pairwise_iff_getElem]
    intro i k hi hk hik e
    have hne := h3 i k (by omega) (by omega) (by omega)
    rw [List.getD_eq_getElem?_getD, List.getD_eq_getElem?_getD, List.getElem?_eq_getElem hi, List.getElem?_eq_getElem hk] at hne
    exact hne e
  · obtain ⟨i, hi, rfl⟩ := List.mem_iff_getElem.1 hc
    have := h2 i (by omega)
    rw [List.getD_eq_getElem?_getD, List.getElem?_eq_getElem hi] at this
    exact this

end Go.Proofs.YtnkgpinadgacgabDoor.M

namespace Go.Proofs.YtnkgpinadgacgabDoor
open Go.RowKit M SM
theorem freeTo_nat (cs : ByteArray) : ∀ k : Nat, freeTo cs k = ((List.range k).filter fun c : Nat => freeB cs (c : Int)).map fun c : Nat => (c : Int)
  | 0 => rfl
  | k + 1 => by
    rw [freeTo, List.range_succ, List.filter_append, List.map_append, ← freeTo_nat cs k]
    by_cases h : freeB cs (k : Int) = true
    · rw [if_pos h]; simp [h]
    · rw [if_neg h]; simp [h]

/-- There are no more positions than the free cells allow. -/
theorem few_pos {cs : ByteArray} {m : Nat} {L : List (List Nat)} (hL : L.Nodup) (h : ∀ q, q ∈ L → PosG cs m q) : L.length ≤ fallF (freeTo cs cs.size).length m := by
  have e : (freeTo cs cs.size).length = ((List.range cs.size).filter fun c : Nat => freeB cs (c : Int)).length := by rw [freeTo_nat, List.length_map]
  rw [e]
  refine inj_few hL fun q hq => ⟨(h q hq).1.1, fun i hi => ?_, (h q hq).2⟩
  obtain ⟨h1, h2⟩ := (h q hq).1.2 i hi
  exact List.mem_filter.2 ⟨List.mem_range.2 h1, h2⟩

theorem fall_le {f : Nat} (hf : f ≤ 36) : ∀ k, k ≤ 4 → fallF f k ≤ 1679616
  | 0, _ => by simp [fallF]
  | 1, _ => by simp only [fallF]; omega
  | 2, _ => by
    simp only [fallF, Nat.one_mul, Nat.sub_zero]
    exact Nat.le_trans (Nat.mul_le_mul hf (show f - 1 ≤ 36 by omega)) (by decide)
  | 3, _ => by
    simp only [fallF, Nat.one_mul, Nat.sub_zero]
    exact Nat.le_trans (Nat.mul_le_mul (Nat.mul_le_mul hf (show f - 1 ≤ 36 by omega)) (show f - 2 ≤ 36 by omega)) (by decide)
  | 4, _ => by
    simp only [fallF, Nat.one_mul, Nat.sub_zero]
    exact Nat.le_trans (Nat.mul_le_mul (Nat.mul_le_mul (Nat.mul_le_mul hf (show f - 1 ≤ 36 by omega)) (show f - 2 ≤ 36 by omega)) (show f - 3 ≤ 36 by omega)) (by decide)
  | k + 5, h => by omega

set_option maxRecDepth 100000 in
set_option maxHeartbeats 2000000 in
theorem many_any (ro co bu : Int) (cs : ByteArray) (b m cc : Nat) (w : World) (hs : cs.size ≤ 36) (hm : m ≤ 4) (hmf : m ≤ (freeTo cs cs.size).length) :
    Calls Tryd.prog 16 #[.agg #[.int .i64 ro, .int .i64 co, .string cs, .slice (some ⟨b, 0, none⟩) m cc, .int .i64 bu]] w fun e w' =>
      e = .returned (.bool (decide (bu < (fallF (freeTo cs cs.size).length m : Nat)))) ∧ Below w.heap.size w w' := by
  obtain ⟨F, hF⟩ : ∃ F, F = (freeTo cs cs.size).length := ⟨_, rfl⟩
  have hF36 : F ≤ 36 := by rw [hF]; have := freeTo_len cs cs.size; omega
  rw [← hF] at hmf ⊢
  have FRE : Hid (∀ u : World, Calls Tryd.prog 39 #[.agg #[.int .i64 ro, .int .i64 co, .string cs, .slice (some ⟨b, 0, none⟩) m cc, .int .i64 bu]] u fun e w' => ∃ a c, e = .returned (.slice a F c) ∧ Below u.heap.size u w') := fun u => by
    refine (kfree_any ro co bu cs _ u hs).mono ?_
    rintro e w' ⟨v, rfl, ho, hb⟩
    obtain ⟨a, c, hv, _, _⟩ := own_form ho
    exact ⟨a, c, by rw [hv, hF], hb⟩
  clear hF
  go_enter Tryd.func16, Tryd.ntmps16
  go_wp2_with fail
  have B1 : Hid (Below w.heap.size w (w.alloc (Obj.cells #[Value.int IntKind.i64 ro, Value.int IntKind.i64 co, Value.string cs, .slice (some ⟨b, 0, none⟩) m cc, Value.int IntKind.i64 bu] 28))) := (Below.refl _ w).alloc (Nat.le_refl _) _
  have yc : ∀ o, (w.alloc (Obj.cells #[Value.int IntKind.i64 ro, Value.int IntKind.i64 co, Value.string cs, .slice (some ⟨b, 0, none⟩) m cc, Value.int IntKind.i64 bu] 28)).cell? ⟨w.heap.size, o, none⟩ = #[Value.int .i64 ro, .int .i64 co, .string cs, .slice (some ⟨b, 0, none⟩) m cc, .int .i64 bu][o]? := by
    intro o; go_simp
  have hz1 : (w.alloc (Obj.cells #[Value.int IntKind.i64 ro, Value.int IntKind.i64 co, Value.string cs, .slice (some ⟨b, 0, none⟩) m cc, Value.int IntKind.i64 bu] 28)).heap.size = w.heap.size + 1 := by simp
  generalize w.alloc (Obj.cells #[Value.int IntKind.i64 ro, Value.int IntKind.i64 co, Value.string cs, .slice (some ⟨b, 0, none⟩) m cc, Value.int IntKind.i64 bu] 28) = w1 at *
  refine (FRE.out _).mono ?_
  rintro e w2 ⟨a, c, rfl, hb2⟩
  have BW2 : Hid (Below w.heap.size w w2) := B1.out.trans (hb2.mono (by omega))
  have y3 := cell_later hb2 (yc 3)
  have y4 := cell_later hb2 (yc 4)
  clear hb2 yc
  go_wp2_with fail
  go_loopw [4, 5] (fun v4 v5 wr => ∃ i : Nat, i ≤ m ∧ v4 = .int .i64 (fallF F i : Nat) ∧ v5 = .int .i64 i ∧ w2 = wr) (fun _ v5 _ => m - (intOf v5).toNat)
  case atStart => exact ⟨0, Nat.zero_le _, rfl, rfl, rfl⟩
  case round =>
    obtain ⟨i, hi, rfl, rfl, rfl⟩ := hrel
    by_cases hlt : i < m
    · have hb := fall_le hF36 (i + 1) (by omega)
      have hN : ((fallF F i : Nat) : Int) * ((F : Int) - (i : Int)) = ((fallF F (i + 1) : Nat) : Int) := by
        simp only [fallF]
        rw [Int.natCast_mul, Int.natCast_sub (by omega)]
      obtain ⟨x, hx⟩ : ∃ x, x = fallF F i := ⟨_, rfl⟩
      obtain ⟨y, hy⟩ : ∃ y, y = fallF F (i + 1) := ⟨_, rfl⟩
      rw [← hy] at hb hN
      rw [← hx] at hN ⊢
      have HY := Hid.mk hy
      have HN := Hid.mk hN
      have hw1 : IntKind.i64.wrap ((F : Int) - (i : Int)) = (F : Int) - (i : Int) := by rw [IntKind.wrap_i64]; omega
      have hw2 : IntKind.i64.wrap ((x : Int) * ((F : Int) - (i : Int))) = (y : Int) := by rw [hN, IntKind.wrap_i64]; omega
      clear hx hy hN
      go_wp2
      go_roundw
      case rel => exact ⟨i + 1, by omega, by rw [← HY.out], by go_num, trivial⟩
      case measure => simp [intOf]; omega
    · have hd : i = m := by omega
      subst hd
      go_wp2
      go_ret
      exact ⟨rfl, BW2.out⟩

end Go.Proofs.YtnkgpinadgacgabDoor

namespace Go.Proofs.YtnkgpinadgacgabDoor
open Go.RowKit M SM
/-- What the search of a yard costs. -/
noncomputable def costY (F0 : Nat) (ro co : Int) (cs : ByteArray) (m : Nat) (fr tt : Nat → Int) : Nat := match solY F0 ro co cs m fr tt with
  | some (b, s') => costO (s'.seen b)
  | none => 0

theorem told_work {S : List Nat → List Nat → Prop} {s g : List Nat} {bu : Int} {n : Nat} {b : Bool} (h : M.Told S s g bu n b) : ∃ L i, Work S s L i ∧ n = L.length := by
  rcases h with ⟨L, h1, h2, _⟩ | ⟨L, i, h1, h2, _⟩
  · exact ⟨L, _, h1, h2⟩
  · exact ⟨L, i, h1, h2⟩

end Go.Proofs.YtnkgpinadgacgabDoor

namespace Go.Proofs.YtnkgpinadgacgabDoor
open M SM BM
section
variable {ro co bu : Int} {cs : ByteArray} {m : Nat} {fr tt : Nat → Int} {L : List (List Nat)} {F0 : Nat}
theorem stY_is (hs : PosG cs m (cellsOf fr m)) : ∀ t, t < m → IsFar cs.size (adjM co cs) ((cellsOf fr m).getD t 0) (stY co cs fr t) := fun t ht => by
  have h := (hs.1.2 t ht).1
  rw [cellsOf_at ht] at h ⊢
  exact stF_is (orow_isFar h)

theorem sol_gnd (hck : (checkM ro co cs m fr tt bu).1 = 0) (hW : Work (stepP ro co cs m) (cellsOf fr m) L L.length) (hg : cellsOf tt m ∈ L) (hL : L.length ≤ 20000) :
    Gnd (fun p => growL (mvN ro co cs) p m) (restF (stY co cs fr) m) m (cellsOf fr m) (cellsOf tt m) L ∧ (∀ p, p ∈ L → PosG cs m p ∧ PosOK m cs.size (stY co cs fr) p) ∧
      ∃ j b K, BM.Way (E (fun p => growL (mvN ro co cs) p m) m L) j (s0 m (cellsOf tt m)) b K ∧ b.1 = cellsOf fr m := by
  obtain ⟨s1, s2, s3⟩ := checkM_good hck
  obtain ⟨r1, r2⟩ := side_bd s1
  obtain ⟨r3, r4⟩ := side_bd s2
  obtain ⟨hm4, hfree⟩ := carts_free hck
  obtain ⟨_, hs36⟩ := mul_bd r1 r2 r3 r4
  obtain ⟨hp1, hp2⟩ := cells_pos hck
  obtain ⟨h1, h2⟩ := gnd_yard r3 r4 s3 (by omega) hm4 hp1 (stY_is (co := co) hp1) hW hg hL
  exact ⟨h1, h2, way_yard r3 r4 s3 hp1 hW hg h1⟩

/-- What the search tells is a way, and there is none of less. -/
theorem sol_least (hF : 200400000 ≤ F0) (hck : (checkM ro co cs m fr tt bu).1 = 0) (hW : Work (stepP ro co cs m) (cellsOf fr m) L L.length) (hg : cellsOf tt m ∈ L) (hL : L.length ≤ 20000) {b : St} {s' : SM.Srch} (hsol : solY F0 ro co cs m fr tt = some (b, s')) :
    b.1 = cellsOf fr m ∧ (∃ j, BM.Way (E (fun p => growL (mvN ro co cs) p m) m L) j (s0 m (cellsOf tt m)) b (costO (s'.seen b))) ∧
      (∀ j b' K, BM.Way (E (fun p => growL (mvN ro co cs) p m) m L) j (s0 m (cellsOf tt m)) b' K → b'.1 = cellsOf fr m → costO (s'.seen b) ≤ K) := by
  obtain ⟨G, _, hway⟩ := sol_gnd hck hW hg hL
  obtain ⟨R, hn⟩ := run_begin G
  obtain ⟨x, s2, X2, hcome, hx, ⟨s3, hseen, hR3⟩, g, hgx, hleast⟩ := come_ok G hway F0 _ [] R (by unfold left; rw [hn]; simp only [List.length_nil]; omega)
  have e : some (x, s2) = some (b, s') := hcome.symm.trans hsol
  injection e with e
  injection e with e1 e2
  subst e1 e2
  have hk : costO (s2.seen x) = g := by
    cases e : s2.seen x with
    | none => rw [e] at hgx; cases hgx
    | some v => rw [e] at hgx; simp at hgx; exact hgx
  refine ⟨hx, ?_, fun j b' K W hb => by rw [hk]; exact hleast j b' K W hb⟩
  rw [hk]
  exact hR3.best.way x g (by rw [hseen]; exact hgx)

end
end Go.Proofs.YtnkgpinadgacgabDoor

namespace Go.Proofs.YtnkgpinadgacgabDoor
open Go.RowKit M SM
section
variable {ro co bu : Int} {cs : ByteArray} {m : Nat} {fr tt : Nat → Int}
theorem pos_told (g cc : Nat) (w : World) (hck : (checkM ro co cs m fr tt bu).1 = 0) (hmc : m ≤ cc) (hm4 : m ≤ 4) (hs : cs.size ≤ 36) (hsd : SidesIn w) (hcs : CartsIn w g 0 m fr tt) :
    Calls Tryd.prog 14 #[.agg #[.int .i64 ro, .int .i64 co, .string cs, .slice (some ⟨g, 0, none⟩) m cc, .int .i64 bu]] w fun e w' =>
      ∃ (n : Nat) (d : Bool), M.Told (stepP ro co cs m) (cellsOf fr m) (cellsOf tt m) bu n d ∧ ((bu < n ∧ e = .returned (.tuple #[.int .i64 0, .bool false, .int .i64 10])) ∨ (¬ bu < n ∧ e = .returned (.tuple #[.int .i64 n, .bool d, .int .i64 0]))) ∧ Below w.heap.size w w' := by
  refine (positions_any ro co bu cs (some ⟨g, 0, none⟩) m cc fr tt w (by unfold maxLen; omega) (by unfold maxLen; omega) hmc hsd (fun _ => ⟨g, 0, rfl, hcs⟩)).mono ?_
  rintro e w' ⟨x, y, z, rfl, hp, hb⟩
  rcases hp with ⟨hc, _⟩ | ⟨_, n, d, ht, hp⟩
  · exact absurd hck hc
  · refine ⟨n, d, ht, ?_, hb⟩
    rcases hp with ⟨q, rfl, rfl, rfl⟩ | ⟨q, rfl, rfl, rfl⟩
    · exact .inl ⟨q, rfl⟩
    · exact .inr ⟨q, rfl⟩

theorem many_told (g cc : Nat) (w : World) (hck : (checkM ro co cs m fr tt bu).1 = 0) (hs : cs.size ≤ 36) (hm4 : m ≤ 4) :
    Calls Tryd.prog 16 #[.agg #[.int .i64 ro, .int .i64 co, .string cs, .slice (some ⟨g, 0, none⟩) m cc, .int .i64 bu]] w fun e w' => ∃ mb : Bool, e = .returned (.bool mb) ∧ ((∃ n d, M.Told (stepP ro co cs m) (cellsOf fr m) (cellsOf tt m) bu n d ∧ bu < n) → mb = true) ∧ Below w.heap.size w w' := by
  obtain ⟨hpf, _⟩ := cells_pos hck
  have hfm : m ≤ (freeTo cs cs.size).length := by
    have := few_pos (m := m) (L := [cellsOf fr m]) (cs := cs) (by simp) (fun q hq => by simp at hq; rw [hq]; exact hpf)
    refine Nat.le_of_not_lt fun hlt => ?_
    have hz : ∀ k, (freeTo cs cs.size).length < k → k ≤ 4 → fallF (freeTo cs cs.size).length k = 0 := by
      intro k hk
      induction k with
      | zero => omega
      | succ k ih =>
        intro h4
        simp only [fallF]
        by_cases e : (freeTo cs cs.size).length = k
        · rw [e, Nat.sub_self, Nat.mul_zero]
        · rw [ih (by omega) (by omega), Nat.zero_mul]
    rw [hz m hlt hm4] at this
    simp at this
  refine (many_any ro co bu cs g m cc w hs hm4 hfm).mono ?_
  rintro e w' ⟨rfl, hb⟩
  refine ⟨_, rfl, fun ⟨n, d, ht, hlt⟩ => ?_, hb⟩
  obtain ⟨L, i, hW, hnL⟩ := told_work ht
  have h3 := few_pos (cs := cs) (m := m) hW.nodup fun q hq => by
    obtain ⟨j, hj⟩ := hW.come q hq
    exact come_pos hpf hj
  refine decide_eq_true ?_
  omega

theorem sol_some (F0 : Nat) (hF : 200400000 ≤ F0) {L : List (List Nat)} (hck : (checkM ro co cs m fr tt bu).1 = 0) (hW : Work (stepP ro co cs m) (cellsOf fr m) L L.length) (hg : cellsOf tt m ∈ L) (hL : L.length ≤ 20000) : ∃ b s', solY F0 ro co cs m fr tt = some (b, s') := by
  obtain ⟨G, _, hway⟩ := sol_gnd hck hW hg hL
  obtain ⟨R, hn⟩ := run_begin G
  obtain ⟨x, s2, X2, hcome, _⟩ := come_ok G hway F0 _ [] R (by unfold left; rw [hn]; simp only [List.length_nil]; omega)
  exact ⟨x, s2, hcome⟩

end
end Go.Proofs.YtnkgpinadgacgabDoor

namespace Go.Proofs.YtnkgpinadgacgabDoor
open M SM BM
section
variable {co : Int} {cs : ByteArray} {m : Nat} {fr tt : Nat → Int} {ln : Nat → Nat} {pt : Nat → Nat → Nat}
theorem posM_at {i t : Nat} : posM (ln i) (fun j => ((pt i j : Nat) : Int)) t = ((atT ln pt i t : Nat) : Int) := by
  unfold posM atT
  by_cases h : t < ln i
  · rw [if_pos h, if_pos h]
  · rw [if_neg h, if_neg h]

theorem times_none {lvl i k : Nat} {x y : Nat → Int} (h : ∀ t, pairB lvl (x t) (y t) (x (t + 1)) (y (t + 1)) = false) : ∀ t, timesF lvl i k x y t = []
  | 0 => rfl
  | t + 1 => by
    simp only [timesF]
    rw [times_none h t, h t]; rfl

theorem pairs_none {lvl n : Nat} {len : Nat → Nat} {num : Nat → Nat → Int} (h : ∀ i k, i < n → k < n → i < k → ∀ t, pairB lvl (posM (len i) (num i) t) (posM (len k) (num k) t) (posM (len i) (num i) (t + 1)) (posM (len k) (num k) (t + 1)) = false) : ∀ i, i ≤ n → pairsF lvl n len num i = []
  | 0, _ => rfl
  | i + 1, hi => by
    have key : ∀ k, k ≤ n → othersF lvl i len num k = [] := by
      intro k
      induction k with
      | zero => intro _; rfl
      | succ k ih =>
        intro hk
        simp only [othersF]
        rw [ih (by omega)]
        by_cases e : i < k
        · rw [if_pos e, times_none (h i k (by omega) (by omega) e)]; rfl
        · rw [if_neg e]; rfl
    simp only [pairsF]
    rw [pairs_none h i (by omega), key n (Nat.le_refl n)]; rfl

theorem cells_none {i n : Nat} {x : Nat → Int} (h : ∀ t, t < n → M.stepB co cs n x t = false) : ∀ t, t ≤ n → cellsF co cs i n x t = []
  | 0, _ => rfl
  | t + 1, ht => by
    simp only [cellsF]
    rw [cells_none h t (by omega), h t (by omega)]; rfl

/-- A good plan has no faults. -/
theorem good_none {adj : Nat → Nat → Prop} {frN ttN : Nat → Nat} (P : GoodP m adj frN ttN ln pt) (hfr : ∀ i, i < m → fr i = (frN i : Nat)) (htt : ∀ i, i < m → tt i = (ttN i : Nat)) (hadj : ∀ i, i < m → ∀ j, j + 1 < ln i → mayM co cs (pt i j : Nat) (pt i (j + 1) : Nat) = true) (hfree : ∀ i, i < m → freeB cs (pt i 0 : Nat) = true) :
    allF 3 co cs fr tt m ln (fun i j => ((pt i j : Nat) : Int)) = [] := by
  have p3 : pairsF 3 m ln (fun i j => ((pt i j : Nat) : Int)) m = [] := pairs_none (fun i k hi hk hik t => by
    rw [posM_at, posM_at, posM_at, posM_at]
    have h := P.swap i k hi hk (by omega) t
    unfold pairB
    rw [if_neg (by decide)]
    by_cases e1 : atT ln pt i t = atT ln pt k (t + 1)
    · have e2 : ¬ atT ln pt k t = atT ln pt i (t + 1) := fun e2 => h ⟨e1, e2⟩
      simp; omega
    · simp; omega) m (Nat.le_refl m)
  have p2 : pairsF 2 m ln (fun i j => ((pt i j : Nat) : Int)) m = [] := pairs_none (fun i k hi hk hik t => by
    rw [posM_at, posM_at, posM_at, posM_at]
    have h := P.meet i k hi hk (by omega) t
    unfold pairB
    rw [if_pos rfl]
    simp; omega) m (Nat.le_refl m)
  have s1 : ∀ i, i ≤ m → stepsF co cs ln (fun i j => ((pt i j : Nat) : Int)) i = [] := by
    intro i
    induction i with
    | zero => intro _; rfl
    | succ i ih =>
      intro hi
      simp only [stepsF]
      rw [ih (by omega), cells_none (fun t ht => ?_) (ln i) (Nat.le_refl _)]
      · rfl
      · unfold M.stepB
        by_cases e : t + 1 < ln i
        · rw [hadj i (by omega) t e]
          by_cases e2 : t = 0
          · subst e2
            rw [hfree i (by omega)]; simp
          · simp [e2]
        · by_cases e2 : t = 0
          · subst e2
            rw [hfree i (by omega)]; simp [e]
          · simp [e, e2]
  have e0 : ∀ i, i ≤ m → endsF fr tt ln (fun i j => ((pt i j : Nat) : Int)) i = [] := by
    intro i
    induction i with
    | zero => intro _; rfl
    | succ i ih =>
      intro hi
      have h1 := P.pos i (by omega)
      have h2 := P.first i (by omega)
      have h3 := P.last i (by omega)
      have h4 := P.wait i (by omega)
      have b1 : begunB (fr i) (ln i) (fun j => ((pt i j : Nat) : Int)) = true := by
        unfold begunB
        show (decide (0 < ln i) && (((pt i 0 : Nat) : Int) == fr i)) = true
        rw [hfr i (by omega), h2]
        simp [h1]
      have b2 : overB (tt i) (ln i) (fun j => ((pt i j : Nat) : Int)) = true := by
        unfold overB
        show (decide (ln i = 0) || ((((pt i (ln i - 1) : Nat) : Int) == tt i) && (decide (ln i = 1) || !(((pt i (ln i - 2) : Nat) : Int) == tt i)))) = true
        rw [htt i (by omega), h3]
        by_cases e : ln i = 1
        · simp [e]
        · have h5 := h4 (by omega)
          have h6 : (((pt i (ln i - 2) : Nat) : Int) == ((ttN i : Nat) : Int)) = false := by simp; omega
          rw [h6]; simp
      simp only [endsF]
      rw [ih (by omega)]
      unfold M.endF
      rw [b1, b2]; rfl
  unfold allF
  rw [p3, p2, s1 m (Nat.le_refl m), e0 m (Nat.le_refl m)]
  simp

end
section
variable {nx : List Nat → List (List Nat)} {h : List Nat → Nat} {m : Nat} {fr tt : List Nat} {L : List (List Nat)}
/-- No state comes twice on the way told. -/
theorem way_nodup {s : SM.Srch} {X : List St} (R : Run nx h m fr tt L s X (fun _ _ => False)) : ∀ (f : Nat) (x : St) (g : Nat), (s.seen x).map (·.1) = some g → (SM.wayF s.seen f x).Nodup ∧ ∀ y, y ∈ SM.wayF s.seen f x → ∃ k, (s.seen y).map (·.1) = some k ∧ k ≤ g
  | 0, x, g, hx => by
    simp only [SM.wayF]
    refine ⟨by simp, fun y hy => ?_⟩
    rw [List.mem_singleton] at hy
    exact ⟨g, hy ▸ hx, Nat.le_refl _⟩
  | f + 1, x, g, hx => by
    simp only [SM.wayF]
    by_cases e : 0 < costO (s.seen x)
    · rw [if_pos e]
      obtain ⟨g0, h2, h3⟩ := way_back2 R hx e
      obtain ⟨i1, i2⟩ := way_nodup R f _ g0 h2
      refine ⟨List.nodup_cons.2 ⟨fun hm => ?_, i1⟩, fun y hy => ?_⟩
      · obtain ⟨k, k1, k2⟩ := i2 x hm
        rw [hx] at k1
        injection k1 with k1
        omega
      · rcases List.mem_cons.1 hy with q | q
        · exact ⟨g, q ▸ hx, Nat.le_refl _⟩
        · obtain ⟨k, k1, k2⟩ := i2 y q
          exact ⟨k, k1, by omega⟩
    · rw [if_neg e]
      refine ⟨by simp, fun y hy => ?_⟩
      rw [List.mem_singleton] at hy
      exact ⟨g, hy ▸ hx, Nat.le_refl _⟩

end
section
variable {ro co bu : Int} {cs : ByteArray} {m : Nat} {fr tt : Nat → Int} {L : List (List Nat)} {F0 : Nat}
end
end Go.Proofs.YtnkgpinadgacgabDoor
