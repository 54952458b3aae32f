/- Several texts in one: He, Ka. -/
import Derived.Test.YtnkgpinadgacgabDoorMmr
import Derived.Test.YtnkgpinadgacgabDoorMmza
import Derived.Test.YtnkgpinadgacgabDoorMmzd
namespace Go.Proofs.YtnkgpinadgacgabDoor.M
/-- f (f - 1) .. : k factors. -/
def fallF (f : Nat) : Nat → Nat
  | 0 => 1
  | k + 1 => fallF f k * (f - k)

/-- All lists of m different ones of A. -/
def injL (A : List Nat) : Nat → List (List Nat)
  | 0 => [[]]
  | m + 1 => (injL A m).flatMap fun q => (A.filter fun c => !q.contains c).map fun c => q ++ [c]

theorem injL_mem {A : List Nat} : ∀ {m : Nat} {q : List Nat}, q ∈ injL A m ↔ q.length = m ∧ q.Nodup ∧ ∀ c, c ∈ q → c ∈ A
  | 0, q => by
    simp only [injL, List.mem_singleton]
    constructor
    · intro h; subst h; exact ⟨rfl, List.nodup_nil, fun c hc => by cases hc⟩
    · intro h; exact List.eq_nil_of_length_eq_zero h.1
  | m + 1, q => by
    simp only [injL, List.mem_flatMap, List.mem_map, List.mem_filter]
    constructor
    · rintro ⟨q0, h0, c, ⟨hc, hn⟩, rfl⟩
      obtain ⟨h1, h2, h3⟩ := injL_mem.1 h0
      have hn : c ∉ q0 := by simpa using hn
      refine ⟨by simp [h1], List.nodup_append.2 ⟨h2, by simp, fun a ha b hb e => ?_⟩, fun z hz => ?_⟩
      · simp at hb; subst hb e; exact hn ha
      · rcases List.mem_append.1 hz with h | h
        · exact h3 z h
        · simp at h; subst h; exact hc
    · rintro ⟨h1, h2, h3⟩
      have hne : q ≠ [] := fun e => by rw [e] at h1; simp at h1
      have e := List.dropLast_concat_getLast hne
      have h4 := h2
      rw [← e] at h4
      obtain ⟨h5, _, h6⟩ := List.nodup_append.1 h4
      refine ⟨q.dropLast, injL_mem.2 ⟨by rw [List.length_dropLast]; omega, h5, fun c hc => h3 c (by rw [← e]; exact List.mem_append_left _ hc)⟩, q.getLast hne, ⟨h3 _ (List.getLast_mem hne), ?_⟩, e⟩
      have : q.getLast hne ∉ q.dropLast := fun hh => h6 _ hh _ (List.mem_singleton.2 rfl) rfl
      simpa using this

theorem filter_both (A : List Nat) (f : Nat → Bool) : (A.filter f).length + (A.filter fun c => !f c).length = A.length := by
  induction A with
  | nil => rfl
  | cons a A ih =>
    cases h : f a
    · rw [List.filter_cons_of_neg (by simp [h]), List.filter_cons_of_pos (by simp [h])]; simp only [List.length_cons]; omega
    · rw [List.filter_cons_of_pos h, List.filter_cons_of_neg (by simp [h])]; simp only [List.length_cons]; omega

theorem injL_len {A : List Nat} : ∀ m, (injL A m).length ≤ fallF A.length m
  | 0 => by simp [injL, fallF]
  | m + 1 => by
    have ih := injL_len (A := A) m
    have key : ∀ Q : List (List Nat), (∀ q, q ∈ Q → q.length = m ∧ q.Nodup ∧ ∀ c, c ∈ q → c ∈ A) → (Q.flatMap fun q => (A.filter fun c => !q.contains c).map fun c => q ++ [c]).length ≤ Q.length * (A.length - m) := by
      intro Q
      induction Q with
      | nil => intro _; simp
      | cons q Q ihQ =>
        intro h
        obtain ⟨h1, h2, h3⟩ := h q (by simp)
        have h4 := ihQ fun q' hq' => h q' (by simp [hq'])
        have h5 := filter_both A fun c => q.contains c
        have h6 : q.length ≤ (A.filter fun c => q.contains c).length := List.Nodup.length_le_of_subset h2 fun c hc => List.mem_filter.2 ⟨h3 c hc, by simpa using hc⟩
        simp only [List.flatMap_cons, List.length_append, List.length_map, List.length_cons]
        rw [Nat.add_mul, Nat.one_mul]
        omega
    have h2 := key (injL A m) fun q hq => injL_mem.1 hq
    show ((injL A m).flatMap fun q => (A.filter fun c => !q.contains c).map fun c => q ++ [c]).length ≤ fallF A.length m * (A.length - m)
    exact Nat.le_trans h2 (Nat.mul_le_mul ih (Nat.le_refl _))

theorem inj_few {A : List Nat} {m : Nat} {L : List (List Nat)} (hL : L.Nodup) (h : ∀ q, q ∈ L → q.length = m ∧ (∀ i, i < m → q.getD i 0 ∈ A) ∧ ∀ i k, i < m → k < m → i ≠ k → q.getD i 0 ≠ q.getD k 0) : L.length ≤ fallF A.length m := by
  refine Nat.le_trans (List.Nodup.length_le_of_subset hL fun q hq => ?_) (injL_len m)
  obtain ⟨h1, h2, h3⟩ := h q hq
  refine injL_mem.2 ⟨h1, ?_, fun c hc => ?_⟩
  · show List.Pairwise _ q
    rw [List.pairwise_iff_getElem]
    intro i k hi hk hik e
    have hne := h3 i k (by omega) (by omega) (by omega)
    rw [List.getD_eq_getElem?_getD, List.getD_eq_getElem?_getD, List.getElem?_eq_getElem hi, List.getElem?_eq_getElem hk] at hne
    exact hne e
  · obtain ⟨i, hi, rfl⟩ := List.mem_iff_getElem.1 hc
    have := h2 i (by omega)
    rw [List.getD_eq_getElem?_getD, List.getElem?_eq_getElem hi] at this
    exact this

end Go.Proofs.YtnkgpinadgacgabDoor.M

namespace Go.Proofs.YtnkgpinadgacgabDoor
open Go.RowKit M SM
theorem freeTo_nat (cs : ByteArray) : ∀ k : Nat, freeTo cs k = ((List.range k).filter fun c : Nat => freeB cs (c : Int)).map fun c : Nat => (c : Int)
  | 0 => rfl
  | k + 1 => by
    rw [freeTo, List.range_succ, List.filter_append, List.map_append, ← freeTo_nat cs k]
    by_cases h : freeB cs (k : Int) = true
    · rw [if_pos h]; simp [h]
    · rw [if_neg h]; simp [h]

/-- There are no more positions than the free cells allow. -/
theorem few_pos {cs : ByteArray} {m : Nat} {L : List (List Nat)} (hL : L.Nodup) (h : ∀ q, q ∈ L → PosG cs m q) : L.length ≤ fallF (freeTo cs cs.size).length m := by
  have e : (freeTo cs cs.size).length = ((List.range cs.size).filter fun c : Nat => freeB cs (c : Int)).length := by rw [freeTo_nat, List.length_map]
  rw [e]
  refine inj_few hL fun q hq => ⟨(h q hq).1.1, fun i hi => ?_, (h q hq).2⟩
  obtain ⟨h1, h2⟩ := (h q hq).1.2 i hi
  exact List.mem_filter.2 ⟨List.mem_range.2 h1, h2⟩

theorem fall_le {f : Nat} (hf : f ≤ 36) : ∀ k, k ≤ 4 → fallF f k ≤ 1679616
  | 0, _ => by simp [fallF]
  | 1, _ => by simp only [fallF]; omega
  | 2, _ => by
    simp only [fallF, Nat.one_mul, Nat.sub_zero]
    exact Nat.le_trans (Nat.mul_le_mul hf (show f - 1 ≤ 36 by omega)) (by decide)
  | 3, _ => by
    simp only [fallF, Nat.one_mul, Nat.sub_zero]
    exact Nat.le_trans (Nat.mul_le_mul (Nat.mul_le_mul hf (show f - 1 ≤ 36 by omega)) (show f - 2 ≤ 36 by omega)) (by decide)
  | 4, _ => by
    simp only [fallF, Nat.one_mul, Nat.sub_zero]
    exact Nat.le_trans (Nat.mul_le_mul (Nat.mul_le_mul (Nat.mul_le_mul hf (show f - 1 ≤ 36 by omega)) (show f - 2 ≤ 36 by omega)) (show f - 3 ≤ 36 by omega)) (by decide)
  | k + 5, h => by omega

set_option maxRecDepth 100000 in
set_option maxHeartbeats 2000000 in
theorem many_any (ro co bu : Int) (cs : ByteArray) (b m cc : Nat) (w : World) (hs : cs.size ≤ 36) (hm : m ≤ 4) (hmf : m ≤ (freeTo cs cs.size).length) :
    Calls Tryd.prog 16 #[.agg #[.int .i64 ro, .int .i64 co, .string cs, .slice (some ⟨b, 0, none⟩) m cc, .int .i64 bu]] w fun e w' =>
      e = .returned (.bool (decide (bu < (fallF (freeTo cs cs.size).length m : Nat)))) ∧ Below w.heap.size w w' := by
  obtain ⟨F, hF⟩ : ∃ F, F = (freeTo cs cs.size).length := ⟨_, rfl⟩
  have hF36 : F ≤ 36 := by rw [hF]; have := freeTo_len cs cs.size; omega
  rw [← hF] at hmf ⊢
  have FRE : Hid (∀ u : World, Calls Tryd.prog 39 #[.agg #[.int .i64 ro, .int .i64 co, .string cs, .slice (some ⟨b, 0, none⟩) m cc, .int .i64 bu]] u fun e w' => ∃ a c, e = .returned (.slice a F c) ∧ Below u.heap.size u w') := fun u => by
    refine (kfree_any ro co bu cs _ u hs).mono ?_
    rintro e w' ⟨v, rfl, ho, hb⟩
    obtain ⟨a, c, hv, _, _⟩ := own_form ho
    exact ⟨a, c, by rw [hv, hF], hb⟩
  clear hF
  go_enter Tryd.func16, Tryd.ntmps16
  go_wp2_with fail
  have B1 : Hid (Below w.heap.size w (w.alloc (Obj.cells #[Value.int IntKind.i64 ro, Value.int IntKind.i64 co, Value.string cs, .slice (some ⟨b, 0, none⟩) m cc, Value.int IntKind.i64 bu] 28))) := (Below.refl _ w).alloc (Nat.le_refl _) _
  have yc : ∀ o, (w.alloc (Obj.cells #[Value.int IntKind.i64 ro, Value.int IntKind.i64 co, Value.string cs, .slice (some ⟨b, 0, none⟩) m cc, Value.int IntKind.i64 bu] 28)).cell? ⟨w.heap.size, o, none⟩ = #[Value.int .i64 ro, .int .i64 co, .string cs, .slice (some ⟨b, 0, none⟩) m cc, .int .i64 bu][o]? := by
    intro o; go_simp
  have hz1 : (w.alloc (Obj.cells #[Value.int IntKind.i64 ro, Value.int IntKind.i64 co, Value.string cs, .slice (some ⟨b, 0, none⟩) m cc, Value.int IntKind.i64 bu] 28)).heap.size = w.heap.size + 1 := by simp
  generalize w.alloc (Obj.cells #[Value.int IntKind.i64 ro, Value.int IntKind.i64 co, Value.string cs, .slice (some ⟨b, 0, none⟩) m cc, Value.int IntKind.i64 bu] 28) = w1 at *
  refine (FRE.out _).mono ?_
  rintro e w2 ⟨a, c, rfl, hb2⟩
  have BW2 : Hid (Below w.heap.size w w2) := B1.out.trans (hb2.mono (by omega))
  have y3 := cell_later hb2 (yc 3)
  have y4 := cell_later hb2 (yc 4)
  clear hb2 yc
  go_wp2_with fail
  go_loopw [4, 5] (fun v4 v5 wr => ∃ i : Nat, i ≤ m ∧ v4 = .int .i64 (fallF F i : Nat) ∧ v5 = .int .i64 i ∧ w2 = wr) (fun _ v5 _ => m - (intOf v5).toNat)
  case atStart => exact ⟨0, Nat.zero_le _, rfl, rfl, rfl⟩
  case round =>
    obtain ⟨i, hi, rfl, rfl, rfl⟩ := hrel
    by_cases hlt : i < m
    · have hb := fall_le hF36 (i + 1) (by omega)
      have hN : ((fallF F i : Nat) : Int) * ((F : Int) - (i : Int)) = ((fallF F (i + 1) : Nat) : Int) := by
        simp only [fallF]
        rw [Int.natCast_mul, Int.natCast_sub (by omega)]
      obtain ⟨x, hx⟩ : ∃ x, x = fallF F i := ⟨_, rfl⟩
      obtain ⟨y, hy⟩ : ∃ y, y = fallF F (i + 1) := ⟨_, rfl⟩
      rw [← hy] at hb hN
      rw [← hx] at hN ⊢
      have HY := Hid.mk hy
      have HN := Hid.mk hN
      have hw1 : IntKind.i64.wrap ((F : Int) - (i : Int)) = (F : Int) - (i : Int) := by rw [IntKind.wrap_i64]; omega
      have hw2 : IntKind.i64.wrap ((x : Int) * ((F : Int) - (i : Int))) = (y : Int) := by rw [hN, IntKind.wrap_i64]; omega
      clear hx hy hN
      go_wp2
      go_roundw
      case rel => exact ⟨i + 1, by omega, by rw [← HY.out], by go_num, trivial⟩
      case measure => simp [intOf]; omega
    · have hd : i = m := by omega
      subst hd
      go_wp2
      go_ret
      exact ⟨rfl, BW2.out⟩

end Go.Proofs.YtnkgpinadgacgabDoor
