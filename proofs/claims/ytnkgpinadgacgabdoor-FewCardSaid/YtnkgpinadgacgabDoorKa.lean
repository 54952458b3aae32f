/- Walks of many and of Few: a budget of just as many positions as there are is enough. -/
import Derived.Test.YtnkgpinadgacgabDoorHi
import Derived.Test.YtnkgpinadgacgabDoorBt
import Derived.Test.YtnkgpinadgacgabDoorHe
namespace Go.Proofs.YtnkgpinadgacgabDoor
open Go.RowKit M SM
theorem freeTo_nat (cs : ByteArray) : ∀ k : Nat, freeTo cs k = ((List.range k).filter fun c : Nat => freeB cs (c : Int)).map fun c : Nat => (c : Int)
  | 0 => rfl
  | k + 1 => by
    rw [freeTo, List.range_succ, List.filter_append, List.map_append, ← freeTo_nat cs k]
    by_cases h : freeB cs (k : Int) = true
    · rw [if_pos h]; simp [h]
    · rw [if_neg h]; simp [h]

/-- There are no more positions than the free cells allow. -/
theorem few_pos {cs : ByteArray} {m : Nat} {L : List (List Nat)} (hL : L.Nodup) (h : ∀ q, q ∈ L → PosG cs m q) : L.length ≤ fallF (freeTo cs cs.size).length m := by
  have e : (freeTo cs cs.size).length = ((List.range cs.size).filter fun c : Nat => freeB cs (c : Int)).length := by rw [freeTo_nat, List.length_map]
  rw [e]
  refine inj_few hL fun q hq => ⟨(h q hq).1.1, fun i hi => ?_, (h q hq).2⟩
  obtain ⟨h1, h2⟩ := (h q hq).1.2 i hi
  exact List.mem_filter.2 ⟨List.mem_range.2 h1, h2⟩

theorem fall_le {f : Nat} (hf : f ≤ 36) : ∀ k, k ≤ 4 → fallF f k ≤ 1679616
  | 0, _ => by simp [fallF]
  | 1, _ => by simp only [fallF]; omega
  | 2, _ => by
    simp only [fallF, Nat.one_mul, Nat.sub_zero]
    exact Nat.le_trans (Nat.mul_le_mul hf (show f - 1 ≤ 36 by omega)) (by decide)
  | 3, _ => by
    simp only [fallF, Nat.one_mul, Nat.sub_zero]
    exact Nat.le_trans (Nat.mul_le_mul (Nat.mul_le_mul hf (show f - 1 ≤ 36 by omega)) (show f - 2 ≤ 36 by omega)) (by decide)
  | 4, _ => by
    simp only [fallF, Nat.one_mul, Nat.sub_zero]
    exact Nat.le_trans (Nat.mul_le_mul (Nat.mul_le_mul (Nat.mul_le_mul hf (show f - 1 ≤ 36 by omega)) (show f - 2 ≤ 36 by omega)) (show f - 3 ≤ 36 by omega)) (by decide)
  | k + 5, h => by omega

set_option maxRecDepth 100000 in
set_option maxHeartbeats 2000000 in
theorem many_any (ro co bu : Int) (cs : ByteArray) (b m cc : Nat) (w : World) (hs : cs.size ≤ 36) (hm : m ≤ 4) (hmf : m ≤ (freeTo cs cs.size).length) :
    Calls Tryd.prog 16 #[.agg #[.int .i64 ro, .int .i64 co, .string cs, .slice (some ⟨b, 0, none⟩) m cc, .int .i64 bu]] w fun e w' =>
      e = .returned (.bool (decide (bu < (fallF (freeTo cs cs.size).length m : Nat)))) ∧ Below w.heap.size w w' := by
  obtain ⟨F, hF⟩ : ∃ F, F = (freeTo cs cs.size).length := ⟨_, rfl⟩
  have hF36 : F ≤ 36 := by rw [hF]; have := freeTo_len cs cs.size; omega
  rw [← hF] at hmf ⊢
  have FRE : Hid (∀ u : World, Calls Tryd.prog 39 #[.agg #[.int .i64 ro, .int .i64 co, .string cs, .slice (some ⟨b, 0, none⟩) m cc, .int .i64 bu]] u fun e w' => ∃ a c, e = .returned (.slice a F c) ∧ Below u.heap.size u w') := fun u => by
    refine (kfree_any ro co bu cs _ u hs).mono ?_
    rintro e w' ⟨v, rfl, ho, hb⟩
    obtain ⟨a, c, hv, _, _⟩ := own_form ho
    exact ⟨a, c, by rw [hv, hF], hb⟩
  clear hF
  go_enter Tryd.func16, Tryd.ntmps16
  go_wp2_with fail
  have B1 : Hid (Below w.heap.size w (w.alloc (Obj.cells #[Value.int IntKind.i64 ro, Value.int IntKind.i64 co, Value.string cs, .slice (some ⟨b, 0, none⟩) m cc, Value.int IntKind.i64 bu] 28))) := (Below.refl _ w).alloc (Nat.le_refl _) _
  have yc : ∀ o, (w.alloc (Obj.cells #[Value.int IntKind.i64 ro, Value.int IntKind.i64 co, Value.string cs, .slice (some ⟨b, 0, none⟩) m cc, Value.int IntKind.i64 bu] 28)).cell? ⟨w.heap.size, o, none⟩ = #[Value.int .i64 ro, .int .i64 co, .string cs, .slice (some ⟨b, 0, none⟩) m cc, .int .i64 bu][o]? := by
    intro o; go_simp
  have hz1 : (w.alloc (Obj.cells #[Value.int IntKind.i64 ro, Value.int IntKind.i64 co, Value.string cs, .slice (some ⟨b, 0, none⟩) m cc, Value.int IntKind.i64 bu] 28)).heap.size = w.heap.size + 1 := by simp
  generalize w.alloc (Obj.cells #[Value.int IntKind.i64 ro, Value.int IntKind.i64 co, Value.string cs, .slice (some ⟨b, 0, none⟩) m cc, Value.int IntKind.i64 bu] 28) = w1 at *
  refine (FRE.out _).mono ?_
  rintro e w2 ⟨a, c, rfl, hb2⟩
  have BW2 : Hid (Below w.heap.size w w2) := B1.out.trans (hb2.mono (by omega))
  have y3 := cell_later hb2 (yc 3)
  have y4 := cell_later hb2 (yc 4)
  clear hb2 yc
  go_wp2_with fail
  go_loopw [4, 5] (fun v4 v5 wr => ∃ i : Nat, i ≤ m ∧ v4 = .int .i64 (fallF F i : Nat) ∧ v5 = .int .i64 i ∧ w2 = wr) (fun _ v5 _ => m - (intOf v5).toNat)
  case atStart => exact ⟨0, Nat.zero_le _, rfl, rfl, rfl⟩
  case round =>
    obtain ⟨i, hi, rfl, rfl, rfl⟩ := hrel
    by_cases hlt : i < m
    · have hb := fall_le hF36 (i + 1) (by omega)
      have hN : ((fallF F i : Nat) : Int) * ((F : Int) - (i : Int)) = ((fallF F (i + 1) : Nat) : Int) := by
        simp only [fallF]
        rw [Int.natCast_mul, Int.natCast_sub (by omega)]
      obtain ⟨x, hx⟩ : ∃ x, x = fallF F i := ⟨_, rfl⟩
      obtain ⟨y, hy⟩ : ∃ y, y = fallF F (i + 1) := ⟨_, rfl⟩
      rw [← hy] at hb hN
      rw [← hx] at hN ⊢
      have HY := Hid.mk hy
      have HN := Hid.mk hN
      have hw1 : IntKind.i64.wrap ((F : Int) - (i : Int)) = (F : Int) - (i : Int) := by rw [IntKind.wrap_i64]; omega
      have hw2 : IntKind.i64.wrap ((x : Int) * ((F : Int) - (i : Int))) = (y : Int) := by rw [hN, IntKind.wrap_i64]; omega
      clear hx hy hN
      go_wp2
      go_roundw
      case rel => exact ⟨i + 1, by omega, by rw [← HY.out], by go_num, trivial⟩
      case measure => simp [intOf]; omega
    · have hd : i = m := by omega
      subst hd
      go_wp2
      go_ret
      exact ⟨rfl, BW2.out⟩

end Go.Proofs.YtnkgpinadgacgabDoor
