/- Walks of the functions that look for a fault in Cells. -/
import Derived.Test.YtaldfpoolajoiaaDoorWa
namespace Go.Proofs.YtaldfpoolajoiaaDoor
open Go.RowKit M

theorem mul_bd {a b : Int} (h1 : 1 ≤ a) (h2 : a ≤ 6) (h3 : 1 ≤ b) (h4 : b ≤ 6) : 1 ≤ a * b ∧ a * b ≤ 36 := by
  have e : a = 1 ∨ a = 2 ∨ a = 3 ∨ a = 4 ∨ a = 5 ∨ a = 6 := by omega
  rcases e with e | e | e | e | e | e <;> subst e <;> omega

theorem Hid.mk {p : Prop} (h : p) : Hid p := h

theorem cellsM_size {ro co : Int} {cs : ByteArray} (h : ¬ (cs.size : Int) = ro * co) : cellsM ro co cs = cs.size := by
  unfold cellsM; rw [if_pos h]

theorem cellsM_none {ro co : Int} {cs : ByteArray} (h : (cs.size : Int) = ro * co) (hg : ∀ j, j < cs.size → badB cs j = false) : -1 = cellsM ro co cs := by
  unfold cellsM; rw [if_neg (by omega), firstOf_miss hg, if_neg (by omega)]

theorem cellsM_hit {ro co : Int} {cs : ByteArray} {k : Nat} (h : (cs.size : Int) = ro * co) (hk : k < cs.size) (hb : badB cs k = true) (hg : ∀ j, j < k → badB cs j = false) : (k : Int) = cellsM ro co cs := by
  unfold cellsM; rw [if_neg (by omega), firstOf_hit hb hg _ hk, if_pos hk]

theorem bad_step {cs : ByteArray} {k : Nat} (hb : badB cs k = false) (hg : ∀ j, j < k → badB cs j = false) : ∀ j, j < k + 1 → badB cs j = false := by
  intro j hj
  by_cases e : j = k
  · subst e; exact hb
  · exact hg j (by omega)

set_option maxHeartbeats 400000 in
theorem cells_any (ro co bu : Int) (cs : ByteArray) (ca : Value) (w : World) (hs : cs.size ≤ maxLen) (h1 : 1 ≤ ro) (h2 : ro ≤ 6) (h3 : 1 ≤ co) (h4 : co ≤ 6) :
    Calls Tryd.prog 66 #[.agg #[.int .i64 ro, .int .i64 co, .string cs, ca, .int .i64 bu]] w fun e w' => e = .returned (.int .i64 (cellsM ro co cs)) ∧ Below w.heap.size w w' := by
  obtain ⟨hp1, hp2⟩ := mul_bd h1 h2 h3 h4
  unfold maxLen at hs
  go_enter Tryd.func66, Tryd.ntmps66
  by_cases hsz : (cs.size : Int) = ro * co
  · have hb : ((cs.size : Int) != ro * co) = false := by simp [hsz]
    have H : Hid ((cs.size : Int) = ro * co) := hsz
    clear hsz
    go_wp2
    go_loop [3] (fun i => ∃ k : Nat, k ≤ cs.size ∧ i = .int .i64 k ∧ ∀ j, j < k → badB cs j = false) (fun i => cs.size - (intOf i).toNat)
    case atStart => exact ⟨0, Nat.zero_le _, rfl, fun j hj => absurd hj (Nat.not_lt_zero j)⟩
    case round =>
      obtain ⟨k, hk, rfl, hg0⟩ := hrel
      have hg := Hid.mk hg0
      clear hg0
      by_cases hlt : k < cs.size
      · by_cases hb1 : badB cs k = true
        · have H1 := Hid.mk hb1
          rw [badB_in hlt] at hb1
          have e1 : (((cs[k]).toNat : Int) != 46) = true := by simp at hb1; simp; omega
          have e2 : (((cs[k]).toNat : Int) != 35) = true := by simp at hb1; simp; omega
          clear hb1
          go_wp2
          go_ret
          exact ⟨ret_int (cellsM_hit H.out hlt H1.out hg.out), (Below.refl _ _).alloc (Nat.le_refl _) _⟩
        · have H1 := Hid.mk (Bool.eq_false_iff.2 hb1)
          rw [badB_in hlt] at hb1
          by_cases h46 : ((cs[k]).toNat : Int) = 46
          · have e1 : (((cs[k]).toNat : Int) != 46) = false := by simp [h46]
            clear hb1 h46
            go_wp2
            go_round
            case rel => exact ⟨k + 1, by omega, by go_num, bad_step H1.out hg.out⟩
            case measure => simp [intOf]; omega
          · have e1 : (((cs[k]).toNat : Int) != 46) = true := by simp; omega
            have e2 : (((cs[k]).toNat : Int) != 35) = false := by simp at hb1; simp; omega
            clear hb1 h46
            go_wp2
            go_round
            case rel => exact ⟨k + 1, by omega, by go_num, bad_step H1.out hg.out⟩
            case measure => simp [intOf]; omega
      · go_wp2
        go_ret
        exact ⟨ret_int (cellsM_none H.out (by have : k = cs.size := by omega
                                              subst this; exact hg.out)), (Below.refl _ _).alloc (Nat.le_refl _) _⟩
  · have hb : ((cs.size : Int) != ro * co) = true := by simp [hsz]
    go_wp2
    go_ret
    exact ⟨ret_int (cellsM_size hsz).symm, (Below.refl _ _).alloc (Nat.le_refl _) _⟩

theorem ret_ib {a b : Int} {c d : Bool} (h : a = b) (h' : c = d) : Ending.returned (.tuple #[.int .i64 a, .bool c]) = .returned (.tuple #[.int .i64 b, .bool d]) := by rw [h, h']

/-- What badCell tells: the place, and whether there is one. -/
def badM (ro co : Int) (cs : ByteArray) : Int := if 0 ≤ cellsM ro co cs then cellsM ro co cs else 0

theorem badM_size {ro co : Int} {cs : ByteArray} (h : ¬ (cs.size : Int) = ro * co) : (cs.size : Int) = badM ro co cs ∧ true = decide (0 ≤ cellsM ro co cs) := by
  unfold badM; rw [cellsM_size h, if_pos (by omega)]; simp

theorem badM_none {ro co : Int} {cs : ByteArray} (h : (cs.size : Int) = ro * co) (hg : ∀ j, j < cs.size → badB cs j = false) : (0 : Int) = badM ro co cs ∧ false = decide (0 ≤ cellsM ro co cs) := by
  unfold badM; rw [← cellsM_none h hg]; simp

theorem badM_hit {ro co : Int} {cs : ByteArray} {k : Nat} (h : (cs.size : Int) = ro * co) (hk : k < cs.size) (hb : badB cs k = true) (hg : ∀ j, j < k → badB cs j = false) : (k : Int) = badM ro co cs ∧ true = decide (0 ≤ cellsM ro co cs) := by
  unfold badM; rw [← cellsM_hit h hk hb hg, if_pos (by omega)]; simp

set_option maxHeartbeats 400000 in
theorem badCell_any (ro co bu : Int) (cs : ByteArray) (ca : Value) (w : World) (hs : cs.size ≤ maxLen) (h1 : 1 ≤ ro) (h2 : ro ≤ 6) (h3 : 1 ≤ co) (h4 : co ≤ 6) :
    Calls Tryd.prog 79 #[.agg #[.int .i64 ro, .int .i64 co, .string cs, ca, .int .i64 bu]] w fun e w' => e = .returned (.tuple #[.int .i64 (badM ro co cs), .bool (decide (0 ≤ cellsM ro co cs))]) ∧ Below w.heap.size w w' := by
  obtain ⟨hp1, hp2⟩ := mul_bd h1 h2 h3 h4
  unfold maxLen at hs
  go_enter Tryd.func79, Tryd.ntmps79
  by_cases hsz : (cs.size : Int) = ro * co
  · have hb : ((cs.size : Int) != ro * co) = false := by simp [hsz]
    have H : Hid ((cs.size : Int) = ro * co) := hsz
    clear hsz
    go_wp2
    go_loop [20] (fun i => ∃ k : Nat, k ≤ cs.size ∧ i = .int .i64 k ∧ ∀ j, j < k → badB cs j = false) (fun i => cs.size - (intOf i).toNat)
    case atStart => exact ⟨0, Nat.zero_le _, rfl, fun j hj => absurd hj (Nat.not_lt_zero j)⟩
    case round =>
      obtain ⟨k, hk, rfl, hg0⟩ := hrel
      have hg := Hid.mk hg0
      clear hg0
      by_cases hlt : k < cs.size
      · by_cases hb1 : badB cs k = true
        · have H1 := Hid.mk hb1
          rw [badB_in hlt] at hb1
          have e1 : (((cs[k]).toNat : Int) != 46) = true := by simp at hb1; simp; omega
          have e2 : (((cs[k]).toNat : Int) != 35) = true := by simp at hb1; simp; omega
          clear hb1
          go_wp2
          go_ret2
          exact ⟨ret_ib (badM_hit H.out hlt H1.out hg.out).1 (badM_hit H.out hlt H1.out hg.out).2, (Below.refl _ _).alloc (Nat.le_refl _) _⟩
        · have H1 := Hid.mk (Bool.eq_false_iff.2 hb1)
          rw [badB_in hlt] at hb1
          by_cases h46 : ((cs[k]).toNat : Int) = 46
          · have e1 : (((cs[k]).toNat : Int) != 46) = false := by simp [h46]
            clear hb1 h46
            go_wp2
            go_round
            case rel => exact ⟨k + 1, by omega, by go_num, bad_step H1.out hg.out⟩
            case measure => simp [intOf]; omega
          · have e1 : (((cs[k]).toNat : Int) != 46) = true := by simp; omega
            have e2 : (((cs[k]).toNat : Int) != 35) = false := by simp at hb1; simp; omega
            clear hb1 h46
            go_wp2
            go_round
            case rel => exact ⟨k + 1, by omega, by go_num, bad_step H1.out hg.out⟩
            case measure => simp [intOf]; omega
      · have hd : k = cs.size := by omega
        go_wp2
        go_ret2
        subst hd
        exact ⟨ret_ib (badM_none H.out hg.out).1 (badM_none H.out hg.out).2, (Below.refl _ _).alloc (Nat.le_refl _) _⟩
  · have hb : ((cs.size : Int) != ro * co) = true := by simp [hsz]
    go_wp2
    go_ret2
    exact ⟨ret_ib (badM_size hsz).1 (badM_size hsz).2, (Below.refl _ _).alloc (Nat.le_refl _) _⟩

end Go.Proofs.YtaldfpoolajoiaaDoor
