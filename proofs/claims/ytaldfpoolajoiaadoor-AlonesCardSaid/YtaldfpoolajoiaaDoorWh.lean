/- Walks of Near and May. -/
import Derived.Test.YtaldfpoolajoiaaDoorWaWbWcWd
import Derived.Test.YtaldfpoolajoiaaDoorMbMcMd
namespace Go.Proofs.YtaldfpoolajoiaaDoor
open Go.RowKit M

set_option maxHeartbeats 400000 in
theorem near_any (ro co bu a b : Int) (cs : ByteArray) (ca : Value) (w : World) (h1 : 1 ≤ co) (h2 : co ≤ 6) (ha0 : 0 ≤ a) (ha1 : a ≤ 36) (hb0 : 0 ≤ b) (hb1 : b ≤ 36) :
    Calls Tryd.prog 68 #[.agg #[.int .i64 ro, .int .i64 co, .string cs, ca, .int .i64 bu], .int .i64 a, .int .i64 b] w fun e w' => e = .returned (.bool (nearM co a b)) ∧ Below w.heap.size w w' := by
  obtain ⟨p1, p2, p3, p4⟩ := divmod_bd ha0 ha1 h1 h2
  obtain ⟨q1, q2, q3, q4⟩ := divmod_bd hb0 hb1 h1 h2
  obtain ⟨s1, s2⟩ := sq_bd (r := a / co - b / co) (by omega) (by omega)
  obtain ⟨t1, t2⟩ := sq_bd (r := a % co - b % co) (by omega) (by omega)
  have hco : (co == 0) = false := by simp; omega
  go_enter Tryd.func68, Tryd.ntmps68
  go_wp2
  go_quiet (fail)
  go_wp2
  go_quiet (fail)
  go_wp2
  go_ret
  exact ⟨ret_bool rfl, below_drewN ((Below.refl _ _).alloc (Nat.le_refl _) _) _⟩

theorem mayM_in {co a b : Int} {cs : ByteArray} (hf : freeB cs b = true) (h0 : 0 ≤ a) (h1 : a < cs.size) : mayM co cs a b = nearM co a b := by
  unfold mayM; simp [hf, h0, h1]

theorem mayM_out {co a b : Int} {cs : ByteArray} (h : freeB cs b = false ∨ ¬ (0 ≤ a ∧ a < cs.size)) : mayM co cs a b = false := by
  unfold mayM
  rcases h with h | h
  · simp [h]
  · by_cases h0 : 0 ≤ a
    · have h1 : ¬ a < cs.size := fun hh => h ⟨h0, hh⟩
      simp [h1]
    · simp [h0]

set_option maxHeartbeats 400000 in
theorem may_any (ro co bu a b : Int) (cs : ByteArray) (ca : Value) (w : World) (hs : cs.size ≤ 36) (h1 : 1 ≤ co) (h2 : co ≤ 6) (hb0 : 0 ≤ b) (hb1 : b ≤ 36) :
    Calls Tryd.prog 43 #[.agg #[.int .i64 ro, .int .i64 co, .string cs, ca, .int .i64 bu], .int .i64 a, .int .i64 b] w fun e w' => e = .returned (.bool (mayM co cs a b)) ∧ Below w.heap.size w w' := by
  have hsm : cs.size ≤ maxLen := by unfold maxLen; omega
  go_enter Tryd.func43, Tryd.ntmps43
  go_wp2_with fail
  refine (rfree_any _ _ _ _ _ _ _ hsm).mono ?_
  rintro e w1 ⟨rfl, hb⟩
  obtain ⟨hc1, hf1⟩ := bcell hb
  have hB := Hid.mk (((Below.refl _ w).alloc (Nat.le_refl _) _).trans (hb.mono (by simp)) : Below w.heap.size w w1)
  have hz1 : w.heap.size < w1.heap.size := by have := hb.size; simp at this; omega
  clear hb hsm
  by_cases e1 : freeB cs b = true
  · by_cases e2 : 0 ≤ a
    · by_cases e3 : a < cs.size
      · go_wp2_with fail
        refine (near_any _ _ _ _ _ _ _ _ h1 h2 e2 (by omega) hb0 hb1).mono ?_
        rintro e w2 ⟨rfl, hb2⟩
        go_wp2
        go_ret
        exact ⟨ret_bool (mayM_in e1 e2 e3).symm, hB.out.trans (hb2.mono (by omega))⟩
      · go_wp2
        go_ret
        exact ⟨ret_bool (mayM_out (Or.inr (by omega))).symm, hB.out⟩
    · go_wp2
      go_ret
      exact ⟨ret_bool (mayM_out (Or.inr (by omega))).symm, hB.out⟩
  · have e1' : freeB cs b = false := by simpa using e1
    go_wp2
    go_ret
    exact ⟨ret_bool (mayM_out (Or.inl e1')).symm, hB.out⟩

end Go.Proofs.YtaldfpoolajoiaaDoor
