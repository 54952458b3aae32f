/- Walks of the functions that hold one cart against the yard and the carts ahead of it. -/
import Derived.Test.YtaldfpoolajoiaaDoorWb
import Derived.Deep.QuietTactic
import Derived.BigQuiet
import Derived.WalkSmall
namespace Go.Proofs.YtaldfpoolajoiaaDoor
open Go.RowKit M

theorem bcell {W w1 : World} (hb : Below W.heap.size W w1) : (∀ b o, b < W.heap.size → w1.cell? ⟨b, o, none⟩ = W.cell? ⟨b, o, none⟩) ∧ (∀ b o, b < W.heap.size → w1.frozen? ⟨b, o, none⟩ = W.frozen? ⟨b, o, none⟩) :=
  ⟨fun b o h => hb.cell (p := ⟨b, o, none⟩) h, fun b o h => hb.frozen (p := ⟨b, o, none⟩) h⟩

/-- The carts of a list lie in memory. -/
def CartsIn (w : World) (b off n : Nat) (fr to : Nat → Int) : Prop :=
  ∀ i, i < n → w.cell? ⟨b, off + i * 2, none⟩ = some (.int .i64 (fr i)) ∧ w.cell? ⟨b, off + i * 2 + 1, none⟩ = some (.int .i64 (to i))

theorem CartsIn.below {w w' : World} {b off n : Nat} {fr to : Nat → Int} (h : CartsIn w b off n fr to) (hb : Below w.heap.size w w') : CartsIn w' b off n fr to :=
  fun i hi => ⟨cell_later hb (h i hi).1, cell_later hb (h i hi).2⟩

theorem cartM_place {cs : ByteArray} {fr to : Nat → Int} {i : Nat} (h : freeB cs (fr i) = false ∨ freeB cs (to i) = false) : cartM cs fr to i = 4 := by
  unfold cartM; rcases h with h | h <;> simp [h]

theorem cartM_twice {cs : ByteArray} {fr to : Nat → Int} {i k : Nat} (h1 : freeB cs (fr i) = true) (h2 : freeB cs (to i) = true) (hk : k < i) (ht : twiceB fr to i k = true) (hg : ∀ j, j < k → twiceB fr to i j = false) : cartM cs fr to i = 5 := by
  unfold cartM; rw [firstOf_hit ht hg _ hk]; simp [h1, h2, hk]

theorem cartM_ok {cs : ByteArray} {fr to : Nat → Int} {i : Nat} (h1 : freeB cs (fr i) = true) (h2 : freeB cs (to i) = true) (hg : ∀ j, j < i → twiceB fr to i j = false) : cartM cs fr to i = 0 := by
  unfold cartM; rw [firstOf_miss hg]; simp [h1, h2]

theorem twice_step {fr to : Nat → Int} {i k : Nat} (hb : twiceB fr to i k = false) (hg : ∀ j, j < k → twiceB fr to i j = false) : ∀ j, j < k + 1 → twiceB fr to i j = false := by
  intro j hj
  by_cases e : j = k
  · subst e; exact hb
  · exact hg j (by omega)

set_option maxHeartbeats 400000 in
theorem cart_any (ro co bu : Int) (cs : ByteArray) (b off n cap i : Nat) (fr to : Nat → Int) (w : World) (hs : cs.size ≤ maxLen) (hn : n ≤ maxLen) (hi : i < n) (hc : CartsIn w b off n fr to) :
    Calls Tryd.prog 67 #[.agg #[.int .i64 ro, .int .i64 co, .string cs, .slice (some ⟨b, off, none⟩) n cap, .int .i64 bu], .int .i64 i] w fun e w' => e = .returned (.int .i64 (cartM cs fr to i)) ∧ Below w.heap.size w w' := by
  have hci1 := (hc i hi).1
  have hci2 := (hc i hi).2
  have hbl : b < w.heap.size := World.block_lt_of_cell? _ _ hci1
  have Hc := Hid.mk hc
  clear hc
  unfold maxLen at hn
  go_enter Tryd.func67, Tryd.ntmps67
  go_wp2_with fail
  refine (rfree_any _ _ _ _ _ _ _ hs).mono ?_
  rintro e w1 ⟨rfl, hb1⟩
  obtain ⟨hc1, hf1⟩ := bcell hb1
  have hz1 : w.heap.size + 2 ≤ w1.heap.size := by have := hb1.size; simp at this; omega
  go_wp2_with fail
  refine (rfree_any _ _ _ _ _ _ _ hs).mono ?_
  rintro e w2 ⟨rfl, hb2⟩
  obtain ⟨hc2, hf2⟩ := bcell hb2
  have hz2 : w1.heap.size ≤ w2.heap.size := hb2.size
  by_cases e1 : freeB cs (fr i) = true
  · by_cases e2 : freeB cs (to i) = true
    · have hB : Below w.heap.size w w2 := (((((Below.refl _ _).alloc (Nat.le_refl _) _).alloc (by simp) _).trans (hb1.mono (by simp; omega))).trans (hb2.mono (by omega)))
      have hB := Hid.mk hB
      have E1 := Hid.mk e1
      have E2 := Hid.mk e2
      have y3 : w2.cell? ⟨w.heap.size, 3, none⟩ = some (.slice (some ⟨b, off, none⟩) n cap) := by
        rw [hc2 _ _ (by omega), hc1 _ _ (by simp <;> omega)]; go_simp
      have c0 : w2.cell? ⟨w.heap.size + 1, 0, none⟩ = some (.int .i64 (fr i)) := by
        rw [hc2 _ _ (by omega), hc1 _ _ (by simp <;> omega)]; go_simp
      have c1 : w2.cell? ⟨w.heap.size + 1, 1, none⟩ = some (.int .i64 (to i)) := by
        rw [hc2 _ _ (by omega), hc1 _ _ (by simp <;> omega)]; go_simp
      have Hc2 : Hid (CartsIn w2 b off n fr to) := Hc.out.below (by exact hB.out)
      go_wp2
      clear hb1 hb2 e1 e2 hc1 hc2 hf1 hf2 hci1 hci2
      go_loopw [8] (fun s wr => ∃ k : Nat, k ≤ i ∧ s = .int .i64 k ∧ (∀ j, j < k → twiceB fr to i j = false) ∧ Below w2.heap.size w2 wr) (fun s _ => i - (intOf s).toNat)
      case atStart => exact ⟨0, Nat.zero_le _, rfl, fun j hj => absurd hj (Nat.not_lt_zero j), Below.refl _ _⟩
      case round =>
        obtain ⟨k, hk, rfl, hg0, hbr⟩ := hrel
        have hg := Hid.mk hg0
        clear hg0
        have z3 := cell_later hbr y3
        have d0 := cell_later hbr c0
        have d1 := cell_later hbr c1
        clear y3 c0 c1
        by_cases hlt : k < i
        · have hk1 := cell_later hbr (Hc2.out k (by omega)).1
          have hk2 := cell_later hbr (Hc2.out k (by omega)).2
          by_cases q1 : (fr k == fr i) = true
          · go_wp2
            go_quiet (fail)
            go_wp2
            go_ret
            exact ⟨ret_int (cartM_twice E1.out E2.out hlt (by unfold twiceB; simp [q1]) hg.out).symm, hB.out.trans ((below_drewN hbr _).mono hB.out.size)⟩
          · have q1' : (fr k == fr i) = false := by simpa using q1
            go_wp2
            go_quiet (fail)
            by_cases q2 : (to k == to i) = true
            · go_wp2
              go_ret
              exact ⟨ret_int (cartM_twice E1.out E2.out hlt (by unfold twiceB; simp [q2]) hg.out).symm, hB.out.trans ((below_drewN hbr _).mono hB.out.size)⟩
            · have q2' : (to k == to i) = false := by simpa using q2
              go_wp2
              go_roundw
              case rel => exact ⟨k + 1, by omega, by go_num, twice_step (by unfold twiceB; rw [q1', q2']; rfl) hg.out, below_drewN hbr _⟩
              case measure => simp [intOf]; omega
        · have hd : k = i := by omega
          go_wp2
          go_ret
          subst hd
          exact ⟨ret_int (cartM_ok E1.out E2.out hg.out).symm, hB.out.trans (hbr.mono hB.out.size)⟩
    · have e2' : freeB cs (to i) = false := by simpa using e2
      go_wp2
      go_ret
      exact ⟨ret_int (cartM_place (Or.inr e2')).symm, (((((Below.refl _ _).alloc (Nat.le_refl _) _).alloc (by simp) _).trans (hb1.mono (by simp; omega))).trans (hb2.mono (by omega)))⟩
  · have e1' : freeB cs (fr i) = false := by simpa using e1
    go_wp2
    go_ret
    exact ⟨ret_int (cartM_place (Or.inl e1')).symm, (((((Below.refl _ _).alloc (Nat.le_refl _) _).alloc (by simp) _).trans (hb1.mono (by simp; omega))).trans (hb2.mono (by omega)))⟩

set_option maxHeartbeats 400000 in
theorem checkCart_any (ro co bu : Int) (cs : ByteArray) (b off n cap i : Nat) (fr to : Nat → Int) (w : World) (hs : cs.size ≤ maxLen) (hn : n ≤ maxLen) (hcap : n ≤ cap) (hi : i < n) (hc : CartsIn w b off n fr to) :
    Calls Tryd.prog 80 #[.agg #[.int .i64 ro, .int .i64 co, .string cs, .slice (some ⟨b, off, none⟩) n cap, .int .i64 bu], .int .i64 i] w fun e w' => e = .returned (.int .i64 (cartM cs fr to i)) ∧ Below w.heap.size w w' := by
  have hci1 := (hc i hi).1
  have hci2 := (hc i hi).2
  have hbl : b < w.heap.size := World.block_lt_of_cell? _ _ hci1
  have Hc := Hid.mk hc
  clear hc
  unfold maxLen at hn
  go_enter Tryd.func80, Tryd.ntmps80
  go_wp2_with fail
  refine (gfree_any _ _ _ _ _ _ _ hs).mono ?_
  rintro e w1 ⟨rfl, hb1⟩
  obtain ⟨hc1, hf1⟩ := bcell hb1
  have hz1 : w.heap.size + 2 ≤ w1.heap.size := by have := hb1.size; simp at this; omega
  by_cases e1 : freeB cs (fr i) = true
  · go_wp2_with fail
    refine (gfree_any _ _ _ _ _ _ _ hs).mono ?_
    rintro e w2 ⟨rfl, hb2⟩
    obtain ⟨hc2, hf2⟩ := bcell hb2
    have hz2 : w1.heap.size ≤ w2.heap.size := hb2.size
    by_cases e2 : freeB cs (to i) = true
    · have hB : Below w.heap.size w w2 := (((((Below.refl _ _).alloc (Nat.le_refl _) _).alloc (by simp) _).trans (hb1.mono (by simp; omega))).trans (hb2.mono (by omega)))
      have hB := Hid.mk hB
      have E1 := Hid.mk e1
      have E2 := Hid.mk e2
      have y3 : w2.cell? ⟨w.heap.size, 3, none⟩ = some (.slice (some ⟨b, off, none⟩) n cap) := by
        rw [hc2 _ _ (by omega), hc1 _ _ (by simp <;> omega)]; go_simp
      have c0 : w2.cell? ⟨w.heap.size + 1, 0, none⟩ = some (.int .i64 (fr i)) := by
        rw [hc2 _ _ (by omega), hc1 _ _ (by simp <;> omega)]; go_simp
      have c1 : w2.cell? ⟨w.heap.size + 1, 1, none⟩ = some (.int .i64 (to i)) := by
        rw [hc2 _ _ (by omega), hc1 _ _ (by simp <;> omega)]; go_simp
      have Hc2 : Hid (CartsIn w2 b off n fr to) := Hc.out.below (by exact hB.out)
      go_wp2
      clear hb1 hb2 e1 e2 hc1 hc2 hf1 hf2 hci1 hci2
      go_loopw [30] (fun s wr => ∃ k : Nat, k ≤ i ∧ s = .int .i64 k ∧ (∀ j, j < k → twiceB fr to i j = false) ∧ Below w2.heap.size w2 wr) (fun s _ => i - (intOf s).toNat)
      case atStart => exact ⟨0, Nat.zero_le _, rfl, fun j hj => absurd hj (Nat.not_lt_zero j), Below.refl _ _⟩
      case round =>
        obtain ⟨k, hk, rfl, hg0, hbr⟩ := hrel
        have hg := Hid.mk hg0
        clear hg0
        have z3 := cell_later hbr y3
        have d0 := cell_later hbr c0
        have d1 := cell_later hbr c1
        have hzr1 : w.heap.size + 1 < wr.heap.size := by have := hbr.size; omega
        have hzr0 : w.heap.size < wr.heap.size := by omega
        have hbl2 : b < wr.heap.size := by omega
        clear y3 c0 c1
        by_cases hlt : k < i
        · have hk1 := cell_later hbr (Hc2.out k (by omega)).1
          have hk2 := cell_later hbr (Hc2.out k (by omega)).2
          by_cases q1 : (fr k == fr i) = true
          · go_wp2
            go_ret
            exact ⟨ret_int (cartM_twice E1.out E2.out hlt (by unfold twiceB; simp [q1]) hg.out).symm, hB.out.trans ((hbr.alloc hbr.size _).mono hB.out.size)⟩
          · have q1' : (fr k == fr i) = false := by simpa using q1
            by_cases q2 : (to k == to i) = true
            · go_wp2
              go_ret
              exact ⟨ret_int (cartM_twice E1.out E2.out hlt (by unfold twiceB; simp [q2]) hg.out).symm, hB.out.trans ((hbr.alloc hbr.size _).mono hB.out.size)⟩
            · have q2' : (to k == to i) = false := by simpa using q2
              go_wp2
              go_roundw
              case rel => exact ⟨k + 1, by omega, by go_num, twice_step (by unfold twiceB; rw [q1', q2']; rfl) hg.out, hbr.alloc hbr.size _⟩
              case measure => simp [intOf]; omega
        · have hd : k = i := by omega
          go_wp2
          go_ret
          subst hd
          exact ⟨ret_int (cartM_ok E1.out E2.out hg.out).symm, hB.out.trans (hbr.mono hB.out.size)⟩
    · have e2' : freeB cs (to i) = false := by simpa using e2
      go_wp2
      go_ret
      exact ⟨ret_int (cartM_place (Or.inr e2')).symm, (((((Below.refl _ _).alloc (Nat.le_refl _) _).alloc (by simp) _).trans (hb1.mono (by simp; omega))).trans (hb2.mono (by omega)))⟩
  · have e1' : freeB cs (fr i) = false := by simpa using e1
    go_wp2
    go_ret
    exact ⟨ret_int (cartM_place (Or.inl e1')).symm, (((Below.refl _ _).alloc (Nat.le_refl _) _).alloc (by simp) _).trans (hb1.mono (by simp; omega))⟩

end Go.Proofs.YtaldfpoolajoiaaDoor
