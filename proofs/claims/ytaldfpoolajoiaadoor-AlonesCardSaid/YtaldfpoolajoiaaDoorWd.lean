/- Walks of the two Checks: the program's, and the document's. -/
import Derived.Test.YtaldfpoolajoiaaDoorWc
namespace Go.Proofs.YtaldfpoolajoiaaDoor
open Go.RowKit M

theorem ret_ii {k : IntKind} {a b c d : Int} (h : a = b) (h' : c = d) : Ending.returned (.tuple #[.int k a, .int k c]) = .returned (.tuple #[.int k b, .int k d]) := by rw [h, h']

theorem checkM_side {ro co bu : Int} {cs : ByteArray} {n : Nat} {fr to : Nat → Int} (h : sideB ro = false ∨ sideB co = false) : (1, 0) = checkM ro co cs n fr to bu := by
  unfold checkM; rw [if_pos (by rcases h with h | h <;> simp [h])]

theorem checkM_cells {ro co bu : Int} {cs : ByteArray} {n : Nat} {fr to : Nat → Int} (h1 : sideB ro = true) (h2 : sideB co = true) (h : 0 ≤ cellsM ro co cs) : (2, cellsM ro co cs) = checkM ro co cs n fr to bu := by
  unfold checkM; rw [if_neg (by simp [h1, h2]), if_pos h]

theorem checkM_carts {ro co bu : Int} {cs : ByteArray} {n : Nat} {fr to : Nat → Int} (h1 : sideB ro = true) (h2 : sideB co = true) (h : ¬ 0 ≤ cellsM ro co cs) (hn : n < 1 ∨ 4 < n) : (3, 0) = checkM ro co cs n fr to bu := by
  unfold checkM; rw [if_neg (by simp [h1, h2]), if_neg h, if_pos hn]

theorem checkM_cart {ro co bu : Int} {cs : ByteArray} {n k : Nat} {fr to : Nat → Int} (h1 : sideB ro = true) (h2 : sideB co = true) (h : ¬ 0 ≤ cellsM ro co cs) (hn : ¬ n < 1) (hn' : ¬ 4 < n)
    (hk : k < n) (he : ¬ cartM cs fr to k = 0) (hg : ∀ j, j < k → cartM cs fr to j = 0) : (cartM cs fr to k, (k : Int)) = checkM ro co cs n fr to bu := by
  have hf : firstOf (fun i => !(cartM cs fr to i == 0)) n = k := firstOf_hit (by simpa using he) (fun j hj => by simp [hg j hj]) n hk
  unfold checkM; rw [if_neg (by simp [h1, h2]), if_neg h, if_neg (by omega), hf, if_pos hk]

theorem checkM_rest {ro co bu : Int} {cs : ByteArray} {n : Nat} {fr to : Nat → Int} (h1 : sideB ro = true) (h2 : sideB co = true) (h : ¬ 0 ≤ cellsM ro co cs) (hn : ¬ n < 1) (hn' : ¬ 4 < n)
    (hg : ∀ j, j < n → cartM cs fr to j = 0) : checkM ro co cs n fr to bu = if bu < 1 ∨ 20000 < bu then ((6, 0) : Int × Int) else (0, 0) := by
  have hf : firstOf (fun i => !(cartM cs fr to i == 0)) n = n := firstOf_miss (fun j hj => by simp [hg j hj])
  unfold checkM; rw [if_neg (by simp [h1, h2]), if_neg h, if_neg (by omega), hf, if_neg (by omega)]

theorem checkM_budget {ro co bu : Int} {cs : ByteArray} {n : Nat} {fr to : Nat → Int} (h1 : sideB ro = true) (h2 : sideB co = true) (h : ¬ 0 ≤ cellsM ro co cs) (hn : ¬ n < 1) (hn' : ¬ 4 < n)
    (hg : ∀ j, j < n → cartM cs fr to j = 0) (hb : bu < 1 ∨ 20000 < bu) : ((6, 0) : Int × Int) = checkM ro co cs n fr to bu := by
  rw [checkM_rest h1 h2 h hn hn' hg, if_pos hb]

theorem checkM_ok {ro co bu : Int} {cs : ByteArray} {n : Nat} {fr to : Nat → Int} (h1 : sideB ro = true) (h2 : sideB co = true) (h : ¬ 0 ≤ cellsM ro co cs) (hn : ¬ n < 1) (hn' : ¬ 4 < n)
    (hg : ∀ j, j < n → cartM cs fr to j = 0) (hb : ¬ (bu < 1 ∨ 20000 < bu)) : ((0, 0) : Int × Int) = checkM ro co cs n fr to bu := by
  rw [checkM_rest h1 h2 h hn hn' hg, if_neg hb]

theorem ret_pair {k : IntKind} {a c : Int} {p : Int × Int} (h : (a, c) = p) : Ending.returned (.tuple #[.int k a, .int k c]) = .returned (.tuple #[.int k p.1, .int k p.2]) := by rw [← h]

theorem side_bd {n : Int} (h : sideB n = true) : 1 ≤ n ∧ n ≤ 6 := by unfold sideB at h; simpa using h

theorem step_all {p : Nat → Prop} {k : Nat} (hb : p k) (hg : ∀ j, j < k → p j) : ∀ j, j < k + 1 → p j := by
  intro j hj
  by_cases e : j = k
  · subst e; exact hb
  · exact hg j (by omega)

set_option maxHeartbeats 400000 in
theorem rcheck_any (ro co bu : Int) (cs : ByteArray) (a : Option Addr) (n cap : Nat) (fr to : Nat → Int) (w : World) (hs : cs.size ≤ maxLen) (hn : n ≤ maxLen)
    (ha : 0 < n → ∃ b off, a = some ⟨b, off, none⟩ ∧ CartsIn w b off n fr to) :
    Calls Tryd.prog 41 #[.agg #[.int .i64 ro, .int .i64 co, .string cs, .slice a n cap, .int .i64 bu]] w fun e w' =>
      e = .returned (.tuple #[.int .i64 (checkM ro co cs n fr to bu).1, .int .i64 (checkM ro co cs n fr to bu).2]) ∧ Below w.heap.size w w' := by
  go_enter Tryd.func41, Tryd.ntmps41
  go_wp2_with fail
  refine (isSide_any _ _).mono ?_
  rintro e w1 ⟨rfl, rfl⟩
  go_wp2_with fail
  refine (isSide_any _ _).mono ?_
  rintro e w1 ⟨rfl, rfl⟩
  by_cases s1 : sideB ro = true
  · by_cases s2 : sideB co = true
    · obtain ⟨r1, r2⟩ := side_bd s1
      obtain ⟨r3, r4⟩ := side_bd s2
      go_wp2_with fail
      refine (cells_any _ _ _ _ _ _ hs r1 r2 r3 r4).mono ?_
      rintro e w1 ⟨rfl, hb1⟩
      have S1 := Hid.mk s1
      have S2 := Hid.mk s2
      have hB : Below w.heap.size w w1 := ((Below.refl _ _).alloc (Nat.le_refl _) _).trans (hb1.mono (by simp))
      obtain ⟨hc1, hf1⟩ := bcell hb1
      have y0 : w1.cell? ⟨w.heap.size, 0, none⟩ = some (.int .i64 ro) := by rw [hc1 _ _ (by simp)]; go_simp
      have y1 : w1.cell? ⟨w.heap.size, 1, none⟩ = some (.int .i64 co) := by rw [hc1 _ _ (by simp)]; go_simp
      have y2 : w1.cell? ⟨w.heap.size, 2, none⟩ = some (.string cs) := by rw [hc1 _ _ (by simp)]; go_simp
      have y3 : w1.cell? ⟨w.heap.size, 3, none⟩ = some (.slice a n cap) := by rw [hc1 _ _ (by simp)]; go_simp
      have y4 : w1.cell? ⟨w.heap.size, 4, none⟩ = some (.int .i64 bu) := by rw [hc1 _ _ (by simp)]; go_simp
      have HB := Hid.mk hB
      clear hc1 hf1 hb1 hB r1 r2 r3 r4
      by_cases hce : 0 ≤ cellsM ro co cs
      · go_wp2
        go_ret2
        exact ⟨ret_pair (checkM_cells S1.out S2.out hce), HB.out⟩
      · by_cases hn1 : n < 1
        · go_wp2
          go_ret2
          exact ⟨ret_pair (checkM_carts S1.out S2.out (by omega) (Or.inl (by omega))), HB.out⟩
        · by_cases hn4 : 4 < n
          · unfold maxLen at hn
            go_wp2
            go_ret2
            exact ⟨ret_pair (checkM_carts S1.out S2.out (by omega) (Or.inr (by omega))), HB.out⟩
          · obtain ⟨b, off, rfl, hcs⟩ := ha (by omega)
            have hcs1 := Hid.mk (hcs.below HB.out)
            go_wp2
            clear hcs
            go_loopw [7] (fun s wr => ∃ k : Nat, k ≤ n ∧ s = .int .i64 k ∧ (∀ j, j < k → cartM cs fr to j = 0) ∧ Below w1.heap.size w1 wr) (fun s _ => n - (intOf s).toNat)
            case atStart => exact ⟨0, Nat.zero_le _, rfl, fun j hj => absurd hj (Nat.not_lt_zero j), Below.refl _ _⟩
            case round =>
              obtain ⟨k, hk, rfl, hg0, hbr⟩ := hrel
              have hg := Hid.mk hg0
              clear hg0
              have z0 := cell_later hbr y0
              have z1 := cell_later hbr y1
              have z2 := cell_later hbr y2
              have z3 := cell_later hbr y3
              have z4 := cell_later hbr y4
              clear y0 y1 y2 y3 y4
              by_cases hlt : k < n
              · go_wp2_with fail
                refine (cart_any _ _ _ _ _ _ _ _ _ fr to _ hs hn hlt (hcs1.out.below hbr)).mono ?_
                rintro e w2 ⟨rfl, hb2⟩
                by_cases he : cartM cs fr to k = 0
                · have he' : (cartM cs fr to k != 0) = false := by simp [he]
                  have He := Hid.mk he
                  clear he
                  go_wp2
                  go_roundw
                  case rel => exact ⟨k + 1, by omega, by go_num, step_all He.out hg.out, hbr.trans (hb2.mono hbr.size)⟩
                  case measure => simp [intOf]; omega
                · have he' : (cartM cs fr to k != 0) = true := by simp [he]
                  go_wp2
                  go_ret2
                  exact ⟨ret_pair (checkM_cart S1.out S2.out (by omega) (by omega) (by omega) hlt he hg.out), HB.out.trans ((hbr.trans (hb2.mono hbr.size)).mono HB.out.size)⟩
              · have hd : k = n := by omega
                by_cases hbu : bu < 1
                · go_wp2
                  go_ret2
                  subst hd
                  exact ⟨ret_pair (checkM_budget S1.out S2.out (by omega) (by omega) (by omega) hg.out (Or.inl (by omega))), HB.out.trans (hbr.mono HB.out.size)⟩
                · by_cases hbu2 : 20000 < bu
                  · go_wp2
                    go_ret2
                    subst hd
                    exact ⟨ret_pair (checkM_budget S1.out S2.out (by omega) (by omega) (by omega) hg.out (Or.inr (by omega))), HB.out.trans (hbr.mono HB.out.size)⟩
                  · go_wp2
                    go_ret2
                    subst hd
                    exact ⟨ret_pair (checkM_ok S1.out S2.out (by omega) (by omega) (by omega) hg.out (by omega)), HB.out.trans (hbr.mono HB.out.size)⟩
    · have s2' : sideB co = false := by simpa using s2
      go_wp2
      go_ret2
      exact ⟨ret_pair (checkM_side (Or.inr s2')), (Below.refl _ _).alloc (Nat.le_refl _) _⟩
  · have s1' : sideB ro = false := by simpa using s1
    go_wp2
    go_ret2
    exact ⟨ret_pair (checkM_side (Or.inl s1')), (Below.refl _ _).alloc (Nat.le_refl _) _⟩

def rngB (n a b : Int) : Bool := decide (a ≤ n) && decide (n ≤ b)
theorem rng_in {n a b : Int} (h1 : a ≤ n) (h2 : n ≤ b) : rngB n a b = true := by unfold rngB; simp [h1, h2]
theorem rng_out {n a b : Int} (h : ¬ (a ≤ n ∧ n ≤ b)) : rngB n a b = false := by unfold rngB; simp; omega
theorem within_rng (n a b : Int) (w : World) :
    Calls Tryd.prog 63 #[.int .i64 n, .int .i64 a, .int .i64 b] w fun e w' => e = .returned (.bool (rngB n a b)) ∧ w' = w := within_any n a b w

set_option maxHeartbeats 400000 in
theorem gcheck_any (ro co bu : Int) (cs : ByteArray) (a : Option Addr) (n cap : Nat) (fr to : Nat → Int) (w : World) (hs : cs.size ≤ maxLen) (hn : n ≤ maxLen) (hcap : n ≤ cap)
    (ha : 0 < n → ∃ b off, a = some ⟨b, off, none⟩ ∧ CartsIn w b off n fr to) :
    Calls Tryd.prog 62 #[.agg #[.int .i64 ro, .int .i64 co, .string cs, .slice a n cap, .int .i64 bu]] w fun e w' =>
      e = .returned (.tuple #[.int .i64 (checkM ro co cs n fr to bu).1, .int .i64 (checkM ro co cs n fr to bu).2]) ∧ Below w.heap.size w w' := by
  go_enter Tryd.func62, Tryd.ntmps62
  go_wp2_with fail
  refine (within_side _ _).mono ?_
  rintro e w1 ⟨rfl, rfl⟩
  by_cases s1 : sideB ro = true
  · go_wp2_with fail
    refine (within_side _ _).mono ?_
    rintro e w1 ⟨rfl, rfl⟩
    by_cases s2 : sideB co = true
    · obtain ⟨r1, r2⟩ := side_bd s1
      obtain ⟨r3, r4⟩ := side_bd s2
      go_wp2_with fail
      refine (badCell_any _ _ _ _ _ _ hs r1 r2 r3 r4).mono ?_
      rintro e w1 ⟨rfl, hb1⟩
      have S1 := Hid.mk s1
      have S2 := Hid.mk s2
      have hB : Below w.heap.size w w1 := ((Below.refl _ _).alloc (Nat.le_refl _) _).trans (hb1.mono (by simp))
      obtain ⟨hc1, hf1⟩ := bcell hb1
      have y0 : w1.cell? ⟨w.heap.size, 0, none⟩ = some (.int .i64 ro) := by rw [hc1 _ _ (by simp)]; go_simp
      have y1 : w1.cell? ⟨w.heap.size, 1, none⟩ = some (.int .i64 co) := by rw [hc1 _ _ (by simp)]; go_simp
      have y2 : w1.cell? ⟨w.heap.size, 2, none⟩ = some (.string cs) := by rw [hc1 _ _ (by simp)]; go_simp
      have y3 : w1.cell? ⟨w.heap.size, 3, none⟩ = some (.slice a n cap) := by rw [hc1 _ _ (by simp)]; go_simp
      have y4 : w1.cell? ⟨w.heap.size, 4, none⟩ = some (.int .i64 bu) := by rw [hc1 _ _ (by simp)]; go_simp
      have HB := Hid.mk hB
      clear hc1 hf1 hb1 hB r1 r2 r3 r4
      by_cases hce : 0 ≤ cellsM ro co cs
      · go_wp2
        go_ret2
        exact ⟨(ret_pair (by rw [← checkM_cells S1.out S2.out hce]; unfold badM; rw [if_pos hce])), HB.out⟩
      · go_wp2_with fail
        refine (within_rng _ _ _ _).mono ?_
        rintro e w2 ⟨rfl, hw2⟩
        have hw2 := hw2.symm
        subst hw2
        by_cases hn1 : n < 1
        · have hq := rng_out (n := (n : Int)) (a := 1) (b := 4) (by omega)
          go_wp2
          go_ret2
          exact ⟨ret_pair (checkM_carts S1.out S2.out (by omega) (Or.inl (by omega))), HB.out⟩
        · by_cases hn4 : 4 < n
          · have hq := rng_out (n := (n : Int)) (a := 1) (b := 4) (by omega)
            go_wp2
            go_ret2
            exact ⟨ret_pair (checkM_carts S1.out S2.out (by omega) (Or.inr (by omega))), HB.out⟩
          · obtain ⟨b, off, rfl, hcs⟩ := ha (by omega)
            have hcs1 := Hid.mk (hcs.below HB.out)
            have hq := rng_in (n := (n : Int)) (a := 1) (b := 4) (by omega) (by omega)
            go_wp2
            clear hcs hq
            go_loopw [33] (fun s wr => ∃ k : Nat, k ≤ n ∧ s = .int .i64 k ∧ (∀ j, j < k → cartM cs fr to j = 0) ∧ Below w1.heap.size w1 wr) (fun s _ => n - (intOf s).toNat)
            case atStart => exact ⟨0, Nat.zero_le _, rfl, fun j hj => absurd hj (Nat.not_lt_zero j), Below.refl _ _⟩
            case round =>
              obtain ⟨k, hk, rfl, hg0, hbr⟩ := hrel
              have hg := Hid.mk hg0
              clear hg0
              have z0 := cell_later hbr y0
              have z1 := cell_later hbr y1
              have z2 := cell_later hbr y2
              have z3 := cell_later hbr y3
              have z4 := cell_later hbr y4
              clear y0 y1 y2 y3 y4
              by_cases hlt : k < n
              · go_wp2_with fail
                refine (checkCart_any _ _ _ _ _ _ _ _ _ fr to _ hs hn hcap hlt (hcs1.out.below hbr)).mono ?_
                rintro e w2 ⟨rfl, hb2⟩
                by_cases he : cartM cs fr to k = 0
                · have he' : (cartM cs fr to k != 0) = false := by simp [he]
                  have He := Hid.mk he
                  clear he
                  go_wp2
                  go_roundw
                  case rel => exact ⟨k + 1, by omega, by go_num, step_all He.out hg.out, hbr.trans (hb2.mono hbr.size)⟩
                  case measure => simp [intOf]; omega
                · have he' : (cartM cs fr to k != 0) = true := by simp [he]
                  go_wp2
                  go_ret2
                  exact ⟨ret_pair (checkM_cart S1.out S2.out (by omega) (by omega) (by omega) hlt he hg.out), HB.out.trans ((hbr.trans (hb2.mono hbr.size)).mono HB.out.size)⟩
              · have hd : k = n := by omega
                go_wp2_with fail
                refine (within_rng _ _ _ _).mono ?_
                rintro e w2 ⟨rfl, hw2⟩
                have hw2 := hw2.symm
                subst hw2
                by_cases hbu : bu < 1
                · have hq := rng_out (n := bu) (a := 1) (b := 20000) (by omega)
                  go_wp2
                  go_ret2
                  subst hd
                  exact ⟨ret_pair (checkM_budget S1.out S2.out (by omega) (by omega) (by omega) hg.out (Or.inl (by omega))), HB.out.trans (hbr.mono HB.out.size)⟩
                · by_cases hbu2 : 20000 < bu
                  · have hq := rng_out (n := bu) (a := 1) (b := 20000) (by omega)
                    go_wp2
                    go_ret2
                    subst hd
                    exact ⟨ret_pair (checkM_budget S1.out S2.out (by omega) (by omega) (by omega) hg.out (Or.inr (by omega))), HB.out.trans (hbr.mono HB.out.size)⟩
                  · have hq := rng_in (n := bu) (a := 1) (b := 20000) (by omega) (by omega)
                    go_wp2
                    go_ret2
                    subst hd
                    exact ⟨ret_pair (checkM_ok S1.out S2.out (by omega) (by omega) (by omega) hg.out (by omega)), HB.out.trans (hbr.mono HB.out.size)⟩
    · have s2' : sideB co = false := by simpa using s2
      go_wp2
      go_ret2
      exact ⟨ret_pair (checkM_side (Or.inr s2')), (Below.refl _ _).alloc (Nat.le_refl _) _⟩
  · have s1' : sideB ro = false := by simpa using s1
    go_wp2
    go_ret2
    exact ⟨ret_pair (checkM_side (Or.inl s1')), (Below.refl _ _).alloc (Nat.le_refl _) _⟩

set_option maxHeartbeats 400000 in
theorem check_any (ro co bu : Int) (cs : ByteArray) (a : Option Addr) (n cap : Nat) (fr to : Nat → Int) (w : World) (hs : cs.size ≤ maxLen) (hn : n ≤ maxLen) (hcap : n ≤ cap)
    (ha : 0 < n → ∃ b off, a = some ⟨b, off, none⟩ ∧ CartsIn w b off n fr to) :
    Calls Tryd.prog 58 #[.agg #[.int .i64 ro, .int .i64 co, .string cs, .slice a n cap, .int .i64 bu]] w fun e w' =>
      e = .returned (.tuple #[.int .i64 (checkM ro co cs n fr to bu).1, .int .i64 (checkM ro co cs n fr to bu).2]) ∧ Below w.heap.size w w' := by
  go_enter Tryd.func58, Tryd.ntmps58
  go_wp2_with fail
  refine (gcheck_any _ _ _ _ _ _ _ fr to _ hs hn hcap (fun h => ?_)).mono ?_
  · obtain ⟨b, off, hab, hcs⟩ := ha h
    exact ⟨b, off, hab, hcs.below ((Below.refl _ _).alloc (Nat.le_refl _) _)⟩
  · rintro e w1 ⟨rfl, hb1⟩
    go_wp2
    go_ret2
    exact ⟨rfl, ((Below.refl _ _).alloc (Nat.le_refl _) _).trans (hb1.mono (by simp))⟩

end Go.Proofs.YtaldfpoolajoiaaDoor
