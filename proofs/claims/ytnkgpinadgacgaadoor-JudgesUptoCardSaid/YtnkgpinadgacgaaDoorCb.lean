/- Walks of the small functions on the road of Judge: where a cart is; how many instants; do two meet or swap. -/
import Derived.Test.YtnkgpinadgacgaaDoorCa
namespace Go.Proofs.YtnkgpinadgacgaaDoor
open Go.RowKit M

set_option maxRecDepth 100000 in
set_option maxHeartbeats 1000000 in
theorem rat_any (a : Option Addr) (n cap t : Nat) (x : Nat → Int) (w : World) (hn : 0 < n) (hm : n ≤ 1048576) (hx : NumsAt w a n x) :
    Calls Tryd.prog 130 #[.slice a n cap, .int .i64 t] w fun e w' => e = .returned (.int .i64 (posM n x t)) ∧ w' = w := by
  obtain ⟨b, off, rfl, hc⟩ := hx hn
  have HC := Hid.mk hc
  clear hc hx
  by_cases h : t < n
  · have c := HC.out t h
    have hp : Hid (posM n x t = x t) := by unfold Hid posM; rw [if_pos h]
    have hI : (t : Int) < (n : Int) := by omega
    have hI2 : ¬ (n : Int) ≤ (t : Int) := by omega
    go_enter Tryd.func130, Tryd.ntmps130
    go_wp2
    go_ret
    exact ⟨ret_int (by rw [hp.out]), rfl⟩
  · obtain ⟨n1, rfl⟩ : ∃ n1, n = n1 + 1 := ⟨n - 1, by omega⟩
    have c := HC.out n1 (by omega)
    have hp : Hid (posM (n1 + 1) x t = x n1) := by unfold Hid posM; rw [if_neg h, Nat.add_sub_cancel]
    have hI : ((n1 + 1 : Nat) : Int) ≤ (t : Int) := by omega
    have hv : IntKind.i64.wrap (((n1 + 1 : Nat) : Int) - 1) = (n1 : Int) := by
      rw [show ((n1 + 1 : Nat) : Int) - 1 = (n1 : Int) by omega]; exact wrap_mid (by omega) (by omega)
    have hl : n1 < n1 + 1 := by omega
    have hlI : (n1 : Int) < ((n1 + 1 : Nat) : Int) := by omega
    go_enter Tryd.func130, Tryd.ntmps130
    go_wp2
    go_ret
    exact ⟨ret_int (by rw [hp.out]), rfl⟩

set_option maxRecDepth 100000 in
set_option maxHeartbeats 1000000 in
theorem cellAt_any (a : Option Addr) (n cap t : Nat) (x : Nat → Int) (w : World) (hn : 0 < n) (hm : n ≤ 1048576) (hx : NumsAt w a n x) :
    Calls Tryd.prog 168 #[.slice a n cap, .int .i64 t] w fun e w' => e = .returned (.int .i64 (posM n x t)) ∧ w' = w := by
  obtain ⟨b, off, rfl, hc⟩ := hx hn
  have HC := Hid.mk hc
  clear hc hx
  obtain ⟨n1, rfl⟩ : ∃ n1, n = n1 + 1 := ⟨n - 1, by omega⟩
  have hv : IntKind.i64.wrap (((n1 + 1 : Nat) : Int) - 1) = (n1 : Int) := by
    rw [show ((n1 + 1 : Nat) : Int) - 1 = (n1 : Int) by omega]; exact wrap_mid (by omega) (by omega)
  by_cases h : t < n1 + 1
  · have c := HC.out t h
    have hp : Hid (posM (n1 + 1) x t = x t) := by unfold Hid posM; rw [if_pos h]
    have hI : (t : Int) < ((n1 + 1 : Nat) : Int) := by omega
    have hmin : min (t : Int) (n1 : Int) = (t : Int) := by omega
    have hle : (t : Int) ≤ (n1 : Int) := by omega
    go_enter Tryd.func168, Tryd.ntmps168
    go_wp2
    go_ret
    exact ⟨ret_int (by rw [hp.out]), rfl⟩
  · have c := HC.out n1 (by omega)
    have hp : Hid (posM (n1 + 1) x t = x n1) := by unfold Hid posM; rw [if_neg h, Nat.add_sub_cancel]
    have hmin : min (t : Int) (n1 : Int) = (n1 : Int) := by omega
    have hle : ¬ (t : Int) ≤ (n1 : Int) := by omega
    have hl : n1 < n1 + 1 := by omega
    have hlI : (n1 : Int) < ((n1 + 1 : Nat) : Int) := by omega
    go_enter Tryd.func168, Tryd.ntmps168
    go_wp2
    go_ret
    exact ⟨ret_int (by rw [hp.out]), rfl⟩

theorem longer_any (a a2 : Option Addr) (n cap n2 cap2 : Nat) (w : World) :
    Calls Tryd.prog 129 #[.slice a n cap, .slice a2 n2 cap2] w fun e w' => e = .returned (.int .i64 (max n n2 : Nat)) ∧ w' = w := by
  go_enter Tryd.func129, Tryd.ntmps129
  by_cases h : n2 < n
  · have hI : (n2 : Int) < (n : Int) := by omega
    go_wp2
    go_ret
    exact ⟨ret_int (by rw [Nat.max_eq_left (by omega)]), rfl⟩
  · have hI : ¬ (n2 : Int) < (n : Int) := by omega
    go_wp2
    go_ret
    exact ⟨ret_int (by rw [Nat.max_eq_right (by omega)]), rfl⟩

theorem instants_any (a a2 : Option Addr) (n cap n2 cap2 : Nat) (w : World) :
    Calls Tryd.prog 167 #[.slice a n cap, .slice a2 n2 cap2] w fun e w' => e = .returned (.int .i64 (spanM n n2 : Nat)) ∧ w' = w := by
  by_cases h : n = 0
  · have hs : Hid (spanM n n2 = 0) := by unfold Hid spanM; simp [h]
    have hI : ((n : Int) == 0) = true := by simp [h]
    clear h
    go_enter Tryd.func167, Tryd.ntmps167
    go_wp2
    go_ret
    exact ⟨ret_int (by rw [hs.out]; rfl), rfl⟩
  · have hI : ((n : Int) == 0) = false := by simp; omega
    by_cases h2 : n2 = 0
    · have hs : Hid (spanM n n2 = 0) := by unfold Hid spanM; simp [h2]
      have hI2 : ((n2 : Int) == 0) = true := by simp [h2]
      clear h h2
      go_enter Tryd.func167, Tryd.ntmps167
      go_wp2
      go_ret
      exact ⟨ret_int (by rw [hs.out]; rfl), rfl⟩
    · have hI2 : ((n2 : Int) == 0) = false := by simp; omega
      have hs : Hid (spanM n n2 = max n n2) := by unfold Hid spanM; rw [if_neg (by omega)]
      clear h h2
      go_enter Tryd.func167, Tryd.ntmps167
      go_wp2
      all_goals go_ret
      all_goals exact ⟨ret_int (by rw [hs.out]; omega), rfl⟩

set_option maxRecDepth 100000 in
set_option maxHeartbeats 1000000 in
theorem jmeet_any (a a2 : Option Addr) (n cap n2 cap2 t : Nat) (x y : Nat → Int) (w : World) (hn : 0 < n) (hm : n ≤ 1048576) (hn2 : 0 < n2) (hm2 : n2 ≤ 1048576) (hx : NumsAt w a n x) (hy : NumsAt w a2 n2 y) :
    Calls Tryd.prog 126 #[.slice a n cap, .slice a2 n2 cap2, .int .i64 t] w fun e w' => e = .returned (.bool (posM n x t == posM n2 y t)) ∧ w' = w := by
  have HX := Hid.mk hx
  have HY := Hid.mk hy
  clear hx hy
  go_enter Tryd.func126, Tryd.ntmps126
  go_wp2_with fail
  refine (cellAt_any a n cap t x _ hn hm HX.out).mono ?_
  rintro e w1 ⟨rfl, hw⟩
  have hw := hw.symm
  subst hw
  go_wp2_with fail
  refine (cellAt_any a2 n2 cap2 t y _ hn2 hm2 HY.out).mono ?_
  rintro e w1 ⟨rfl, hw⟩
  have hw := hw.symm
  subst hw
  go_wp2
  go_ret
  exact ⟨rfl, rfl⟩

set_option maxRecDepth 100000 in
set_option maxHeartbeats 2000000 in
theorem jswap_any (a a2 : Option Addr) (n cap n2 cap2 t : Nat) (x y : Nat → Int) (w : World) (hn : 0 < n) (hm : n ≤ 1048576) (hn2 : 0 < n2) (hm2 : n2 ≤ 1048576) (ht : t ≤ 1048576) (hx : NumsAt w a n x) (hy : NumsAt w a2 n2 y) :
    Calls Tryd.prog 125 #[.slice a n cap, .slice a2 n2 cap2, .int .i64 t] w fun e w' => e = .returned (.bool (pairB 3 (posM n x t) (posM n2 y t) (posM n x (t + 1)) (posM n2 y (t + 1)))) ∧ w' = w := by
  have HX := Hid.mk hx
  have HY := Hid.mk hy
  obtain ⟨p, hp⟩ : ∃ p, p = posM n x t := ⟨_, rfl⟩
  obtain ⟨q, hq⟩ : ∃ q, q = posM n2 y t := ⟨_, rfl⟩
  obtain ⟨r, hr⟩ : ∃ r, r = posM n x (t + 1) := ⟨_, rfl⟩
  obtain ⟨s, hs⟩ : ∃ s, s = posM n2 y (t + 1) := ⟨_, rfl⟩
  rw [← hp, ← hq, ← hr, ← hs]
  have C1 : Hid (∀ w', w' = w → Calls Tryd.prog 168 #[.slice a n cap, .int .i64 ((t : Int) + 1)] w' fun e w2 => e = .returned (.int .i64 r) ∧ w2 = w) := fun w' h => by
    subst h; rw [hr]; exact cellAt_any a n cap (t + 1) x _ hn hm HX.out
  have C2 : Hid (∀ w', w' = w → Calls Tryd.prog 168 #[.slice a2 n2 cap2, .int .i64 (t : Int)] w' fun e w2 => e = .returned (.int .i64 q) ∧ w2 = w) := fun w' h => by
    subst h; rw [hq]; exact cellAt_any a2 n2 cap2 t y _ hn2 hm2 HY.out
  have C3 : Hid (∀ w', w' = w → Calls Tryd.prog 168 #[.slice a2 n2 cap2, .int .i64 ((t : Int) + 1)] w' fun e w2 => e = .returned (.int .i64 s) ∧ w2 = w) := fun w' h => by
    subst h; rw [hs]; exact cellAt_any a2 n2 cap2 (t + 1) y _ hn2 hm2 HY.out
  have C4 : Hid (∀ w', w' = w → Calls Tryd.prog 168 #[.slice a n cap, .int .i64 (t : Int)] w' fun e w2 => e = .returned (.int .i64 p) ∧ w2 = w) := fun w' h => by
    subst h; rw [hp]; exact cellAt_any a n cap t x _ hn hm HX.out
  have C5 : Hid (∀ w', w' = w → Calls Tryd.prog 126 #[.slice a n cap, .slice a2 n2 cap2, .int .i64 (t : Int)] w' fun e w2 => e = .returned (.bool (p == q)) ∧ w2 = w) := fun w' h => by
    subst h; rw [hp, hq]; exact jmeet_any a a2 n cap n2 cap2 t x y _ hn hm hn2 hm2 HX.out HY.out
  clear hx hy hp hq hr hs
  go_enter Tryd.func125, Tryd.ntmps125
  go_wp2_with fail
  refine (C1.out _ rfl).mono ?_
  rintro e w1 ⟨rfl, hw⟩
  subst hw
  go_wp2_with fail
  refine (C2.out _ rfl).mono ?_
  rintro e w2 ⟨rfl, hw⟩
  have hw := hw.symm
  subst hw
  by_cases e1 : (r == q) = true
  · go_wp2_with fail
    refine (C3.out _ rfl).mono ?_
    rintro e w2 ⟨rfl, hw⟩
    have hw := hw.symm
    subst hw
    go_wp2_with fail
    refine (C4.out _ rfl).mono ?_
    rintro e w2 ⟨rfl, hw⟩
    have hw := hw.symm
    subst hw
    by_cases e2 : (s == p) = true
    · go_wp2_with fail
      refine (C5.out _ rfl).mono ?_
      rintro e w2 ⟨rfl, hw⟩
      have hw := hw.symm
      subst hw
      have e1' : (q == r) = true := by simp at e1 ⊢; exact e1.symm
      have e2' : (p == s) = true := by simp at e2 ⊢; exact e2.symm
      have R : Hid (pairB 3 p q r s = !(p == q)) := by unfold Hid pairB; rw [if_neg (by decide), e1', e2']; simp
      clear e1' e2'
      go_wp2
      go_ret
      exact ⟨ret_bool R.out.symm, rfl⟩
    · have e2n : (s == p) = false := by simpa using e2
      have e2' : (p == s) = false := by simp at e2 ⊢; exact fun h => e2 h.symm
      have R : Hid (pairB 3 p q r s = false) := by unfold Hid pairB; rw [if_neg (by decide), e2']; simp
      clear e2' e2
      go_wp2
      go_ret
      exact ⟨ret_bool R.out.symm, rfl⟩
  · have e1n : (r == q) = false := by simpa using e1
    have e1' : (q == r) = false := by simp at e1 ⊢; exact fun h => e1 h.symm
    have R : Hid (pairB 3 p q r s = false) := by unfold Hid pairB; rw [if_neg (by decide), e1']; simp
    clear e1' e1
    go_wp2
    go_ret
    exact ⟨ret_bool R.out.symm, rfl⟩

end Go.Proofs.YtnkgpinadgacgaaDoor
