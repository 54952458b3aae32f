/- Walks of what tells the faults of ends: beginsWrong, endsWrong, endFaults. -/
import Derived.Test.YtnkgpinadgacgaaDoorCf
namespace Go.Proofs.YtnkgpinadgacgaaDoor
open Go.RowKit M

namespace M
/-- Does a list begin at f? -/
def begunB (f : Int) (n : Nat) (x : Nat → Int) : Bool := decide (0 < n) && (x 0 == f)

/-- Does a list end at c, and not with waiting? -/
def overB (c : Int) (n : Nat) (x : Nat → Int) : Bool := decide (n = 0) || ((x (n - 1) == c) && (decide (n = 1) || !(x (n - 2) == c)))

/-- The faults of one list's ends. -/
def endF (i : Nat) (f c : Int) (n : Nat) (x : Nat → Int) : List FaultM :=
  (if begunB f n x = true then [] else [⟨0, i, -1, 0⟩]) ++ (if (!overB c n x && (decide (1 < n) || begunB f n x)) = true then [⟨0, i, -1, (n : Int) - 1⟩] else [])

/-- The faults of level 0. -/
def endsF (fr tt : Nat → Int) (len : Nat → Nat) (num : Nat → Nat → Int) : Nat → List FaultM
  | 0 => []
  | i + 1 => endsF fr tt len num i ++ endF i (fr i) (tt i) (len i) (num i)

theorem endF_len (i : Nat) (f c : Int) (n : Nat) (x : Nat → Int) : (endF i f c n x).length ≤ 2 := by
  unfold endF
  rw [List.length_append]
  split <;> split <;> simp

theorem endsF_len (fr tt : Nat → Int) (len : Nat → Nat) (num : Nat → Nat → Int) : ∀ i, (endsF fr tt len num i).length ≤ 2 * i
  | 0 => by simp [endsF]
  | i + 1 => by
    have := endsF_len fr tt len num i
    have := endF_len i (fr i) (tt i) (len i) (num i)
    simp only [endsF, List.length_append]
    omega

theorem endF_none {i n : Nat} {f c : Int} {x : Nat → Int} (hn : n = 0) : endF i f c n x = [⟨0, i, -1, 0⟩] := by
  subst hn; simp [endF, begunB, overB]

theorem endF_of {i n : Nat} {f c : Int} {x : Nat → Int} {ws we : Bool} (h1 : ws = !begunB f n x) (h2 : we = !overB c n x) (hn : 2 ≤ n) : endF i f c n x = (if ws = true then [⟨0, i, -1, 0⟩] else []) ++ (if we = true then [⟨0, i, -1, (n : Int) - 1⟩] else []) := by
  unfold endF
  rw [h1, h2, show decide (1 < n) = true from decide_eq_true (by omega)]
  cases begunB f n x <;> cases overB c n x <;> simp

theorem endF_one {i n : Nat} {f c : Int} {x : Nat → Int} {ws we : Bool} (h1 : ws = !begunB f n x) (h2 : we = !overB c n x) (hn : n = 1) : endF i f c n x = (if (ws || we) = true then [⟨0, i, -1, 0⟩] else []) := by
  subst hn
  unfold endF
  rw [h1, h2]
  cases begunB f 1 x <;> cases overB c 1 x <;> simp
end M

set_option maxRecDepth 100000 in
set_option maxHeartbeats 1000000 in
theorem beginsWrong_any (f c : Int) (a : Option Addr) (n cap : Nat) (x : Nat → Int) (w : World) (hn : n ≤ 1048576) (hx : NumsAt w a n x) :
    Calls Tryd.prog 170 #[.agg #[.int .i64 f, .int .i64 c], .slice a n cap] w fun e w' => e = .returned (.bool (!begunB f n x)) ∧ Below w.heap.size w w' := by
  have HB0 : Hid (∀ o, Below w.heap.size w (w.alloc o)) := fun _ => (Below.refl _ w).alloc (Nat.le_refl _) _
  by_cases h0 : n = 0
  · have hI : ((n : Int) == 0) = true := by simp [h0]
    have R : Hid ((!begunB f n x) = true) := by unfold Hid begunB; simp [h0]
    clear h0
    go_enter Tryd.func170, Tryd.ntmps170
    go_wp2_with fail
    go_quiet (fail)
    go_wp2
    go_ret
    exact ⟨ret_bool R.out.symm, below_drewN (HB0.out _) _⟩
  · obtain ⟨b, off, rfl, hc⟩ := hx (by omega)
    have d := cell_later (HB0.out (.cells #[.int .i64 f, .int .i64 c] 87)) (hc 0 (by omega))
    rw [Nat.add_zero] at d
    have hI : ((n : Int) == 0) = false := by simp; omega
    have nN : 0 < n := by omega
    have nI : (0 : Int) < (n : Int) := by omega
    obtain ⟨p, hp⟩ : ∃ p, p = x 0 := ⟨_, rfl⟩
    rw [← hp] at d
    have R : Hid ((!begunB f n x) = (p != f)) := by unfold Hid begunB; rw [hp]; simp [nN, bne]
    clear hx hc h0 hp
    go_enter Tryd.func170, Tryd.ntmps170
    go_wp2_with fail
    go_quiet (fail)
    go_wp2
    go_ret
    exact ⟨ret_bool R.out.symm, below_drewN (HB0.out _) _⟩

set_option maxRecDepth 100000 in
set_option maxHeartbeats 2000000 in
theorem endsWrong_any (f c : Int) (a : Option Addr) (n cap : Nat) (x : Nat → Int) (w : World) (hn : n ≤ 1048576) (hx : NumsAt w a n x) :
    Calls Tryd.prog 171 #[.agg #[.int .i64 f, .int .i64 c], .slice a n cap] w fun e w' => e = .returned (.bool (!overB c n x)) ∧ Below w.heap.size w w' := by
  have HB0 : Hid (∀ o, Below w.heap.size w (w.alloc o)) := fun _ => (Below.refl _ w).alloc (Nat.le_refl _) _
  by_cases h0 : n = 0
  · have hv : IntKind.i64.wrap ((n : Int) - 1) = -1 := by rw [h0]; rfl
    have R : Hid ((!overB c n x) = false) := by unfold Hid overB; simp [h0]
    clear h0
    go_enter Tryd.func171, Tryd.ntmps171
    go_wp2_with fail
    go_quiet (fail)
    go_wp2
    go_ret
    exact ⟨ret_bool R.out.symm, below_drewN (HB0.out _) _⟩
  · obtain ⟨b, off, rfl, hc⟩ := hx (by omega)
    obtain ⟨n1, hn1⟩ : ∃ n1, n = n1 + 1 := ⟨n - 1, by omega⟩
    have hv : IntKind.i64.wrap ((n : Int) - 1) = (n1 : Int) := by
      rw [show (n : Int) - 1 = (n1 : Int) by omega]; exact wrap_mid (by omega) (by omega)
    have d := cell_later (HB0.out (.cells #[.int .i64 f, .int .i64 c] 87)) (hc n1 (by omega))
    have i1 : n1 < n := by omega
    have i1I : (n1 : Int) < (n : Int) := by omega
    have i0I : (0 : Int) ≤ (n1 : Int) := by omega
    obtain ⟨p, hp⟩ : ∃ p, p = x n1 := ⟨_, rfl⟩
    rw [← hp] at d
    by_cases e1 : (p == c) = true
    · have e1n : (p != c) = false := by simp at e1 ⊢; exact e1
      by_cases h1 : n1 = 0
      · have g0 : decide (0 < n1) = false := by simp [h1]
        have R : Hid ((!overB c n x) = false) := by unfold Hid overB; rw [hn1]; simp only [Nat.add_sub_cancel]; rw [← hp, e1, h1]; simp
        clear h1 hn1 hc hx hp h0
        go_enter Tryd.func171, Tryd.ntmps171
        go_wp2_with fail
        go_quiet (fail)
        go_wp2
        go_ret
        exact ⟨ret_bool R.out.symm, below_drewN (HB0.out _) _⟩
      · obtain ⟨n2, hn2⟩ : ∃ n2, n1 = n2 + 1 := ⟨n1 - 1, by omega⟩
        have g0 : decide (0 < n1) = true := by simp; omega
        have hv2 : IntKind.i64.wrap ((n1 : Int) - 1) = (n2 : Int) := by
          rw [show (n1 : Int) - 1 = (n2 : Int) by omega]; exact wrap_mid (by omega) (by omega)
        have d2 := cell_later (HB0.out (.cells #[.int .i64 f, .int .i64 c] 87)) (hc n2 (by omega))
        have i2 : n2 < n := by omega
        have i2I : (n2 : Int) < (n : Int) := by omega
        have i20 : (0 : Int) ≤ (n2 : Int) := by omega
        obtain ⟨q, hq⟩ : ∃ q, q = x n2 := ⟨_, rfl⟩
        rw [← hq] at d2
        have R : Hid ((!overB c n x) = (q == c)) := by
          unfold Hid overB; rw [hn1]; simp only [Nat.add_sub_cancel]; rw [← hp, e1, show n1 + 1 - 2 = n2 by omega, ← hq]
          simp; omega
        clear h1 hn1 hn2 hc hx hp hq h0
        go_enter Tryd.func171, Tryd.ntmps171
        go_wp2_with fail
        go_quiet (fail)
        go_wp2
        go_ret
        exact ⟨ret_bool R.out.symm, below_drewN (HB0.out _) _⟩
    · have e1n : (p != c) = true := by simpa using e1
      have e1f : (p == c) = false := by simpa using e1
      have R : Hid ((!overB c n x) = true) := by unfold Hid overB; rw [hn1]; simp only [Nat.add_sub_cancel]; rw [← hp, e1f]; simp
      clear e1 hn1 hc hx hp h0
      go_enter Tryd.func171, Tryd.ntmps171
      go_wp2_with fail
      go_quiet (fail)
      go_wp2
      go_ret
      exact ⟨ret_bool R.out.symm, below_drewN (HB0.out _) _⟩

end Go.Proofs.YtnkgpinadgacgaaDoor
