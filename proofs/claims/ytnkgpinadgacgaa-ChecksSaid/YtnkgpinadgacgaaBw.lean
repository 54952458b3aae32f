/- Walk of Checks: the law answers true. -/
import Derived.Test.YtnkgpinadgacgaaBb
namespace Go.Proofs.Ytnkgpinadgacgaa
open Go.RowKit M

set_option maxHeartbeats 400000 in
theorem checks_any (ro co bu : Int) (cs : ByteArray) (a : Option Addr) (n cap : Nat) (fr tt : Nat → Int) (w : World) (hs : cs.size ≤ maxLen) (hn : n * 16 ≤ 140737488351232)
    (ha : 0 < n → ∃ b off, a = some ⟨b, off, none⟩ ∧ CartsIn w b off n fr tt) :
    Calls Try.prog 3 #[.agg #[.int .i64 ro, .int .i64 co, .string cs, .slice a n cap, .int .i64 bu]] w fun e w' =>
      e = .returned (.bool true) ∧ Below w.heap.size w w' := by
  have hnm : n ≤ maxLen := by unfold maxLen; omega
  have HA := Hid.mk ha
  clear ha
  go_enter Try.func3, Try.ntmps3
  go_wp2_with fail
  refine (handed_any _ _ _ _ _ _ _ fr tt _ hn (by exact opt_below HA.out ((Below.refl _ _).alloc (Nat.le_refl _) _))).mono ?_
  rintro e w1 ⟨g, rfl, hg, hrow, hb1⟩
  have y1 : ∀ o, w1.cell? ⟨w.heap.size, o, none⟩ = #[Value.int .i64 ro, .int .i64 co, .string cs, .slice a n cap, .int .i64 bu][o]? := by
    intro o
    rw [hb1.cell (p := ⟨w.heap.size, o, none⟩) (by show w.heap.size < _; simp)]; go_simp
  have hB1 := Hid.mk (((Below.refl _ w).alloc (Nat.le_refl _) _).trans (hb1.mono (by simp)) : Below w.heap.size w w1)
  have hz1 : w.heap.size < w1.heap.size := by have := hb1.size; simp at this; omega
  have HR := Hid.mk hrow
  have HA1 := Hid.mk (opt_below HA.out hB1.out)
  clear hrow hb1
  go_wp2_with fail
  refine (check_any _ _ _ _ _ _ _ fr tt _ hs hnm (by omega) (by exact fun _ => ⟨g, 0, rfl, (row_carts HR.out).below ((Below.refl _ _).alloc (Nat.le_refl _) _)⟩)).mono ?_
  rintro e w2 ⟨rfl, hb2⟩
  have hB2 := Hid.mk (((Below.refl _ w1).alloc (Nat.le_refl _) _).trans (hb2.mono (by simp)) : Below w1.heap.size w1 w2)
  have y2 : ∀ o, w2.cell? ⟨w.heap.size, o, none⟩ = #[Value.int .i64 ro, .int .i64 co, .string cs, .slice a n cap, .int .i64 bu][o]? := fun o => (hB2.out.cell (p := ⟨w.heap.size, o, none⟩) hz1).trans (y1 o)
  have h2 : ∀ o, w2.cell? ⟨w1.heap.size, o, none⟩ = #[Value.int .i64 ro, .int .i64 co, .string cs, .slice (some ⟨g, 0, none⟩) n (n + 8), .int .i64 bu][o]? := by
    intro o
    rw [hb2.cell (p := ⟨w1.heap.size, o, none⟩) (by show w1.heap.size < _; simp)]; go_simp
  have hz2 : w1.heap.size < w2.heap.size := by have := hb2.size; simp at this; omega
  have HR2 := Hid.mk (rowIs_below HR.out hB2.out)
  have HA2 := Hid.mk (opt_below HA1.out hB2.out)
  clear y1 hb2
  go_wp2_with fail
  refine (still_any _ _ _ _ _ _ _ _ fr tt _ hn (by exact HA2.out) (by exact HR2.out)).mono ?_
  rintro e w3 ⟨rfl, hb3⟩
  have hB3 := Hid.mk hb3
  have y3 : ∀ o, w3.cell? ⟨w.heap.size, o, none⟩ = #[Value.int .i64 ro, .int .i64 co, .string cs, .slice a n cap, .int .i64 bu][o]? := fun o => (hb3.cell (p := ⟨w.heap.size, o, none⟩) (by show w.heap.size < _; omega)).trans (y2 o)
  have HA3 := Hid.mk (opt_below HA2.out hb3)
  clear y2 h2 hb3
  go_wp2_with fail
  refine (rcheck_any _ _ _ _ _ _ _ fr tt _ hs hnm (by exact HA3.out)).mono ?_
  rintro e w4 ⟨rfl, hb4⟩
  have hB4 := Hid.mk hb4
  clear hb4
  go_wp2_with fail
  refine (num_any _ _).mono ?_
  rintro e w5 ⟨rfl, hw5⟩
  have hw5 := hw5.symm
  subst hw5
  go_wp2
  go_ret
  exact ⟨rfl, ((hB1.out.trans (hB2.out.mono (by omega))).trans (hB3.out.mono (by omega))).trans (hB4.out.mono (by have := hB3.out.size; omega))⟩

end Go.Proofs.Ytnkgpinadgacgaa
