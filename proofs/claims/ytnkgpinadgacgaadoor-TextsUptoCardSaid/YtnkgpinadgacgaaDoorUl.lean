/- The law's small helpers: num; two yards told alike are the same. -/
import Derived.Test.YtnkgpinadgacgaaDoorUk
namespace Go.Proofs.YtnkgpinadgacgaaDoor
open Go.RowKit Go.Shelf Go.Deep M

set_option maxRecDepth 100000 in
set_option maxHeartbeats 1000000 in
theorem sameY_any (ro co bu : Int) (a a' : Option Addr) (n cap cap' : Nat) (cs : ByteArray) (fr tt : Nat → Int) (w : World) (hn : n ≤ 2000000)
    (ha : 0 < n → ∃ b off, a = some ⟨b, off, none⟩ ∧ CartsIn w b off n fr tt) (ha' : 0 < n → ∃ b off, a' = some ⟨b, off, none⟩ ∧ CartsIn w b off n fr tt) :
    Calls Tryd.prog 45 #[.agg #[.int .i64 ro, .int .i64 co, .string cs, .slice a n cap, .int .i64 bu], .agg #[.int .i64 ro, .int .i64 co, .string cs, .slice a' n cap', .int .i64 bu]] w fun e w' =>
      e = .returned (.bool true) ∧ Below w.heap.size w w' := by
  have B2 : Hid (Below w.heap.size w ((w.alloc (.cells #[.int .i64 ro, .int .i64 co, .string cs, .slice a n cap, .int .i64 bu] 24)).alloc (.cells #[.int .i64 ro, .int .i64 co, .string cs, .slice a' n cap', .int .i64 bu] 24))) := Hid.mk (((Below.refl _ w).alloc (Nat.le_refl _) _).alloc (by simp) _)
  have HA := Hid.mk (opt_below ha B2.out)
  have HA' := Hid.mk (opt_below ha' B2.out)
  have X1 : Hid (Box ((w.alloc (.cells #[.int .i64 ro, .int .i64 co, .string cs, .slice a n cap, .int .i64 bu] 24)).alloc (.cells #[.int .i64 ro, .int .i64 co, .string cs, .slice a' n cap', .int .i64 bu] 24)) w.heap.size #[.int .i64 ro, .int .i64 co, .string cs, .slice a n cap, .int .i64 bu]) := Hid.mk (box_alloc (box_new _ _) _)
  have X2 : Hid (Box ((w.alloc (.cells #[.int .i64 ro, .int .i64 co, .string cs, .slice a n cap, .int .i64 bu] 24)).alloc (.cells #[.int .i64 ro, .int .i64 co, .string cs, .slice a' n cap', .int .i64 bu] 24)) (w.heap.size + 1) #[.int .i64 ro, .int .i64 co, .string cs, .slice a' n cap', .int .i64 bu]) := Hid.mk (by
    have h := box_new (w := w.alloc (.cells #[.int .i64 ro, .int .i64 co, .string cs, .slice a n cap, .int .i64 bu] 24)) (v := #[.int .i64 ro, .int .i64 co, .string cs, .slice a' n cap', .int .i64 bu]) (t := 24)
    rw [show (w.alloc (.cells #[.int .i64 ro, .int .i64 co, .string cs, .slice a n cap, .int .i64 bu] 24)).heap.size = w.heap.size + 1 by simp] at h
    exact h)
  clear ha ha'
  go_enter Tryd.func45, Tryd.ntmps45
  have x0 := X1.out.c 0
  have x1 := X1.out.c 1
  have x2 := X1.out.c 2
  have x3 := X1.out.c 3
  have x4 := X1.out.c 4
  have z0 := X2.out.c 0
  have z1 := X2.out.c 1
  have z2 := X2.out.c 2
  have z3 := X2.out.c 3
  have z4 := X2.out.c 4
  simp only [List.getElem?_toArray, List.getElem?_cons_zero, List.getElem?_cons_succ] at x0 x1 x2 x3 x4 z0 z1 z2 z3 z4
  go_upto_region 1 with fail
  generalize ((w.alloc (.cells #[.int .i64 ro, .int .i64 co, .string cs, .slice a n cap, .int .i64 bu] 24)).alloc (.cells #[.int .i64 ro, .int .i64 co, .string cs, .slice a' n cap', .int .i64 bu] 24)) = w1 at *
  go_wp2
  go_loopw [5] (fun si wr => ∃ k d : Nat, si = .int .i64 (k : Int) ∧ k ≤ n ∧ wr = w1.drewN d) (fun si _ => n - (intOf si).toNat)
  case atStart => exact ⟨0, 0, rfl, Nat.zero_le _, rfl⟩
  case round =>
    obtain ⟨k, d, rfl, hk, rfl⟩ := hrel
    by_cases hlt : k < n
    · have e1 : decide ((k : Int) < (n : Int)) = true := by simp; omega
      obtain ⟨b, off, rfl, hci⟩ := HA.out (by omega)
      obtain ⟨b', off', rfl, hci'⟩ := HA'.out (by omega)
      obtain ⟨p1, p2⟩ := hci k hlt
      obtain ⟨q1, q2⟩ := hci' k hlt
      clear hci hci'
      go_wp2
      go_quiet (fail)
      go_wp2
      go_roundw
      case rel => exact ⟨k + 1, d + nq, by go_num, hlt, rfl⟩
      case measure => simp [intOf]; omega
    · have e1 : decide ((k : Int) < (n : Int)) = false := by simp; omega
      go_wp2
      go_ret
      exact ⟨rfl, ⟨B2.out.os, B2.out.tape, B2.out.output, B2.out.size, B2.out.block⟩⟩

end Go.Proofs.YtnkgpinadgacgaaDoor
