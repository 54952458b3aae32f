/- yard.Write of a yard with a fault: no text, and the fault. The law's small helper num. -/
import Derived.Test.YtnkgpinadgacgaaDoorUj
import Derived.Test.YtnkgpinadgacgaaDoorTn
namespace Go.Proofs.YtnkgpinadgacgaaDoor
open Go.RowKit Go.Shelf Go.Deep M

set_option maxRecDepth 100000 in
theorem ywrite_bad (ro co bu : Int) (a : Option Addr) (n cap : Nat) (cs : ByteArray) (fr tt : Nat → Int) (w : World) (hs : cs.size ≤ maxLen) (hn : n ≤ maxLen) (hcap : n ≤ cap)
    (ha : 0 < n → ∃ b off, a = some ⟨b, off, none⟩ ∧ CartsIn w b off n fr tt) (hck : (checkM ro co cs n fr tt bu).1 ≠ 0) :
    Calls Tryd.prog 41 #[.agg #[.int .i64 ro, .int .i64 co, .string cs, .slice a n cap, .int .i64 bu]] w fun e w' =>
      e = .returned (.tuple #[.string ⟨#[]⟩, .int .i64 (checkM ro co cs n fr tt bu).1]) ∧ Below w.heap.size w w' := by
  have B1 : Hid (Below w.heap.size w (w.alloc (.cells #[.int .i64 ro, .int .i64 co, .string cs, .slice a n cap, .int .i64 bu] 24))) := Hid.mk ((Below.refl _ w).alloc (Nat.le_refl _) _)
  have HA := Hid.mk (opt_below ha B1.out)
  clear ha
  go_enter Tryd.func41, Tryd.ntmps41
  go_wp2_with fail
  generalize (w.alloc (.cells #[.int .i64 ro, .int .i64 co, .string cs, .slice a n cap, .int .i64 bu] 24)) = w1 at *
  refine (fault_any _ _ _ cs a n cap fr tt w1 hs hn hcap HA.out).mono ?_
  rintro e w2 ⟨rfl, hb2⟩
  have B2 : Hid (Below w.heap.size w w2) := Hid.mk (B1.out.trans (hb2.mono B1.out.size))
  clear hb2
  obtain ⟨c1, hc1⟩ : ∃ c, Hid (c = (checkM ro co cs n fr tt bu).1) := ⟨_, Hid.mk rfl⟩
  rw [← hc1.out] at hck ⊢
  have e0 : (c1 != 0) = true := by simp [hck]
  have e1 : (c1 == 0) = false := by simp [hck]
  go_wp2
  go_ret2
  exact ⟨by rw [← hc1.out]; rfl, B2.out⟩

end Go.Proofs.YtnkgpinadgacgaaDoor
