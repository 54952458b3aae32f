/- Walks of sameInts, fill, filled. -/
import Derived.Test.YtnkgpinadgacgabDoorBd
namespace Go.Proofs.YtnkgpinadgacgabDoor
open Go.RowKit M
end Go.Proofs.YtnkgpinadgacgabDoor

/- Walk of apart over two lists. -/
namespace Go.Proofs.YtnkgpinadgacgabDoor
open Go.RowKit M
end Go.Proofs.YtnkgpinadgacgabDoor

/- Walks of both Fars: the error, or the table of distances. -/
namespace Go.Proofs.YtnkgpinadgacgabDoor
open Go.RowKit M
set_option maxHeartbeats 400000 in
theorem fault_any (ro co bu : Int) (cs : ByteArray) (a : Option Addr) (n cap : Nat) (fr tt : Nat → Int) (w : World) (hs : cs.size ≤ maxLen) (hn : n ≤ maxLen) (hcap : n ≤ cap)
    (ha : 0 < n → ∃ b off, a = some ⟨b, off, none⟩ ∧ CartsIn w b off n fr tt) :
    Calls Tryd.prog 36 #[.agg #[.int .i64 ro, .int .i64 co, .string cs, .slice a n cap, .int .i64 bu]] w fun e w' =>
      e = .returned (.int .i64 (checkM ro co cs n fr tt bu).1) ∧ Below w.heap.size w w' := by
  go_enter Tryd.func36, Tryd.ntmps36
  go_wp2_with fail
  refine (gcheck_any _ _ _ _ _ _ _ fr tt _ hs hn hcap (by exact opt_below ha ((Below.refl _ _).alloc (Nat.le_refl _) _))).mono ?_
  rintro e w1 ⟨rfl, hb1⟩
  go_wp2
  go_ret
  exact ⟨rfl, ((Below.refl _ _).alloc (Nat.le_refl _) _).trans (hb1.mono (by simp))⟩

set_option maxRecDepth 100000 in
set_option maxHeartbeats 1000000 in
theorem yfar_ok (ro co bu : Int) (cs : ByteArray) (a : Option Addr) (n cap : Nat) (fr tt : Nat → Int) (c : Nat) (w : World) (hs : cs.size ≤ maxLen) (hn : n ≤ maxLen) (hcap : n ≤ cap) (hsd : SidesIn w)
    (ha : 0 < n → ∃ b off, a = some ⟨b, off, none⟩ ∧ CartsIn w b off n fr tt) (hck : (checkM ro co cs n fr tt bu).1 = 0) (hfr : freeB cs c = true) :
    Calls Tryd.prog 35 #[.agg #[.int .i64 ro, .int .i64 co, .string cs, .slice a n cap, .int .i64 bu], .int .i64 c] w fun e w' =>
      ∃ (g : Nat) (st : Nat → Int), e = .returned (.tuple #[.slice (some ⟨g, 0, none⟩) cs.size cs.size, .int .i64 0]) ∧ w.heap.size ≤ g ∧ IsFar cs.size (adjM co cs) c st ∧ w'.rowIs g 3 cs.size (intV st) ∧ Below w.heap.size w w' := by
  obtain ⟨sd1, sd2, hsz⟩ := checkM_good hck
  obtain ⟨r1, r2⟩ := side_bd sd1
  obtain ⟨r3, r4⟩ := side_bd sd2
  have Hsz := Hid.mk hsz
  have Hsd := Hid.mk hsd
  have hck' : ((checkM ro co cs n fr tt bu).1 != 0) = false := by rw [hck]; rfl
  clear hsz sd1 sd2 hck hsd
  go_enter Tryd.func35, Tryd.ntmps35
  go_wp2_with fail
  refine (fault_any _ _ _ _ _ _ _ fr tt _ hs hn hcap (by exact opt_below ha ((Below.refl _ _).alloc (Nat.le_refl _) _))).mono ?_
  rintro e w1 ⟨rfl, hb1⟩
  have y1 : ∀ o, w1.cell? ⟨w.heap.size, o, none⟩ = #[Value.int .i64 ro, .int .i64 co, .string cs, .slice a n cap, .int .i64 bu][o]? := by
    intro o
    rw [hb1.cell (p := ⟨w.heap.size, o, none⟩) (by show w.heap.size < _; simp)]; go_simp
  have hB1 := Hid.mk (((Below.refl _ w).alloc (Nat.le_refl _) _).trans (hb1.mono (by simp)) : Below w.heap.size w w1)
  have hz1 : w.heap.size < w1.heap.size := by have := hb1.size; simp at this; omega
  clear hb1 ha
  go_wp2_with fail
  refine (gfree_any _ _ _ _ _ _ _ hs).mono ?_
  rintro e w2 ⟨rfl, hb2⟩
  have y2 : ∀ o, w2.cell? ⟨w.heap.size, o, none⟩ = #[Value.int .i64 ro, .int .i64 co, .string cs, .slice a n cap, .int .i64 bu][o]? := fun o => (hb2.cell (p := ⟨w.heap.size, o, none⟩) hz1).trans (y1 o)
  have hz2 := hb2.size
  have hB2 := Hid.mk (hB1.out.trans (hb2.mono (by omega)) : Below w.heap.size w w2)
  clear y1 hb2
  go_wp2_with fail
  refine (gfar_any _ _ _ _ _ c _ (by exact Hsd.out.below hB2.out) r1 r2 r3 r4 Hsz.out hfr).mono ?_
  rintro e w3 ⟨g, st, rfl, hg, hf, hr, hb3⟩
  have HF := Hid.mk hf
  have HR := Hid.mk hr
  clear hf hr
  go_wp2
  go_ret2
  exact ⟨g, st, rfl, by omega, HF.out, HR.out, hB2.out.trans (hb3.mono (by omega))⟩

end Go.Proofs.YtnkgpinadgacgabDoor

/- Walk of Fars: the law answers true. -/
namespace Go.Proofs.YtnkgpinadgacgabDoor
open Go.RowKit M
end Go.Proofs.YtnkgpinadgacgabDoor
