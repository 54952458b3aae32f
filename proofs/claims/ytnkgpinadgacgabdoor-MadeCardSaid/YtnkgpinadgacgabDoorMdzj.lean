/- Several texts in one: Hi, Op. -/
import Derived.Test.YtnkgpinadgacgabDoorMdzh
import Derived.Test.YtnkgpinadgacgabDoorMdzi
import Derived.Test.YtnkgpinadgacgabDoorMda
import Derived.ProofKit
import Derived.SizedLaws
import Derived.Deep.SlicePairs
import Derived.Deep.Fields
import Derived.Lib.SmallJoins
namespace Go.Proofs.YtnkgpinadgacgabDoor
open Go.RowKit M SM
/-- What Solve answers: behind an error nothing; else the search's plan, and its cost. -/
def solE (F0 : Nat) (w' : World) (base : Nat) (ro co bu : Int) (cs : ByteArray) (m : Nat) (fr tt : Nat → Int) (x y z : Value) : Prop :=
  ((checkM ro co cs m fr tt bu).1 ≠ 0 ∧ x = .slice none 0 0 ∧ y = .int .i64 0 ∧ z = .int .i64 (checkM ro co cs m fr tt bu).1) ∨
  ((checkM ro co cs m fr tt bu).1 = 0 ∧ ∃ (n : Nat) (d : Bool), M.Told (stepP ro co cs m) (cellsOf fr m) (cellsOf tt m) bu n d ∧
    ((bu < n ∧ x = .slice none 0 0 ∧ y = .int .i64 0 ∧ z = .int .i64 10) ∨ (¬ bu < n ∧ d = false ∧ x = .slice none 0 0 ∧ y = .int .i64 0 ∧ z = .int .i64 9) ∨
      (¬ bu < n ∧ d = true ∧ z = .int .i64 0 ∧ ∃ L k b s', Work (stepP ro co cs m) (cellsOf fr m) L L.length ∧ n = L.length ∧ cellsOf tt m ∈ L ∧ solY F0 ro co cs m fr tt = some (b, s') ∧ k = costO (s'.seen b) ∧ y = .int .i64 (k : Nat) ∧ PlanOwn w' base x (planL m (SM.wayF s'.seen k b)))))

set_option maxRecDepth 1000000 in
set_option maxHeartbeats 8000000 in
theorem solve_any (F0 : Nat) (hF0 : 200400000 ≤ F0) (ro co bu : Int) (cs : ByteArray) (a : Option Addr) (m cc : Nat) (fr tt : Nat → Int) (w : World) (hs : cs.size ≤ maxLen) (hn : m ≤ maxLen) (hcap : m ≤ cc) (hsd : SidesIn w)
    (ha : 0 < m → ∃ b off, a = some ⟨b, off, none⟩ ∧ CartsIn w b off m fr tt) :
    Calls Tryd.prog 15 #[.agg #[.int .i64 ro, .int .i64 co, .string cs, .slice a m cc, .int .i64 bu]] w fun e w' => ∃ x y z, e = .returned (.tuple #[x, y, z]) ∧ solE F0 w' w.heap.size ro co bu cs m fr tt x y z ∧ Below w.heap.size w w' := by
  have HSD := Hid.mk hsd
  have HA := Hid.mk ha
  clear hsd ha
  go_enter Tryd.func15, Tryd.ntmps15
  go_wp2_with fail
  have B1 : Hid (Below w.heap.size w (w.alloc (Obj.cells #[Value.int IntKind.i64 ro, Value.int IntKind.i64 co, Value.string cs, .slice a m cc, Value.int IntKind.i64 bu] 28))) := (Below.refl _ w).alloc (Nat.le_refl _) _
  have yc : ∀ o, (w.alloc (Obj.cells #[Value.int IntKind.i64 ro, Value.int IntKind.i64 co, Value.string cs, .slice a m cc, Value.int IntKind.i64 bu] 28)).cell? ⟨w.heap.size, o, none⟩ = #[Value.int .i64 ro, .int .i64 co, .string cs, .slice a m cc, .int .i64 bu][o]? := by
    intro o; go_simp
  have hz1 : (w.alloc (Obj.cells #[Value.int IntKind.i64 ro, Value.int IntKind.i64 co, Value.string cs, .slice a m cc, Value.int IntKind.i64 bu] 28)).heap.size = w.heap.size + 1 := by simp
  generalize w.alloc (Obj.cells #[Value.int IntKind.i64 ro, Value.int IntKind.i64 co, Value.string cs, .slice a m cc, Value.int IntKind.i64 bu] 28) = w1 at *
  refine (positions_any ro co bu cs a m cc fr tt _ hs hn hcap (HSD.out.below B1.out) (by exact opt_below HA.out B1.out)).mono ?_
  rintro e w2 ⟨x, y, z, rfl, hpos, hb2⟩
  have hz2 := hb2.size
  have y0 := cell_later hb2 (yc 0)
  have y1 := cell_later hb2 (yc 1)
  have y2 := cell_later hb2 (yc 2)
  have y3 := cell_later hb2 (yc 3)
  have y4 := cell_later hb2 (yc 4)
  have B2 : Hid (Below w.heap.size w w2) := B1.out.trans (hb2.mono (by omega))
  clear yc hb2
  rcases hpos with ⟨hck, rfl, rfl, rfl⟩ | ⟨hck, n, d, htold, hpos⟩
  · obtain ⟨zc, hzc⟩ : ∃ zc, zc = (checkM ro co cs m fr tt bu).1 := ⟨_, rfl⟩
    have HZ := Hid.mk hzc
    rw [← hzc] at hck ⊢
    clear hzc y0 y1 y2 y3 y4
    go_wp2_with fail
    go_ret3
    exact ⟨_, _, _, rfl, .inl ⟨by rw [← HZ.out]; exact hck, rfl, rfl, congrArg (Value.int .i64) HZ.out⟩, B2.out⟩
  · have HT := Hid.mk htold
    have HCK := Hid.mk hck
    rcases hpos with ⟨hbn, rfl, rfl, rfl⟩ | ⟨hbn, rfl, rfl, rfl⟩
    · have HBN := Hid.mk hbn
      clear htold hck hbn y0 y1 y2 y3 y4
      go_wp2_with fail
      go_ret3
      exact ⟨_, _, _, rfl, .inr ⟨HCK.out, n, d, HT.out, .inl ⟨HBN.out, rfl, rfl, rfl⟩⟩, B2.out⟩
    · have HBN := Hid.mk hbn
      clear htold hck hbn
      cases d
      · clear y0 y1 y2 y3 y4
        go_wp2_with fail
        go_ret3
        exact ⟨_, _, _, rfl, .inr ⟨HCK.out, n, false, HT.out, .inr (.inl ⟨(by have := HBN.out; omega), rfl, rfl, rfl, rfl⟩)⟩, B2.out⟩
      · obtain ⟨L, hW, hnL, hgL⟩ : ∃ L, Work (stepP ro co cs m) (cellsOf fr m) L L.length ∧ n = L.length ∧ cellsOf tt m ∈ L := by
          rcases HT.out with ⟨L, h1, h2, h3⟩ | ⟨L, i, h1, h2, h3⟩
          · exact ⟨L, h1, h2, of_decide_eq_true h3.symm⟩
          · exact absurd h3 (by have := HBN.out; omega)
        obtain ⟨s1, s2, s3⟩ := checkM_good HCK.out
        obtain ⟨r1, r2⟩ := side_bd s1
        obtain ⟨r3, r4⟩ := side_bd s2
        obtain ⟨hm4, hfree⟩ := carts_free HCK.out
        obtain ⟨hb1, hb2, hm1⟩ := check_bu HCK.out
        obtain ⟨b, off, rfl, hcs⟩ := HA.out (by omega)
        obtain ⟨hp1, hp2⟩ := cells_pos HCK.out
        have hLb : L.length ≤ 20000 := by
          have := HBN.out
          omega
        have PL : Hid (Calls Tryd.prog 38 #[.agg #[.int .i64 ro, .int .i64 co, .string cs, .slice (some ⟨b, off, none⟩) m cc, .int .i64 bu]] w2 fun e w' =>
            ∃ v k x s', solY F0 ro co cs m fr tt = some (x, s') ∧ k = costO (s'.seen x) ∧ e = .returned (.tuple #[v, .int .i64 (k : Nat)]) ∧ PlanOwn w' w2.heap.size v (planL m (SM.wayF s'.seen k x)) ∧ Below w2.heap.size w2 w') :=
          plan_any F0 hF0 ro co bu cs b off m cc fr tt L w2 s3 r1 r2 r3 r4 hm1 hm4 (HSD.out.below B2.out) (hcs.below B2.out) hfree hp1 hp2 hW hgL hLb
        have HW := Hid.mk hW
        have HGL := Hid.mk hgL
        have HNL := Hid.mk hnL
        clear hW hnL hgL s1 s2 s3 hfree hcs hp1 hp2
        go_wp2_with fail
        refine PL.out.mono ?_
        rintro e w3 ⟨v, k, q, s', hsol, hk, rfl, hpl, hb3⟩
        have HSOL := Hid.mk hsol
        have HK := Hid.mk hk
        have PLN : Hid (PlanOwn w3 w.heap.size v (planL m (SM.wayF s'.seen k q))) := hpl.le (by have := B2.out.size; omega)
        have B3 : Hid (Below w.heap.size w w3) := B2.out.trans (hb3.mono (by have := B2.out.size; omega))
        obtain ⟨gp, A, rfl, _⟩ := hpl
        clear hsol hk hb3 y0 y1 y2 y3 y4
        go_wp2_with fail
        go_ret3
        exact ⟨_, _, _, rfl, .inr ⟨HCK.out, n, true, HT.out, .inr (.inr ⟨(by have := HBN.out; omega), rfl, rfl, L, k, q, s', HW.out, HNL.out, HGL.out, HSOL.out, HK.out, rfl, PLN.out⟩)⟩, B3.out⟩

end Go.Proofs.YtnkgpinadgacgabDoor

namespace Go.Proofs.YtnkgpinadgacgabDoor
open Go.ChangeShapes Go.WideShapes Go.ChangeAt Go.RowKit Go.Deep Go.Joins
theorem Tryd.own : ownKnob Tryd.prog.godebug = none := by kernel_rfl

theorem Tryd.laidOut : laidOutB Tryd.prog = true := by kernel_rfl

theorem Tryd.cellsInt : Tryd.prog.cellsOf 3 = 1 := by kernel_rfl

theorem Tryd.cellsString : Tryd.prog.cellsOf 9 = 1 := by kernel_rfl

theorem array5 {α : Type} {cs : Array α} (h : cs.size = 5) : ∃ c0 c1 c2 c3 c4, cs = #[c0, c1, c2, c3, c4] := by
  obtain ⟨l⟩ := cs
  match l, h with
  | [c0, c1, c2, c3, c4], _ => exact ⟨c0, c1, c2, c3, c4, rfl⟩

theorem list5 {α : Type} {l : List α} (h : l.length = 5) : ∃ c0 c1 c2 c3 c4, l = [c0, c1, c2, c3, c4] := by
  match l, h with
  | [c0, c1, c2, c3, c4], _ => exact ⟨c0, c1, c2, c3, c4, rfl⟩

end Go.Proofs.YtnkgpinadgacgabDoor
