/- Walk of Positions. -/
import Derived.Test.YtnkgpinadgacgabDoorDh
import Derived.Test.YtnkgpinadgacgabDoorBe
import Derived.Test.YtnkgpinadgacgabDoorBn
namespace Go.Proofs.YtnkgpinadgacgabDoor
open Go.RowKit M
theorem check_bu {ro co bu : Int} {cs : ByteArray} {m : Nat} {fr tt : Nat → Int} (h : (checkM ro co cs m fr tt bu).1 = 0) : 1 ≤ bu ∧ bu ≤ 20000 ∧ 1 ≤ m := by
  unfold checkM at h
  by_cases h1 : (sideB ro && sideB co) = false
  · rw [if_pos h1] at h; simp at h
  · rw [if_neg h1] at h
    by_cases h2 : 0 ≤ cellsM ro co cs
    · rw [if_pos h2] at h; simp at h
    · rw [if_neg h2] at h
      by_cases h3 : m < 1 ∨ 4 < m
      · rw [if_pos h3] at h; simp at h
      · rw [if_neg h3] at h
        by_cases h4 : firstOf (fun i => !(cartM cs fr tt i == 0)) m < m
        · rw [if_pos h4] at h
          have := M.firstOf_is (p := fun i => !(cartM cs fr tt i == 0)) m h4
          simp only [] at h this
          rw [h] at this; cases this
        · rw [if_neg h4] at h
          by_cases h5 : bu < 1 ∨ 20000 < bu
          · rw [if_pos h5] at h; simp at h
          · omega

theorem free_pos {cs : ByteArray} {z : Int} (h : freeB cs z = true) : 0 ≤ z := by
  obtain ⟨n, e, _⟩ := free_nat h
  omega

/-- What Positions answers. -/
def posE (ro co bu : Int) (cs : ByteArray) (m : Nat) (fr tt : Nat → Int) (x y z : Value) : Prop :=
  ((checkM ro co cs m fr tt bu).1 ≠ 0 ∧ x = .int .i64 0 ∧ y = .bool false ∧ z = .int .i64 (checkM ro co cs m fr tt bu).1) ∨
  ((checkM ro co cs m fr tt bu).1 = 0 ∧ ∃ (n : Nat) (d : Bool), M.Told (stepP ro co cs m) (cellsOf fr m) (cellsOf tt m) bu n d ∧
    ((bu < n ∧ x = .int .i64 0 ∧ y = .bool false ∧ z = .int .i64 10) ∨ (¬ bu < n ∧ x = .int .i64 n ∧ y = .bool d ∧ z = .int .i64 0)))

set_option maxRecDepth 100000 in
set_option maxHeartbeats 2000000 in
theorem positions_any (ro co bu : Int) (cs : ByteArray) (a : Option Addr) (m cc : Nat) (fr tt : Nat → Int) (w : World) (hs : cs.size ≤ maxLen) (hn : m ≤ maxLen) (hcap : m ≤ cc) (hsd : SidesIn w)
    (ha : 0 < m → ∃ b off, a = some ⟨b, off, none⟩ ∧ CartsIn w b off m fr tt) :
    Calls Tryd.prog 14 #[.agg #[.int .i64 ro, .int .i64 co, .string cs, .slice a m cc, .int .i64 bu]] w fun e w' => ∃ x y z, e = .returned (.tuple #[x, y, z]) ∧ posE ro co bu cs m fr tt x y z ∧ Below w.heap.size w w' := by
  have HSD := Hid.mk hsd
  have HA := Hid.mk ha
  clear hsd ha
  go_enter Tryd.func14, Tryd.ntmps14
  go_wp2_with fail
  have B1 : Hid (Below w.heap.size w (w.alloc (Obj.cells #[Value.int IntKind.i64 ro, Value.int IntKind.i64 co, Value.string cs, .slice a m cc, Value.int IntKind.i64 bu] 28))) := (Below.refl _ w).alloc (Nat.le_refl _) _
  have yc : ∀ o, (w.alloc (Obj.cells #[Value.int IntKind.i64 ro, Value.int IntKind.i64 co, Value.string cs, .slice a m cc, Value.int IntKind.i64 bu] 28)).cell? ⟨w.heap.size, o, none⟩ = #[Value.int .i64 ro, .int .i64 co, .string cs, .slice a m cc, .int .i64 bu][o]? := by
    intro o; go_simp
  have hz1 : (w.alloc (Obj.cells #[Value.int IntKind.i64 ro, Value.int IntKind.i64 co, Value.string cs, .slice a m cc, Value.int IntKind.i64 bu] 28)).heap.size = w.heap.size + 1 := by simp
  generalize w.alloc (Obj.cells #[Value.int IntKind.i64 ro, Value.int IntKind.i64 co, Value.string cs, .slice a m cc, Value.int IntKind.i64 bu] 28) = w1 at *
  refine (fault_any ro co bu cs a m cc fr tt _ hs hn hcap (by exact opt_below HA.out B1.out)).mono ?_
  rintro e w2 ⟨rfl, hb2⟩
  have hz2 := hb2.size
  have y0 := cell_later hb2 (yc 0)
  have y1 := cell_later hb2 (yc 1)
  have y2 := cell_later hb2 (yc 2)
  have y3 := cell_later hb2 (yc 3)
  have y4 := cell_later hb2 (yc 4)
  have B2 : Hid (Below w.heap.size w w2) := B1.out.trans (hb2.mono (by omega))
  clear yc hb2
  by_cases hck : (checkM ro co cs m fr tt bu).1 = 0
  · obtain ⟨s1, s2, s3⟩ := checkM_good hck
    obtain ⟨r1, r2⟩ := side_bd s1
    obtain ⟨r3, r4⟩ := side_bd s2
    obtain ⟨hp1, hp2⟩ := mul_bd r1 r2 r3 r4
    have hs6 : cs.size ≤ 36 := by omega
    obtain ⟨hm4, hfree⟩ := carts_free hck
    obtain ⟨hb1, hb2, hm1⟩ := check_bu hck
    have HCK := Hid.mk hck
    obtain ⟨b, off, rfl, hcs⟩ := HA.out (by omega)
    have HCS := Hid.mk hcs
    have HFR := Hid.mk hfree
    rw [hck]
    clear hck hcs hfree s3 hp1 hp2
    go_wp2_with fail
    refine (count_any ro co bu cs b off m cc fr tt _ hs6 r1 r2 r3 r4 hm4 (by omega) (HSD.out.below B2.out) (HCS.out.below B2.out) (fun k hk => ⟨free_pos (HFR.out k hk).1, (HFR.out k hk).1⟩) (fun k hk => ⟨free_pos (HFR.out k hk).2, (HFR.out k hk).2⟩)).mono ?_
    rintro e w3 ⟨n, d, rfl, hn2, htd, hb3⟩
    have TD := Hid.mk htd
    have z4 := cell_later hb3 y4
    have B3 : Hid (Below w.heap.size w w3) := B2.out.trans (hb3.mono (by omega))
    clear hb3 y0 y1 y2 y3 y4 htd
    by_cases hlt : bu < n
    · go_wp2
      go_ret3
      exact ⟨_, _, _, rfl, .inr ⟨HCK.out, n, d, TD.out, .inl ⟨hlt, rfl, rfl, rfl⟩⟩, B3.out⟩
    · go_wp2
      go_ret3
      exact ⟨_, _, _, rfl, .inr ⟨HCK.out, n, d, TD.out, .inr ⟨by omega, rfl, rfl, rfl⟩⟩, B3.out⟩
  · clear y0 y1 y2 y3 y4
    obtain ⟨z, hz⟩ : ∃ z, z = (checkM ro co cs m fr tt bu).1 := ⟨_, rfl⟩
    have HZ := Hid.mk hz
    rw [← hz] at hck ⊢
    clear hz
    go_wp2
    go_ret3
    exact ⟨_, _, _, rfl, .inl ⟨by rw [← HZ.out]; exact hck, rfl, rfl, congrArg (Value.int .i64) HZ.out⟩, B2.out⟩

end Go.Proofs.YtnkgpinadgacgabDoor
