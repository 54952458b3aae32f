/- Walk of the law Counts: what Positions tells is what the document's Positions tells. -/
import Derived.Test.YtnkgpinadgacgaaDoorDw
import Derived.Test.YtnkgpinadgacgaaDoorBe
namespace Go.Proofs.YtnkgpinadgacgaaDoor
open Go.RowKit M

theorem pos_same {ro co bu : Int} {cs : ByteArray} {m : Nat} {fr tt : Nat → Int} {x y z x2 y2 z2 : Value} (h : posE ro co bu cs m fr tt x y z) (h2 : posR ro co bu cs m fr tt x2 y2 z2) :
    ∃ (n : Int) (d : Bool) (c : Int), x = .int .i64 n ∧ x2 = .int .i64 n ∧ y = .bool d ∧ y2 = .bool d ∧ z = .int .i64 c ∧ z2 = .int .i64 c := by
  rcases h with ⟨hc, hx, hy, hz⟩ | ⟨hc, n, d, ht, hr⟩
  · rcases h2 with ⟨_, hx2, hy2, hz2⟩ | ⟨hc2, _⟩
    · exact ⟨_, _, _, hx, hx2, hy, hy2, hz, hz2⟩
    · exact absurd hc2 hc
  · rcases h2 with ⟨hc2, _⟩ | ⟨_, n2, d2, ht2, hr2⟩
    · exact absurd hc hc2
    · obtain ⟨s1, s2, s3⟩ := checkM_good hc
      obtain ⟨r3, r4⟩ := side_bd s2
      obtain ⟨_, hfree⟩ := carts_free hc
      have h3 := told_doc r3 r4 s3 (good_cellsOf fun k hk => (hfree k hk).1) ht
      obtain ⟨e1, e2⟩ := h3.all ht2
      rcases hr with ⟨hb, hx, hy, hz⟩ | ⟨hb, hx, hy, hz⟩
      · rcases hr2 with ⟨_, hx2, hy2, hz2⟩ | ⟨hb2, _⟩
        · exact ⟨_, _, _, hx, hx2, hy, hy2, hz, hz2⟩
        · exact absurd (e1.1 hb) hb2
      · rcases hr2 with ⟨hb2, _⟩ | ⟨_, hx2, hy2, hz2⟩
        · exact absurd (e1.2 hb2) hb
        · obtain ⟨e3, e4⟩ := e2 hb
          subst e3
          subst e4
          exact ⟨_, _, _, hx, hx2, hy, hy2, hz, hz2⟩

set_option maxRecDepth 100000 in
set_option maxHeartbeats 2000000 in
theorem counts_any (ro co bu : Int) (cs : ByteArray) (a : Option Addr) (n cap : Nat) (fr tt : Nat → Int) (w : World) (hs : cs.size ≤ maxLen) (hn : n * 16 ≤ 140737488351232) (hsd : SidesIn w)
    (ha : 0 < n → ∃ b off, a = some ⟨b, off, none⟩ ∧ CartsIn w b off n fr tt) :
    Calls Tryd.prog 7 #[.agg #[.int .i64 ro, .int .i64 co, .string cs, .slice a n cap, .int .i64 bu]] w fun e w' =>
      e = .returned (.bool true) ∧ Below w.heap.size w w' := by
  have hnm : n ≤ maxLen := by unfold maxLen; omega
  have HA := Hid.mk ha
  have HSD := Hid.mk hsd
  clear ha hsd
  go_enter Tryd.func7, Tryd.ntmps7
  go_wp2_with fail
  refine (handed_any _ _ _ _ _ _ _ fr tt _ hn (by exact opt_below HA.out ((Below.refl _ _).alloc (Nat.le_refl _) _))).mono ?_
  rintro e w1 ⟨g, rfl, hg, hrow, hb1⟩
  have y1 : ∀ o, w1.cell? ⟨w.heap.size, o, none⟩ = #[Value.int .i64 ro, .int .i64 co, .string cs, .slice a n cap, .int .i64 bu][o]? := by
    intro o
    rw [hb1.cell (p := ⟨w.heap.size, o, none⟩) (by show w.heap.size < _; simp)]; go_simp
  have hB1 := Hid.mk (((Below.refl _ w).alloc (Nat.le_refl _) _).trans (hb1.mono (by simp)) : Below w.heap.size w w1)
  have hz1 : w.heap.size < w1.heap.size := by have := hb1.size; simp at this; omega
  have HR := Hid.mk hrow
  have HA1 := Hid.mk (opt_below HA.out hB1.out)
  have HS1 := Hid.mk (HSD.out.below hB1.out)
  clear hrow hb1
  go_wp2_with fail
  refine (positions_any _ _ _ _ _ _ _ fr tt _ hs hnm (by omega) (by exact HS1.out.below ((Below.refl _ _).alloc (Nat.le_refl _) _)) (by exact fun _ => ⟨g, 0, rfl, (row_carts HR.out).below ((Below.refl _ _).alloc (Nat.le_refl _) _)⟩)).mono ?_
  rintro e w2 ⟨x, y, z, rfl, hpe, hb2⟩
  have HPE := Hid.mk hpe
  have hB2 := Hid.mk (((Below.refl _ w1).alloc (Nat.le_refl _) _).trans (hb2.mono (by simp)) : Below w1.heap.size w1 w2)
  have y2 : ∀ o, w2.cell? ⟨w.heap.size, o, none⟩ = #[Value.int .i64 ro, .int .i64 co, .string cs, .slice a n cap, .int .i64 bu][o]? := fun o => (hB2.out.cell (p := ⟨w.heap.size, o, none⟩) hz1).trans (y1 o)
  have h2 : ∀ o, w2.cell? ⟨w1.heap.size, o, none⟩ = #[Value.int .i64 ro, .int .i64 co, .string cs, .slice (some ⟨g, 0, none⟩) n (n + 8), .int .i64 bu][o]? := by
    intro o
    rw [hb2.cell (p := ⟨w1.heap.size, o, none⟩) (by show w1.heap.size < _; simp)]; go_simp
  have hz2 : w1.heap.size < w2.heap.size := by have := hb2.size; simp at this; omega
  have HR2 := Hid.mk (rowIs_below HR.out hB2.out)
  have HA2 := Hid.mk (opt_below HA1.out hB2.out)
  clear y1 hb2 hpe
  go_wp2_with fail
  refine (still_any _ _ _ _ _ _ _ _ fr tt _ hn (by exact HA2.out) (by exact HR2.out)).mono ?_
  rintro e w4 ⟨rfl, hb4⟩
  have hB4 := Hid.mk hb4
  have y4 : ∀ o, w4.cell? ⟨w.heap.size, o, none⟩ = #[Value.int .i64 ro, .int .i64 co, .string cs, .slice a n cap, .int .i64 bu][o]? := fun o => (hb4.cell (p := ⟨w.heap.size, o, none⟩) (by show w.heap.size < _; omega)).trans (y2 o)
  have HA4 := Hid.mk (opt_below HA2.out hb4)
  have hz4 : w2.heap.size ≤ w4.heap.size := hb4.size
  clear y2 h2 hb4
  go_wp2_with fail
  refine (rpositions_any _ _ _ _ _ _ _ fr tt _ hs hnm (by exact HA4.out)).mono ?_
  rintro e w5 ⟨x2, y5, z2, rfl, hpr, hb5⟩
  obtain ⟨vn, vd, vc, rfl, rfl, rfl, rfl, rfl, rfl⟩ := pos_same HPE.out hpr
  have hB5 := Hid.mk hb5
  have hz5 : w4.heap.size ≤ w5.heap.size := hb5.size
  clear hb5 y4 hpr
  have e1 : (vn == vn) = true := by simp
  have e2 : (vd == vd) = true := by simp
  have e3 : (vc == vc) = true := by simp
  go_wp2_with fail
  refine (num_any _ _).mono ?_
  rintro e w9 ⟨rfl, hw9⟩
  have hw9 := hw9.symm
  subst hw9
  go_wp2
  go_ret
  exact ⟨rfl, ((hB1.out.trans (hB2.out.mono (by omega))).trans (hB4.out.mono (by omega))).trans (hB5.out.mono (by omega))⟩

end Go.Proofs.YtnkgpinadgacgaaDoor
