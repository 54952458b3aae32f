/- Walk of Fars: the law answers true. -/
import Derived.Test.YtaldfpoolajoiaaDoorWn
namespace Go.Proofs.YtaldfpoolajoiaaDoor
open Go.RowKit M

set_option maxRecDepth 100000 in
set_option maxHeartbeats 1000000 in
theorem fars_ok (ro co bu : Int) (cs : ByteArray) (a : Option Addr) (n cap : Nat) (fr to : Nat → Int) (c : Nat) (w : World) (hs : cs.size ≤ maxLen) (hn : n * 16 ≤ 140737488351232) (hsd : SidesIn w)
    (ha : 0 < n → ∃ b off, a = some ⟨b, off, none⟩ ∧ CartsIn w b off n fr to) (hck : (checkM ro co cs n fr to bu).1 = 0) (hfr : freeB cs c = true) :
    Calls Tryd.prog 3 #[.agg #[.int .i64 ro, .int .i64 co, .string cs, .slice a n cap, .int .i64 bu], .int .i64 c] w fun e w' =>
      e = .returned (.bool true) ∧ Below w.heap.size w w' := by
  have hnm : n ≤ maxLen := by unfold maxLen; omega
  have HA := Hid.mk ha
  have HSD := Hid.mk hsd
  obtain ⟨sd1, sd2, hsz⟩ := checkM_good hck
  obtain ⟨r1, r2⟩ := side_bd sd1
  obtain ⟨r3, r4⟩ := side_bd sd2
  obtain ⟨hp1, hp2⟩ := mul_bd r1 r2 r3 r4
  have hN2 : cs.size ≤ 36 := by omega
  have hcN : c < cs.size := by
    by_cases e : c < cs.size
    · exact e
    · rw [freeB_out (by omega)] at hfr; cases hfr
  have HK := Hid.mk hck
  have HF := Hid.mk hfr
  clear ha hsd sd1 sd2 hsz hp1 hp2 hck hfr r1 r2 r3 r4
  go_enter Tryd.func3, Tryd.ntmps3
  go_wp2_with fail
  refine (handed_any _ _ _ _ _ _ _ fr to _ hn (by exact opt_below HA.out ((Below.refl _ _).alloc (Nat.le_refl _) _))).mono ?_
  rintro e w1 ⟨g, rfl, hg, hrow, hb1⟩
  have y1 : ∀ o, w1.cell? ⟨w.heap.size, o, none⟩ = #[Value.int .i64 ro, .int .i64 co, .string cs, .slice a n cap, .int .i64 bu][o]? := by
    intro o
    rw [hb1.cell (p := ⟨w.heap.size, o, none⟩) (by show w.heap.size < _; simp)]; go_simp
  have hB1 := Hid.mk (((Below.refl _ w).alloc (Nat.le_refl _) _).trans (hb1.mono (by simp)) : Below w.heap.size w w1)
  have hz1 : w.heap.size < w1.heap.size := by have := hb1.size; simp at this; omega
  have HR := Hid.mk hrow
  have HA1 := Hid.mk (opt_below HA.out hB1.out)
  have HS1 := Hid.mk (HSD.out.below hB1.out)
  clear hrow hb1
  go_wp2_with fail
  refine (yfar_ok _ _ _ _ _ _ _ fr to c _ hs hnm (by omega) (by exact HS1.out.below ((Below.refl _ _).alloc (Nat.le_refl _) _)) (by exact fun _ => ⟨g, 0, rfl, (row_carts HR.out).below ((Below.refl _ _).alloc (Nat.le_refl _) _)⟩) HK.out HF.out).mono ?_
  rintro e w2 ⟨ga, sa, rfl, hga, hfa, hra, hb2⟩
  have HFA := Hid.mk hfa
  have hga : w1.heap.size < ga := by simp at hga; omega
  have hB2 := Hid.mk (((Below.refl _ w1).alloc (Nat.le_refl _) _).trans (hb2.mono (by simp)) : Below w1.heap.size w1 w2)
  have y2 : ∀ o, w2.cell? ⟨w.heap.size, o, none⟩ = #[Value.int .i64 ro, .int .i64 co, .string cs, .slice a n cap, .int .i64 bu][o]? := fun o => (hB2.out.cell (p := ⟨w.heap.size, o, none⟩) hz1).trans (y1 o)
  have h2 : ∀ o, w2.cell? ⟨w1.heap.size, o, none⟩ = #[Value.int .i64 ro, .int .i64 co, .string cs, .slice (some ⟨g, 0, none⟩) n (n + 8), .int .i64 bu][o]? := by
    intro o
    rw [hb2.cell (p := ⟨w1.heap.size, o, none⟩) (by show w1.heap.size < _; simp)]; go_simp
  have hz2 : w1.heap.size < w2.heap.size := by have := hb2.size; simp at this; omega
  have HR2 := Hid.mk (rowIs_below HR.out hB2.out)
  have HA2 := Hid.mk (opt_below HA1.out hB2.out)
  have HS2 := Hid.mk (HS1.out.below hB2.out)
  have HRA2 := Hid.mk hra
  clear y1 hb2 hfa hra
  go_wp2_with fail
  refine (yfar_ok _ _ _ _ _ _ _ fr to c _ hs hnm (by omega) (by exact HS2.out) (by exact fun _ => ⟨g, 0, rfl, row_carts HR2.out⟩) HK.out HF.out).mono ?_
  rintro e w3 ⟨gc, sc, rfl, hgc, hfc, hrc, hb3⟩
  have HFC := Hid.mk hfc
  have hgc : ga < gc := by have := HRA2.out.lt; omega
  have hB3 := Hid.mk hb3
  have y3 : ∀ o, w3.cell? ⟨w.heap.size, o, none⟩ = #[Value.int .i64 ro, .int .i64 co, .string cs, .slice a n cap, .int .i64 bu][o]? := fun o => (hb3.cell (p := ⟨w.heap.size, o, none⟩) (by show w.heap.size < _; omega)).trans (y2 o)
  have h3 : ∀ o, w3.cell? ⟨w1.heap.size, o, none⟩ = #[Value.int .i64 ro, .int .i64 co, .string cs, .slice (some ⟨g, 0, none⟩) n (n + 8), .int .i64 bu][o]? := fun o => (hb3.cell (p := ⟨w1.heap.size, o, none⟩) (by show w1.heap.size < _; omega)).trans (h2 o)
  have hz3 : w2.heap.size ≤ w3.heap.size := hb3.size
  have HR3 := Hid.mk (rowIs_below HR2.out hb3)
  have HA3 := Hid.mk (opt_below HA2.out hb3)
  have HRA3 := Hid.mk (rowIs_below HRA2.out hb3)
  have HRC3 := Hid.mk hrc
  clear y2 h2 hb3 hfc hrc
  go_wp2_with fail
  refine (still_any _ _ _ _ _ _ _ _ fr to _ hn (by exact HA3.out) (by exact HR3.out)).mono ?_
  rintro e w4 ⟨rfl, hb4⟩
  have hB4 := Hid.mk hb4
  have y4 : ∀ o, w4.cell? ⟨w.heap.size, o, none⟩ = #[Value.int .i64 ro, .int .i64 co, .string cs, .slice a n cap, .int .i64 bu][o]? := fun o => (hb4.cell (p := ⟨w.heap.size, o, none⟩) (by show w.heap.size < _; omega)).trans (y3 o)
  have HA4 := Hid.mk (opt_below HA3.out hb4)
  have hz4 : w3.heap.size ≤ w4.heap.size := hb4.size
  have HRA4 := Hid.mk (rowIs_below HRA3.out hb4)
  have HRC4 := Hid.mk (rowIs_below HRC3.out hb4)
  clear y3 h3 hb4
  go_wp2_with fail
  refine (rfar_ok _ _ _ _ _ _ _ fr to c _ hs hnm (by exact HA4.out) HK.out HF.out).mono ?_
  rintro e w5 ⟨gb, rfl, hgb, hrb, hb5⟩
  have HRB5 := Hid.mk hrb
  have HRA5 := Hid.mk (rowIs_below HRA4.out hb5)
  have HRC5 := Hid.mk (rowIs_below HRC4.out hb5)
  have hB5 := Hid.mk hb5
  have hz5 : w4.heap.size ≤ w5.heap.size := hb5.size
  clear hrb hb5 y4
  go_wp2_with fail
  refine (sameInts_row ga gb cs.size sa _ _ hN2 (by exact HRA5.out) (by exact HRB5.out) (fun j hj => HFA.out.unique (orow_isFar hcN) j hj)).mono ?_
  rintro e w6 ⟨rfl, hb6⟩
  have HRA6 := Hid.mk (rowIs_below HRA5.out hb6)
  have HRB6 := Hid.mk (rowIs_below HRB5.out hb6)
  have HRC6 := Hid.mk (rowIs_below HRC5.out hb6)
  have hB6 := Hid.mk hb6
  have hz6 : w5.heap.size ≤ w6.heap.size := hb6.size
  clear hb6
  go_wp2_with fail
  refine (sameInts_row gc gb cs.size sc _ _ hN2 (by exact HRC6.out) (by exact HRB6.out) (fun j hj => HFC.out.unique (orow_isFar hcN) j hj)).mono ?_
  rintro e w7 ⟨rfl, hb7⟩
  have HRA7 := Hid.mk (rowIs_below HRA6.out hb7)
  have HRC7 := Hid.mk (rowIs_below HRC6.out hb7)
  have hB7 := Hid.mk hb7
  have hz7 : w6.heap.size ≤ w7.heap.size := hb7.size
  clear hb7
  go_wp2_with fail
  refine (apart_rows w.heap.size w7.heap.size ga gc cs.size sa sc _ hN2 (by omega) (by have := HRA7.out.lt; omega) (by have := HRC7.out.lt; omega) (by omega) (by omega) (by simp; omega) (by simp) (by go_simp) (by go_simp) (by exact HRA7.out.alloc _) (by exact HRC7.out.alloc _)).mono ?_
  rintro e w8 ⟨rfl, hb8⟩
  have hB8 := Hid.mk (((hB5.out.mono (by omega)).trans ((hB6.out.mono (by omega)).trans (hB7.out.mono (by omega)))).trans ((((Below.refl _ w7).alloc (by omega) _).trans hb8) : Below w.heap.size w7 w8) : Below w.heap.size w4 w8)
  clear hb8
  go_wp2_with fail
  refine (num_any _ _).mono ?_
  rintro e w9 ⟨rfl, hw9⟩
  have hw9 := hw9.symm
  subst hw9
  go_wp2_with fail
  refine (num_any _ _).mono ?_
  rintro e w9 ⟨rfl, hw9⟩
  have hw9 := hw9.symm
  subst hw9
  go_wp2
  go_ret
  exact ⟨rfl, (((hB1.out.trans (hB2.out.mono (by omega))).trans (hB3.out.mono (by omega))).trans (hB4.out.mono (by omega))).trans hB8.out⟩

set_option maxRecDepth 100000 in
set_option maxHeartbeats 1000000 in
theorem fars_err (ro co bu : Int) (cs : ByteArray) (a : Option Addr) (n cap : Nat) (fr to : Nat → Int) (cell : Int) (w : World) (hs : cs.size ≤ maxLen) (hn : n * 16 ≤ 140737488351232) (hsd : SidesIn w)
    (ha : 0 < n → ∃ b off, a = some ⟨b, off, none⟩ ∧ CartsIn w b off n fr to) (he : farE ro co bu cs n fr to cell ≠ 0) :
    Calls Tryd.prog 3 #[.agg #[.int .i64 ro, .int .i64 co, .string cs, .slice a n cap, .int .i64 bu], .int .i64 cell] w fun e w' =>
      e = .returned (.bool true) ∧ Below w.heap.size w w' := by
  have hnm : n ≤ maxLen := by unfold maxLen; omega
  have HA := Hid.mk ha
  have HSD := Hid.mk hsd
  have HE := Hid.mk he
  clear ha hsd he
  go_enter Tryd.func3, Tryd.ntmps3
  go_wp2_with fail
  refine (handed_any _ _ _ _ _ _ _ fr to _ hn (by exact opt_below HA.out ((Below.refl _ _).alloc (Nat.le_refl _) _))).mono ?_
  rintro e w1 ⟨g, rfl, hg, hrow, hb1⟩
  have y1 : ∀ o, w1.cell? ⟨w.heap.size, o, none⟩ = #[Value.int .i64 ro, .int .i64 co, .string cs, .slice a n cap, .int .i64 bu][o]? := by
    intro o
    rw [hb1.cell (p := ⟨w.heap.size, o, none⟩) (by show w.heap.size < _; simp)]; go_simp
  have hB1 := Hid.mk (((Below.refl _ w).alloc (Nat.le_refl _) _).trans (hb1.mono (by simp)) : Below w.heap.size w w1)
  have hz1 : w.heap.size < w1.heap.size := by have := hb1.size; simp at this; omega
  have HR := Hid.mk hrow
  have HA1 := Hid.mk (opt_below HA.out hB1.out)
  have HS1 := Hid.mk (HSD.out.below hB1.out)
  clear hrow hb1
  go_wp2_with fail
  refine (yfar_err _ _ _ _ _ _ _ fr to cell _ hs hnm (by omega) (by exact fun _ => ⟨g, 0, rfl, (row_carts HR.out).below ((Below.refl _ _).alloc (Nat.le_refl _) _)⟩) HE.out).mono ?_
  rintro e w2 ⟨rfl, hb2⟩
  have hB2 := Hid.mk (((Below.refl _ w1).alloc (Nat.le_refl _) _).trans (hb2.mono (by simp)) : Below w1.heap.size w1 w2)
  have y2 : ∀ o, w2.cell? ⟨w.heap.size, o, none⟩ = #[Value.int .i64 ro, .int .i64 co, .string cs, .slice a n cap, .int .i64 bu][o]? := fun o => (hB2.out.cell (p := ⟨w.heap.size, o, none⟩) hz1).trans (y1 o)
  have h2 : ∀ o, w2.cell? ⟨w1.heap.size, o, none⟩ = #[Value.int .i64 ro, .int .i64 co, .string cs, .slice (some ⟨g, 0, none⟩) n (n + 8), .int .i64 bu][o]? := by
    intro o
    rw [hb2.cell (p := ⟨w1.heap.size, o, none⟩) (by show w1.heap.size < _; simp)]; go_simp
  have hz2 : w1.heap.size < w2.heap.size := by have := hb2.size; simp at this; omega
  have HR2 := Hid.mk (rowIs_below HR.out hB2.out)
  have HA2 := Hid.mk (opt_below HA1.out hB2.out)
  have HS2 := Hid.mk (HS1.out.below hB2.out)
  clear y1 hb2
  go_wp2_with fail
  refine (yfar_err _ _ _ _ _ _ _ fr to cell _ hs hnm (by omega) (by exact fun _ => ⟨g, 0, rfl, row_carts HR2.out⟩) HE.out).mono ?_
  rintro e w3 ⟨rfl, hb3⟩
  have hB3 := Hid.mk hb3
  have y3 : ∀ o, w3.cell? ⟨w.heap.size, o, none⟩ = #[Value.int .i64 ro, .int .i64 co, .string cs, .slice a n cap, .int .i64 bu][o]? := fun o => (hb3.cell (p := ⟨w.heap.size, o, none⟩) (by show w.heap.size < _; omega)).trans (y2 o)
  have h3 : ∀ o, w3.cell? ⟨w1.heap.size, o, none⟩ = #[Value.int .i64 ro, .int .i64 co, .string cs, .slice (some ⟨g, 0, none⟩) n (n + 8), .int .i64 bu][o]? := fun o => (hb3.cell (p := ⟨w1.heap.size, o, none⟩) (by show w1.heap.size < _; omega)).trans (h2 o)
  have hz3 : w2.heap.size ≤ w3.heap.size := hb3.size
  have HR3 := Hid.mk (rowIs_below HR2.out hb3)
  have HA3 := Hid.mk (opt_below HA2.out hb3)
  clear y2 h2 hb3
  go_wp2_with fail
  refine (still_any _ _ _ _ _ _ _ _ fr to _ hn (by exact HA3.out) (by exact HR3.out)).mono ?_
  rintro e w4 ⟨rfl, hb4⟩
  have hB4 := Hid.mk hb4
  have y4 : ∀ o, w4.cell? ⟨w.heap.size, o, none⟩ = #[Value.int .i64 ro, .int .i64 co, .string cs, .slice a n cap, .int .i64 bu][o]? := fun o => (hb4.cell (p := ⟨w.heap.size, o, none⟩) (by show w.heap.size < _; omega)).trans (y3 o)
  have HA4 := Hid.mk (opt_below HA3.out hb4)
  have hz4 : w3.heap.size ≤ w4.heap.size := hb4.size
  clear y3 h3 hb4
  go_wp2_with fail
  refine (rfar_err _ _ _ _ _ _ _ fr to cell _ hs hnm (by exact HA4.out) HE.out).mono ?_
  rintro e w5 ⟨rfl, hb5⟩
  have hB5 := Hid.mk hb5
  have hz5 : w4.heap.size ≤ w5.heap.size := hb5.size
  clear hb5 y4
  go_wp2_with fail
  refine (sameInts_nil _).mono ?_
  rintro e w6 ⟨rfl, hb6⟩
  have hB6 := Hid.mk hb6
  have hz6 : w5.heap.size ≤ w6.heap.size := hb6.size
  clear hb6
  go_wp2_with fail
  refine (sameInts_nil _).mono ?_
  rintro e w7 ⟨rfl, hb7⟩
  have hB7 := Hid.mk hb7
  have hz7 : w6.heap.size ≤ w7.heap.size := hb7.size
  clear hb7
  go_wp2_with fail
  refine (apart_nils w7.heap.size _ (by go_simp) (by go_simp)).mono ?_
  rintro e w8 ⟨rfl, hb8⟩
  have hB8 := Hid.mk (((hB5.out.mono (by omega)).trans ((hB6.out.mono (by omega)).trans (hB7.out.mono (by omega)))).trans ((((Below.refl _ w7).alloc (by omega) _).trans (hb8.mono (by simp; omega))) : Below w.heap.size w7 w8) : Below w.heap.size w4 w8)
  clear hb8
  go_wp2_with fail
  refine (num_any _ _).mono ?_
  rintro e w9 ⟨rfl, hw9⟩
  have hw9 := hw9.symm
  subst hw9
  go_wp2_with fail
  refine (num_any _ _).mono ?_
  rintro e w9 ⟨rfl, hw9⟩
  have hw9 := hw9.symm
  subst hw9
  go_wp2
  go_ret
  exact ⟨rfl, (((hB1.out.trans (hB2.out.mono (by omega))).trans (hB3.out.mono (by omega))).trans (hB4.out.mono (by omega))).trans hB8.out⟩

end Go.Proofs.YtaldfpoolajoiaaDoor
