/- Walks of both Fars: the error, or the table of distances. -/
import Derived.Test.YtaldfpoolajoiaaDoorWlWm
namespace Go.Proofs.YtaldfpoolajoiaaDoor
open Go.RowKit M

theorem ret_si {a : Value} {b c : Int} (h : b = c) : Ending.returned (.tuple #[a, .int .i64 b]) = .returned (.tuple #[a, .int .i64 c]) := by rw [h]

/-- The error of a call of Far. -/
def farE (ro co bu : Int) (cs : ByteArray) (n : Nat) (fr to : Nat → Int) (cell : Int) : Int :=
  if (checkM ro co cs n fr to bu).1 = 0 then (if freeB cs cell then 0 else 7) else (checkM ro co cs n fr to bu).1

set_option maxRecDepth 100000 in
set_option maxHeartbeats 1000000 in
theorem rfar_err (ro co bu : Int) (cs : ByteArray) (a : Option Addr) (n cap : Nat) (fr to : Nat → Int) (cell : Int) (w : World) (hs : cs.size ≤ maxLen) (hn : n ≤ maxLen)
    (ha : 0 < n → ∃ b off, a = some ⟨b, off, none⟩ ∧ CartsIn w b off n fr to) (he : farE ro co bu cs n fr to cell ≠ 0) :
    Calls Tryd.prog 12 #[.agg #[.int .i64 ro, .int .i64 co, .string cs, .slice a n cap, .int .i64 bu], .int .i64 cell] w fun e w' =>
      e = .returned (.tuple #[.slice none 0 0, .int .i64 (farE ro co bu cs n fr to cell)]) ∧ Below w.heap.size w w' := by
  have HE := Hid.mk he
  clear he
  go_enter Tryd.func12, Tryd.ntmps12
  go_wp2_with fail
  refine (rcheck_any _ _ _ _ _ _ _ fr to _ hs hn (by exact opt_below ha ((Below.refl _ _).alloc (Nat.le_refl _) _))).mono ?_
  rintro e w1 ⟨rfl, hb1⟩
  have y1 : ∀ o, w1.cell? ⟨w.heap.size, o, none⟩ = #[Value.int .i64 ro, .int .i64 co, .string cs, .slice a n cap, .int .i64 bu][o]? := by
    intro o
    rw [hb1.cell (p := ⟨w.heap.size, o, none⟩) (by show w.heap.size < _; simp)]; go_simp
  have hB1 := Hid.mk (((Below.refl _ w).alloc (Nat.le_refl _) _).trans (hb1.mono (by simp)) : Below w.heap.size w w1)
  have hz1 : w.heap.size < w1.heap.size := by have := hb1.size; simp at this; omega
  clear hb1 ha
  by_cases hck : (checkM ro co cs n fr to bu).1 = 0
  · have hck' : ((checkM ro co cs n fr to bu).1 != 0) = false := by rw [hck]; rfl
    have HK := Hid.mk hck
    clear hck
    go_wp2_with fail
    refine (rfree_any _ _ _ _ _ _ _ hs).mono ?_
    rintro e w2 ⟨rfl, hb2⟩
    by_cases hf : freeB cs cell = true
    · exact absurd (by unfold farE; rw [if_pos HK.out, if_pos hf]) HE.out
    · have hf' : freeB cs cell = false := by simpa using hf
      go_wp2
      go_ret2
      exact ⟨ret_si (by unfold farE; rw [if_pos HK.out, if_neg hf]), hB1.out.trans (hb2.mono (by omega))⟩
  · have hck' : ((checkM ro co cs n fr to bu).1 != 0) = true := by simpa using hck
    have HK := Hid.mk hck
    clear hck
    go_wp2
    go_ret2
    exact ⟨ret_si (by unfold farE; rw [if_neg HK.out]), hB1.out⟩

set_option maxHeartbeats 400000 in
theorem fault_any (ro co bu : Int) (cs : ByteArray) (a : Option Addr) (n cap : Nat) (fr to : Nat → Int) (w : World) (hs : cs.size ≤ maxLen) (hn : n ≤ maxLen) (hcap : n ≤ cap)
    (ha : 0 < n → ∃ b off, a = some ⟨b, off, none⟩ ∧ CartsIn w b off n fr to) :
    Calls Tryd.prog 38 #[.agg #[.int .i64 ro, .int .i64 co, .string cs, .slice a n cap, .int .i64 bu]] w fun e w' =>
      e = .returned (.int .i64 (checkM ro co cs n fr to bu).1) ∧ Below w.heap.size w w' := by
  go_enter Tryd.func38, Tryd.ntmps38
  go_wp2_with fail
  refine (gcheck_any _ _ _ _ _ _ _ fr to _ hs hn hcap (by exact opt_below ha ((Below.refl _ _).alloc (Nat.le_refl _) _))).mono ?_
  rintro e w1 ⟨rfl, hb1⟩
  go_wp2
  go_ret
  exact ⟨rfl, ((Below.refl _ _).alloc (Nat.le_refl _) _).trans (hb1.mono (by simp))⟩

set_option maxRecDepth 100000 in
set_option maxHeartbeats 1000000 in
theorem yfar_err (ro co bu : Int) (cs : ByteArray) (a : Option Addr) (n cap : Nat) (fr to : Nat → Int) (cell : Int) (w : World) (hs : cs.size ≤ maxLen) (hn : n ≤ maxLen) (hcap : n ≤ cap)
    (ha : 0 < n → ∃ b off, a = some ⟨b, off, none⟩ ∧ CartsIn w b off n fr to) (he : farE ro co bu cs n fr to cell ≠ 0) :
    Calls Tryd.prog 10 #[.agg #[.int .i64 ro, .int .i64 co, .string cs, .slice a n cap, .int .i64 bu], .int .i64 cell] w fun e w' =>
      e = .returned (.tuple #[.slice none 0 0, .int .i64 (farE ro co bu cs n fr to cell)]) ∧ Below w.heap.size w w' := by
  have HE := Hid.mk he
  clear he
  go_enter Tryd.func10, Tryd.ntmps10
  go_wp2_with fail
  refine (fault_any _ _ _ _ _ _ _ fr to _ hs hn hcap (by exact opt_below ha ((Below.refl _ _).alloc (Nat.le_refl _) _))).mono ?_
  rintro e w1 ⟨rfl, hb1⟩
  have y1 : ∀ o, w1.cell? ⟨w.heap.size, o, none⟩ = #[Value.int .i64 ro, .int .i64 co, .string cs, .slice a n cap, .int .i64 bu][o]? := by
    intro o
    rw [hb1.cell (p := ⟨w.heap.size, o, none⟩) (by show w.heap.size < _; simp)]; go_simp
  have hB1 := Hid.mk (((Below.refl _ w).alloc (Nat.le_refl _) _).trans (hb1.mono (by simp)) : Below w.heap.size w w1)
  have hz1 : w.heap.size < w1.heap.size := by have := hb1.size; simp at this; omega
  clear hb1 ha
  by_cases hck : (checkM ro co cs n fr to bu).1 = 0
  · have hck' : ((checkM ro co cs n fr to bu).1 != 0) = false := by rw [hck]; rfl
    have HK := Hid.mk hck
    clear hck
    go_wp2_with fail
    refine (gfree_any _ _ _ _ _ _ _ hs).mono ?_
    rintro e w2 ⟨rfl, hb2⟩
    by_cases hf : freeB cs cell = true
    · exact absurd (by unfold farE; rw [if_pos HK.out, if_pos hf]) HE.out
    · have hf' : freeB cs cell = false := by simpa using hf
      go_wp2
      go_ret2
      exact ⟨ret_si (by unfold farE; rw [if_pos HK.out, if_neg hf]), hB1.out.trans (hb2.mono (by omega))⟩
  · have hck' : ((checkM ro co cs n fr to bu).1 != 0) = true := by simpa using hck
    have HK := Hid.mk hck
    clear hck
    go_wp2
    go_ret2
    exact ⟨ret_si (by unfold farE; rw [if_neg HK.out]), hB1.out⟩

set_option maxRecDepth 100000 in
set_option maxHeartbeats 1000000 in
theorem yfar_ok (ro co bu : Int) (cs : ByteArray) (a : Option Addr) (n cap : Nat) (fr to : Nat → Int) (c : Nat) (w : World) (hs : cs.size ≤ maxLen) (hn : n ≤ maxLen) (hcap : n ≤ cap) (hsd : SidesIn w)
    (ha : 0 < n → ∃ b off, a = some ⟨b, off, none⟩ ∧ CartsIn w b off n fr to) (hck : (checkM ro co cs n fr to bu).1 = 0) (hfr : freeB cs c = true) :
    Calls Tryd.prog 10 #[.agg #[.int .i64 ro, .int .i64 co, .string cs, .slice a n cap, .int .i64 bu], .int .i64 c] w fun e w' =>
      ∃ (g : Nat) (st : Nat → Int), e = .returned (.tuple #[.slice (some ⟨g, 0, none⟩) cs.size cs.size, .int .i64 0]) ∧ w.heap.size ≤ g ∧ IsFar cs.size (adjM co cs) c st ∧ w'.rowIs g 3 cs.size (intV st) ∧ Below w.heap.size w w' := by
  obtain ⟨sd1, sd2, hsz⟩ := checkM_good hck
  obtain ⟨r1, r2⟩ := side_bd sd1
  obtain ⟨r3, r4⟩ := side_bd sd2
  have Hsz := Hid.mk hsz
  have Hsd := Hid.mk hsd
  have hck' : ((checkM ro co cs n fr to bu).1 != 0) = false := by rw [hck]; rfl
  clear hsz sd1 sd2 hck hsd
  go_enter Tryd.func10, Tryd.ntmps10
  go_wp2_with fail
  refine (fault_any _ _ _ _ _ _ _ fr to _ hs hn hcap (by exact opt_below ha ((Below.refl _ _).alloc (Nat.le_refl _) _))).mono ?_
  rintro e w1 ⟨rfl, hb1⟩
  have y1 : ∀ o, w1.cell? ⟨w.heap.size, o, none⟩ = #[Value.int .i64 ro, .int .i64 co, .string cs, .slice a n cap, .int .i64 bu][o]? := by
    intro o
    rw [hb1.cell (p := ⟨w.heap.size, o, none⟩) (by show w.heap.size < _; simp)]; go_simp
  have hB1 := Hid.mk (((Below.refl _ w).alloc (Nat.le_refl _) _).trans (hb1.mono (by simp)) : Below w.heap.size w w1)
  have hz1 : w.heap.size < w1.heap.size := by have := hb1.size; simp at this; omega
  clear hb1 ha
  go_wp2_with fail
  refine (gfree_any _ _ _ _ _ _ _ hs).mono ?_
  rintro e w2 ⟨rfl, hb2⟩
  have y2 : ∀ o, w2.cell? ⟨w.heap.size, o, none⟩ = #[Value.int .i64 ro, .int .i64 co, .string cs, .slice a n cap, .int .i64 bu][o]? := fun o => (hb2.cell (p := ⟨w.heap.size, o, none⟩) hz1).trans (y1 o)
  have hz2 := hb2.size
  have hB2 := Hid.mk (hB1.out.trans (hb2.mono (by omega)) : Below w.heap.size w w2)
  clear y1 hb2
  go_wp2_with fail
  refine (gfar_any _ _ _ _ _ c _ (by exact Hsd.out.below hB2.out) r1 r2 r3 r4 Hsz.out hfr).mono ?_
  rintro e w3 ⟨g, st, rfl, hg, hf, hr, hb3⟩
  have HF := Hid.mk hf
  have HR := Hid.mk hr
  clear hf hr
  go_wp2
  go_ret2
  exact ⟨g, st, rfl, by omega, HF.out, HR.out, hB2.out.trans (hb3.mono (by omega))⟩

end Go.Proofs.YtaldfpoolajoiaaDoor
