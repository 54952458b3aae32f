/- Several texts in one: Be, Bl, Bn, Co. -/
import Derived.Test.YtnkgpinadgacgabDoorMjd
import Derived.Test.YtnkgpinadgacgabDoorMje
import Derived.Test.YtnkgpinadgacgabDoorMja
import Derived.Carry
import Derived.Deep.RegionHeld3
import Derived.Deep.DeepCutAuto
import Derived.Deep.LoopGhost
import Derived.Laws.EntriesVeiled
import Derived.Test.YtnkgpinadgacgabDoorMjb
import Derived.Lib.SliceRun
import Derived.Test.YtnkgpinadgacgabDoorMjk
namespace Go.Proofs.YtnkgpinadgacgabDoor
open Go.RowKit M
end Go.Proofs.YtnkgpinadgacgabDoor

/- Walk of apart over two lists. -/
namespace Go.Proofs.YtnkgpinadgacgabDoor
open Go.RowKit M
end Go.Proofs.YtnkgpinadgacgabDoor

/- Walks of both Fars: the error, or the table of distances. -/
namespace Go.Proofs.YtnkgpinadgacgabDoor
open Go.RowKit M
set_option maxHeartbeats 400000 in
theorem fault_any (ro co bu : Int) (cs : ByteArray) (a : Option Addr) (n cap : Nat) (fr tt : Nat → Int) (w : World) (hs : cs.size ≤ maxLen) (hn : n ≤ maxLen) (hcap : n ≤ cap)
    (ha : 0 < n → ∃ b off, a = some ⟨b, off, none⟩ ∧ CartsIn w b off n fr tt) :
    Calls Tryd.prog 36 #[.agg #[.int .i64 ro, .int .i64 co, .string cs, .slice a n cap, .int .i64 bu]] w fun e w' =>
      e = .returned (.int .i64 (checkM ro co cs n fr tt bu).1) ∧ Below w.heap.size w w' := by
  go_enter Tryd.func36, Tryd.ntmps36
  go_wp2_with fail
  refine (gcheck_any _ _ _ _ _ _ _ fr tt _ hs hn hcap (by exact opt_below ha ((Below.refl _ _).alloc (Nat.le_refl _) _))).mono ?_
  rintro e w1 ⟨rfl, hb1⟩
  go_wp2
  go_ret
  exact ⟨rfl, ((Below.refl _ _).alloc (Nat.le_refl _) _).trans (hb1.mono (by simp))⟩

set_option maxRecDepth 100000 in
set_option maxHeartbeats 1000000 in
theorem yfar_ok (ro co bu : Int) (cs : ByteArray) (a : Option Addr) (n cap : Nat) (fr tt : Nat → Int) (c : Nat) (w : World) (hs : cs.size ≤ maxLen) (hn : n ≤ maxLen) (hcap : n ≤ cap) (hsd : SidesIn w)
    (ha : 0 < n → ∃ b off, a = some ⟨b, off, none⟩ ∧ CartsIn w b off n fr tt) (hck : (checkM ro co cs n fr tt bu).1 = 0) (hfr : freeB cs c = true) :
    Calls Tryd.prog 35 #[.agg #[.int .i64 ro, .int .i64 co, .string cs, .slice a n cap, .int .i64 bu], .int .i64 c] w fun e w' =>
      ∃ (g : Nat) (st : Nat → Int), e = .returned (.tuple #[.slice (some ⟨g, 0, none⟩) cs.size cs.size, .int .i64 0]) ∧ w.heap.size ≤ g ∧ IsFar cs.size (adjM co cs) c st ∧ w'.rowIs g 3 cs.size (intV st) ∧ Below w.heap.size w w' := by
  obtain ⟨sd1, sd2, hsz⟩ := checkM_good hck
  obtain ⟨r1, r2⟩ := side_bd sd1
  obtain ⟨r3, r4⟩ := side_bd sd2
  have Hsz := Hid.mk hsz
  have Hsd := Hid.mk hsd
  have hck' : ((checkM ro co cs n fr tt bu).1 != 0) = false := by rw [hck]; rfl
  clear hsz sd1 sd2 hck hsd
  go_enter Tryd.func35, Tryd.ntmps35
  go_wp2_with fail
  refine (fault_any _ _ _ _ _ _ _ fr tt _ hs hn hcap (by exact opt_below ha ((Below.refl _ _).alloc (Nat.le_refl _) _))).mono ?_
  rintro e w1 ⟨rfl, hb1⟩
  have y1 : ∀ o, w1.cell? ⟨w.heap.size, o, none⟩ = #[Value.int .i64 ro, .int .i64 co, .string cs, .slice a n cap, .int .i64 bu][o]? := by
    intro o
    rw [hb1.cell (p := ⟨w.heap.size, o, none⟩) (by show w.heap.size < _; simp)]; go_simp
  have hB1 := Hid.mk (((Below.refl _ w).alloc (Nat.le_refl _) _).trans (hb1.mono (by simp)) : Below w.heap.size w w1)
  have hz1 : w.heap.size < w1.heap.size := by have := hb1.size; simp at this; omega
  clear hb1 ha
  go_wp2_with fail
  refine (gfree_any _ _ _ _ _ _ _ hs).mono ?_
  rintro e w2 ⟨rfl, hb2⟩
  have y2 : ∀ o, w2.cell? ⟨w.heap.size, o, none⟩ = #[Value.int .i64 ro, .int .i64 co, .string cs, .slice a n cap, .int .i64 bu][o]? := fun o => (hb2.cell (p := ⟨w.heap.size, o, none⟩) hz1).trans (y1 o)
  have hz2 := hb2.size
  have hB2 := Hid.mk (hB1.out.trans (hb2.mono (by omega)) : Below w.heap.size w w2)
  clear y1 hb2
  go_wp2_with fail
  refine (gfar_any _ _ _ _ _ c _ (by exact Hsd.out.below hB2.out) r1 r2 r3 r4 Hsz.out hfr).mono ?_
  rintro e w3 ⟨g, st, rfl, hg, hf, hr, hb3⟩
  have HF := Hid.mk hf
  have HR := Hid.mk hr
  clear hf hr
  go_wp2
  go_ret2
  exact ⟨g, st, rfl, by omega, HF.out, HR.out, hB2.out.trans (hb3.mono (by omega))⟩

end Go.Proofs.YtnkgpinadgacgabDoor

/- Walk of Fars: the law answers true. -/
namespace Go.Proofs.YtnkgpinadgacgabDoor
open Go.RowKit M
end Go.Proofs.YtnkgpinadgacgabDoor

namespace Go.Proofs.YtnkgpinadgacgabDoor
open Go.RowKit M
end Go.Proofs.YtnkgpinadgacgabDoor

/- Walks of the program's mayBegin, nexts: to where one cart may go under rules. -/
namespace Go.Proofs.YtnkgpinadgacgabDoor
open Go.RowKit M
/-- May the cart go there, by the rules? -/
def stepB (n : Nat) (R : Nat → RuleM) (c : Int) (t : Nat) (z : Int) : Bool := !noWayM n R c z t && onM n R z (t + 1 : Nat)

end Go.Proofs.YtnkgpinadgacgabDoor

/- Walk of wayTo: the path back from a spot to the start. -/
namespace Go.Proofs.YtnkgpinadgacgabDoor
open Go.RowKit M
def wayF (p : Nat → Nat) (k : Nat) : Nat → Value := fun i => if k ≤ i then .int .i64 (p i : Nat) else .int .i64 0

end Go.Proofs.YtnkgpinadgacgabDoor

/- What a search for one cart's least path holds in memory; what a push and a pop leave of it. -/
namespace Go.Proofs.YtnkgpinadgacgabDoor
open Go.RowKit M
/-- What a search's answer is in memory. -/
def Told (w w' : World) (v : Value) (x : Option (Nat × (Nat → Nat))) : Prop :=
  (x = none → v = .slice none 0 0) ∧ ∀ T p, x = some (T, p) → ∃ g, v = .slice (some ⟨g, 0, none⟩) (T + 1) (T + 1) ∧ w.heap.size ≤ g ∧ w'.rowIs g 3 (T + 1) (natV p)

end Go.Proofs.YtnkgpinadgacgabDoor

namespace Go.Proofs.YtnkgpinadgacgabDoor
open Go.RowKit M
theorem Told.from {w w0 w' : World} {v : Value} {x : Option (Nat × (Nat → Nat))} (h : Told w w' v x) (hw : w0.heap.size ≤ w.heap.size) : Told w0 w' v x :=
  ⟨h.1, fun T p e => by
    obtain ⟨g, h1, h2, h3⟩ := h.2 T p e
    exact ⟨g, h1, by omega, h3⟩⟩

end Go.Proofs.YtnkgpinadgacgabDoor

/- Walks of handedRules (rules in a list of their own, with spare room) and of stillRules. -/
namespace Go.Proofs.YtnkgpinadgacgabDoor
open Go.RowKit M
end Go.Proofs.YtnkgpinadgacgabDoor

/- Walks of the program's Alone. -/
namespace Go.Proofs.YtnkgpinadgacgabDoor
open Go.RowKit M
theorem M.firstOf_is {p : Nat → Bool} : ∀ n, firstOf p n < n → p (firstOf p n) = true
  | 0, h => by omega
  | n + 1, h => by
    simp only [firstOf] at h ⊢
    by_cases h1 : firstOf p n < n
    · rw [if_pos h1]; exact firstOf_is n h1
    · rw [if_neg h1] at h ⊢
      by_cases h2 : p n = true
      · rw [if_pos h2]; exact h2
      · rw [if_neg h2] at h; omega

theorem M.firstOf_none {p : Nat → Bool} {n : Nat} (h : ¬ firstOf p n < n) : ∀ j, j < n → p j = false := by
  induction n with
  | zero => intro j hj; omega
  | succ n ih =>
    simp only [firstOf] at h
    by_cases h1 : firstOf p n < n
    · rw [if_pos h1] at h; omega
    · rw [if_neg h1] at h
      by_cases h2 : p n = true
      · rw [if_pos h2] at h; omega
      · intro j hj
        by_cases e : j = n
        · subst e; simpa using h2
        · exact ih h1 j (by omega)

theorem carts_free {ro co bu : Int} {cs : ByteArray} {m : Nat} {fr tt : Nat → Int} (h : (checkM ro co cs m fr tt bu).1 = 0) : m ≤ 4 ∧ ∀ k, k < m → freeB cs (fr k) = true ∧ freeB cs (tt k) = true := by
  unfold checkM at h
  by_cases h1 : (sideB ro && sideB co) = false
  · rw [if_pos h1] at h; simp at h
  · rw [if_neg h1] at h
    by_cases h2 : 0 ≤ cellsM ro co cs
    · rw [if_pos h2] at h; simp at h
    · rw [if_neg h2] at h
      by_cases h3 : m < 1 ∨ 4 < m
      · rw [if_pos h3] at h; simp at h
      · rw [if_neg h3] at h
        refine ⟨by omega, ?_⟩
        by_cases h4 : firstOf (fun i => !(cartM cs fr tt i == 0)) m < m
        · rw [if_pos h4] at h
          have := M.firstOf_is (p := fun i => !(cartM cs fr tt i == 0)) m h4
          simp only [] at h this
          rw [h] at this; cases this
        · intro k hk
          have := M.firstOf_none h4 k hk
          have h5 : cartM cs fr tt k = 0 := by simpa using this
          unfold cartM at h5
          by_cases h6 : (freeB cs (fr k) && freeB cs (tt k)) = true
          · simpa using h6
          · rw [if_neg h6] at h5; omega

theorem Told.form {w w' : World} {v : Value} {x : Option (Nat × (Nat → Nat))} (h : Told w w' v x) :
    ∃ a n, v = .slice a n n ∧ ((x = none ∧ a = none ∧ n = 0) ∨ ∃ T p g, x = some (T, p) ∧ a = some ⟨g, 0, none⟩ ∧ n = T + 1 ∧ w.heap.size ≤ g ∧ w'.rowIs g 3 (T + 1) (natV p)) := by
  match x, h with
  | none, h => exact ⟨none, 0, h.1 rfl, Or.inl ⟨rfl, rfl, rfl⟩⟩
  | some (T, p), h =>
    obtain ⟨g, h1, h2, h3⟩ := h.2 T p rfl
    exact ⟨_, _, h1, Or.inr ⟨T, p, g, rfl, rfl, rfl, h2, h3⟩⟩

end Go.Proofs.YtnkgpinadgacgabDoor

namespace Go.Proofs.YtnkgpinadgacgabDoor
open Go.RowKit M
namespace M
/-- The error of Judge. -/
def judgeE (ro co bu : Int) (cs : ByteArray) (m : Nat) (fr tt : Nat → Int) (lvl : Int) : Int := if (checkM ro co cs m fr tt bu).1 = 0 then (if lvl < 0 ∨ 3 < lvl then 7 else 0) else (checkM ro co cs m fr tt bu).1

/-- The faults that Judge tells. -/
def ansF (ro co bu : Int) (cs : ByteArray) (m : Nat) (fr tt : Nat → Int) (n : Nat) (p : PlanM) (lvl : Int) : List FaultM :=
  if judgeE ro co bu cs m fr tt lvl = 0 then (if n = m then allF lvl.toNat co cs fr tt n p.len p.num else [⟨0, -1, -1, 0⟩]) else []

end M
theorem good_pos {ro co bu : Int} {cs : ByteArray} {m : Nat} {fr tt : Nat → Int} (h : (checkM ro co cs m fr tt bu).1 = 0) : 0 < m := by
  by_cases e : 0 < m
  · exact e
  · exfalso
    obtain ⟨s1, s2, s3⟩ := checkM_good h
    unfold checkM at h
    rw [s1, s2, if_neg (by decide)] at h
    by_cases c : 0 ≤ cellsM ro co cs
    · rw [if_pos c] at h; cases h
    · rw [if_neg c, if_pos (by omega)] at h; cases h

theorem ret_vi {a : Value} {b c : Int} (h : b = c) : Ending.returned (.tuple #[a, .int .i64 b]) = .returned (.tuple #[a, .int .i64 c]) := by rw [h]

theorem faults_all (ro co bu : Int) (cs : ByteArray) (bc oc m cc : Nat) (fr tt : Nat → Int) (ap : Option Addr) (n cap : Nat) (p : PlanM) (lvl : Nat) (w : World) (hs : cs.size ≤ 36) (r1 : 1 ≤ ro) (r2 : ro ≤ 6) (h1 : 1 ≤ co) (h2 : co ≤ 6) (hsz : (cs.size : Int) = ro * co) (hsd : SidesIn w)
    (hcs : CartsIn w bc oc m fr tt) (hm4 : m ≤ 4) (hB : ∀ i, i < n → p.len i ≤ 1048576) (hp : PlanAt w ap n p) (hl : lvl ≤ 3) :
    Calls Tryd.prog 43 #[.agg #[.int .i64 ro, .int .i64 co, .string cs, .slice (some ⟨bc, oc, none⟩) m cc, .int .i64 bu], .slice ap n cap, .int .i64 lvl] w fun e w' =>
      ∃ v, e = .returned v ∧ OwnF w' w.heap.size v (if n = m then allF lvl co cs fr tt n p.len p.num else [⟨0, -1, -1, 0⟩]) ∧ Below w.heap.size w w' := by
  by_cases hmn : n = m
  · rw [if_pos hmn]
    have e : lvl = 0 ∨ lvl = 1 ∨ lvl = 2 ∨ lvl = 3 := by omega
    rcases e with e | e | e | e <;> subst e
    · exact faults_0 ro co bu cs bc oc m cc fr tt ap n cap p w hs r1 r2 h1 h2 hsz hsd hcs hmn (by omega) hB hp
    · exact faults_1 ro co bu cs bc oc m cc fr tt ap n cap p w hs r1 r2 h1 h2 hsz hsd hcs hmn (by omega) hB hp
    · exact faults_2 ro co bu cs bc oc m cc fr tt ap n cap p w hs r1 r2 h1 h2 hsz hsd hcs hmn (by omega) hB hp
    · exact faults_3 ro co bu cs bc oc m cc fr tt ap n cap p w hs r1 r2 h1 h2 hsz hsd hcs hmn (by omega) hB hp
  · rw [if_neg hmn]
    exact faults_bad ro co bu cs _ m cc ap n cap lvl w hmn

set_option maxRecDepth 100000 in
set_option maxHeartbeats 2000000 in
theorem yjudge_any (ro co bu : Int) (cs : ByteArray) (a : Option Addr) (m cc : Nat) (fr tt : Nat → Int) (ap : Option Addr) (n cap : Nat) (p : PlanM) (lvl : Int) (w : World) (hs : cs.size ≤ maxLen) (hm : m ≤ maxLen) (hcap : m ≤ cc) (hsd : SidesIn w)
    (ha : 0 < m → ∃ b off, a = some ⟨b, off, none⟩ ∧ CartsIn w b off m fr tt) (hB : ∀ i, i < n → p.len i ≤ 1048576) (hp : PlanAt w ap n p) :
    Calls Tryd.prog 22 #[.agg #[.int .i64 ro, .int .i64 co, .string cs, .slice a m cc, .int .i64 bu], .slice ap n cap, .int .i64 lvl] w fun e w' =>
      ∃ v, e = .returned (.tuple #[v, .int .i64 (judgeE ro co bu cs m fr tt lvl)]) ∧ OwnF w' w.heap.size v (ansF ro co bu cs m fr tt n p lvl) ∧ Below w.heap.size w w' := by
  have HA := Hid.mk ha
  have HB := Hid.mk hB
  have HP := Hid.mk hp
  have HSD := Hid.mk hsd
  have B0 : Hid (Below w.heap.size w (w.alloc (Obj.cells #[Value.int IntKind.i64 ro, Value.int IntKind.i64 co, Value.string cs, .slice a m cc, Value.int IntKind.i64 bu] 28))) := (Below.refl _ w).alloc (Nat.le_refl _) _
  obtain ⟨E, hE⟩ : ∃ E, E = (checkM ro co cs m fr tt bu).1 := ⟨_, rfl⟩
  have HE := Hid.mk hE
  clear ha hB hp hsd hE
  go_enter Tryd.func22, Tryd.ntmps22
  go_wp2_with fail
  refine (fault_any ro co bu cs a m cc fr tt _ hs hm hcap (by exact opt_below HA.out B0.out)).mono ?_
  rintro e w1 ⟨he, hb1⟩
  rw [← HE.out] at he
  subst he
  have y1 : ∀ o, w1.cell? ⟨w.heap.size, o, none⟩ = #[Value.int .i64 ro, .int .i64 co, .string cs, .slice a m cc, .int .i64 bu][o]? := by
    intro o
    rw [hb1.cell (p := ⟨w.heap.size, o, none⟩) (by show w.heap.size < _; simp)]; go_simp
  have B1 : Hid (Below w.heap.size w w1) := B0.out.trans (hb1.mono (by simp))
  clear hb1 B0
  by_cases h0 : E = 0
  · have hE0 : (E != 0) = false := by simp [h0]
    have CK : Hid ((checkM ro co cs m fr tt bu).1 = 0) := HE.out.symm.trans h0
    clear h0
    by_cases hl : lvl < 0 ∨ 3 < lvl
    · have JE : Hid (judgeE ro co bu cs m fr tt lvl = 7) := by unfold Hid judgeE; rw [if_pos CK.out, if_pos hl]
      have AN : Hid (ansF ro co bu cs m fr tt n p lvl = []) := by unfold Hid ansF; rw [JE.out]; rfl
      rcases hl with hl | hl
      · go_wp2
        go_ret2
        exact ⟨_, ret_vi JE.out.symm, by rw [AN.out]; exact OwnF.nil _ _, B1.out⟩
      · have hl0 : ¬ lvl < 0 := by omega
        go_wp2
        go_ret2
        exact ⟨_, ret_vi JE.out.symm, by rw [AN.out]; exact OwnF.nil _ _, B1.out⟩
    · have JE : Hid (judgeE ro co bu cs m fr tt lvl = 0) := by unfold Hid judgeE; rw [if_pos CK.out, if_neg hl]
      obtain ⟨l, rfl⟩ := Int.eq_ofNat_of_zero_le (show 0 ≤ lvl by omega)
      have AN : Hid (ansF ro co bu cs m fr tt n p (l : Int) = if n = m then allF l co cs fr tt n p.len p.num else [⟨0, -1, -1, 0⟩]) := by unfold Hid ansF; rw [if_pos JE.out]; rfl
      obtain ⟨s1, s2, s3⟩ := checkM_good CK.out
      obtain ⟨q1, q2⟩ := side_bd s1
      obtain ⟨q3, q4⟩ := side_bd s2
      obtain ⟨m1, m2⟩ := mul_bd q1 q2 q3 q4
      have hs36 : cs.size ≤ 36 := by omega
      have SZ := Hid.mk s3
      have hm4 := (carts_free CK.out).1
      obtain ⟨bc, oc, rfl, hcc⟩ := HA.out (good_pos CK.out)
      have HCC := Hid.mk (hcc.below B1.out)
      have hl0 : ¬ (l : Int) < 0 := by omega
      have hl3 : ¬ (3 : Int) < (l : Int) := by omega
      have hl3n : l ≤ 3 := by omega
      clear hl s1 s2 s3 m1 m2 hcc
      go_wp2_with fail
      refine (faults_all ro co bu cs bc oc m cc fr tt ap n cap p l _ hs36 q1 q2 q3 q4 SZ.out (HSD.out.below B1.out) HCC.out hm4 HB.out (HP.out.below B1.out) hl3n).mono ?_
      rintro e w2 ⟨v, rfl, hown, hb2⟩
      have OW : Hid (OwnF w2 w.heap.size v (ansF ro co bu cs m fr tt n p (l : Int))) := by unfold Hid; rw [AN.out]; exact hown.le B1.out.size
      have B2 : Hid (Below w.heap.size w w2) := B1.out.trans (hb2.mono B1.out.size)
      clear hown hb2 y1
      go_wp2
      go_ret2
      exact ⟨v, ret_vi JE.out.symm, OW.out, B2.out⟩
  · have hE0 : (E != 0) = true := by simpa using h0
    have JE : Hid (judgeE ro co bu cs m fr tt lvl = E) := by unfold Hid judgeE; rw [← HE.out, if_neg h0]
    have AN : Hid (ansF ro co bu cs m fr tt n p lvl = []) := by unfold Hid ansF; rw [JE.out, if_neg h0]
    clear h0
    go_wp2
    go_ret2
    exact ⟨_, ret_vi JE.out.symm, by rw [AN.out]; exact OwnF.nil _ _, B1.out⟩

end Go.Proofs.YtnkgpinadgacgabDoor
