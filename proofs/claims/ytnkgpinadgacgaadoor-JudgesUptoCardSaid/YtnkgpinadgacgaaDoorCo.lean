/- Walks of both Judges: the errors, or the faults in their order. -/
import Derived.Test.YtnkgpinadgacgaaDoorCn
import Derived.Test.YtnkgpinadgacgaaDoorBe
import Derived.Test.YtnkgpinadgacgaaDoorBn
namespace Go.Proofs.YtnkgpinadgacgaaDoor
open Go.RowKit M

namespace M
/-- The error of Judge. -/
def judgeE (ro co bu : Int) (cs : ByteArray) (m : Nat) (fr tt : Nat → Int) (lvl : Int) : Int := if (checkM ro co cs m fr tt bu).1 = 0 then (if lvl < 0 ∨ 3 < lvl then 7 else 0) else (checkM ro co cs m fr tt bu).1

/-- The faults that Judge tells. -/
def ansF (ro co bu : Int) (cs : ByteArray) (m : Nat) (fr tt : Nat → Int) (n : Nat) (p : PlanM) (lvl : Int) : List FaultM :=
  if judgeE ro co bu cs m fr tt lvl = 0 then (if n = m then allF lvl.toNat co cs fr tt n p.len p.num else [⟨0, -1, -1, 0⟩]) else []

def preF (lvl j n : Nat) (len : Nat → Nat) (num : Nat → Nat → Int) : List FaultM :=
  (if 3 ≤ lvl ∧ j < 3 then pairsF 3 n len num n else []) ++ (if 2 ≤ lvl ∧ j < 2 then pairsF 2 n len num n else [])

theorem preF_start (lvl n : Nat) (len : Nat → Nat) (num : Nat → Nat → Int) : preF lvl lvl n len num = [] := by
  unfold preF
  rw [if_neg (by omega), if_neg (by omega)]; rfl

theorem preF_3 {lvl n : Nat} {len : Nat → Nat} {num : Nat → Nat → Int} (h : 3 ≤ lvl) : preF lvl 2 n len num = preF lvl 3 n len num ++ pairsF 3 n len num n := by
  unfold preF
  rw [if_pos ⟨h, by omega⟩, if_neg (by omega), if_neg (by omega), if_neg (by omega)]; simp

theorem preF_2 {lvl n : Nat} {len : Nat → Nat} {num : Nat → Nat → Int} (h : 2 ≤ lvl) : preF lvl 1 n len num = preF lvl 2 n len num ++ pairsF 2 n len num n := by
  unfold preF
  rw [if_pos (show 2 ≤ lvl ∧ 1 < 2 from ⟨h, by omega⟩), if_neg (show ¬ (2 ≤ lvl ∧ 2 < 2) by omega)]
  by_cases e : 3 ≤ lvl
  · rw [if_pos ⟨e, by omega⟩, if_pos ⟨e, by omega⟩]; simp
  · rw [if_neg (by omega), if_neg (by omega)]; rfl

theorem preF_done {lvl j n : Nat} {len : Nat → Nat} {num : Nat → Nat → Int} (hj : j < 2) : preF lvl j n len num = (if 3 ≤ lvl then pairsF 3 n len num n else []) ++ (if 2 ≤ lvl then pairsF 2 n len num n else []) := by
  unfold preF
  congr 1
  · by_cases e : 3 ≤ lvl
    · rw [if_pos ⟨e, by omega⟩, if_pos e]
    · rw [if_neg (by omega), if_neg e]
  · by_cases e : 2 ≤ lvl
    · rw [if_pos ⟨e, by omega⟩, if_pos e]
    · rw [if_neg (by omega), if_neg e]
end M

theorem preF_len {lvl j n : Nat} {len : Nat → Nat} {num : Nat → Nat → Int} (hn : n ≤ 4) (h : ∀ j, j < n → len j ≤ 1048576) : (preF lvl j n len num).length ≤ 33554432 := by
  have h1 := pairs_all (lvl := 3) (num := num) hn h
  have h2 := pairs_all (lvl := 2) (num := num) hn h
  unfold preF
  simp only [List.length_append]
  split <;> split <;> simp <;> omega

theorem good_pos {ro co bu : Int} {cs : ByteArray} {m : Nat} {fr tt : Nat → Int} (h : (checkM ro co cs m fr tt bu).1 = 0) : 0 < m := by
  by_cases e : 0 < m
  · exact e
  · exfalso
    obtain ⟨s1, s2, s3⟩ := checkM_good h
    unfold checkM at h
    rw [s1, s2, if_neg (by decide)] at h
    by_cases c : 0 ≤ cellsM ro co cs
    · rw [if_pos c] at h; cases h
    · rw [if_neg c, if_pos (by omega)] at h; cases h

theorem ret_vi {a : Value} {b c : Int} (h : b = c) : Ending.returned (.tuple #[a, .int .i64 b]) = .returned (.tuple #[a, .int .i64 c]) := by rw [h]

theorem faults_all (ro co bu : Int) (cs : ByteArray) (bc oc m cc : Nat) (fr tt : Nat → Int) (ap : Option Addr) (n cap : Nat) (p : PlanM) (lvl : Nat) (w : World) (hs : cs.size ≤ 36) (r1 : 1 ≤ ro) (r2 : ro ≤ 6) (h1 : 1 ≤ co) (h2 : co ≤ 6) (hsz : (cs.size : Int) = ro * co) (hsd : SidesIn w)
    (hcs : CartsIn w bc oc m fr tt) (hm4 : m ≤ 4) (hB : ∀ i, i < n → p.len i ≤ 1048576) (hp : PlanAt w ap n p) (hl : lvl ≤ 3) :
    Calls Tryd.prog 79 #[.agg #[.int .i64 ro, .int .i64 co, .string cs, .slice (some ⟨bc, oc, none⟩) m cc, .int .i64 bu], .slice ap n cap, .int .i64 lvl] w fun e w' =>
      ∃ v, e = .returned v ∧ OwnF w' w.heap.size v (if n = m then allF lvl co cs fr tt n p.len p.num else [⟨0, -1, -1, 0⟩]) ∧ Below w.heap.size w w' := by
  by_cases hmn : n = m
  · rw [if_pos hmn]
    have e : lvl = 0 ∨ lvl = 1 ∨ lvl = 2 ∨ lvl = 3 := by omega
    rcases e with e | e | e | e <;> subst e
    · exact faults_0 ro co bu cs bc oc m cc fr tt ap n cap p w hs r1 r2 h1 h2 hsz hsd hcs hmn (by omega) hB hp
    · exact faults_1 ro co bu cs bc oc m cc fr tt ap n cap p w hs r1 r2 h1 h2 hsz hsd hcs hmn (by omega) hB hp
    · exact faults_2 ro co bu cs bc oc m cc fr tt ap n cap p w hs r1 r2 h1 h2 hsz hsd hcs hmn (by omega) hB hp
    · exact faults_3 ro co bu cs bc oc m cc fr tt ap n cap p w hs r1 r2 h1 h2 hsz hsd hcs hmn (by omega) hB hp
  · rw [if_neg hmn]
    exact faults_bad ro co bu cs _ m cc ap n cap lvl w hmn

set_option maxRecDepth 100000 in
set_option maxHeartbeats 2000000 in
theorem yjudge_any (ro co bu : Int) (cs : ByteArray) (a : Option Addr) (m cc : Nat) (fr tt : Nat → Int) (ap : Option Addr) (n cap : Nat) (p : PlanM) (lvl : Int) (w : World) (hs : cs.size ≤ maxLen) (hm : m ≤ maxLen) (hcap : m ≤ cc) (hsd : SidesIn w)
    (ha : 0 < m → ∃ b off, a = some ⟨b, off, none⟩ ∧ CartsIn w b off m fr tt) (hB : ∀ i, i < n → p.len i ≤ 1048576) (hp : PlanAt w ap n p) :
    Calls Tryd.prog 30 #[.agg #[.int .i64 ro, .int .i64 co, .string cs, .slice a m cc, .int .i64 bu], .slice ap n cap, .int .i64 lvl] w fun e w' =>
      ∃ v, e = .returned (.tuple #[v, .int .i64 (judgeE ro co bu cs m fr tt lvl)]) ∧ OwnF w' w.heap.size v (ansF ro co bu cs m fr tt n p lvl) ∧ Below w.heap.size w w' := by
  have HA := Hid.mk ha
  have HB := Hid.mk hB
  have HP := Hid.mk hp
  have HSD := Hid.mk hsd
  have B0 : Hid (Below w.heap.size w (w.alloc (Obj.cells #[Value.int IntKind.i64 ro, Value.int IntKind.i64 co, Value.string cs, .slice a m cc, Value.int IntKind.i64 bu] 24))) := (Below.refl _ w).alloc (Nat.le_refl _) _
  obtain ⟨E, hE⟩ : ∃ E, E = (checkM ro co cs m fr tt bu).1 := ⟨_, rfl⟩
  have HE := Hid.mk hE
  clear ha hB hp hsd hE
  go_enter Tryd.func30, Tryd.ntmps30
  go_wp2_with fail
  refine (fault_any ro co bu cs a m cc fr tt _ hs hm hcap (by exact opt_below HA.out B0.out)).mono ?_
  rintro e w1 ⟨he, hb1⟩
  rw [← HE.out] at he
  subst he
  have y1 : ∀ o, w1.cell? ⟨w.heap.size, o, none⟩ = #[Value.int .i64 ro, .int .i64 co, .string cs, .slice a m cc, .int .i64 bu][o]? := by
    intro o
    rw [hb1.cell (p := ⟨w.heap.size, o, none⟩) (by show w.heap.size < _; simp)]; go_simp
  have B1 : Hid (Below w.heap.size w w1) := B0.out.trans (hb1.mono (by simp))
  clear hb1 B0
  by_cases h0 : E = 0
  · have hE0 : (E != 0) = false := by simp [h0]
    have CK : Hid ((checkM ro co cs m fr tt bu).1 = 0) := HE.out.symm.trans h0
    clear h0
    by_cases hl : lvl < 0 ∨ 3 < lvl
    · have JE : Hid (judgeE ro co bu cs m fr tt lvl = 7) := by unfold Hid judgeE; rw [if_pos CK.out, if_pos hl]
      have AN : Hid (ansF ro co bu cs m fr tt n p lvl = []) := by unfold Hid ansF; rw [JE.out]; rfl
      rcases hl with hl | hl
      · go_wp2
        go_ret2
        exact ⟨_, ret_vi JE.out.symm, by rw [AN.out]; exact OwnF.nil _ _, B1.out⟩
      · have hl0 : ¬ lvl < 0 := by omega
        go_wp2
        go_ret2
        exact ⟨_, ret_vi JE.out.symm, by rw [AN.out]; exact OwnF.nil _ _, B1.out⟩
    · have JE : Hid (judgeE ro co bu cs m fr tt lvl = 0) := by unfold Hid judgeE; rw [if_pos CK.out, if_neg hl]
      obtain ⟨l, rfl⟩ := Int.eq_ofNat_of_zero_le (show 0 ≤ lvl by omega)
      have AN : Hid (ansF ro co bu cs m fr tt n p (l : Int) = if n = m then allF l co cs fr tt n p.len p.num else [⟨0, -1, -1, 0⟩]) := by unfold Hid ansF; rw [if_pos JE.out]; rfl
      obtain ⟨s1, s2, s3⟩ := checkM_good CK.out
      obtain ⟨q1, q2⟩ := side_bd s1
      obtain ⟨q3, q4⟩ := side_bd s2
      obtain ⟨m1, m2⟩ := mul_bd q1 q2 q3 q4
      have hs36 : cs.size ≤ 36 := by omega
      have SZ := Hid.mk s3
      have hm4 := (carts_free CK.out).1
      obtain ⟨bc, oc, rfl, hcc⟩ := HA.out (good_pos CK.out)
      have HCC := Hid.mk (hcc.below B1.out)
      have hl0 : ¬ (l : Int) < 0 := by omega
      have hl3 : ¬ (3 : Int) < (l : Int) := by omega
      have hl3n : l ≤ 3 := by omega
      clear hl s1 s2 s3 m1 m2 hcc
      go_wp2_with fail
      refine (faults_all ro co bu cs bc oc m cc fr tt ap n cap p l _ hs36 q1 q2 q3 q4 SZ.out (HSD.out.below B1.out) HCC.out hm4 HB.out (HP.out.below B1.out) hl3n).mono ?_
      rintro e w2 ⟨v, rfl, hown, hb2⟩
      have OW : Hid (OwnF w2 w.heap.size v (ansF ro co bu cs m fr tt n p (l : Int))) := by unfold Hid; rw [AN.out]; exact hown.le B1.out.size
      have B2 : Hid (Below w.heap.size w w2) := B1.out.trans (hb2.mono B1.out.size)
      clear hown hb2 y1
      go_wp2
      go_ret2
      exact ⟨v, ret_vi JE.out.symm, OW.out, B2.out⟩
  · have hE0 : (E != 0) = true := by simpa using h0
    have JE : Hid (judgeE ro co bu cs m fr tt lvl = E) := by unfold Hid judgeE; rw [← HE.out, if_neg h0]
    have AN : Hid (ansF ro co bu cs m fr tt n p lvl = []) := by unfold Hid ansF; rw [JE.out, if_neg h0]
    clear h0
    go_wp2
    go_ret2
    exact ⟨_, ret_vi JE.out.symm, by rw [AN.out]; exact OwnF.nil _ _, B1.out⟩

end Go.Proofs.YtnkgpinadgacgaaDoor
