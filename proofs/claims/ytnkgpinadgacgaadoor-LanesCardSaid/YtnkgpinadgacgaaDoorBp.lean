/- Walks of where, breaks, keeps: does a walk, staying at its end, keep rules? -/
import Derived.Test.YtnkgpinadgacgaaDoorBh
import Derived.Test.YtnkgpinadgacgaaDoorBf
import Derived.Test.YtnkgpinadgacgaaDoorBi
import Derived.Test.YtnkgpinadgacgaaDoorBd
namespace Go.Proofs.YtnkgpinadgacgaaDoor
open Go.RowKit M

namespace M
/-- Where a cart is at an instant, by its path. -/
def whM (T : Nat) (p : Nat → Nat) (t : Nat) : Nat := if t ≤ T then p t else p T

/-- Is a rule broken by a cart that is on a at an instant and on b at the next? -/
def brkM (r : RuleM) (a b t : Int) : Bool := r.at' == t && (if r.kind == 0 then r.cell == a else if r.kind == 1 then r.cell == a && r.next == b else !(r.cell == a))

def keepsM (n : Nat) (R : Nat → RuleM) (T : Nat) (p : Nat → Nat) : Bool := !anyB (fun i => anyB (fun t => brkM (R i) (whM T p t) (whM T p (t + 1)) t) 61) n
end M

theorem where_any (g T cp t : Nat) (p : Nat → Nat) (w : World) (hT : T ≤ 1000000000000000000) (hp : ∀ s, s ≤ T → w.cell? ⟨g, s, none⟩ = some (natV p s)) :
    Calls Tryd.prog 105 #[.slice (some ⟨g, 0, none⟩) (T + 1) cp, .int .i64 t] w fun e w' => e = .returned (.int .i64 (whM T p t : Nat)) ∧ w' = w := by
  have HP := Hid.mk hp
  clear hp
  go_enter Tryd.func105, Tryd.ntmps105
  by_cases h : t ≤ T
  · have c := HP.out t h
    unfold natV at c
    have hw : Hid (whM T p t = p t) := by unfold Hid whM; rw [if_pos h]
    have hlt : (t : Int) < ((T + 1 : Nat) : Int) := by omega
    have hltN : t < T + 1 := by omega
    go_wp2
    go_ret
    exact ⟨ret_int (by rw [hw.out]), rfl⟩
  · have c := HP.out T (Nat.le_refl _)
    unfold natV at c
    have hw : Hid (whM T p t = p T) := by unfold Hid whM; rw [if_neg h]
    have hlt : ¬ (t : Int) < ((T + 1 : Nat) : Int) := by omega
    have hltN : ¬ t < T + 1 := by omega
    go_wp2
    go_ret
    exact ⟨ret_int (by rw [hw.out]), rfl⟩

theorem where_at (g T cp t : Nat) (t' : Int) (p : Nat → Nat) (w : World) (e : t' = (t : Int)) (hT : T ≤ 1000000000000000000) (hp : ∀ s, s ≤ T → w.cell? ⟨g, s, none⟩ = some (natV p s)) :
    Calls Tryd.prog 105 #[.slice (some ⟨g, 0, none⟩) (T + 1) cp, .int .i64 t'] w fun e w' => e = .returned (.int .i64 (whM T p t : Nat)) ∧ w' = w := by
  subst e
  exact where_any g T cp t p w hT hp

theorem breaks_any (k c n a' a b t : Int) (w : World) :
    Calls Tryd.prog 106 #[.agg #[.int .i64 k, .int .i64 c, .int .i64 n, .int .i64 a'], .int .i64 a, .int .i64 b, .int .i64 t] w fun e w' => e = .returned (.bool (brkM ⟨k, c, n, a'⟩ a b t)) ∧ Below w.heap.size w w' := by
  have HB : Hid (∀ o, Below w.heap.size w (w.alloc o)) := fun _ => (Below.refl _ w).alloc (Nat.le_refl _) _
  go_enter Tryd.func106, Tryd.ntmps106
  by_cases q1 : (a' == t) = true
  · have q1n : (a' != t) = false := by simp at q1 ⊢; exact q1
    by_cases q2 : (k == 0) = true
    · go_wp2
      go_ret
      exact ⟨ret_bool (by unfold brkM; simp [q1, q2]), HB.out _⟩
    · have q2' : (k == 0) = false := by simpa using q2
      clear q2
      by_cases q3 : (k == 1) = true
      · by_cases q4 : (c == a) = true
        · go_wp2
          go_ret
          exact ⟨ret_bool (by unfold brkM; simp [q1, q2', q3, q4]), HB.out _⟩
        · have q4' : (c == a) = false := by simpa using q4
          clear q4
          go_wp2
          go_ret
          exact ⟨ret_bool (by unfold brkM; simp [q2', q3, q4']), HB.out _⟩
      · have q3' : (k == 1) = false := by simpa using q3
        clear q3
        go_wp2
        go_ret
        exact ⟨ret_bool (by unfold brkM; simp [q1, q2', q3', bne]), HB.out _⟩
  · have q1' : (a' == t) = false := by simpa using q1
    have q1n : (a' != t) = true := by simp at q1' ⊢; exact q1'
    clear q1
    go_wp2
    go_ret
    exact ⟨ret_bool (by unfold brkM; simp [q1']), HB.out _⟩

theorem keepsM_no {n T i t : Nat} {R : Nat → RuleM} {p : Nat → Nat} (hi : i < n) (ht : t < 61) (h : brkM (R i) (whM T p t) (whM T p (t + 1)) t = true) : keepsM n R T p = false := by
  unfold keepsM
  rw [anyB_of (p := fun i => anyB (fun t => brkM (R i) (whM T p t) (whM T p (t + 1)) t) 61) (i := i) (anyB_of (p := fun t => brkM (R i) (whM T p t) (whM T p (t + 1)) t) h ht) hi]; rfl

theorem keepsM_yes {n T : Nat} {R : Nat → RuleM} {p : Nat → Nat} (h : ∀ i, i < n → anyB (fun t => brkM (R i) (whM T p t) (whM T p (t + 1)) t) 61 = false) : keepsM n R T p = true := by
  unfold keepsM
  rw [anyB_false.2 h]; rfl

set_option maxRecDepth 100000 in
set_option maxHeartbeats 2000000 in
theorem kkeeps_any (a : Option Addr) (n cap : Nat) (R : Nat → RuleM) (g T cp : Nat) (p : Nat → Nat) (w : World) (hn : n ≤ maxLen) (hT : T ≤ 1000000000000000000) (ha : RulesAt w a n R) (hp : ∀ s, s ≤ T → w.cell? ⟨g, s, none⟩ = some (natV p s)) :
    Calls Tryd.prog 57 #[.slice a n cap, .slice (some ⟨g, 0, none⟩) (T + 1) cp] w fun e w' => e = .returned (.bool (keepsM n R T p)) ∧ Below w.heap.size w w' := by
  have HA := Hid.mk ha
  have HP := Hid.mk hp
  clear ha hp
  unfold maxLen at hn
  go_enter Tryd.func57, Tryd.ntmps57
  go_wp2
  go_loopw [5] (fun s wr => ∃ i : Nat, i ≤ n ∧ s = .int .i64 i ∧ (∀ j, j < i → anyB (fun t => brkM (R j) (whM T p t) (whM T p (t + 1)) t) 61 = false) ∧ Below w.heap.size w wr) (fun s _ => n - (intOf s).toNat)
  case atStart => exact ⟨0, Nat.zero_le _, rfl, fun j hj => absurd hj (Nat.not_lt_zero j), Below.refl _ _⟩
  case round =>
    obtain ⟨wo, rfl⟩ : ∃ x, x = wr := ⟨_, rfl⟩
    obtain ⟨i, hi, rfl, hg0, hbr⟩ := hrel
    have HG := Hid.mk hg0
    have HB := Hid.mk hbr
    clear hg0 hbr
    by_cases hlt : i < n
    · obtain ⟨b, off, rfl, hrs⟩ := HA.out (by omega)
      obtain ⟨c0, c1, c2, c3⟩ := hrs i hlt
      have C0 := Hid.mk c0
      have C1 := Hid.mk c1
      have C2 := Hid.mk c2
      have C3 := Hid.mk c3
      clear c0 c1 c2 c3 hrs
      have hltI : (i : Int) < (n : Int) := by omega
      go_wp2
      go_loopw [6] (fun s wr => ∃ t : Nat, t ≤ 61 ∧ s = .int .i64 t ∧ (∀ j, j < t → brkM (R i) (whM T p j) (whM T p (j + 1)) j = false) ∧ Below w.heap.size w wr) (fun s _ => 61 - (intOf s).toNat)
      case atStart => exact ⟨0, Nat.zero_le _, rfl, fun j hj => absurd hj (Nat.not_lt_zero j), HB.out⟩
      case round =>
        obtain ⟨wi, rfl⟩ : ∃ x, x = wr := ⟨_, rfl⟩
        obtain ⟨t, ht, rfl, hg1, hbi⟩ := hrel
        have HG1 := Hid.mk hg1
        have HBI := Hid.mk hbi
        have PI : Hid (∀ s, s ≤ T → wi.cell? ⟨g, s, none⟩ = some (natV p s)) := fun s hs => cell_later hbi (HP.out s hs)
        have k0 := cell_later hbi C0.out
        have k1 := cell_later hbi C1.out
        have k2 := cell_later hbi C2.out
        have k3 := cell_later hbi C3.out
        clear hg1 hbi
        by_cases h61 : t < 61
        · have hle : (t : Int) ≤ 60 := by omega
          go_wp2_with fail
          refine (where_any g T cp t p _ hT PI.out).mono ?_
          rintro e w2 ⟨rfl, hw2⟩
          have hw2 := hw2.symm
          subst hw2
          go_wp2_with fail
          refine (where_at g T cp (t + 1) _ p _ (by omega) hT PI.out).mono ?_
          rintro e w2 ⟨rfl, hw2⟩
          have hw2 := hw2.symm
          subst hw2
          go_wp2_with fail
          refine (breaks_any (R i).kind (R i).cell (R i).next (R i).at' _ _ t _).mono ?_
          rintro e w3 ⟨he, hb3⟩
          obtain ⟨kb, hkb⟩ : ∃ kb, kb = brkM ⟨(R i).kind, (R i).cell, (R i).next, (R i).at'⟩ (whM T p t) (whM T p (t + 1)) t := ⟨_, rfl⟩
          rw [← hkb] at he
          subst he
          have KB : Hid (kb = brkM (R i) (whM T p t) (whM T p (t + 1)) t) := hkb
          have HB3 : Hid (Below w.heap.size w w3) := HBI.out.trans (hb3.mono HBI.out.size)
          clear hkb hb3 k0 k1 k2 k3
          cases kb
          · go_wp2
            go_roundw
            case rel => exact ⟨t + 1, by omega, by go_num, upto_step (p := fun j => brkM (R i) (whM T p j) (whM T p (j + 1)) j) KB.out.symm HG1.out, HB3.out⟩
            case measure => simp [intOf]; omega
          · go_wp2
            go_ret
            exact ⟨ret_bool (keepsM_no hlt h61 KB.out.symm).symm, HB3.out⟩
        · have hd : t = 61 := by omega
          subst hd
          go_wp2
          refine ⟨⟨i + 1, by omega, by go_num, upto_step (p := fun j => anyB (fun t => brkM (R j) (whM T p t) (whM T p (t + 1)) t) 61) (anyB_false.2 HG1.out) HG.out, HBI.out⟩, ?_⟩
          simp [intOf]; omega
    · have hd : i = n := by omega
      subst hd
      go_wp2
      go_ret
      exact ⟨ret_bool (keepsM_yes HG.out).symm, HB.out⟩

end Go.Proofs.YtnkgpinadgacgaaDoor

/- Walk of isPath: is a list a path of a cart? -/
namespace Go.Proofs.YtnkgpinadgacgaaDoor
open Go.RowKit M

namespace M
def stepsM (co : Int) (cs : ByteArray) (T : Nat) (p : Nat → Nat) : Bool := !anyB (fun s => !kmay co cs (p s) (p (s + 1))) T

def isPathM (co : Int) (cs : ByteArray) (f c T : Nat) (p : Nat → Nat) : Bool :=
  (p 0 == f) && (p T == c) && !(decide (0 < T) && p (T - 1) == p T) && stepsM co cs T p
end M

theorem stepsM_no {co : Int} {cs : ByteArray} {T t : Nat} {p : Nat → Nat} (ht : t < T) (h : kmay co cs (p t) (p (t + 1)) = false) : stepsM co cs T p = false := by
  unfold stepsM
  rw [anyB_of (p := fun s => !kmay co cs (p s) (p (s + 1))) (i := t) (by simp only [h]; rfl) ht]; rfl

theorem stepsM_yes {co : Int} {cs : ByteArray} {T : Nat} {p : Nat → Nat} (h : ∀ t, t < T → (!kmay co cs (p t) (p (t + 1))) = false) : stepsM co cs T p = true := by
  unfold stepsM
  rw [anyB_false.2 h]; rfl

set_option maxRecDepth 100000 in
set_option maxHeartbeats 4000000 in
theorem kisPath_any (ro co bu : Int) (cs : ByteArray) (b off m cap : Nat) (fr tt : Nat → Int) (k f c g T cp : Nat) (p : Nat → Nat) (w : World) (hs : cs.size ≤ 36) (h1 : 1 ≤ co) (h2 : co ≤ 6) (hk : k < m) (hT : T ≤ 1000000000000000000) (hf : fr k = (f : Int)) (hc : tt k = (c : Int))
    (hcs : CartsIn w b off m fr tt) (hp : ∀ s, s ≤ T → w.cell? ⟨g, s, none⟩ = some (natV p s)) (hin : ∀ s, s ≤ T → p s < cs.size) :
    Calls Tryd.prog 53 #[.agg #[.int .i64 ro, .int .i64 co, .string cs, .slice (some ⟨b, off, none⟩) m cap, .int .i64 bu], .int .i64 k, .slice (some ⟨g, 0, none⟩) (T + 1) cp] w fun e w' =>
      e = .returned (.bool (isPathM co cs f c T p)) ∧ Below w.heap.size w w' := by
  have hcf := (hcs k hk).1
  have hct := (hcs k hk).2
  rw [hf] at hcf
  rw [hc] at hct
  have hbl : b < w.heap.size := World.block_lt_of_cell? _ _ hcf
  have HP := Hid.mk hp
  have HI := Hid.mk hin
  have p0 := hp 0 (by omega)
  have pT := hp T (Nat.le_refl _)
  have hgp : g < w.heap.size := World.block_lt_of_cell? _ _ p0
  rw [show natV p 0 = Value.int .i64 (p 0 : Nat) from rfl] at p0
  rw [show natV p T = Value.int .i64 (p T : Nat) from rfl] at pT
  clear hp hcs hin
  obtain ⟨N1, hN1⟩ : ∃ N1, N1 = T + 1 := ⟨_, rfl⟩
  rw [← hN1]
  have i3 : (T : Int) < (N1 : Int) := by omega
  have i4 : (0 : Int) < (N1 : Int) := by omega
  have i5 : ((N1 : Int) == 0) = false := by simp; omega
  have i4n : 0 < N1 := by omega
  have i3n : T < N1 := by omega
  have i9 : N1 ≤ 1000000000000000001 := by omega
  have v1 : IntKind.i64.wrap ((N1 : Int) - 1) = (T : Int) := by
    rw [show (N1 : Int) - 1 = (T : Int) by omega]; exact wrap_mid (by omega) (by omega)
  have HN1 := Hid.mk hN1
  clear hN1
  go_enter Tryd.func53, Tryd.ntmps53
  go_wp2
  have HB0 : Hid (Below w.heap.size w (w.alloc (Obj.cells #[Value.int IntKind.i64 ro, Value.int IntKind.i64 co, Value.string cs, .slice (some ⟨b, off, none⟩) m cap, Value.int IntKind.i64 bu] 24))) := (Below.refl _ w).alloc (Nat.le_refl _) _
  have y0 : ∀ o, (w.alloc (Obj.cells #[Value.int IntKind.i64 ro, Value.int IntKind.i64 co, Value.string cs, .slice (some ⟨b, off, none⟩) m cap, Value.int IntKind.i64 bu] 24)).cell? ⟨w.heap.size, o, none⟩ = #[Value.int .i64 ro, .int .i64 co, .string cs, .slice (some ⟨b, off, none⟩) m cap, .int .i64 bu][o]? := by
    intro o; go_simp
  have hz0 : w.heap.size < (w.alloc (Obj.cells #[Value.int IntKind.i64 ro, Value.int IntKind.i64 co, Value.string cs, .slice (some ⟨b, off, none⟩) m cap, Value.int IntKind.i64 bu] 24)).heap.size := by simp
  generalize w.alloc (Obj.cells #[Value.int IntKind.i64 ro, Value.int IntKind.i64 co, Value.string cs, .slice (some ⟨b, off, none⟩) m cap, Value.int IntKind.i64 bu] 24) = w1 at *
  have hcf1 := cell_later HB0.out hcf
  have hct1 := cell_later HB0.out hct
  have p01 := cell_later HB0.out p0
  have pT1 := cell_later HB0.out pT
  have y3 : w1.cell? ⟨w.heap.size, 3, none⟩ = some (.slice (some ⟨b, off, none⟩) m cap) := y0 3
  have hkI : (k : Int) < m := by omega
  clear hcf hct p0 pT
  by_cases a0 : p 0 = f
  · have a0' : (((p 0 : Nat) : Int) != (f : Int)) = false := by simp [a0]
    by_cases aT : p T = c
    · have aT' : (((p T : Nat) : Int) != (c : Int)) = false := by simp [aT]
      by_cases hT0 : T = 0
      · have j1 : decide ((1 : Int) < (N1 : Int)) = false := by have := HN1.out; simp; omega
        have FST : Hid (isPathM co cs f c T p = stepsM co cs T p) := by
          unfold Hid isPathM
          rw [show (p 0 == f) = true by simp [a0], show (p T == c) = true by simp [aT], show decide (0 < T) = false by simp [hT0]]
          simp
        clear hT0 a0 aT
        go_quiet (fail)
        have HB2 : Hid (Below w.heap.size w (w1.drewN nq)) := below_drewN HB0.out _
        have Y2 : Hid (∀ o, (w1.drewN nq).cell? ⟨w.heap.size, o, none⟩ = #[Value.int .i64 ro, .int .i64 co, .string cs, .slice (some ⟨b, off, none⟩) m cap, .int .i64 bu][o]?) := y0
        have hz2 : w.heap.size < (w1.drewN nq).heap.size := hz0
        generalize w1.drewN nq = w2 at *
        clear y0 y3 hcf1 hct1 p01 pT1
        go_wp2_with fail
        go_loopw [8] (fun s wr => ∃ t : Nat, t ≤ T ∧ s = .int .i64 t ∧ (∀ j, j < t → (!kmay co cs (p j) (p (j + 1))) = false) ∧ Below w2.heap.size w2 wr) (fun s _ => T - (intOf s).toNat)
        case atStart => exact ⟨0, Nat.zero_le _, rfl, fun j hj => absurd hj (Nat.not_lt_zero j), Below.refl _ _⟩
        case round =>
          obtain ⟨t, ht, rfl, hg0, hbr⟩ := hrel
          have HG := Hid.mk hg0
          have HW : Hid (Below w.heap.size w wr) := HB2.out.trans (hbr.mono (by omega))
          have HB := Hid.mk hbr
          have hzr := hbr.size
          have yr : ∀ o, wr.cell? ⟨w.heap.size, o, none⟩ = #[Value.int .i64 ro, .int .i64 co, .string cs, .slice (some ⟨b, off, none⟩) m cap, .int .i64 bu][o]? := fun o => (hbr.cell (p := ⟨w.heap.size, o, none⟩) hz2).trans (Y2.out o)
          clear hbr hg0
          have hN := HN1.out
          by_cases hlt : t < T
          · have a1 : (t : Int) + 1 < (N1 : Int) := by omega
            have a2 : t < N1 := by omega
            have a3 : t + 1 < N1 := by omega
            have a6 : (t : Int) < (N1 : Int) := by omega
            have a7 : ((t : Int) + 1).toNat = t + 1 := by omega
            have a8 : (0 : Int) ≤ (t : Int) + 1 := by omega
            have a9 : IntKind.i64.wrap ((t : Int) + 1) = (t : Int) + 1 := wrap_mid (by omega) (by omega)
            have a4 := cell_later HW.out (HP.out t (by omega))
            have a5 := cell_later HW.out (HP.out (t + 1) (by omega))
            rw [show natV p t = Value.int .i64 (p t : Nat) from rfl] at a4
            rw [show natV p (t + 1) = Value.int .i64 (p (t + 1) : Nat) from rfl] at a5
            have hpN := HI.out t (by omega)
            have hpN1 := HI.out (t + 1) (by omega)
            have z0 := yr 0
            have z1 := yr 1
            have z2 := yr 2
            have z3 := yr 3
            have z4 := yr 4
            simp only [List.getElem?_toArray, List.getElem?_cons_zero, List.getElem?_cons_succ] at z0 z1 z2 z3 z4
            have hzw : w.heap.size < wr.heap.size := by omega
            have hzg : g < wr.heap.size := by omega
            clear hN
            go_wp2_with fail
            go_region_held3 (fun w' => w'.cell? ⟨w.heap.size, 0, none⟩ = some (.int .i64 ro) ∧ w'.cell? ⟨w.heap.size, 1, none⟩ = some (.int .i64 co) ∧ w'.cell? ⟨w.heap.size, 2, none⟩ = some (.string cs) ∧ w'.cell? ⟨w.heap.size, 3, none⟩ = some (.slice (some ⟨b, off, none⟩) m cap) ∧ w'.cell? ⟨w.heap.size, 4, none⟩ = some (.int .i64 bu) ∧ w'.cell? ⟨g, t, none⟩ = some (.int .i64 (p t : Nat)) ∧ w'.cell? ⟨g, t + 1, none⟩ = some (.int .i64 (p (t + 1) : Nat))) (go_keep)
              (first
                | (go_at_call_of 51 (Value.int IntKind.i64 ro); refine (kmay_any ro co bu (p t) (p (t + 1)) cs _ _ hs h1 h2 hpN hpN1).mono ?_; rintro e w4 ⟨he4, hb4⟩; obtain ⟨kb, hkb⟩ : ∃ kb, kb = kmay co cs (p t) (p (t + 1)) := ⟨_, rfl⟩; rw [← hkb] at he4; subst he4; have KB := Hid.mk hkb; clear hkb; obtain ⟨q0, q1, q2, q3, q4⟩ : w4.cell? ⟨w.heap.size, 0, none⟩ = some (.int .i64 ro) ∧ w4.cell? ⟨w.heap.size, 1, none⟩ = some (.int .i64 co) ∧ w4.cell? ⟨w.heap.size, 2, none⟩ = some (.string cs) ∧ w4.cell? ⟨w.heap.size, 3, none⟩ = some (.slice (some ⟨b, off, none⟩) m cap) ∧ w4.cell? ⟨w.heap.size, 4, none⟩ = some (.int .i64 bu) := ⟨(hb4.cell (p := ⟨w.heap.size, 0, none⟩) hzw).trans z0, (hb4.cell (p := ⟨w.heap.size, 1, none⟩) hzw).trans z1, (hb4.cell (p := ⟨w.heap.size, 2, none⟩) hzw).trans z2, (hb4.cell (p := ⟨w.heap.size, 3, none⟩) hzw).trans z3, (hb4.cell (p := ⟨w.heap.size, 4, none⟩) hzw).trans z4⟩; have q5 : w4.cell? ⟨g, t, none⟩ = some (.int .i64 (p t : Nat)) := (hb4.cell (p := ⟨g, t, none⟩) hzg).trans a4; have q6 : w4.cell? ⟨g, t + 1, none⟩ = some (.int .i64 (p (t + 1) : Nat)) := (hb4.cell (p := ⟨g, t + 1, none⟩) hzg).trans a5))
            have HB4 : Hid (Below w2.heap.size w2 w4) := HB.out.drew.trans (hb4.mono (by show w2.heap.size ≤ wr.heap.size; omega))
            clear hb4 yr a4 a5 z0 z1 z2 z3 z4 q0 q1 q2 q3 q4 q5 q6
            cases kb
            · go_wp2
              go_ret
              exact ⟨ret_bool (by rw [FST.out, stepsM_no hlt KB.out.symm]), HB2.out.trans (HB4.out.mono (by omega))⟩
            · go_wp2
              go_roundw
              case rel => exact ⟨t + 1, by omega, by go_num, upto_step (p := fun j => !kmay co cs (p j) (p (j + 1))) (by show (!kmay co cs (p t) (p (t + 1))) = false; rw [← KB.out]; rfl) HG.out, HB4.out⟩
              case measure => simp [intOf]; omega
          · have e0 : t = T := by omega
            have HG2 : Hid (∀ j, j < T → (!kmay co cs (p j) (p (j + 1))) = false) := fun j hj => HG.out j (by omega)
            have a1 : ¬ (t : Int) + 1 < (N1 : Int) := by omega
            clear e0
            go_wp2
            go_ret
            exact ⟨ret_bool (by rw [FST.out, stepsM_yes HG2.out]), HW.out⟩

      · obtain ⟨T1, hT1⟩ : ∃ T1, T = T1 + 1 := ⟨T - 1, by omega⟩
        have j1 : decide ((1 : Int) < (N1 : Int)) = true := by have := HN1.out; simp; omega
        have v2 : IntKind.i64.wrap ((N1 : Int) - 2) = (T1 : Int) := by
          have := HN1.out
          rw [show (N1 : Int) - 2 = (T1 : Int) by omega]; exact wrap_mid (by omega) (by omega)
        have i6 : (T1 : Int) < (N1 : Int) := by omega
        have i6n : T1 < N1 := by omega
        have i7 : (0 : Int) ≤ (T1 : Int) := by omega
        have pU := cell_later HB0.out (HP.out T1 (by omega))
        rw [show natV p T1 = Value.int .i64 (p T1 : Nat) from rfl] at pU
        by_cases aw : p T1 = p T
        · have aw' : (((p T1 : Nat) : Int) == ((p T : Nat) : Int)) = true := by simp [aw]
          have RES : Hid (isPathM co cs f c T p = false) := by
            unfold Hid isPathM
            rw [hT1] at aw ⊢
            simp [aw]
          clear hT0 hT1 a0 aT aw
          go_quiet (fail)
          go_wp2
          go_ret
          exact ⟨ret_bool RES.out.symm, below_drewN HB0.out _⟩
        · have aw' : (((p T1 : Nat) : Int) == ((p T : Nat) : Int)) = false := by simp; omega
          have FST : Hid (isPathM co cs f c T p = stepsM co cs T p) := by
            have e : p (T - 1) = p T1 := by rw [hT1]; rfl
            have e2 : (p (T - 1) == p T) = false := by rw [e]; simp [aw]
            unfold Hid isPathM
            rw [show (p 0 == f) = true by simp [a0], show (p T == c) = true by simp [aT], e2]
            simp
          clear hT0 hT1 a0 aT aw
          go_quiet (fail)
          have HB2 : Hid (Below w.heap.size w (w1.drewN nq)) := below_drewN HB0.out _
          have Y2 : Hid (∀ o, (w1.drewN nq).cell? ⟨w.heap.size, o, none⟩ = #[Value.int .i64 ro, .int .i64 co, .string cs, .slice (some ⟨b, off, none⟩) m cap, .int .i64 bu][o]?) := y0
          have hz2 : w.heap.size < (w1.drewN nq).heap.size := hz0
          generalize w1.drewN nq = w2 at *
          clear y0 y3 hcf1 hct1 p01 pT1 pU
          go_wp2_with fail
          go_loopw [8] (fun s wr => ∃ t : Nat, t ≤ T ∧ s = .int .i64 t ∧ (∀ j, j < t → (!kmay co cs (p j) (p (j + 1))) = false) ∧ Below w2.heap.size w2 wr) (fun s _ => T - (intOf s).toNat)
          case atStart => exact ⟨0, Nat.zero_le _, rfl, fun j hj => absurd hj (Nat.not_lt_zero j), Below.refl _ _⟩
          case round =>
            obtain ⟨t, ht, rfl, hg0, hbr⟩ := hrel
            have HG := Hid.mk hg0
            have HW : Hid (Below w.heap.size w wr) := HB2.out.trans (hbr.mono (by omega))
            have HB := Hid.mk hbr
            have hzr := hbr.size
            have yr : ∀ o, wr.cell? ⟨w.heap.size, o, none⟩ = #[Value.int .i64 ro, .int .i64 co, .string cs, .slice (some ⟨b, off, none⟩) m cap, .int .i64 bu][o]? := fun o => (hbr.cell (p := ⟨w.heap.size, o, none⟩) hz2).trans (Y2.out o)
            clear hbr hg0
            have hN := HN1.out
            by_cases hlt : t < T
            · have a1 : (t : Int) + 1 < (N1 : Int) := by omega
              have a2 : t < N1 := by omega
              have a3 : t + 1 < N1 := by omega
              have a6 : (t : Int) < (N1 : Int) := by omega
              have a7 : ((t : Int) + 1).toNat = t + 1 := by omega
              have a8 : (0 : Int) ≤ (t : Int) + 1 := by omega
              have a9 : IntKind.i64.wrap ((t : Int) + 1) = (t : Int) + 1 := wrap_mid (by omega) (by omega)
              have a4 := cell_later HW.out (HP.out t (by omega))
              have a5 := cell_later HW.out (HP.out (t + 1) (by omega))
              rw [show natV p t = Value.int .i64 (p t : Nat) from rfl] at a4
              rw [show natV p (t + 1) = Value.int .i64 (p (t + 1) : Nat) from rfl] at a5
              have hpN := HI.out t (by omega)
              have hpN1 := HI.out (t + 1) (by omega)
              have z0 := yr 0
              have z1 := yr 1
              have z2 := yr 2
              have z3 := yr 3
              have z4 := yr 4
              simp only [List.getElem?_toArray, List.getElem?_cons_zero, List.getElem?_cons_succ] at z0 z1 z2 z3 z4
              have hzw : w.heap.size < wr.heap.size := by omega
              have hzg : g < wr.heap.size := by omega
              clear hN
              go_wp2_with fail
              go_region_held3 (fun w' => w'.cell? ⟨w.heap.size, 0, none⟩ = some (.int .i64 ro) ∧ w'.cell? ⟨w.heap.size, 1, none⟩ = some (.int .i64 co) ∧ w'.cell? ⟨w.heap.size, 2, none⟩ = some (.string cs) ∧ w'.cell? ⟨w.heap.size, 3, none⟩ = some (.slice (some ⟨b, off, none⟩) m cap) ∧ w'.cell? ⟨w.heap.size, 4, none⟩ = some (.int .i64 bu) ∧ w'.cell? ⟨g, t, none⟩ = some (.int .i64 (p t : Nat)) ∧ w'.cell? ⟨g, t + 1, none⟩ = some (.int .i64 (p (t + 1) : Nat))) (go_keep)
                (first
                  | (go_at_call_of 51 (Value.int IntKind.i64 ro); refine (kmay_any ro co bu (p t) (p (t + 1)) cs _ _ hs h1 h2 hpN hpN1).mono ?_; rintro e w4 ⟨he4, hb4⟩; obtain ⟨kb, hkb⟩ : ∃ kb, kb = kmay co cs (p t) (p (t + 1)) := ⟨_, rfl⟩; rw [← hkb] at he4; subst he4; have KB := Hid.mk hkb; clear hkb; obtain ⟨q0, q1, q2, q3, q4⟩ : w4.cell? ⟨w.heap.size, 0, none⟩ = some (.int .i64 ro) ∧ w4.cell? ⟨w.heap.size, 1, none⟩ = some (.int .i64 co) ∧ w4.cell? ⟨w.heap.size, 2, none⟩ = some (.string cs) ∧ w4.cell? ⟨w.heap.size, 3, none⟩ = some (.slice (some ⟨b, off, none⟩) m cap) ∧ w4.cell? ⟨w.heap.size, 4, none⟩ = some (.int .i64 bu) := ⟨(hb4.cell (p := ⟨w.heap.size, 0, none⟩) hzw).trans z0, (hb4.cell (p := ⟨w.heap.size, 1, none⟩) hzw).trans z1, (hb4.cell (p := ⟨w.heap.size, 2, none⟩) hzw).trans z2, (hb4.cell (p := ⟨w.heap.size, 3, none⟩) hzw).trans z3, (hb4.cell (p := ⟨w.heap.size, 4, none⟩) hzw).trans z4⟩; have q5 : w4.cell? ⟨g, t, none⟩ = some (.int .i64 (p t : Nat)) := (hb4.cell (p := ⟨g, t, none⟩) hzg).trans a4; have q6 : w4.cell? ⟨g, t + 1, none⟩ = some (.int .i64 (p (t + 1) : Nat)) := (hb4.cell (p := ⟨g, t + 1, none⟩) hzg).trans a5))
              have HB4 : Hid (Below w2.heap.size w2 w4) := HB.out.drew.trans (hb4.mono (by show w2.heap.size ≤ wr.heap.size; omega))
              clear hb4 yr a4 a5 z0 z1 z2 z3 z4 q0 q1 q2 q3 q4 q5 q6
              cases kb
              · go_wp2
                go_ret
                exact ⟨ret_bool (by rw [FST.out, stepsM_no hlt KB.out.symm]), HB2.out.trans (HB4.out.mono (by omega))⟩
              · go_wp2
                go_roundw
                case rel => exact ⟨t + 1, by omega, by go_num, upto_step (p := fun j => !kmay co cs (p j) (p (j + 1))) (by show (!kmay co cs (p t) (p (t + 1))) = false; rw [← KB.out]; rfl) HG.out, HB4.out⟩
                case measure => simp [intOf]; omega
            · have e0 : t = T := by omega
              have HG2 : Hid (∀ j, j < T → (!kmay co cs (p j) (p (j + 1))) = false) := fun j hj => HG.out j (by omega)
              have a1 : ¬ (t : Int) + 1 < (N1 : Int) := by omega
              clear e0
              go_wp2
              go_ret
              exact ⟨ret_bool (by rw [FST.out, stepsM_yes HG2.out]), HW.out⟩

    · have aT' : (((p T : Nat) : Int) != (c : Int)) = true := by simp; omega
      have RES : Hid (isPathM co cs f c T p = false) := by
        unfold Hid isPathM
        have : (p T == c) = false := by simp [aT]
        rw [this]; simp
      clear a0 aT
      go_quiet (fail)
      go_wp2
      go_ret
      exact ⟨ret_bool RES.out.symm, below_drewN HB0.out _⟩
  · have a0' : (((p 0 : Nat) : Int) != (f : Int)) = true := by simp; omega
    have RES : Hid (isPathM co cs f c T p = false) := by
      unfold Hid isPathM
      have : (p 0 == f) = false := by simp [a0]
      rw [this]; simp
    clear a0
    go_quiet (fail)
    go_wp2
    go_ret
    exact ⟨ret_bool RES.out.symm, below_drewN HB0.out _⟩

end Go.Proofs.YtnkgpinadgacgaaDoor

/- Walk of trimmed: a first part of a walk, not empty. -/
namespace Go.Proofs.YtnkgpinadgacgaaDoor
open Go.RowKit M

theorem ret_slice {a : Option Addr} {n n' c : Nat} (h : n = n') : Ending.returned (.slice a n c) = .returned (.slice a n' c) := by rw [h]

set_option maxRecDepth 100000 in
set_option maxHeartbeats 2000000 in
theorem trimmed_any (g T cap : Nat) (p : Nat → Nat) (w : World) (hT : T ≤ 1000000000000000000) (hcap : T + 1 ≤ cap) (hp : ∀ s, s ≤ T → w.cell? ⟨g, s, none⟩ = some (natV p s)) :
    Calls Tryd.prog 55 #[.slice (some ⟨g, 0, none⟩) (T + 1) cap] w fun e w' => ∃ T', T' ≤ T ∧ e = .returned (.slice (some ⟨g, 0, none⟩) (T' + 1) cap) ∧ Below w.heap.size w w' := by
  have HP := Hid.mk hp
  have HC := Hid.mk hcap
  clear hp hcap
  obtain ⟨N1, hN1⟩ : ∃ N1, N1 = T + 1 := ⟨_, rfl⟩
  rw [← hN1]
  have HN1 := Hid.mk hN1
  have i9 : N1 ≤ 1000000000000000001 := by omega
  clear hN1
  go_enter Tryd.func55, Tryd.ntmps55
  go_wp2
  go_loopw [3] (fun s wr => ∃ k : Nat, 1 ≤ k ∧ k ≤ N1 ∧ s = .int .i64 k ∧ Below w.heap.size w wr) (fun s _ => (intOf s).toNat)
  case atStart => exact ⟨N1, by have := HN1.out; omega, Nat.le_refl _, rfl, Below.refl _ _⟩
  case round =>
    obtain ⟨k, hk1, hk2, rfl, hbr⟩ := hrel
    have HB := Hid.mk hbr
    have hN := HN1.out
    by_cases h1 : k = 1
    · subst h1
      have hc : 1 ≤ cap := by have := HC.out; omega
      clear hbr
      go_wp2_with fail
      go_quiet (fail)
      go_wp2
      go_ret
      exact ⟨0, by omega, rfl, below_drewN HB.out _⟩
    · obtain ⟨k2, hk⟩ : ∃ k2, k = k2 + 2 := ⟨k - 2, by omega⟩
      have j1 : decide ((1 : Int) < (k : Int)) = true := by simp; omega
      have j1' : (1 : Int) < (k : Int) := by omega
      have v1 : IntKind.i64.wrap ((k : Int) - 1) = ((k2 + 1 : Nat) : Int) := by
        rw [show (k : Int) - 1 = ((k2 + 1 : Nat) : Int) by omega]; exact wrap_mid (by omega) (by omega)
      have v2 : IntKind.i64.wrap ((k : Int) - 2) = (k2 : Int) := by
        rw [show (k : Int) - 2 = (k2 : Int) by omega]; exact wrap_mid (by omega) (by omega)
      have c1 := cell_later hbr (HP.out (k2 + 1) (by omega))
      have c2 := cell_later hbr (HP.out k2 (by omega))
      rw [show natV p (k2 + 1) = Value.int .i64 (p (k2 + 1) : Nat) from rfl] at c1
      rw [show natV p k2 = Value.int .i64 (p k2 : Nat) from rfl] at c2
      have i1 : ((k2 + 1 : Nat) : Int) < (N1 : Int) := by omega
      have i1n : k2 + 1 < N1 := by omega
      have i2 : (k2 : Int) < (N1 : Int) := by omega
      have i2n : k2 < N1 := by omega
      have i3 : (k : Int) ≤ (cap : Int) := by have := HC.out; omega
      have i3n : k ≤ cap := by have := HC.out; omega
      have HK := Hid.mk hk
      clear hk hbr hN h1
      by_cases e : p (k2 + 1) = p k2
      · have e' : (((p (k2 + 1) : Nat) : Int) == ((p k2 : Nat) : Int)) = true := by simp [e]
        clear e
        go_wp2_with fail
        go_quiet (fail)
        go_wp2
        go_roundw
        case rel => exact ⟨k2 + 1, by omega, by have := HK.out; omega, by have := HK.out; go_num, below_drewN HB.out _⟩
        case measure => have := HK.out; simp [intOf]; omega
      · have e' : (((p (k2 + 1) : Nat) : Int) == ((p k2 : Nat) : Int)) = false := by simp; omega
        clear e
        go_wp2_with fail
        go_quiet (fail)
        go_wp2
        go_ret
        exact ⟨k2 + 1, by have := HK.out; have := HN1.out; omega, ret_slice (by have := HK.out; omega), below_drewN HB.out _⟩

end Go.Proofs.YtnkgpinadgacgaaDoor

/- A walk that keeps rules: as it is told over by instants, and as the search sees it. Plain facts. -/
namespace Go.Proofs.YtnkgpinadgacgaaDoor
open M

theorem kmay_adj {co : Int} {cs : ByteArray} {a b : Nat} (ha : a < cs.size) : kmay co cs a b = adjM co cs a b := by
  unfold kmay adjM mayM
  rw [show decide ((0 : Int) ≤ (a : Int)) = true by simp, show decide ((a : Int) < (cs.size : Int)) = true by simp; omega]
  simp

theorem adj_self {co : Int} {cs : ByteArray} {c : Nat} (hc : freeB cs c = true) : adjM co cs c c = true := by
  rw [← kmay_adj (free_lt hc)]
  unfold kmay nearM
  rw [hc]; simp

theorem brkM_two {r : RuleM} (h0 : 0 ≤ r.kind) (h2 : r.kind ≤ 2) (a b t : Int) : brkM r a b t = (brkOn r a t || brkGo r a b t) := by
  obtain ⟨k, c, n, a'⟩ := r
  have h0 : 0 ≤ k := h0
  have h2 : k ≤ 2 := h2
  have e : k = 0 ∨ k = 1 ∨ k = 2 := by omega
  rcases e with e | e | e <;> subst e <;> simp [brkM, brkOn, brkGo, Bool.and_assoc]

theorem wh_in {T t : Nat} {p : Nat → Nat} (h : t ≤ T) : whM T p t = p t := by unfold whM; rw [if_pos h]

theorem wh_out {T t : Nat} {p : Nat → Nat} (h : T ≤ t) : whM T p t = p T := by
  unfold whM
  by_cases e : t ≤ T
  · rw [if_pos e, show t = T by omega]
  · rw [if_neg e]

theorem keeps_at {N n T : Nat} {R : Nat → RuleM} {p : Nat → Nat} (hr : rulesB N n R = true) (h : keepsM n R T p = true) (t : Nat) : onM n R (whM T p t : Nat) (t : Nat) = true ∧ noWayM n R (whM T p t : Nat) (whM T p (t + 1) : Nat) (t : Nat) = false := by
  by_cases ht : t < 61
  · have key : ∀ i, i < n → brkOn (R i) (whM T p t : Nat) (t : Nat) = false ∧ brkGo (R i) (whM T p t : Nat) (whM T p (t + 1) : Nat) (t : Nat) = false := by
      intro i hi
      unfold keepsM at h
      rw [Bool.not_eq_true'] at h
      have h1 := anyB_false.1 (anyB_false.1 h i hi) t ht
      obtain ⟨k0, k2, _⟩ := rulesB_at hr hi
      rw [brkM_two k0 k2] at h1
      simpa using h1
    exact ⟨on_miss fun i hi => (key i hi).1, anyB_false.2 fun i hi => (key i hi).2⟩
  · exact ⟨on_late hr (by omega), noWay_late hr (by omega)⟩

theorem isPath_parts {co : Int} {cs : ByteArray} {f c T : Nat} {p : Nat → Nat} (h : isPathM co cs f c T p = true) : p 0 = f ∧ p T = c ∧ (∀ s, s + 1 = T → p s ≠ p T) ∧ ∀ s, s < T → kmay co cs (p s) (p (s + 1)) = true := by
  unfold isPathM at h
  simp only [Bool.and_eq_true, beq_iff_eq, Bool.not_eq_true', Bool.and_eq_false_iff] at h
  obtain ⟨⟨⟨h1, h2⟩, h3⟩, h4⟩ := h
  refine ⟨h1, h2, fun s hs e => ?_, fun s hs => ?_⟩
  · subst hs
    rcases h3 with h3 | h3
    · simp at h3
    · rw [Nat.add_sub_cancel] at h3
      rw [e] at h3; simp at h3
  · unfold stepsM at h4
    rw [Bool.not_eq_true'] at h4
    have := anyB_false.1 h4 s hs
    simpa using this

/-- A path that keeps the rules comes to stay. -/
theorem keeps_hit {co : Int} {cs : ByteArray} {n f c T : Nat} {R : Nat → RuleM} {p : Nat → Nat} (hr : rulesB cs.size n R = true) (hc : freeB cs c = true) (hp : isPathM co cs f c T p = true) (hin : ∀ s, s ≤ T → p s < cs.size) (hk : keepsM n R T p = true) : hitM co cs n R f c T = true := by
  obtain ⟨h0, hT, _, hst⟩ := isPath_parts hp
  have go : ∀ t, t < T → goesM co cs n R (p t) (p (t + 1)) t = true := by
    intro t ht
    have k1 := (keeps_at hr hk t).2
    have k2 := (keeps_at hr hk (t + 1)).1
    rw [wh_in (by omega), wh_in (by omega)] at k1
    rw [wh_in (by omega)] at k2
    unfold goesM
    rw [← kmay_adj (hin t (by omega)), hst t ht, k1, k2]; rfl
  have reach : ∀ t, t ≤ T → reachM co cs n R f t (p t) = true := by
    intro t
    induction t with
    | zero =>
      intro _
      have k := (keeps_at hr hk 0).1
      rw [wh_in (Nat.zero_le _)] at k
      simp only [reachM, Bool.and_eq_true, beq_iff_eq]
      exact ⟨h0, k⟩
    | succ t ih =>
      intro ht
      simp only [reachM]
      refine anyB_of (i := p t) ?_ (hin t (by omega))
      simp only [Bool.and_eq_true]
      exact ⟨ih (by omega), go t (by omega)⟩
  unfold hitM
  rw [Bool.and_eq_true]
  refine ⟨by have := reach T (Nat.le_refl _); rw [hT] at this; exact this, stays_iff.2 fun s h1 h2 => ?_⟩
  have k1 := (keeps_at hr hk s).2
  have k2 := (keeps_at hr hk (s + 1)).1
  rw [wh_out h1, wh_out (by omega), hT] at k1
  rw [wh_out (by omega), hT] at k2
  unfold goesM
  rw [adj_self hc, k1, k2]; rfl

/-- What Alone tells is a path, and keeps the rules. -/
theorem ok_isPath {co : Int} {cs : ByteArray} {n f c T : Nat} {R : Nat → RuleM} {p : Nat → Nat} (h : PathOK co cs n R f c T p) : isPathM co cs f c T p = true := by
  have hst : stepsM co cs T p = true := stepsM_yes fun t ht => by
    rw [kmay_adj (h.inN t (by omega)), goes_adj (h.step t ht)]; rfl
  have hw : (decide (0 < T) && p (T - 1) == p T) = false := by
    by_cases e : 0 < T
    · have := h.nowait (T - 1) (by omega)
      rw [← h.last] at this
      simp [this]
    · simp [e]
  unfold isPathM
  rw [hst, hw, show (p 0 == f) = true by simp [h.first], show (p T == c) = true by simp [h.last]]; rfl

theorem ok_keeps {co : Int} {cs : ByteArray} {n f c T : Nat} {R : Nat → RuleM} {p : Nat → Nat} (hr : rulesB cs.size n R = true) (h : PathOK co cs n R f c T p) : keepsM n R T p = true := by
  have hon : ∀ t : Nat, t ≤ 61 → onM n R (whM T p t : Nat) (t : Nat) = true := by
    intro t ht
    cases t with
    | zero => rw [wh_in (Nat.zero_le _), h.first]; exact h.on0
    | succ t =>
      by_cases e : t < T
      · rw [wh_in (by omega)]; exact goes_on (h.step t e)
      · rw [wh_out (by omega), h.last]; exact goes_on (stays_iff.1 h.stay t (by omega) (by omega))
  have hno : ∀ t : Nat, t < 61 → noWayM n R (whM T p t : Nat) (whM T p (t + 1) : Nat) (t : Nat) = false := by
    intro t ht
    have part : ∀ a b : Nat, goesM co cs n R a b t = true → noWayM n R a b t = false := fun a b hg => by
      unfold goesM at hg
      simp only [Bool.and_eq_true, Bool.not_eq_true'] at hg
      exact hg.2
    by_cases e : t < T
    · rw [wh_in (by omega), wh_in (by omega)]; exact part _ _ (h.step t e)
    · rw [wh_out (by omega), wh_out (by omega), h.last]; exact part _ _ (stays_iff.1 h.stay t (by omega) (by omega))
  refine keepsM_yes fun i hi => anyB_false.2 fun t ht => ?_
  obtain ⟨k0, k2, _⟩ := rulesB_at hr hi
  rw [brkM_two k0 k2]
  have h1 : brkOn (R i) (whM T p t : Nat) (t : Nat) = false := by
    cases e : brkOn (R i) (whM T p t : Nat) (t : Nat) with
    | false => rfl
    | true => have := hon t (by omega); rw [on_hit hi e] at this; cases this
  have h2 := anyB_false.1 (hno t ht) i hi
  rw [h1, h2]; rfl

/-- Fewer rules forbid less. -/
theorem hit_fewer {co : Int} {cs : ByteArray} {m n f c T : Nat} {R : Nat → RuleM} (hm : m ≤ n) (h : hitM co cs n R f c T = true) : hitM co cs m R f c T = true := by
  have on : ∀ c t : Int, onM n R c t = true → onM m R c t = true := fun c t h => by
    unfold onM at h ⊢
    rw [Bool.not_eq_true'] at h ⊢
    exact anyB_false.2 fun i hi => anyB_false.1 h i (by omega)
  have go : ∀ a b t : Nat, goesM co cs n R a b t = true → goesM co cs m R a b t = true := fun a b t h => by
    unfold goesM at h ⊢
    simp only [Bool.and_eq_true, Bool.not_eq_true'] at h ⊢
    exact ⟨⟨h.1.1, on _ _ h.1.2⟩, anyB_false.2 fun i hi => anyB_false.1 h.2 i (by omega)⟩
  have reach : ∀ t c, reachM co cs n R f t c = true → reachM co cs m R f t c = true := by
    intro t
    induction t with
    | zero =>
      intro c h
      simp only [reachM, Bool.and_eq_true] at h ⊢
      exact ⟨h.1, on _ _ h.2⟩
    | succ t ih =>
      intro c h
      simp only [reachM] at h ⊢
      obtain ⟨a, ha, h⟩ := anyB_true h
      simp only [Bool.and_eq_true] at h
      refine anyB_of (i := a) ?_ ha
      simp only [Bool.and_eq_true]
      exact ⟨ih a h.1, go _ _ _ h.2⟩
  unfold hitM at h ⊢
  rw [Bool.and_eq_true] at h ⊢
  exact ⟨reach _ _ h.1, stays_iff.2 fun s h1 h2 => go _ _ _ (stays_iff.1 h.2 s h1 h2)⟩

end Go.Proofs.YtnkgpinadgacgaaDoor

/- A cart alone, without rules: its least cost is how far it is. Plain facts. -/
namespace Go.Proofs.YtnkgpinadgacgaaDoor
open M

theorem goes_none {co : Int} {cs : ByteArray} {R : Nat → RuleM} {a b t : Nat} : goesM co cs 0 R a b t = adjM co cs a b := by
  unfold goesM onM noWayM
  simp [anyB]

theorem lone_lower {N : Nat} {rch : Nat → Nat → Bool} {goes : Nat → Nat → Nat → Bool} {f c : Nat} {S : Int} {st : Nat → Int} (T : Trip N rch goes f c S st) : ∀ t x, rch t x = true → st f ≤ t + st x := by
  intro t
  induction t with
  | zero =>
    intro x h
    rw [T.start x h]; simp
  | succ t ih =>
    intro x h
    obtain ⟨a, _, h1, h2⟩ := (T.step t x).1 h
    have := ih a h1
    have := T.near a x t h1 h2 (T.told _ _ h)
    omega

theorem lone_upper {co : Int} {cs : ByteArray} {R : Nat → RuleM} {f c : Nat} {st : Nat → Int} (hc : freeB cs c = true) (hst : IsFar cs.size (adjM co cs) c st) : ∀ (k t x : Nat), freeB cs x = true → reachM co cs 0 R f t x = true → st x = k → reachM co cs 0 R f (t + k) c = true := by
  intro k
  induction k with
  | zero =>
    intro t x hx h e
    rw [hst.src x (free_lt hx) (by simpa using e)] at h
    exact h
  | succ k ih =>
    intro t x hx h e
    obtain ⟨b, hb, hab, hbk⟩ := hst.pred x (free_lt hx) k (by rw [e]; simp)
    have fb := far_free hst hc hb (by rw [hbk]; omega)
    have ad := adj_comm hx hab fb
    have := ih (t + 1) b fb (by
      simp only [reachM]
      refine anyB_of (i := x) ?_ (free_lt hx)
      simp only [Bool.and_eq_true]
      exact ⟨h, by rw [goes_none]; exact ad⟩) hbk
    rw [show t + (k + 1) = t + 1 + k by omega]; exact this

/-- A cart alone comes to stay as soon as it can be there. -/
theorem lone_hit {co : Int} {cs : ByteArray} {R : Nat → RuleM} {f c : Nat} {st : Nat → Int} (hf : freeB cs f = true) (hc : freeB cs c = true) (hst : IsFar cs.size (adjM co cs) c st) (h0 : 0 ≤ st f) : hitM co cs 0 R f c (st f).toNat = true := by
  have hb : reachM co cs 0 R f 0 f = true := by
    simp [reachM, onM, anyB]
  have h := lone_upper (R := R) hc hst (st f).toNat 0 f hf hb (by omega)
  rw [Nat.zero_add] at h
  unfold hitM
  rw [Bool.and_eq_true]
  exact ⟨h, stays_iff.2 fun s _ _ => by rw [goes_none]; exact adj_self hc⟩

theorem lone_rules {N : Nat} {R : Nat → RuleM} : rulesB N 0 R = true := by
  unfold rulesB; simp [anyB]

/-- Without rules the path costs what Far tells. -/
theorem lone_cost {co : Int} {cs : ByteArray} {R : Nat → RuleM} {f c T : Nat} {p : Nat → Nat} {st : Nat → Int} (hf : freeB cs f = true) (hc : freeB cs c = true) (hst : IsFar cs.size (adjM co cs) c st) (h : Found co cs 0 R f c (some (T, p))) : st f = (T : Int) := by
  obtain ⟨_, hh, _, hl⟩ := h.hit
  have h0 : 0 ≤ st f := by
    by_cases e : 0 ≤ st f
    · exact e
    · have hm := (found_not (n := 0) (R := R) hf hst (Or.inl (by omega))).miss T
      rw [hm] at hh; cases hh
  have h1 := hl _ (lone_hit (R := R) hf hc hst h0)
  have tr := trip_mk (n := 0) (R := R) lone_rules hf hc hst h0 (by unfold onM; simp [anyB])
  unfold hitM at hh
  rw [Bool.and_eq_true] at hh
  have h2 := lone_lower tr T c hh.1
  rw [hst.zero] at h2
  omega

theorem lone_none {co : Int} {cs : ByteArray} {R : Nat → RuleM} {f c : Nat} {st : Nat → Int} (hf : freeB cs f = true) (hc : freeB cs c = true) (hst : IsFar cs.size (adjM co cs) c st) (h : Found co cs 0 R f c none) : st f < 0 := by
  by_cases e : 0 ≤ st f
  · have := h.miss (st f).toNat
    rw [lone_hit hf hc hst e] at this; cases this
  · omega

end Go.Proofs.YtnkgpinadgacgaaDoor

/- Walk of held: what Alone tells is no path with its error, or a path that keeps the rules. -/
namespace Go.Proofs.YtnkgpinadgacgaaDoor
open Go.RowKit M

set_option maxRecDepth 100000 in
set_option maxHeartbeats 1000000 in
theorem held_none (y : Value) (k : Int) (ro co bu : Int) (cs : ByteArray) (a : Option Addr) (m cap : Nat) (hy : y = .agg #[.int .i64 ro, .int .i64 co, .string cs, .slice a m cap, .int .i64 bu]) (ar : Option Addr) (n capr : Nat) (w : World) :
    Calls Tryd.prog 54 #[y, .int .i64 k, .slice ar n capr, .slice none 0 0, .int .i64 9] w fun e w' => e = .returned (.bool true) ∧ Below w.heap.size w w' := by
  subst hy
  have HB : Hid (∀ o, Below w.heap.size w (w.alloc o)) := fun _ => (Below.refl _ w).alloc (Nat.le_refl _) _
  go_enter Tryd.func54, Tryd.ntmps54
  go_wp2
  go_ret
  exact ⟨rfl, HB.out _⟩

set_option maxRecDepth 100000 in
set_option maxHeartbeats 1000000 in
theorem held_path (ro co bu : Int) (cs : ByteArray) (b off m cap : Nat) (fr tt : Nat → Int) (k f c : Nat) (ar : Option Addr) (n capr g T cp : Nat) (R : Nat → RuleM) (p : Nat → Nat) (w : World) (hs : cs.size ≤ 36) (h1 : 1 ≤ co) (h2 : co ≤ 6) (hk : k < m) (hn : n ≤ maxLen) (hT : T ≤ 1000) (hf : fr k = (f : Int)) (hc : tt k = (c : Int))
    (hcs : CartsIn w b off m fr tt) (har : RulesAt w ar n R) (hr : rulesB cs.size n R = true) (hp : ∀ s, s ≤ T → w.cell? ⟨g, s, none⟩ = some (natV p s)) (hok : PathOK co cs n R f c T p) :
    Calls Tryd.prog 54 #[.agg #[.int .i64 ro, .int .i64 co, .string cs, .slice (some ⟨b, off, none⟩) m cap, .int .i64 bu], .int .i64 k, .slice ar n capr, .slice (some ⟨g, 0, none⟩) (T + 1) cp, .int .i64 0] w fun e w' =>
      e = .returned (.bool true) ∧ Below w.heap.size w w' := by
  have HB : Hid (∀ o, Below w.heap.size w (w.alloc o)) := fun _ => (Below.refl _ w).alloc (Nat.le_refl _) _
  have HC := Hid.mk hcs
  have HA := Hid.mk har
  have HP := Hid.mk hp
  have U1 := Hid.mk (ok_isPath hok)
  have U2 := Hid.mk (ok_keeps hr hok)
  have HI := Hid.mk hok.inN
  clear hcs har hr hp hok
  go_enter Tryd.func54, Tryd.ntmps54
  go_wp2_with fail
  refine (kisPath_any ro co bu cs b off m cap fr tt k f c g T cp p _ hs h1 h2 hk (by omega) hf hc (HC.out.below (HB.out _)) (fun s hs' => cell_later (HB.out _) (HP.out s hs')) HI.out).mono ?_
  rintro e w1 ⟨he, hb1⟩
  rw [U1.out] at he
  subst he
  have B1 : Hid (Below w.heap.size w w1) := (HB.out _).trans (hb1.mono (by simp))
  clear hb1
  go_wp2_with fail
  refine (kkeeps_any ar n capr R g T cp p _ hn (by omega) (HA.out.below B1.out) (fun s hs' => cell_later B1.out (HP.out s hs'))).mono ?_
  rintro e w2 ⟨he, hb2⟩
  rw [U2.out] at he
  subst he
  have B2 : Hid (Below w.heap.size w w2) := B1.out.trans (hb2.mono B1.out.size)
  clear hb2
  go_wp2
  go_ret
  exact ⟨rfl, B2.out⟩

end Go.Proofs.YtnkgpinadgacgaaDoor
