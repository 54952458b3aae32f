/- Several texts in one: Kd, Bp. -/
import Derived.Test.YtnkgpinadgacgabDoorMkzp
import Derived.Test.YtnkgpinadgacgabDoorMkl
import Derived.Test.YtnkgpinadgacgabDoorMkk
import Derived.Test.YtnkgpinadgacgabDoorMkd
namespace Go.Proofs.YtnkgpinadgacgabDoor
open Go.RowKit M SM
section
variable {ro co bu : Int} {cs : ByteArray} {m : Nat} {fr tt : Nat → Int}
theorem pos_told (g cc : Nat) (w : World) (hck : (checkM ro co cs m fr tt bu).1 = 0) (hmc : m ≤ cc) (hm4 : m ≤ 4) (hs : cs.size ≤ 36) (hsd : SidesIn w) (hcs : CartsIn w g 0 m fr tt) :
    Calls Tryd.prog 14 #[.agg #[.int .i64 ro, .int .i64 co, .string cs, .slice (some ⟨g, 0, none⟩) m cc, .int .i64 bu]] w fun e w' =>
      ∃ (n : Nat) (d : Bool), M.Told (stepP ro co cs m) (cellsOf fr m) (cellsOf tt m) bu n d ∧ ((bu < n ∧ e = .returned (.tuple #[.int .i64 0, .bool false, .int .i64 10])) ∨ (¬ bu < n ∧ e = .returned (.tuple #[.int .i64 n, .bool d, .int .i64 0]))) ∧ Below w.heap.size w w' := by
  refine (positions_any ro co bu cs (some ⟨g, 0, none⟩) m cc fr tt w (by unfold maxLen; omega) (by unfold maxLen; omega) hmc hsd (fun _ => ⟨g, 0, rfl, hcs⟩)).mono ?_
  rintro e w' ⟨x, y, z, rfl, hp, hb⟩
  rcases hp with ⟨hc, _⟩ | ⟨_, n, d, ht, hp⟩
  · exact absurd hck hc
  · refine ⟨n, d, ht, ?_, hb⟩
    rcases hp with ⟨q, rfl, rfl, rfl⟩ | ⟨q, rfl, rfl, rfl⟩
    · exact .inl ⟨q, rfl⟩
    · exact .inr ⟨q, rfl⟩

theorem many_told (g cc : Nat) (w : World) (hck : (checkM ro co cs m fr tt bu).1 = 0) (hs : cs.size ≤ 36) (hm4 : m ≤ 4) :
    Calls Tryd.prog 16 #[.agg #[.int .i64 ro, .int .i64 co, .string cs, .slice (some ⟨g, 0, none⟩) m cc, .int .i64 bu]] w fun e w' => ∃ mb : Bool, e = .returned (.bool mb) ∧ ((∃ n d, M.Told (stepP ro co cs m) (cellsOf fr m) (cellsOf tt m) bu n d ∧ bu < n) → mb = true) ∧ Below w.heap.size w w' := by
  obtain ⟨hpf, _⟩ := cells_pos hck
  have hfm : m ≤ (freeTo cs cs.size).length := by
    have := few_pos (m := m) (L := [cellsOf fr m]) (cs := cs) (by simp) (fun q hq => by simp at hq; rw [hq]; exact hpf)
    refine Nat.le_of_not_lt fun hlt => ?_
    have hz : ∀ k, (freeTo cs cs.size).length < k → k ≤ 4 → fallF (freeTo cs cs.size).length k = 0 := by
      intro k hk
      induction k with
      | zero => omega
      | succ k ih =>
        intro h4
        simp only [fallF]
        by_cases e : (freeTo cs cs.size).length = k
        · rw [e, Nat.sub_self, Nat.mul_zero]
        · rw [ih (by omega) (by omega), Nat.zero_mul]
    rw [hz m hlt hm4] at this
    simp at this
  refine (many_any ro co bu cs g m cc w hs hm4 hfm).mono ?_
  rintro e w' ⟨rfl, hb⟩
  refine ⟨_, rfl, fun ⟨n, d, ht, hlt⟩ => ?_, hb⟩
  obtain ⟨L, i, hW, hnL⟩ := told_work ht
  have h3 := few_pos (cs := cs) (m := m) hW.nodup fun q hq => by
    obtain ⟨j, hj⟩ := hW.come q hq
    exact come_pos hpf hj
  refine decide_eq_true ?_
  omega

theorem sol_some (F0 : Nat) (hF : 200400000 ≤ F0) {L : List (List Nat)} (hck : (checkM ro co cs m fr tt bu).1 = 0) (hW : Work (stepP ro co cs m) (cellsOf fr m) L L.length) (hg : cellsOf tt m ∈ L) (hL : L.length ≤ 20000) : ∃ b s', solY F0 ro co cs m fr tt = some (b, s') := by
  obtain ⟨G, _, hway⟩ := sol_gnd hck hW hg hL
  obtain ⟨R, hn⟩ := run_begin G
  obtain ⟨x, s2, X2, hcome, _⟩ := come_ok G hway F0 _ [] R (by unfold left; rw [hn]; simp only [List.length_nil]; omega)
  exact ⟨x, s2, hcome⟩

end
end Go.Proofs.YtnkgpinadgacgabDoor

namespace Go.Proofs.YtnkgpinadgacgabDoor
open Go.RowKit M
namespace M
/-- Where a cart is at an instant, by its path. -/
def whM (T : Nat) (p : Nat → Nat) (t : Nat) : Nat := if t ≤ T then p t else p T

end M
theorem where_any (g T cp t : Nat) (p : Nat → Nat) (w : World) (hT : T ≤ 1000000000000000000) (hp : ∀ s, s ≤ T → w.cell? ⟨g, s, none⟩ = some (natV p s)) :
    Calls Tryd.prog 44 #[.slice (some ⟨g, 0, none⟩) (T + 1) cp, .int .i64 t] w fun e w' => e = .returned (.int .i64 (whM T p t : Nat)) ∧ w' = w := by
  have HP := Hid.mk hp
  clear hp
  go_enter Tryd.func44, Tryd.ntmps44
  by_cases h : t ≤ T
  · have c := HP.out t h
    unfold natV at c
    have hw : Hid (whM T p t = p t) := by unfold Hid whM; rw [if_pos h]
    have hlt : (t : Int) < ((T + 1 : Nat) : Int) := by omega
    have hltN : t < T + 1 := by omega
    go_wp2
    go_ret
    exact ⟨ret_int (by rw [hw.out]), rfl⟩
  · have c := HP.out T (Nat.le_refl _)
    unfold natV at c
    have hw : Hid (whM T p t = p T) := by unfold Hid whM; rw [if_neg h]
    have hlt : ¬ (t : Int) < ((T + 1 : Nat) : Int) := by omega
    have hltN : ¬ t < T + 1 := by omega
    go_wp2
    go_ret
    exact ⟨ret_int (by rw [hw.out]), rfl⟩

theorem where_at (g T cp t : Nat) (t' : Int) (p : Nat → Nat) (w : World) (e : t' = (t : Int)) (hT : T ≤ 1000000000000000000) (hp : ∀ s, s ≤ T → w.cell? ⟨g, s, none⟩ = some (natV p s)) :
    Calls Tryd.prog 44 #[.slice (some ⟨g, 0, none⟩) (T + 1) cp, .int .i64 t'] w fun e w' => e = .returned (.int .i64 (whM T p t : Nat)) ∧ w' = w := by
  subst e
  exact where_any g T cp t p w hT hp

end Go.Proofs.YtnkgpinadgacgabDoor

/- Walk of isPath: is a list a path of a cart? -/
namespace Go.Proofs.YtnkgpinadgacgabDoor
open Go.RowKit M
namespace M
def stepsM (co : Int) (cs : ByteArray) (T : Nat) (p : Nat → Nat) : Bool := !anyB (fun s => !kmay co cs (p s) (p (s + 1))) T

def isPathM (co : Int) (cs : ByteArray) (f c T : Nat) (p : Nat → Nat) : Bool :=
  (p 0 == f) && (p T == c) && !(decide (0 < T) && p (T - 1) == p T) && stepsM co cs T p

end M
theorem stepsM_no {co : Int} {cs : ByteArray} {T t : Nat} {p : Nat → Nat} (ht : t < T) (h : kmay co cs (p t) (p (t + 1)) = false) : stepsM co cs T p = false := by
  unfold stepsM
  rw [anyB_of (p := fun s => !kmay co cs (p s) (p (s + 1))) (i := t) (by simp only [h]; rfl) ht]; rfl

theorem stepsM_yes {co : Int} {cs : ByteArray} {T : Nat} {p : Nat → Nat} (h : ∀ t, t < T → (!kmay co cs (p t) (p (t + 1))) = false) : stepsM co cs T p = true := by
  unfold stepsM
  rw [anyB_false.2 h]; rfl

set_option maxRecDepth 100000 in
set_option maxHeartbeats 4000000 in
theorem kisPath_any (ro co bu : Int) (cs : ByteArray) (b off m cap : Nat) (fr tt : Nat → Int) (k f c g T cp : Nat) (p : Nat → Nat) (w : World) (hs : cs.size ≤ 36) (h1 : 1 ≤ co) (h2 : co ≤ 6) (hk : k < m) (hT : T ≤ 1000000000000000000) (hf : fr k = (f : Int)) (hc : tt k = (c : Int))
    (hcs : CartsIn w b off m fr tt) (hp : ∀ s, s ≤ T → w.cell? ⟨g, s, none⟩ = some (natV p s)) (hin : ∀ s, s ≤ T → p s < cs.size) :
    Calls Tryd.prog 33 #[.agg #[.int .i64 ro, .int .i64 co, .string cs, .slice (some ⟨b, off, none⟩) m cap, .int .i64 bu], .int .i64 k, .slice (some ⟨g, 0, none⟩) (T + 1) cp] w fun e w' =>
      e = .returned (.bool (isPathM co cs f c T p)) ∧ Below w.heap.size w w' := by
  have hcf := (hcs k hk).1
  have hct := (hcs k hk).2
  rw [hf] at hcf
  rw [hc] at hct
  have hbl : b < w.heap.size := World.block_lt_of_cell? _ _ hcf
  have HP := Hid.mk hp
  have HI := Hid.mk hin
  have p0 := hp 0 (by omega)
  have pT := hp T (Nat.le_refl _)
  have hgp : g < w.heap.size := World.block_lt_of_cell? _ _ p0
  rw [show natV p 0 = Value.int .i64 (p 0 : Nat) from rfl] at p0
  rw [show natV p T = Value.int .i64 (p T : Nat) from rfl] at pT
  clear hp hcs hin
  obtain ⟨N1, hN1⟩ : ∃ N1, N1 = T + 1 := ⟨_, rfl⟩
  rw [← hN1]
  have i3 : (T : Int) < (N1 : Int) := by omega
  have i4 : (0 : Int) < (N1 : Int) := by omega
  have i5 : ((N1 : Int) == 0) = false := by simp; omega
  have i4n : 0 < N1 := by omega
  have i3n : T < N1 := by omega
  have i9 : N1 ≤ 1000000000000000001 := by omega
  have v1 : IntKind.i64.wrap ((N1 : Int) - 1) = (T : Int) := by
    rw [show (N1 : Int) - 1 = (T : Int) by omega]; exact wrap_mid (by omega) (by omega)
  have HN1 := Hid.mk hN1
  clear hN1
  go_enter Tryd.func33, Tryd.ntmps33
  go_wp2
  have HB0 : Hid (Below w.heap.size w (w.alloc (Obj.cells #[Value.int IntKind.i64 ro, Value.int IntKind.i64 co, Value.string cs, .slice (some ⟨b, off, none⟩) m cap, Value.int IntKind.i64 bu] 28))) := (Below.refl _ w).alloc (Nat.le_refl _) _
  have y0 : ∀ o, (w.alloc (Obj.cells #[Value.int IntKind.i64 ro, Value.int IntKind.i64 co, Value.string cs, .slice (some ⟨b, off, none⟩) m cap, Value.int IntKind.i64 bu] 28)).cell? ⟨w.heap.size, o, none⟩ = #[Value.int .i64 ro, .int .i64 co, .string cs, .slice (some ⟨b, off, none⟩) m cap, .int .i64 bu][o]? := by
    intro o; go_simp
  have hz0 : w.heap.size < (w.alloc (Obj.cells #[Value.int IntKind.i64 ro, Value.int IntKind.i64 co, Value.string cs, .slice (some ⟨b, off, none⟩) m cap, Value.int IntKind.i64 bu] 28)).heap.size := by simp
  generalize w.alloc (Obj.cells #[Value.int IntKind.i64 ro, Value.int IntKind.i64 co, Value.string cs, .slice (some ⟨b, off, none⟩) m cap, Value.int IntKind.i64 bu] 28) = w1 at *
  have hcf1 := cell_later HB0.out hcf
  have hct1 := cell_later HB0.out hct
  have p01 := cell_later HB0.out p0
  have pT1 := cell_later HB0.out pT
  have y3 : w1.cell? ⟨w.heap.size, 3, none⟩ = some (.slice (some ⟨b, off, none⟩) m cap) := y0 3
  have hkI : (k : Int) < m := by omega
  clear hcf hct p0 pT
  by_cases a0 : p 0 = f
  · have a0' : (((p 0 : Nat) : Int) != (f : Int)) = false := by simp [a0]
    by_cases aT : p T = c
    · have aT' : (((p T : Nat) : Int) != (c : Int)) = false := by simp [aT]
      by_cases hT0 : T = 0
      · have j1 : decide ((1 : Int) < (N1 : Int)) = false := by have := HN1.out; simp; omega
        have FST : Hid (isPathM co cs f c T p = stepsM co cs T p) := by
          unfold Hid isPathM
          rw [show (p 0 == f) = true by simp [a0], show (p T == c) = true by simp [aT], show decide (0 < T) = false by simp [hT0]]
          simp
        clear hT0 a0 aT
        go_quiet (fail)
        have HB2 : Hid (Below w.heap.size w (w1.drewN nq)) := below_drewN HB0.out _
        have Y2 : Hid (∀ o, (w1.drewN nq).cell? ⟨w.heap.size, o, none⟩ = #[Value.int .i64 ro, .int .i64 co, .string cs, .slice (some ⟨b, off, none⟩) m cap, .int .i64 bu][o]?) := y0
        have hz2 : w.heap.size < (w1.drewN nq).heap.size := hz0
        generalize w1.drewN nq = w2 at *
        clear y0 y3 hcf1 hct1 p01 pT1
        go_wp2_with fail
        go_loopw [8] (fun s wr => ∃ t : Nat, t ≤ T ∧ s = .int .i64 t ∧ (∀ j, j < t → (!kmay co cs (p j) (p (j + 1))) = false) ∧ Below w2.heap.size w2 wr) (fun s _ => T - (intOf s).toNat)
        case atStart => exact ⟨0, Nat.zero_le _, rfl, fun j hj => absurd hj (Nat.not_lt_zero j), Below.refl _ _⟩
        case round =>
          obtain ⟨t, ht, rfl, hg0, hbr⟩ := hrel
          have HG := Hid.mk hg0
          have HW : Hid (Below w.heap.size w wr) := HB2.out.trans (hbr.mono (by omega))
          have HB := Hid.mk hbr
          have hzr := hbr.size
          have yr : ∀ o, wr.cell? ⟨w.heap.size, o, none⟩ = #[Value.int .i64 ro, .int .i64 co, .string cs, .slice (some ⟨b, off, none⟩) m cap, .int .i64 bu][o]? := fun o => (hbr.cell (p := ⟨w.heap.size, o, none⟩) hz2).trans (Y2.out o)
          clear hbr hg0
          have hN := HN1.out
          by_cases hlt : t < T
          · have a1 : (t : Int) + 1 < (N1 : Int) := by omega
            have a2 : t < N1 := by omega
            have a3 : t + 1 < N1 := by omega
            have a6 : (t : Int) < (N1 : Int) := by omega
            have a7 : ((t : Int) + 1).toNat = t + 1 := by omega
            have a8 : (0 : Int) ≤ (t : Int) + 1 := by omega
            have a9 : IntKind.i64.wrap ((t : Int) + 1) = (t : Int) + 1 := wrap_mid (by omega) (by omega)
            have a4 := cell_later HW.out (HP.out t (by omega))
            have a5 := cell_later HW.out (HP.out (t + 1) (by omega))
            rw [show natV p t = Value.int .i64 (p t : Nat) from rfl] at a4
            rw [show natV p (t + 1) = Value.int .i64 (p (t + 1) : Nat) from rfl] at a5
            have hpN := HI.out t (by omega)
            have hpN1 := HI.out (t + 1) (by omega)
            have z0 := yr 0
            have z1 := yr 1
            have z2 := yr 2
            have z3 := yr 3
            have z4 := yr 4
            simp only [List.getElem?_toArray, List.getElem?_cons_zero, List.getElem?_cons_succ] at z0 z1 z2 z3 z4
            have hzw : w.heap.size < wr.heap.size := by omega
            have hzg : g < wr.heap.size := by omega
            clear hN
            go_wp2_with fail
            go_region_held3 (fun w' => w'.cell? ⟨w.heap.size, 0, none⟩ = some (.int .i64 ro) ∧ w'.cell? ⟨w.heap.size, 1, none⟩ = some (.int .i64 co) ∧ w'.cell? ⟨w.heap.size, 2, none⟩ = some (.string cs) ∧ w'.cell? ⟨w.heap.size, 3, none⟩ = some (.slice (some ⟨b, off, none⟩) m cap) ∧ w'.cell? ⟨w.heap.size, 4, none⟩ = some (.int .i64 bu) ∧ w'.cell? ⟨g, t, none⟩ = some (.int .i64 (p t : Nat)) ∧ w'.cell? ⟨g, t + 1, none⟩ = some (.int .i64 (p (t + 1) : Nat))) (go_keep)
              (first
                | (go_at_call_of 51 (Value.int IntKind.i64 ro); refine (kmay_any ro co bu (p t) (p (t + 1)) cs _ _ hs h1 h2 hpN hpN1).mono ?_; rintro e w4 ⟨he4, hb4⟩; obtain ⟨kb, hkb⟩ : ∃ kb, kb = kmay co cs (p t) (p (t + 1)) := ⟨_, rfl⟩; rw [← hkb] at he4; subst he4; have KB := Hid.mk hkb; clear hkb; obtain ⟨q0, q1, q2, q3, q4⟩ : w4.cell? ⟨w.heap.size, 0, none⟩ = some (.int .i64 ro) ∧ w4.cell? ⟨w.heap.size, 1, none⟩ = some (.int .i64 co) ∧ w4.cell? ⟨w.heap.size, 2, none⟩ = some (.string cs) ∧ w4.cell? ⟨w.heap.size, 3, none⟩ = some (.slice (some ⟨b, off, none⟩) m cap) ∧ w4.cell? ⟨w.heap.size, 4, none⟩ = some (.int .i64 bu) := ⟨(hb4.cell (p := ⟨w.heap.size, 0, none⟩) hzw).trans z0, (hb4.cell (p := ⟨w.heap.size, 1, none⟩) hzw).trans z1, (hb4.cell (p := ⟨w.heap.size, 2, none⟩) hzw).trans z2, (hb4.cell (p := ⟨w.heap.size, 3, none⟩) hzw).trans z3, (hb4.cell (p := ⟨w.heap.size, 4, none⟩) hzw).trans z4⟩; have q5 : w4.cell? ⟨g, t, none⟩ = some (.int .i64 (p t : Nat)) := (hb4.cell (p := ⟨g, t, none⟩) hzg).trans a4; have q6 : w4.cell? ⟨g, t + 1, none⟩ = some (.int .i64 (p (t + 1) : Nat)) := (hb4.cell (p := ⟨g, t + 1, none⟩) hzg).trans a5))
            have HB4 : Hid (Below w2.heap.size w2 w4) := HB.out.drew.trans (hb4.mono (by show w2.heap.size ≤ wr.heap.size; omega))
            clear hb4 yr a4 a5 z0 z1 z2 z3 z4 q0 q1 q2 q3 q4 q5 q6
            cases kb
            · go_wp2
              go_ret
              exact ⟨ret_bool (by rw [FST.out, stepsM_no hlt KB.out.symm]), HB2.out.trans (HB4.out.mono (by omega))⟩
            · go_wp2
              go_roundw
              case rel => exact ⟨t + 1, by omega, by go_num, upto_step (p := fun j => !kmay co cs (p j) (p (j + 1))) (by show (!kmay co cs (p t) (p (t + 1))) = false; rw [← KB.out]; rfl) HG.out, HB4.out⟩
              case measure => simp [intOf]; omega
          · have e0 : t = T := by omega
            have HG2 : Hid (∀ j, j < T → (!kmay co cs (p j) (p (j + 1))) = false) := fun j hj => HG.out j (by omega)
            have a1 : ¬ (t : Int) + 1 < (N1 : Int) := by omega
            clear e0
            go_wp2
            go_ret
            exact ⟨ret_bool (by rw [FST.out, stepsM_yes HG2.out]), HW.out⟩

      · obtain ⟨T1, hT1⟩ : ∃ T1, T = T1 + 1 := ⟨T - 1, by omega⟩
        have j1 : decide ((1 : Int) < (N1 : Int)) = true := by have := HN1.out; simp; omega
        have v2 : IntKind.i64.wrap ((N1 : Int) - 2) = (T1 : Int) := by
          have := HN1.out
          rw [show (N1 : Int) - 2 = (T1 : Int) by omega]; exact wrap_mid (by omega) (by omega)
        have i6 : (T1 : Int) < (N1 : Int) := by omega
        have i6n : T1 < N1 := by omega
        have i7 : (0 : Int) ≤ (T1 : Int) := by omega
        have pU := cell_later HB0.out (HP.out T1 (by omega))
        rw [show natV p T1 = Value.int .i64 (p T1 : Nat) from rfl] at pU
        by_cases aw : p T1 = p T
        · have aw' : (((p T1 : Nat) : Int) == ((p T : Nat) : Int)) = true := by simp [aw]
          have RES : Hid (isPathM co cs f c T p = false) := by
            unfold Hid isPathM
            rw [hT1] at aw ⊢
            simp [aw]
          clear hT0 hT1 a0 aT aw
          go_quiet (fail)
          go_wp2
          go_ret
          exact ⟨ret_bool RES.out.symm, below_drewN HB0.out _⟩
        · have aw' : (((p T1 : Nat) : Int) == ((p T : Nat) : Int)) = false := by simp; omega
          have FST : Hid (isPathM co cs f c T p = stepsM co cs T p) := by
            have e : p (T - 1) = p T1 := by rw [hT1]; rfl
            have e2 : (p (T - 1) == p T) = false := by rw [e]; simp [aw]
            unfold Hid isPathM
            rw [show (p 0 == f) = true by simp [a0], show (p T == c) = true by simp [aT], e2]
            simp
          clear hT0 hT1 a0 aT aw
          go_quiet (fail)
          have HB2 : Hid (Below w.heap.size w (w1.drewN nq)) := below_drewN HB0.out _
          have Y2 : Hid (∀ o, (w1.drewN nq).cell? ⟨w.heap.size, o, none⟩ = #[Value.int .i64 ro, .int .i64 co, .string cs, .slice (some ⟨b, off, none⟩) m cap, .int .i64 bu][o]?) := y0
          have hz2 : w.heap.size < (w1.drewN nq).heap.size := hz0
          generalize w1.drewN nq = w2 at *
          clear y0 y3 hcf1 hct1 p01 pT1 pU
          go_wp2_with fail
          go_loopw [8] (fun s wr => ∃ t : Nat, t ≤ T ∧ s = .int .i64 t ∧ (∀ j, j < t → (!kmay co cs (p j) (p (j + 1))) = false) ∧ Below w2.heap.size w2 wr) (fun s _ => T - (intOf s).toNat)
          case atStart => exact ⟨0, Nat.zero_le _, rfl, fun j hj => absurd hj (Nat.not_lt_zero j), Below.refl _ _⟩
          case round =>
            obtain ⟨t, ht, rfl, hg0, hbr⟩ := hrel
            have HG := Hid.mk hg0
            have HW : Hid (Below w.heap.size w wr) := HB2.out.trans (hbr.mono (by omega))
            have HB := Hid.mk hbr
            have hzr := hbr.size
            have yr : ∀ o, wr.cell? ⟨w.heap.size, o, none⟩ = #[Value.int .i64 ro, .int .i64 co, .string cs, .slice (some ⟨b, off, none⟩) m cap, .int .i64 bu][o]? := fun o => (hbr.cell (p := ⟨w.heap.size, o, none⟩) hz2).trans (Y2.out o)
            clear hbr hg0
            have hN := HN1.out
            by_cases hlt : t < T
            · have a1 : (t : Int) + 1 < (N1 : Int) := by omega
              have a2 : t < N1 := by omega
              have a3 : t + 1 < N1 := by omega
              have a6 : (t : Int) < (N1 : Int) := by omega
              have a7 : ((t : Int) + 1).toNat = t + 1 := by omega
              have a8 : (0 : Int) ≤ (t : Int) + 1 := by omega
              have a9 : IntKind.i64.wrap ((t : Int) + 1) = (t : Int) + 1 := wrap_mid (by omega) (by omega)
              have a4 := cell_later HW.out (HP.out t (by omega))
              have a5 := cell_later HW.out (HP.out (t + 1) (by omega))
              rw [show natV p t = Value.int .i64 (p t : Nat) from rfl] at a4
              rw [show natV p (t + 1) = Value.int .i64 (p (t + 1) : Nat) from rfl] at a5
              have hpN := HI.out t (by omega)
              have hpN1 := HI.out (t + 1) (by omega)
              have z0 := yr 0
              have z1 := yr 1
              have z2 := yr 2
              have z3 := yr 3
              have z4 := yr 4
              simp only [List.getElem?_toArray, List.getElem?_cons_zero, List.getElem?_cons_succ] at z0 z1 z2 z3 z4
              have hzw : w.heap.size < wr.heap.size := by omega
              have hzg : g < wr.heap.size := by omega
              clear hN
              go_wp2_with fail
              go_region_held3 (fun w' => w'.cell? ⟨w.heap.size, 0, none⟩ = some (.int .i64 ro) ∧ w'.cell? ⟨w.heap.size, 1, none⟩ = some (.int .i64 co) ∧ w'.cell? ⟨w.heap.size, 2, none⟩ = some (.string cs) ∧ w'.cell? ⟨w.heap.size, 3, none⟩ = some (.slice (some ⟨b, off, none⟩) m cap) ∧ w'.cell? ⟨w.heap.size, 4, none⟩ = some (.int .i64 bu) ∧ w'.cell? ⟨g, t, none⟩ = some (.int .i64 (p t : Nat)) ∧ w'.cell? ⟨g, t + 1, none⟩ = some (.int .i64 (p (t + 1) : Nat))) (go_keep)
                (first
                  | (go_at_call_of 51 (Value.int IntKind.i64 ro); refine (kmay_any ro co bu (p t) (p (t + 1)) cs _ _ hs h1 h2 hpN hpN1).mono ?_; rintro e w4 ⟨he4, hb4⟩; obtain ⟨kb, hkb⟩ : ∃ kb, kb = kmay co cs (p t) (p (t + 1)) := ⟨_, rfl⟩; rw [← hkb] at he4; subst he4; have KB := Hid.mk hkb; clear hkb; obtain ⟨q0, q1, q2, q3, q4⟩ : w4.cell? ⟨w.heap.size, 0, none⟩ = some (.int .i64 ro) ∧ w4.cell? ⟨w.heap.size, 1, none⟩ = some (.int .i64 co) ∧ w4.cell? ⟨w.heap.size, 2, none⟩ = some (.string cs) ∧ w4.cell? ⟨w.heap.size, 3, none⟩ = some (.slice (some ⟨b, off, none⟩) m cap) ∧ w4.cell? ⟨w.heap.size, 4, none⟩ = some (.int .i64 bu) := ⟨(hb4.cell (p := ⟨w.heap.size, 0, none⟩) hzw).trans z0, (hb4.cell (p := ⟨w.heap.size, 1, none⟩) hzw).trans z1, (hb4.cell (p := ⟨w.heap.size, 2, none⟩) hzw).trans z2, (hb4.cell (p := ⟨w.heap.size, 3, none⟩) hzw).trans z3, (hb4.cell (p := ⟨w.heap.size, 4, none⟩) hzw).trans z4⟩; have q5 : w4.cell? ⟨g, t, none⟩ = some (.int .i64 (p t : Nat)) := (hb4.cell (p := ⟨g, t, none⟩) hzg).trans a4; have q6 : w4.cell? ⟨g, t + 1, none⟩ = some (.int .i64 (p (t + 1) : Nat)) := (hb4.cell (p := ⟨g, t + 1, none⟩) hzg).trans a5))
              have HB4 : Hid (Below w2.heap.size w2 w4) := HB.out.drew.trans (hb4.mono (by show w2.heap.size ≤ wr.heap.size; omega))
              clear hb4 yr a4 a5 z0 z1 z2 z3 z4 q0 q1 q2 q3 q4 q5 q6
              cases kb
              · go_wp2
                go_ret
                exact ⟨ret_bool (by rw [FST.out, stepsM_no hlt KB.out.symm]), HB2.out.trans (HB4.out.mono (by omega))⟩
              · go_wp2
                go_roundw
                case rel => exact ⟨t + 1, by omega, by go_num, upto_step (p := fun j => !kmay co cs (p j) (p (j + 1))) (by show (!kmay co cs (p t) (p (t + 1))) = false; rw [← KB.out]; rfl) HG.out, HB4.out⟩
                case measure => simp [intOf]; omega
            · have e0 : t = T := by omega
              have HG2 : Hid (∀ j, j < T → (!kmay co cs (p j) (p (j + 1))) = false) := fun j hj => HG.out j (by omega)
              have a1 : ¬ (t : Int) + 1 < (N1 : Int) := by omega
              clear e0
              go_wp2
              go_ret
              exact ⟨ret_bool (by rw [FST.out, stepsM_yes HG2.out]), HW.out⟩

    · have aT' : (((p T : Nat) : Int) != (c : Int)) = true := by simp; omega
      have RES : Hid (isPathM co cs f c T p = false) := by
        unfold Hid isPathM
        have : (p T == c) = false := by simp [aT]
        rw [this]; simp
      clear a0 aT
      go_quiet (fail)
      go_wp2
      go_ret
      exact ⟨ret_bool RES.out.symm, below_drewN HB0.out _⟩
  · have a0' : (((p 0 : Nat) : Int) != (f : Int)) = true := by simp; omega
    have RES : Hid (isPathM co cs f c T p = false) := by
      unfold Hid isPathM
      have : (p 0 == f) = false := by simp [a0]
      rw [this]; simp
    clear a0
    go_quiet (fail)
    go_wp2
    go_ret
    exact ⟨ret_bool RES.out.symm, below_drewN HB0.out _⟩

end Go.Proofs.YtnkgpinadgacgabDoor

/- Walk of trimmed: a first part of a walk, not empty. -/
namespace Go.Proofs.YtnkgpinadgacgabDoor
open Go.RowKit M
theorem ret_slice {a : Option Addr} {n n' c : Nat} (h : n = n') : Ending.returned (.slice a n c) = .returned (.slice a n' c) := by rw [h]

set_option maxRecDepth 100000 in
set_option maxHeartbeats 2000000 in
theorem trimmed_any (g T cap : Nat) (p : Nat → Nat) (w : World) (hT : T ≤ 1000000000000000000) (hcap : T + 1 ≤ cap) (hp : ∀ s, s ≤ T → w.cell? ⟨g, s, none⟩ = some (natV p s)) :
    Calls Tryd.prog 31 #[.slice (some ⟨g, 0, none⟩) (T + 1) cap] w fun e w' => ∃ T', T' ≤ T ∧ e = .returned (.slice (some ⟨g, 0, none⟩) (T' + 1) cap) ∧ Below w.heap.size w w' := by
  have HP := Hid.mk hp
  have HC := Hid.mk hcap
  clear hp hcap
  obtain ⟨N1, hN1⟩ : ∃ N1, N1 = T + 1 := ⟨_, rfl⟩
  rw [← hN1]
  have HN1 := Hid.mk hN1
  have i9 : N1 ≤ 1000000000000000001 := by omega
  clear hN1
  go_enter Tryd.func31, Tryd.ntmps31
  go_wp2
  go_loopw [3] (fun s wr => ∃ k : Nat, 1 ≤ k ∧ k ≤ N1 ∧ s = .int .i64 k ∧ Below w.heap.size w wr) (fun s _ => (intOf s).toNat)
  case atStart => exact ⟨N1, by have := HN1.out; omega, Nat.le_refl _, rfl, Below.refl _ _⟩
  case round =>
    obtain ⟨k, hk1, hk2, rfl, hbr⟩ := hrel
    have HB := Hid.mk hbr
    have hN := HN1.out
    by_cases h1 : k = 1
    · subst h1
      have hc : 1 ≤ cap := by have := HC.out; omega
      clear hbr
      go_wp2_with fail
      go_quiet (fail)
      go_wp2
      go_ret
      exact ⟨0, by omega, rfl, below_drewN HB.out _⟩
    · obtain ⟨k2, hk⟩ : ∃ k2, k = k2 + 2 := ⟨k - 2, by omega⟩
      have j1 : decide ((1 : Int) < (k : Int)) = true := by simp; omega
      have j1' : (1 : Int) < (k : Int) := by omega
      have v1 : IntKind.i64.wrap ((k : Int) - 1) = ((k2 + 1 : Nat) : Int) := by
        rw [show (k : Int) - 1 = ((k2 + 1 : Nat) : Int) by omega]; exact wrap_mid (by omega) (by omega)
      have v2 : IntKind.i64.wrap ((k : Int) - 2) = (k2 : Int) := by
        rw [show (k : Int) - 2 = (k2 : Int) by omega]; exact wrap_mid (by omega) (by omega)
      have c1 := cell_later hbr (HP.out (k2 + 1) (by omega))
      have c2 := cell_later hbr (HP.out k2 (by omega))
      rw [show natV p (k2 + 1) = Value.int .i64 (p (k2 + 1) : Nat) from rfl] at c1
      rw [show natV p k2 = Value.int .i64 (p k2 : Nat) from rfl] at c2
      have i1 : ((k2 + 1 : Nat) : Int) < (N1 : Int) := by omega
      have i1n : k2 + 1 < N1 := by omega
      have i2 : (k2 : Int) < (N1 : Int) := by omega
      have i2n : k2 < N1 := by omega
      have i3 : (k : Int) ≤ (cap : Int) := by have := HC.out; omega
      have i3n : k ≤ cap := by have := HC.out; omega
      have HK := Hid.mk hk
      clear hk hbr hN h1
      by_cases e : p (k2 + 1) = p k2
      · have e' : (((p (k2 + 1) : Nat) : Int) == ((p k2 : Nat) : Int)) = true := by simp [e]
        clear e
        go_wp2_with fail
        go_quiet (fail)
        go_wp2
        go_roundw
        case rel => exact ⟨k2 + 1, by omega, by have := HK.out; omega, by have := HK.out; go_num, below_drewN HB.out _⟩
        case measure => have := HK.out; simp [intOf]; omega
      · have e' : (((p (k2 + 1) : Nat) : Int) == ((p k2 : Nat) : Int)) = false := by simp; omega
        clear e
        go_wp2_with fail
        go_quiet (fail)
        go_wp2
        go_ret
        exact ⟨k2 + 1, by have := HK.out; have := HN1.out; omega, ret_slice (by have := HK.out; omega), below_drewN HB.out _⟩

end Go.Proofs.YtnkgpinadgacgabDoor

/- A walk that keeps rules: as it is told over by instants, and as the search sees it. Plain facts. -/
namespace Go.Proofs.YtnkgpinadgacgabDoor
open M
theorem kmay_adj {co : Int} {cs : ByteArray} {a b : Nat} (ha : a < cs.size) : kmay co cs a b = adjM co cs a b := by
  unfold kmay adjM mayM
  rw [show decide ((0 : Int) ≤ (a : Int)) = true by simp, show decide ((a : Int) < (cs.size : Int)) = true by simp; omega]
  simp

theorem adj_self {co : Int} {cs : ByteArray} {c : Nat} (hc : freeB cs c = true) : adjM co cs c c = true := by
  rw [← kmay_adj (free_lt hc)]
  unfold kmay nearM
  rw [hc]; simp

theorem wh_in {T t : Nat} {p : Nat → Nat} (h : t ≤ T) : whM T p t = p t := by unfold whM; rw [if_pos h]

theorem wh_out {T t : Nat} {p : Nat → Nat} (h : T ≤ t) : whM T p t = p T := by
  unfold whM
  by_cases e : t ≤ T
  · rw [if_pos e, show t = T by omega]
  · rw [if_neg e]

theorem isPath_parts {co : Int} {cs : ByteArray} {f c T : Nat} {p : Nat → Nat} (h : isPathM co cs f c T p = true) : p 0 = f ∧ p T = c ∧ (∀ s, s + 1 = T → p s ≠ p T) ∧ ∀ s, s < T → kmay co cs (p s) (p (s + 1)) = true := by
  unfold isPathM at h
  simp only [Bool.and_eq_true, beq_iff_eq, Bool.not_eq_true', Bool.and_eq_false_iff] at h
  obtain ⟨⟨⟨h1, h2⟩, h3⟩, h4⟩ := h
  refine ⟨h1, h2, fun s hs e => ?_, fun s hs => ?_⟩
  · subst hs
    rcases h3 with h3 | h3
    · simp at h3
    · rw [Nat.add_sub_cancel] at h3
      rw [e] at h3; simp at h3
  · unfold stepsM at h4
    rw [Bool.not_eq_true'] at h4
    have := anyB_false.1 h4 s hs
    simpa using this

end Go.Proofs.YtnkgpinadgacgabDoor

/- A cart alone, without rules: its least cost is how far it is. Plain facts. -/
namespace Go.Proofs.YtnkgpinadgacgabDoor
open M
end Go.Proofs.YtnkgpinadgacgabDoor

/- Walk of held: what Alone tells is no path with its error, or a path that keeps the rules. -/
namespace Go.Proofs.YtnkgpinadgacgabDoor
open Go.RowKit M
end Go.Proofs.YtnkgpinadgacgabDoor
