/- Walk of the document's Keeps, at a path that keeps the rules. -/
import Derived.Test.YtaldfpoolajoiaaDoorRf
namespace Go.Proofs.YtaldfpoolajoiaaDoor
open Go.RowKit M

/-- A path of the cart that keeps the rules, of cost T. -/
structure PathOK (co : Int) (cs : ByteArray) (n : Nat) (R : Nat → RuleM) (f c T : Nat) (p : Nat → Nat) : Prop where
  first : p 0 = f
  last : p T = c
  nowait : ∀ s, s + 1 = T → p s ≠ c
  on0 : onM n R f 0 = true
  step : ∀ s, s < T → goesM co cs n R (p s) (p (s + 1)) s = true
  stay : staysM co cs n R c T = true
  inN : ∀ s, s ≤ T → p s < cs.size

def natV (p : Nat → Nat) : Nat → Value := fun i => .int .i64 (p i : Nat)

theorem wrap_mid {x : Int} (h1 : -9223372036854775808 ≤ x) (h2 : x ≤ 9223372036854775807) : IntKind.i64.wrap x = x := by rw [IntKind.wrap_i64]; omega

set_option maxRecDepth 100000 in
set_option maxHeartbeats 2000000 in
theorem keeps_ok (ro co bu : Int) (cs : ByteArray) (b off m cap : Nat) (fr tt : Nat → Int) (k f c : Nat) (ar : Option Addr) (n capr : Nat) (R : Nat → RuleM) (gp cp T : Nat) (p : Nat → Nat) (w : World) (hs : cs.size ≤ 36) (h1 : 1 ≤ co) (h2 : co ≤ 6) (hn : n ≤ maxLen) (hk : k < m) (hT : T ≤ 900) (hf : fr k = (f : Int)) (hc : tt k = (c : Int))
    (hcs : CartsIn w b off m fr tt) (har : RulesAt w ar n R) (hp : ∀ s, s ≤ T → w.cell? ⟨gp, s, none⟩ = some (natV p s)) (hok : PathOK co cs n R f c T p) :
    Calls Tryd.prog 20 #[.agg #[.int .i64 ro, .int .i64 co, .string cs, .slice (some ⟨b, off, none⟩) m cap, .int .i64 bu], .int .i64 k, .slice ar n capr, .slice (some ⟨gp, 0, none⟩) (T + 1) cp] w fun e w' =>
      e = .returned (.bool true) ∧ Below w.heap.size w w' := by
  have hcf := (hcs k hk).1
  have hct := (hcs k hk).2
  rw [hf] at hcf
  rw [hc] at hct
  have hbl : b < w.heap.size := World.block_lt_of_cell? _ _ hcf
  have HP := Hid.mk hp
  have HO := Hid.mk hok
  have HA := Hid.mk har
  have p0 := hp 0 (by omega)
  have pT := hp T (Nat.le_refl _)
  have hgp : gp < w.heap.size := World.block_lt_of_cell? _ _ p0
  rw [show natV p 0 = Value.int .i64 (p 0 : Nat) from rfl, hok.first] at p0
  rw [show natV p T = Value.int .i64 (p T : Nat) from rfl, hok.last] at pT
  clear hp hok har hcs
  obtain ⟨N1, hN1⟩ : ∃ N1, N1 = T + 1 := ⟨_, rfl⟩
  rw [← hN1]
  have i3 : (T : Int) < (N1 : Int) := by omega
  have i4 : (0 : Int) < (N1 : Int) := by omega
  have i5 : ((N1 : Int) == 0) = false := by simp; omega
  have i4n : 0 < N1 := by omega
  have i3n : T < N1 := by omega
  have i9 : N1 ≤ 901 := by omega
  have v1 : IntKind.i64.wrap ((N1 : Int) - 1) = (T : Int) := by
    rw [show (N1 : Int) - 1 = (T : Int) by omega]; exact wrap_mid (by omega) (by omega)
  have HN1 := Hid.mk hN1
  clear hN1
  go_enter Tryd.func20, Tryd.ntmps20
  go_wp2
  have HB0 : Hid (Below w.heap.size w (w.alloc (Obj.cells #[Value.int IntKind.i64 ro, Value.int IntKind.i64 co, Value.string cs, .slice (some ⟨b, off, none⟩) m cap, Value.int IntKind.i64 bu] 24))) := (Below.refl _ w).alloc (Nat.le_refl _) _
  have y0 : ∀ o, (w.alloc (Obj.cells #[Value.int IntKind.i64 ro, Value.int IntKind.i64 co, Value.string cs, .slice (some ⟨b, off, none⟩) m cap, Value.int IntKind.i64 bu] 24)).cell? ⟨w.heap.size, o, none⟩ = #[Value.int .i64 ro, .int .i64 co, .string cs, .slice (some ⟨b, off, none⟩) m cap, .int .i64 bu][o]? := by
    intro o; go_simp
  have hz0 : w.heap.size < (w.alloc (Obj.cells #[Value.int IntKind.i64 ro, Value.int IntKind.i64 co, Value.string cs, .slice (some ⟨b, off, none⟩) m cap, Value.int IntKind.i64 bu] 24)).heap.size := by simp
  generalize w.alloc (Obj.cells #[Value.int IntKind.i64 ro, Value.int IntKind.i64 co, Value.string cs, .slice (some ⟨b, off, none⟩) m cap, Value.int IntKind.i64 bu] 24) = w1 at *
  have hcf1 := cell_later HB0.out hcf
  have hct1 := cell_later HB0.out hct
  have p01 := cell_later HB0.out p0
  have pT1 := cell_later HB0.out pT
  have y3 : w1.cell? ⟨w.heap.size, 3, none⟩ = some (.slice (some ⟨b, off, none⟩) m cap) := y0 3
  have hkI : (k : Int) < m := by omega
  clear hcf hct p0 pT
  by_cases hT0 : T = 0
  · have j1 : decide ((1 : Int) < (N1 : Int)) = false := by have := HN1.out; simp; omega
    have HT := Hid.mk hT0
    clear hT0
    go_quiet (fail)
    go_wp2_with fail
    have HBq : Hid (Below w.heap.size w (w1.drewN nq)) := below_drewN HB0.out _
    have yq : ∀ o, (w1.drewN nq).cell? ⟨w.heap.size, o, none⟩ = #[Value.int .i64 ro, .int .i64 co, .string cs, .slice (some ⟨b, off, none⟩) m cap, .int .i64 bu][o]? := y0
    have hzq : w.heap.size < (w1.drewN nq).heap.size := hz0
    generalize w1.drewN nq = w2 at *
    refine (on_any _ _ _ R _ _ _ hn (HA.out.below (by exact HBq.out))).mono ?_
    rintro e w3 ⟨rfl, hb3⟩
    rw [HO.out.on0]
    have HB3 : Hid (Below w.heap.size w w3) := HBq.out.trans (hb3.mono (by omega))
    have Y3 : Hid (∀ o, w3.cell? ⟨w.heap.size, o, none⟩ = #[Value.int .i64 ro, .int .i64 co, .string cs, .slice (some ⟨b, off, none⟩) m cap, .int .i64 bu][o]?) := fun o => (hb3.cell (p := ⟨w.heap.size, o, none⟩) hzq).trans (yq o)
    have hz3 : w.heap.size < w3.heap.size := by have := hb3.size; omega
    clear yq y0 y3 hcf1 hct1 p01 pT1 hb3 j1
    go_wp2
    go_loopw [11] (fun s wr => ∃ t : Nat, t ≤ T ∧ s = .int .i64 t ∧ Below w3.heap.size w3 wr) (fun s _ => T - (intOf s).toNat)
    case atStart => exact ⟨0, Nat.zero_le _, rfl, Below.refl _ _⟩
    case round =>
      obtain ⟨t, ht, rfl, hbr⟩ := hrel
      have HW : Hid (Below w.heap.size w wr) := HB3.out.trans (hbr.mono (by omega))
      have HB := Hid.mk hbr
      have hzr := hbr.size
      have yr : ∀ o, wr.cell? ⟨w.heap.size, o, none⟩ = #[Value.int .i64 ro, .int .i64 co, .string cs, .slice (some ⟨b, off, none⟩) m cap, .int .i64 bu][o]? := fun o => (hbr.cell (p := ⟨w.heap.size, o, none⟩) hz3).trans (Y3.out o)
      clear hbr
      have hN := HN1.out
      by_cases hlt : t < T
      · have a1 : (t : Int) + 1 < (N1 : Int) := by omega
        have a2 : t < N1 := by omega
        have a3 : t + 1 < N1 := by omega
        have a6 : (t : Int) < (N1 : Int) := by omega
        have a7 : ((t : Int) + 1).toNat = t + 1 := by omega
        have a8 : (0 : Int) ≤ (t : Int) + 1 := by omega
        have a9 : IntKind.i64.wrap ((t : Int) + 1) = (t : Int) + 1 := wrap_mid (by omega) (by omega)
        have a4 := cell_later HW.out (HP.out t (by omega))
        have a5 := cell_later HW.out (HP.out (t + 1) (by omega))
        rw [show natV p t = Value.int .i64 (p t : Nat) from rfl] at a4
        rw [show natV p (t + 1) = Value.int .i64 (p (t + 1) : Nat) from rfl] at a5
        have hpN := HO.out.inN (t + 1) (by omega)
        have z0 := yr 0
        have z1 := yr 1
        have z2 := yr 2
        have z3 := yr 3
        have z4 := yr 4
        simp only [List.getElem?_toArray, List.getElem?_cons_zero, List.getElem?_cons_succ] at z0 z1 z2 z3 z4
        have hzw : w.heap.size < wr.heap.size := by omega
        have hzg : gp < wr.heap.size := by omega
        clear hN
        go_wp2_with fail
        go_region_held3 (fun w' => w'.cell? ⟨w.heap.size, 0, none⟩ = some (.int .i64 ro) ∧ w'.cell? ⟨w.heap.size, 1, none⟩ = some (.int .i64 co) ∧ w'.cell? ⟨w.heap.size, 2, none⟩ = some (.string cs) ∧ w'.cell? ⟨w.heap.size, 3, none⟩ = some (.slice (some ⟨b, off, none⟩) m cap) ∧ w'.cell? ⟨w.heap.size, 4, none⟩ = some (.int .i64 bu) ∧ w'.cell? ⟨gp, t, none⟩ = some (.int .i64 (p t : Nat)) ∧ w'.cell? ⟨gp, t + 1, none⟩ = some (.int .i64 (p (t + 1) : Nat))) (go_keep)
          (first
            | (go_at_call_of 53 (Value.int IntKind.i64 (t : Int)); refine (goes_nat _ _ _ _ _ _ _ _ R (p t) (p (t + 1)) t _ hs h1 h2 hn (by omega) (by omega) (HA.out.below (by exact HW.out.drew))).mono ?_; rintro e w4 ⟨rfl, hb4⟩; obtain ⟨q0, q1, q2, q3, q4⟩ : w4.cell? ⟨w.heap.size, 0, none⟩ = some (.int .i64 ro) ∧ w4.cell? ⟨w.heap.size, 1, none⟩ = some (.int .i64 co) ∧ w4.cell? ⟨w.heap.size, 2, none⟩ = some (.string cs) ∧ w4.cell? ⟨w.heap.size, 3, none⟩ = some (.slice (some ⟨b, off, none⟩) m cap) ∧ w4.cell? ⟨w.heap.size, 4, none⟩ = some (.int .i64 bu) := ⟨(hb4.cell (p := ⟨w.heap.size, 0, none⟩) hzw).trans z0, (hb4.cell (p := ⟨w.heap.size, 1, none⟩) hzw).trans z1, (hb4.cell (p := ⟨w.heap.size, 2, none⟩) hzw).trans z2, (hb4.cell (p := ⟨w.heap.size, 3, none⟩) hzw).trans z3, (hb4.cell (p := ⟨w.heap.size, 4, none⟩) hzw).trans z4⟩; have q5 : w4.cell? ⟨gp, t, none⟩ = some (.int .i64 (p t : Nat)) := (hb4.cell (p := ⟨gp, t, none⟩) hzg).trans a4; have q6 : w4.cell? ⟨gp, t + 1, none⟩ = some (.int .i64 (p (t + 1) : Nat)) := (hb4.cell (p := ⟨gp, t + 1, none⟩) hzg).trans a5))
        rw [HO.out.step t hlt]
        have HB4 : Hid (Below w3.heap.size w3 w4) := HB.out.drew.trans (hb4.mono (by show w3.heap.size ≤ wr.heap.size; omega))
        clear hb4 yr a4 a5 z0 z1 z2 z3 z4
        go_wp2
        go_roundw
        case rel => exact ⟨t + 1, by omega, by go_num, HB4.out⟩
        case measure => simp [intOf]; omega
      · have e0 : t = T := by omega
        subst e0
        have a1 : ¬ (t : Int) + 1 < (N1 : Int) := by omega
        have a4 := cell_later HW.out (HP.out t (by omega))
        rw [show natV p t = Value.int .i64 (p t : Nat) from rfl, HO.out.last] at a4
        have hcN := HO.out.inN t (by omega)
        rw [HO.out.last] at hcN
        have z0 := yr 0
        have z1 := yr 1
        have z2 := yr 2
        have z3 := yr 3
        have z4 := yr 4
        simp only [List.getElem?_toArray, List.getElem?_cons_zero, List.getElem?_cons_succ] at z0 z1 z2 z3 z4
        have hzw : w.heap.size < wr.heap.size := by omega
        have hzg : gp < wr.heap.size := by omega
        clear hN
        go_wp2_with fail
        go_region_held3 (fun w' => w'.cell? ⟨w.heap.size, 0, none⟩ = some (.int .i64 ro) ∧ w'.cell? ⟨w.heap.size, 1, none⟩ = some (.int .i64 co) ∧ w'.cell? ⟨w.heap.size, 2, none⟩ = some (.string cs) ∧ w'.cell? ⟨w.heap.size, 3, none⟩ = some (.slice (some ⟨b, off, none⟩) m cap) ∧ w'.cell? ⟨w.heap.size, 4, none⟩ = some (.int .i64 bu) ∧ w'.cell? ⟨gp, t, none⟩ = some (.int .i64 (c : Int))) (go_keep)
          (first
            | (go_at_call_of 50 (Value.int IntKind.i64 (t : Int)); refine (stays_any _ _ _ _ _ _ _ _ R c t _ hs h1 h2 hn (by omega) (HA.out.below (by exact HW.out.drew))).mono ?_; rintro e w4 ⟨rfl, hb4⟩; obtain ⟨q0, q1, q2, q3, q4⟩ : w4.cell? ⟨w.heap.size, 0, none⟩ = some (.int .i64 ro) ∧ w4.cell? ⟨w.heap.size, 1, none⟩ = some (.int .i64 co) ∧ w4.cell? ⟨w.heap.size, 2, none⟩ = some (.string cs) ∧ w4.cell? ⟨w.heap.size, 3, none⟩ = some (.slice (some ⟨b, off, none⟩) m cap) ∧ w4.cell? ⟨w.heap.size, 4, none⟩ = some (.int .i64 bu) := ⟨(hb4.cell (p := ⟨w.heap.size, 0, none⟩) hzw).trans z0, (hb4.cell (p := ⟨w.heap.size, 1, none⟩) hzw).trans z1, (hb4.cell (p := ⟨w.heap.size, 2, none⟩) hzw).trans z2, (hb4.cell (p := ⟨w.heap.size, 3, none⟩) hzw).trans z3, (hb4.cell (p := ⟨w.heap.size, 4, none⟩) hzw).trans z4⟩; have q5 : w4.cell? ⟨gp, t, none⟩ = some (.int .i64 (c : Int)) := (hb4.cell (p := ⟨gp, t, none⟩) hzg).trans a4))
        rw [HO.out.stay]
        have HB4 : Hid (Below w.heap.size w w4) := HW.out.drew.trans (hb4.mono (by show w.heap.size ≤ wr.heap.size; omega))
        clear hb4 yr a4 z0 z1 z2 z3 z4
        go_wp2
        go_ret
        exact ⟨rfl, HB4.out⟩
  · obtain ⟨T', hT'⟩ : ∃ T', T' + 1 = T := ⟨T - 1, by omega⟩
    have q01 := cell_later HB0.out (HP.out T' (by omega))
    rw [show natV p T' = Value.int .i64 (p T' : Nat) from rfl] at q01
    have hq : (((p T' : Nat) : Int) == (c : Int)) = false := by
      have := HO.out.nowait T' hT'
      simp; omega
    have hN := HN1.out
    have j1 : (1 : Int) < (N1 : Int) := by omega
    have v2 : IntKind.i64.wrap ((N1 : Int) - 2) = (T' : Int) := by
      rw [show (N1 : Int) - 2 = (T' : Int) by omega]; exact wrap_mid (by omega) (by omega)
    have j2 : (T' : Int) < (N1 : Int) := by omega
    have j2n : T' < N1 := by omega
    have HT := Hid.mk hT'
    clear hT0 hT' hN
    go_quiet (fail)
    go_wp2_with fail
    have HBq : Hid (Below w.heap.size w (w1.drewN nq)) := below_drewN HB0.out _
    have yq : ∀ o, (w1.drewN nq).cell? ⟨w.heap.size, o, none⟩ = #[Value.int .i64 ro, .int .i64 co, .string cs, .slice (some ⟨b, off, none⟩) m cap, .int .i64 bu][o]? := y0
    have hzq : w.heap.size < (w1.drewN nq).heap.size := hz0
    generalize w1.drewN nq = w2 at *
    refine (on_any _ _ _ R _ _ _ hn (HA.out.below (by exact HBq.out))).mono ?_
    rintro e w3 ⟨rfl, hb3⟩
    rw [HO.out.on0]
    have HB3 : Hid (Below w.heap.size w w3) := HBq.out.trans (hb3.mono (by omega))
    have Y3 : Hid (∀ o, w3.cell? ⟨w.heap.size, o, none⟩ = #[Value.int .i64 ro, .int .i64 co, .string cs, .slice (some ⟨b, off, none⟩) m cap, .int .i64 bu][o]?) := fun o => (hb3.cell (p := ⟨w.heap.size, o, none⟩) hzq).trans (yq o)
    have hz3 : w.heap.size < w3.heap.size := by have := hb3.size; omega
    clear yq y0 y3 hcf1 hct1 p01 pT1 hb3 j1 q01 hq v2 j2 j2n
    go_wp2
    go_loopw [11] (fun s wr => ∃ t : Nat, t ≤ T ∧ s = .int .i64 t ∧ Below w3.heap.size w3 wr) (fun s _ => T - (intOf s).toNat)
    case atStart => exact ⟨0, Nat.zero_le _, rfl, Below.refl _ _⟩
    case round =>
      obtain ⟨t, ht, rfl, hbr⟩ := hrel
      have HW : Hid (Below w.heap.size w wr) := HB3.out.trans (hbr.mono (by omega))
      have HB := Hid.mk hbr
      have hzr := hbr.size
      have yr : ∀ o, wr.cell? ⟨w.heap.size, o, none⟩ = #[Value.int .i64 ro, .int .i64 co, .string cs, .slice (some ⟨b, off, none⟩) m cap, .int .i64 bu][o]? := fun o => (hbr.cell (p := ⟨w.heap.size, o, none⟩) hz3).trans (Y3.out o)
      clear hbr
      have hN := HN1.out
      by_cases hlt : t < T
      · have a1 : (t : Int) + 1 < (N1 : Int) := by omega
        have a2 : t < N1 := by omega
        have a3 : t + 1 < N1 := by omega
        have a6 : (t : Int) < (N1 : Int) := by omega
        have a7 : ((t : Int) + 1).toNat = t + 1 := by omega
        have a8 : (0 : Int) ≤ (t : Int) + 1 := by omega
        have a9 : IntKind.i64.wrap ((t : Int) + 1) = (t : Int) + 1 := wrap_mid (by omega) (by omega)
        have a4 := cell_later HW.out (HP.out t (by omega))
        have a5 := cell_later HW.out (HP.out (t + 1) (by omega))
        rw [show natV p t = Value.int .i64 (p t : Nat) from rfl] at a4
        rw [show natV p (t + 1) = Value.int .i64 (p (t + 1) : Nat) from rfl] at a5
        have hpN := HO.out.inN (t + 1) (by omega)
        have z0 := yr 0
        have z1 := yr 1
        have z2 := yr 2
        have z3 := yr 3
        have z4 := yr 4
        simp only [List.getElem?_toArray, List.getElem?_cons_zero, List.getElem?_cons_succ] at z0 z1 z2 z3 z4
        have hzw : w.heap.size < wr.heap.size := by omega
        have hzg : gp < wr.heap.size := by omega
        clear hN
        go_wp2_with fail
        go_region_held3 (fun w' => w'.cell? ⟨w.heap.size, 0, none⟩ = some (.int .i64 ro) ∧ w'.cell? ⟨w.heap.size, 1, none⟩ = some (.int .i64 co) ∧ w'.cell? ⟨w.heap.size, 2, none⟩ = some (.string cs) ∧ w'.cell? ⟨w.heap.size, 3, none⟩ = some (.slice (some ⟨b, off, none⟩) m cap) ∧ w'.cell? ⟨w.heap.size, 4, none⟩ = some (.int .i64 bu) ∧ w'.cell? ⟨gp, t, none⟩ = some (.int .i64 (p t : Nat)) ∧ w'.cell? ⟨gp, t + 1, none⟩ = some (.int .i64 (p (t + 1) : Nat))) (go_keep)
          (first
            | (go_at_call_of 53 (Value.int IntKind.i64 (t : Int)); refine (goes_nat _ _ _ _ _ _ _ _ R (p t) (p (t + 1)) t _ hs h1 h2 hn (by omega) (by omega) (HA.out.below (by exact HW.out.drew))).mono ?_; rintro e w4 ⟨rfl, hb4⟩; obtain ⟨q0, q1, q2, q3, q4⟩ : w4.cell? ⟨w.heap.size, 0, none⟩ = some (.int .i64 ro) ∧ w4.cell? ⟨w.heap.size, 1, none⟩ = some (.int .i64 co) ∧ w4.cell? ⟨w.heap.size, 2, none⟩ = some (.string cs) ∧ w4.cell? ⟨w.heap.size, 3, none⟩ = some (.slice (some ⟨b, off, none⟩) m cap) ∧ w4.cell? ⟨w.heap.size, 4, none⟩ = some (.int .i64 bu) := ⟨(hb4.cell (p := ⟨w.heap.size, 0, none⟩) hzw).trans z0, (hb4.cell (p := ⟨w.heap.size, 1, none⟩) hzw).trans z1, (hb4.cell (p := ⟨w.heap.size, 2, none⟩) hzw).trans z2, (hb4.cell (p := ⟨w.heap.size, 3, none⟩) hzw).trans z3, (hb4.cell (p := ⟨w.heap.size, 4, none⟩) hzw).trans z4⟩; have q5 : w4.cell? ⟨gp, t, none⟩ = some (.int .i64 (p t : Nat)) := (hb4.cell (p := ⟨gp, t, none⟩) hzg).trans a4; have q6 : w4.cell? ⟨gp, t + 1, none⟩ = some (.int .i64 (p (t + 1) : Nat)) := (hb4.cell (p := ⟨gp, t + 1, none⟩) hzg).trans a5))
        rw [HO.out.step t hlt]
        have HB4 : Hid (Below w3.heap.size w3 w4) := HB.out.drew.trans (hb4.mono (by show w3.heap.size ≤ wr.heap.size; omega))
        clear hb4 yr a4 a5 z0 z1 z2 z3 z4
        go_wp2
        go_roundw
        case rel => exact ⟨t + 1, by omega, by go_num, HB4.out⟩
        case measure => simp [intOf]; omega
      · have e0 : t = T := by omega
        subst e0
        have a1 : ¬ (t : Int) + 1 < (N1 : Int) := by omega
        have a4 := cell_later HW.out (HP.out t (by omega))
        rw [show natV p t = Value.int .i64 (p t : Nat) from rfl, HO.out.last] at a4
        have hcN := HO.out.inN t (by omega)
        rw [HO.out.last] at hcN
        have z0 := yr 0
        have z1 := yr 1
        have z2 := yr 2
        have z3 := yr 3
        have z4 := yr 4
        simp only [List.getElem?_toArray, List.getElem?_cons_zero, List.getElem?_cons_succ] at z0 z1 z2 z3 z4
        have hzw : w.heap.size < wr.heap.size := by omega
        have hzg : gp < wr.heap.size := by omega
        clear hN
        go_wp2_with fail
        go_region_held3 (fun w' => w'.cell? ⟨w.heap.size, 0, none⟩ = some (.int .i64 ro) ∧ w'.cell? ⟨w.heap.size, 1, none⟩ = some (.int .i64 co) ∧ w'.cell? ⟨w.heap.size, 2, none⟩ = some (.string cs) ∧ w'.cell? ⟨w.heap.size, 3, none⟩ = some (.slice (some ⟨b, off, none⟩) m cap) ∧ w'.cell? ⟨w.heap.size, 4, none⟩ = some (.int .i64 bu) ∧ w'.cell? ⟨gp, t, none⟩ = some (.int .i64 (c : Int))) (go_keep)
          (first
            | (go_at_call_of 50 (Value.int IntKind.i64 (t : Int)); refine (stays_any _ _ _ _ _ _ _ _ R c t _ hs h1 h2 hn (by omega) (HA.out.below (by exact HW.out.drew))).mono ?_; rintro e w4 ⟨rfl, hb4⟩; obtain ⟨q0, q1, q2, q3, q4⟩ : w4.cell? ⟨w.heap.size, 0, none⟩ = some (.int .i64 ro) ∧ w4.cell? ⟨w.heap.size, 1, none⟩ = some (.int .i64 co) ∧ w4.cell? ⟨w.heap.size, 2, none⟩ = some (.string cs) ∧ w4.cell? ⟨w.heap.size, 3, none⟩ = some (.slice (some ⟨b, off, none⟩) m cap) ∧ w4.cell? ⟨w.heap.size, 4, none⟩ = some (.int .i64 bu) := ⟨(hb4.cell (p := ⟨w.heap.size, 0, none⟩) hzw).trans z0, (hb4.cell (p := ⟨w.heap.size, 1, none⟩) hzw).trans z1, (hb4.cell (p := ⟨w.heap.size, 2, none⟩) hzw).trans z2, (hb4.cell (p := ⟨w.heap.size, 3, none⟩) hzw).trans z3, (hb4.cell (p := ⟨w.heap.size, 4, none⟩) hzw).trans z4⟩; have q5 : w4.cell? ⟨gp, t, none⟩ = some (.int .i64 (c : Int)) := (hb4.cell (p := ⟨gp, t, none⟩) hzg).trans a4))
        rw [HO.out.stay]
        have HB4 : Hid (Below w.heap.size w w4) := HW.out.drew.trans (hb4.mono (by show w.heap.size ≤ wr.heap.size; omega))
        clear hb4 yr a4 z0 z1 z2 z3 z4
        go_wp2
        go_ret
        exact ⟨rfl, HB4.out⟩

end Go.Proofs.YtaldfpoolajoiaaDoor
