/- Walk of the program's newTrip. -/
import Derived.Test.YtaldfpoolajoiaaDoorSe
import Derived.Deep.RegionHeld3
import Derived.Deep.DeepCutAuto
namespace Go.Proofs.YtaldfpoolajoiaaDoor
open Go.RowKit M

/-- A trip as a value. -/
def tripV (ro co bu : Int) (cs : ByteArray) (ac : Option Addr) (mc cc : Nat) (f c : Int) (bs bt : Nat) (S : Int) : Value :=
  .agg #[.int .i64 ro, .int .i64 co, .string cs, .slice ac mc cc, .int .i64 bu, .int .i64 f, .int .i64 c, .map (some bs), .map (some bt), .int .i64 S]

set_option maxRecDepth 100000 in
set_option maxHeartbeats 4000000 in
theorem newTrip_any (ro co bu f c : Int) (cs : ByteArray) (ac : Option Addr) (mc cc : Nat) (a : Option Addr) (n cap : Nat) (R : Nat → RuleM) (w : World) (hs : cs.size ≤ 36) (hr : rulesB cs.size n R = true) (hwf : RulesWf n R) (ha : RulesAt w a n R) :
    Calls Tryd.prog 70 #[.agg #[.int .i64 ro, .int .i64 co, .string cs, .slice ac mc cc, .int .i64 bu], .agg #[.int .i64 f, .int .i64 c], .slice a n cap] w fun e w' =>
      ∃ bs bt, e = .returned (tripV ro co bu cs ac mc cc f c bs bt (settledM c R n)) ∧ w.heap.size ≤ bs ∧ w.heap.size ≤ bt ∧ BansIn w' bs bt cs.size n R ∧ Below w.heap.size w w' := by
  have HA := Hid.mk ha
  have HR := Hid.mk hr
  have HWF := Hid.mk hwf
  clear ha hr hwf
  go_enter Tryd.func70, Tryd.ntmps70
  go_upto_region 1 with fail
  have HB3 : Hid (Below w.heap.size w ((((w.alloc (Obj.cells #[Value.int IntKind.i64 ro, Value.int IntKind.i64 co, Value.string cs, .slice ac mc cc, Value.int IntKind.i64 bu] 24)).alloc (Obj.cells #[Value.int IntKind.i64 f, Value.int IntKind.i64 c] 62)).alloc (Obj.cells #[Value.int IntKind.i64 0, Value.int IntKind.i64 0, Value.string { data := #[] }, Value.slice none 0 0, Value.int IntKind.i64 0, Value.int IntKind.i64 0, Value.int IntKind.i64 0, Value.map none, Value.map none, Value.int IntKind.i64 0] 105)))) := (((Below.refl _ w).alloc (Nat.le_refl _) _).alloc (by simp) _).alloc (by simp; omega) _
  have k0 : ((((w.alloc (Obj.cells #[Value.int IntKind.i64 ro, Value.int IntKind.i64 co, Value.string cs, .slice ac mc cc, Value.int IntKind.i64 bu] 24)).alloc (Obj.cells #[Value.int IntKind.i64 f, Value.int IntKind.i64 c] 62)).alloc (Obj.cells #[Value.int IntKind.i64 0, Value.int IntKind.i64 0, Value.string { data := #[] }, Value.slice none 0 0, Value.int IntKind.i64 0, Value.int IntKind.i64 0, Value.int IntKind.i64 0, Value.map none, Value.map none, Value.int IntKind.i64 0] 105))).cell? ⟨w.heap.size, 0, none⟩ = some (.int .i64 ro) := by go_simp
  have k1 : ((((w.alloc (Obj.cells #[Value.int IntKind.i64 ro, Value.int IntKind.i64 co, Value.string cs, .slice ac mc cc, Value.int IntKind.i64 bu] 24)).alloc (Obj.cells #[Value.int IntKind.i64 f, Value.int IntKind.i64 c] 62)).alloc (Obj.cells #[Value.int IntKind.i64 0, Value.int IntKind.i64 0, Value.string { data := #[] }, Value.slice none 0 0, Value.int IntKind.i64 0, Value.int IntKind.i64 0, Value.int IntKind.i64 0, Value.map none, Value.map none, Value.int IntKind.i64 0] 105))).cell? ⟨w.heap.size, 1, none⟩ = some (.int .i64 co) := by go_simp
  have k2 : ((((w.alloc (Obj.cells #[Value.int IntKind.i64 ro, Value.int IntKind.i64 co, Value.string cs, .slice ac mc cc, Value.int IntKind.i64 bu] 24)).alloc (Obj.cells #[Value.int IntKind.i64 f, Value.int IntKind.i64 c] 62)).alloc (Obj.cells #[Value.int IntKind.i64 0, Value.int IntKind.i64 0, Value.string { data := #[] }, Value.slice none 0 0, Value.int IntKind.i64 0, Value.int IntKind.i64 0, Value.int IntKind.i64 0, Value.map none, Value.map none, Value.int IntKind.i64 0] 105))).cell? ⟨w.heap.size, 2, none⟩ = some (.string cs) := by go_simp
  have k3 : ((((w.alloc (Obj.cells #[Value.int IntKind.i64 ro, Value.int IntKind.i64 co, Value.string cs, .slice ac mc cc, Value.int IntKind.i64 bu] 24)).alloc (Obj.cells #[Value.int IntKind.i64 f, Value.int IntKind.i64 c] 62)).alloc (Obj.cells #[Value.int IntKind.i64 0, Value.int IntKind.i64 0, Value.string { data := #[] }, Value.slice none 0 0, Value.int IntKind.i64 0, Value.int IntKind.i64 0, Value.int IntKind.i64 0, Value.map none, Value.map none, Value.int IntKind.i64 0] 105))).cell? ⟨w.heap.size, 3, none⟩ = some (.slice ac mc cc) := by go_simp
  have k4 : ((((w.alloc (Obj.cells #[Value.int IntKind.i64 ro, Value.int IntKind.i64 co, Value.string cs, .slice ac mc cc, Value.int IntKind.i64 bu] 24)).alloc (Obj.cells #[Value.int IntKind.i64 f, Value.int IntKind.i64 c] 62)).alloc (Obj.cells #[Value.int IntKind.i64 0, Value.int IntKind.i64 0, Value.string { data := #[] }, Value.slice none 0 0, Value.int IntKind.i64 0, Value.int IntKind.i64 0, Value.int IntKind.i64 0, Value.map none, Value.map none, Value.int IntKind.i64 0] 105))).cell? ⟨w.heap.size, 4, none⟩ = some (.int .i64 bu) := by go_simp
  have k5 : ((((w.alloc (Obj.cells #[Value.int IntKind.i64 ro, Value.int IntKind.i64 co, Value.string cs, .slice ac mc cc, Value.int IntKind.i64 bu] 24)).alloc (Obj.cells #[Value.int IntKind.i64 f, Value.int IntKind.i64 c] 62)).alloc (Obj.cells #[Value.int IntKind.i64 0, Value.int IntKind.i64 0, Value.string { data := #[] }, Value.slice none 0 0, Value.int IntKind.i64 0, Value.int IntKind.i64 0, Value.int IntKind.i64 0, Value.map none, Value.map none, Value.int IntKind.i64 0] 105))).cell? ⟨w.heap.size + 1, 0, none⟩ = some (.int .i64 f) := by go_simp
  have k6 : ((((w.alloc (Obj.cells #[Value.int IntKind.i64 ro, Value.int IntKind.i64 co, Value.string cs, .slice ac mc cc, Value.int IntKind.i64 bu] 24)).alloc (Obj.cells #[Value.int IntKind.i64 f, Value.int IntKind.i64 c] 62)).alloc (Obj.cells #[Value.int IntKind.i64 0, Value.int IntKind.i64 0, Value.string { data := #[] }, Value.slice none 0 0, Value.int IntKind.i64 0, Value.int IntKind.i64 0, Value.int IntKind.i64 0, Value.map none, Value.map none, Value.int IntKind.i64 0] 105))).cell? ⟨w.heap.size + 1, 1, none⟩ = some (.int .i64 c) := by go_simp
  have r3 : ∀ o, ((((w.alloc (Obj.cells #[Value.int IntKind.i64 ro, Value.int IntKind.i64 co, Value.string cs, .slice ac mc cc, Value.int IntKind.i64 bu] 24)).alloc (Obj.cells #[Value.int IntKind.i64 f, Value.int IntKind.i64 c] 62)).alloc (Obj.cells #[Value.int IntKind.i64 0, Value.int IntKind.i64 0, Value.string { data := #[] }, Value.slice none 0 0, Value.int IntKind.i64 0, Value.int IntKind.i64 0, Value.int IntKind.i64 0, Value.map none, Value.map none, Value.int IntKind.i64 0] 105))).cell? ⟨w.heap.size + 1 + 1, o, none⟩ = #[Value.int IntKind.i64 0, Value.int IntKind.i64 0, Value.string { data := #[] }, Value.slice none 0 0, Value.int IntKind.i64 0, Value.int IntKind.i64 0, Value.int IntKind.i64 0, Value.map none, Value.map none, Value.int IntKind.i64 0][o]? := by
    intro o; go_simp
  have rf3 : ∀ o, ((((w.alloc (Obj.cells #[Value.int IntKind.i64 ro, Value.int IntKind.i64 co, Value.string cs, .slice ac mc cc, Value.int IntKind.i64 bu] 24)).alloc (Obj.cells #[Value.int IntKind.i64 f, Value.int IntKind.i64 c] 62)).alloc (Obj.cells #[Value.int IntKind.i64 0, Value.int IntKind.i64 0, Value.string { data := #[] }, Value.slice none 0 0, Value.int IntKind.i64 0, Value.int IntKind.i64 0, Value.int IntKind.i64 0, Value.map none, Value.map none, Value.int IntKind.i64 0] 105))).frozen? ⟨w.heap.size + 1 + 1, o, none⟩ = false := by
    intro o; go_simp
  have hz3 : ((((w.alloc (Obj.cells #[Value.int IntKind.i64 ro, Value.int IntKind.i64 co, Value.string cs, .slice ac mc cc, Value.int IntKind.i64 bu] 24)).alloc (Obj.cells #[Value.int IntKind.i64 f, Value.int IntKind.i64 c] 62)).alloc (Obj.cells #[Value.int IntKind.i64 0, Value.int IntKind.i64 0, Value.string { data := #[] }, Value.slice none 0 0, Value.int IntKind.i64 0, Value.int IntKind.i64 0, Value.int IntKind.i64 0, Value.map none, Value.map none, Value.int IntKind.i64 0] 105))).heap.size = w.heap.size + 3 := by simp
  generalize (((w.alloc (Obj.cells #[Value.int IntKind.i64 ro, Value.int IntKind.i64 co, Value.string cs, .slice ac mc cc, Value.int IntKind.i64 bu] 24)).alloc (Obj.cells #[Value.int IntKind.i64 f, Value.int IntKind.i64 c] 62)).alloc (Obj.cells #[Value.int IntKind.i64 0, Value.int IntKind.i64 0, Value.string { data := #[] }, Value.slice none 0 0, Value.int IntKind.i64 0, Value.int IntKind.i64 0, Value.int IntKind.i64 0, Value.map none, Value.map none, Value.int IntKind.i64 0] 105)) = w3 at *
  have R3 := Hid.mk r3
  have RF3 := Hid.mk rf3
  clear r3 rf3
  have e0 : w.heap.size < w3.heap.size := by omega
  have e1 : w.heap.size + 1 < w3.heap.size := by omega
  have e2 : w.heap.size + 1 + 1 < w3.heap.size := by omega
  have n0 : w.heap.size + 1 + 1 ≠ w.heap.size := by omega
  have n1 : w.heap.size ≠ w.heap.size + 1 + 1 := by omega
  go_region_held3 (fun w' => w'.cell? ⟨w.heap.size, 0, none⟩ = some (.int .i64 ro) ∧ w'.cell? ⟨w.heap.size, 1, none⟩ = some (.int .i64 co) ∧ w'.cell? ⟨w.heap.size, 2, none⟩ = some (.string cs) ∧ w'.cell? ⟨w.heap.size, 3, none⟩ = some (.slice ac mc cc) ∧ w'.cell? ⟨w.heap.size, 4, none⟩ = some (.int .i64 bu) ∧ w'.cell? ⟨w.heap.size + 1, 0, none⟩ = some (.int .i64 f) ∧ w'.cell? ⟨w.heap.size + 1, 1, none⟩ = some (.int .i64 c)) (go_keep)
    (first
      | (go_at_call_of 83 (Value.int IntKind.i64 ro); refine (bansOf_any _ _ _ _ _ _ _ _ R _ hs HR.out HWF.out (HA.out.below (by exact HB3.out.drew))).mono ?_; rintro e w4 ⟨bs, bt, rfl, hbs, hbt, hban, hb4⟩; have q40 : w4.cell? ⟨w.heap.size, 0, none⟩ = some (.int .i64 ro) := (hb4.cell (p := ⟨w.heap.size, 0, none⟩) e0).trans k0; have q41 : w4.cell? ⟨w.heap.size, 1, none⟩ = some (.int .i64 co) := (hb4.cell (p := ⟨w.heap.size, 1, none⟩) e0).trans k1; have q42 : w4.cell? ⟨w.heap.size, 2, none⟩ = some (.string cs) := (hb4.cell (p := ⟨w.heap.size, 2, none⟩) e0).trans k2; have q43 : w4.cell? ⟨w.heap.size, 3, none⟩ = some (.slice ac mc cc) := (hb4.cell (p := ⟨w.heap.size, 3, none⟩) e0).trans k3; have q44 : w4.cell? ⟨w.heap.size, 4, none⟩ = some (.int .i64 bu) := (hb4.cell (p := ⟨w.heap.size, 4, none⟩) e0).trans k4; have q45 : w4.cell? ⟨w.heap.size + 1, 0, none⟩ = some (.int .i64 f) := (hb4.cell (p := ⟨w.heap.size + 1, 0, none⟩) e1).trans k5; have q46 : w4.cell? ⟨w.heap.size + 1, 1, none⟩ = some (.int .i64 c) := (hb4.cell (p := ⟨w.heap.size + 1, 1, none⟩) e1).trans k6; have r4 : ∀ o, w4.cell? ⟨w.heap.size + 1 + 1, o, none⟩ = #[Value.int IntKind.i64 0, Value.int IntKind.i64 0, Value.string { data := #[] }, Value.slice none 0 0, Value.int IntKind.i64 0, Value.int IntKind.i64 0, Value.int IntKind.i64 0, Value.map none, Value.map none, Value.int IntKind.i64 0][o]? := fun o => (hb4.cell (p := ⟨w.heap.size + 1 + 1, o, none⟩) e2).trans (R3.out o); have rf4 : ∀ o, w4.frozen? ⟨w.heap.size + 1 + 1, o, none⟩ = false := fun o => (hb4.frozen (p := ⟨w.heap.size + 1 + 1, o, none⟩) e2).trans (RF3.out o); have g0 : w.heap.size < w4.heap.size := Nat.lt_of_lt_of_le e0 hb4.size; have g1 : w.heap.size + 1 < w4.heap.size := Nat.lt_of_lt_of_le e1 hb4.size; have g2 : w.heap.size + 1 + 1 < w4.heap.size := Nat.lt_of_lt_of_le e2 hb4.size)
      | (go_at_call_of 84 (Value.int IntKind.i64 c); refine (settled_any c _ _ _ cs.size R _ HR.out (HA.out.below (by exact HB3.out.drew.trans (hb4.mono (Nat.le_of_lt e0))))).mono ?_; rintro e w5 ⟨rfl, hb5⟩; have q50 : w5.cell? ⟨w.heap.size, 0, none⟩ = some (.int .i64 ro) := (hb5.cell (p := ⟨w.heap.size, 0, none⟩) g0).trans q40; have q51 : w5.cell? ⟨w.heap.size, 1, none⟩ = some (.int .i64 co) := (hb5.cell (p := ⟨w.heap.size, 1, none⟩) g0).trans q41; have q52 : w5.cell? ⟨w.heap.size, 2, none⟩ = some (.string cs) := (hb5.cell (p := ⟨w.heap.size, 2, none⟩) g0).trans q42; have q53 : w5.cell? ⟨w.heap.size, 3, none⟩ = some (.slice ac mc cc) := (hb5.cell (p := ⟨w.heap.size, 3, none⟩) g0).trans q43; have q54 : w5.cell? ⟨w.heap.size, 4, none⟩ = some (.int .i64 bu) := (hb5.cell (p := ⟨w.heap.size, 4, none⟩) g0).trans q44; have q55 : w5.cell? ⟨w.heap.size + 1, 0, none⟩ = some (.int .i64 f) := (hb5.cell (p := ⟨w.heap.size + 1, 0, none⟩) g1).trans q45; have q56 : w5.cell? ⟨w.heap.size + 1, 1, none⟩ = some (.int .i64 c) := (hb5.cell (p := ⟨w.heap.size + 1, 1, none⟩) g1).trans q46; have r5 : ∀ o, w5.cell? ⟨w.heap.size + 1 + 1, o, none⟩ = #[Value.int IntKind.i64 0, Value.int IntKind.i64 0, Value.string { data := #[] }, Value.slice none 0 0, Value.int IntKind.i64 0, Value.int IntKind.i64 0, Value.int IntKind.i64 0, Value.map none, Value.map none, Value.int IntKind.i64 0][o]? := fun o => (hb5.cell (p := ⟨w.heap.size + 1 + 1, o, none⟩) g2).trans (r4 o); have rf5 : ∀ o, w5.frozen? ⟨w.heap.size + 1 + 1, o, none⟩ = false := fun o => (hb5.frozen (p := ⟨w.heap.size + 1 + 1, o, none⟩) g2).trans (rf4 o)))
  have HBAN : Hid (BansIn w5 bs bt cs.size n R) := hban.below hb5
  have hn1 : Hid (bs ≠ w.heap.size + 1 + 1 ∧ bt ≠ w.heap.size + 1 + 1) := by
    have h1 : w3.heap.size ≤ bs := hbs
    have h2 : w3.heap.size ≤ bt := hbt
    exact ⟨by omega, by omega⟩
  have hle : Hid (w.heap.size ≤ bs ∧ w.heap.size ≤ bt) := by
    have h1 : w3.heap.size ≤ bs := hbs
    have h2 : w3.heap.size ≤ bt := hbt
    exact ⟨by omega, by omega⟩
  have HB5 : Hid (Below w.heap.size w w5) := (HB3.out.drew.trans (hb4.mono (Nat.le_of_lt e0))).trans (hb5.mono (Nat.le_of_lt g0))
  clear hban hb4 hb5 hbs hbt
  go_wp2
  refine bodyPost_ret (v := tripV ro co bu cs ac mc cc f c bs bt (settledM c R n)) (by simp [results, Tryd.results70, tripV]; go_simp) rfl ⟨bs, bt, rfl, hle.out.1, hle.out.2, ?_, ?_⟩
  · refine HBAN.out.block ?_ ?_
    · iterate 10 rw [Below.heap_setCell _ _ _ _ (by show bs ≠ w.heap.size + 1 + 1; exact hn1.out.1)]
    · iterate 10 rw [Below.heap_setCell _ _ _ _ (by show bt ≠ w.heap.size + 1 + 1; exact hn1.out.2)]
  · iterate 10 refine Below.setCell ?_ (by show w.heap.size ≤ w.heap.size + 1 + 1; omega) _
    exact HB5.out

end Go.Proofs.YtaldfpoolajoiaaDoor
