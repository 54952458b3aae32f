/- Walk of the program's newTrip. -/
import Derived.Test.YtnkgpinadgacgaaDoorBk
import Derived.Deep.RegionHeld3
import Derived.Deep.DeepCutAuto
import Derived.Test.YtnkgpinadgacgaaDoorBd
import Derived.Test.YtnkgpinadgacgaaDoorBg
import Derived.Test.YtnkgpinadgacgaaDoorBh
import Derived.Test.YtnkgpinadgacgaaDoorBi
import Derived.Test.YtnkgpinadgacgaaDoorBj
import Derived.Deep.LoopGhost
import Derived.Laws.EntriesVeiled
namespace Go.Proofs.YtnkgpinadgacgaaDoor
open Go.RowKit M

/-- A trip as a value. -/
def tripV (ro co bu : Int) (cs : ByteArray) (ac : Option Addr) (mc cc : Nat) (f c : Int) (bs bt : Nat) (S : Int) : Value :=
  .agg #[.int .i64 ro, .int .i64 co, .string cs, .slice ac mc cc, .int .i64 bu, .int .i64 f, .int .i64 c, .map (some bs), .map (some bt), .int .i64 S]

set_option maxRecDepth 100000 in
set_option maxHeartbeats 4000000 in
theorem newTrip_any (ro co bu f c : Int) (cs : ByteArray) (ac : Option Addr) (mc cc : Nat) (a : Option Addr) (n cap : Nat) (R : Nat → RuleM) (w : World) (hs : cs.size ≤ 36) (hr : rulesB cs.size n R = true) (hwf : RulesWf n R) (ha : RulesAt w a n R) :
    Calls Tryd.prog 115 #[.agg #[.int .i64 ro, .int .i64 co, .string cs, .slice ac mc cc, .int .i64 bu], .agg #[.int .i64 f, .int .i64 c], .slice a n cap] w fun e w' =>
      ∃ bs bt, e = .returned (tripV ro co bu cs ac mc cc f c bs bt (settledM c R n)) ∧ w.heap.size ≤ bs ∧ w.heap.size ≤ bt ∧ BansIn w' bs bt cs.size n R ∧ Below w.heap.size w w' := by
  have HA := Hid.mk ha
  have HR := Hid.mk hr
  have HWF := Hid.mk hwf
  clear ha hr hwf
  go_enter Tryd.func115, Tryd.ntmps115
  go_upto_region 1 with fail
  have HB3 : Hid (Below w.heap.size w ((((w.alloc (Obj.cells #[Value.int IntKind.i64 ro, Value.int IntKind.i64 co, Value.string cs, .slice ac mc cc, Value.int IntKind.i64 bu] 24)).alloc (Obj.cells #[Value.int IntKind.i64 f, Value.int IntKind.i64 c] 87)).alloc (Obj.cells #[Value.int IntKind.i64 0, Value.int IntKind.i64 0, Value.string { data := #[] }, Value.slice none 0 0, Value.int IntKind.i64 0, Value.int IntKind.i64 0, Value.int IntKind.i64 0, Value.map none, Value.map none, Value.int IntKind.i64 0] 156)))) := (((Below.refl _ w).alloc (Nat.le_refl _) _).alloc (by simp) _).alloc (by simp; omega) _
  have k0 : ((((w.alloc (Obj.cells #[Value.int IntKind.i64 ro, Value.int IntKind.i64 co, Value.string cs, .slice ac mc cc, Value.int IntKind.i64 bu] 24)).alloc (Obj.cells #[Value.int IntKind.i64 f, Value.int IntKind.i64 c] 87)).alloc (Obj.cells #[Value.int IntKind.i64 0, Value.int IntKind.i64 0, Value.string { data := #[] }, Value.slice none 0 0, Value.int IntKind.i64 0, Value.int IntKind.i64 0, Value.int IntKind.i64 0, Value.map none, Value.map none, Value.int IntKind.i64 0] 156))).cell? ⟨w.heap.size, 0, none⟩ = some (.int .i64 ro) := by go_simp
  have k1 : ((((w.alloc (Obj.cells #[Value.int IntKind.i64 ro, Value.int IntKind.i64 co, Value.string cs, .slice ac mc cc, Value.int IntKind.i64 bu] 24)).alloc (Obj.cells #[Value.int IntKind.i64 f, Value.int IntKind.i64 c] 87)).alloc (Obj.cells #[Value.int IntKind.i64 0, Value.int IntKind.i64 0, Value.string { data := #[] }, Value.slice none 0 0, Value.int IntKind.i64 0, Value.int IntKind.i64 0, Value.int IntKind.i64 0, Value.map none, Value.map none, Value.int IntKind.i64 0] 156))).cell? ⟨w.heap.size, 1, none⟩ = some (.int .i64 co) := by go_simp
  have k2 : ((((w.alloc (Obj.cells #[Value.int IntKind.i64 ro, Value.int IntKind.i64 co, Value.string cs, .slice ac mc cc, Value.int IntKind.i64 bu] 24)).alloc (Obj.cells #[Value.int IntKind.i64 f, Value.int IntKind.i64 c] 87)).alloc (Obj.cells #[Value.int IntKind.i64 0, Value.int IntKind.i64 0, Value.string { data := #[] }, Value.slice none 0 0, Value.int IntKind.i64 0, Value.int IntKind.i64 0, Value.int IntKind.i64 0, Value.map none, Value.map none, Value.int IntKind.i64 0] 156))).cell? ⟨w.heap.size, 2, none⟩ = some (.string cs) := by go_simp
  have k3 : ((((w.alloc (Obj.cells #[Value.int IntKind.i64 ro, Value.int IntKind.i64 co, Value.string cs, .slice ac mc cc, Value.int IntKind.i64 bu] 24)).alloc (Obj.cells #[Value.int IntKind.i64 f, Value.int IntKind.i64 c] 87)).alloc (Obj.cells #[Value.int IntKind.i64 0, Value.int IntKind.i64 0, Value.string { data := #[] }, Value.slice none 0 0, Value.int IntKind.i64 0, Value.int IntKind.i64 0, Value.int IntKind.i64 0, Value.map none, Value.map none, Value.int IntKind.i64 0] 156))).cell? ⟨w.heap.size, 3, none⟩ = some (.slice ac mc cc) := by go_simp
  have k4 : ((((w.alloc (Obj.cells #[Value.int IntKind.i64 ro, Value.int IntKind.i64 co, Value.string cs, .slice ac mc cc, Value.int IntKind.i64 bu] 24)).alloc (Obj.cells #[Value.int IntKind.i64 f, Value.int IntKind.i64 c] 87)).alloc (Obj.cells #[Value.int IntKind.i64 0, Value.int IntKind.i64 0, Value.string { data := #[] }, Value.slice none 0 0, Value.int IntKind.i64 0, Value.int IntKind.i64 0, Value.int IntKind.i64 0, Value.map none, Value.map none, Value.int IntKind.i64 0] 156))).cell? ⟨w.heap.size, 4, none⟩ = some (.int .i64 bu) := by go_simp
  have k5 : ((((w.alloc (Obj.cells #[Value.int IntKind.i64 ro, Value.int IntKind.i64 co, Value.string cs, .slice ac mc cc, Value.int IntKind.i64 bu] 24)).alloc (Obj.cells #[Value.int IntKind.i64 f, Value.int IntKind.i64 c] 87)).alloc (Obj.cells #[Value.int IntKind.i64 0, Value.int IntKind.i64 0, Value.string { data := #[] }, Value.slice none 0 0, Value.int IntKind.i64 0, Value.int IntKind.i64 0, Value.int IntKind.i64 0, Value.map none, Value.map none, Value.int IntKind.i64 0] 156))).cell? ⟨w.heap.size + 1, 0, none⟩ = some (.int .i64 f) := by go_simp
  have k6 : ((((w.alloc (Obj.cells #[Value.int IntKind.i64 ro, Value.int IntKind.i64 co, Value.string cs, .slice ac mc cc, Value.int IntKind.i64 bu] 24)).alloc (Obj.cells #[Value.int IntKind.i64 f, Value.int IntKind.i64 c] 87)).alloc (Obj.cells #[Value.int IntKind.i64 0, Value.int IntKind.i64 0, Value.string { data := #[] }, Value.slice none 0 0, Value.int IntKind.i64 0, Value.int IntKind.i64 0, Value.int IntKind.i64 0, Value.map none, Value.map none, Value.int IntKind.i64 0] 156))).cell? ⟨w.heap.size + 1, 1, none⟩ = some (.int .i64 c) := by go_simp
  have r3 : ∀ o, ((((w.alloc (Obj.cells #[Value.int IntKind.i64 ro, Value.int IntKind.i64 co, Value.string cs, .slice ac mc cc, Value.int IntKind.i64 bu] 24)).alloc (Obj.cells #[Value.int IntKind.i64 f, Value.int IntKind.i64 c] 87)).alloc (Obj.cells #[Value.int IntKind.i64 0, Value.int IntKind.i64 0, Value.string { data := #[] }, Value.slice none 0 0, Value.int IntKind.i64 0, Value.int IntKind.i64 0, Value.int IntKind.i64 0, Value.map none, Value.map none, Value.int IntKind.i64 0] 156))).cell? ⟨w.heap.size + 1 + 1, o, none⟩ = #[Value.int IntKind.i64 0, Value.int IntKind.i64 0, Value.string { data := #[] }, Value.slice none 0 0, Value.int IntKind.i64 0, Value.int IntKind.i64 0, Value.int IntKind.i64 0, Value.map none, Value.map none, Value.int IntKind.i64 0][o]? := by
    intro o; go_simp
  have rf3 : ∀ o, ((((w.alloc (Obj.cells #[Value.int IntKind.i64 ro, Value.int IntKind.i64 co, Value.string cs, .slice ac mc cc, Value.int IntKind.i64 bu] 24)).alloc (Obj.cells #[Value.int IntKind.i64 f, Value.int IntKind.i64 c] 87)).alloc (Obj.cells #[Value.int IntKind.i64 0, Value.int IntKind.i64 0, Value.string { data := #[] }, Value.slice none 0 0, Value.int IntKind.i64 0, Value.int IntKind.i64 0, Value.int IntKind.i64 0, Value.map none, Value.map none, Value.int IntKind.i64 0] 156))).frozen? ⟨w.heap.size + 1 + 1, o, none⟩ = false := by
    intro o; go_simp
  have hz3 : ((((w.alloc (Obj.cells #[Value.int IntKind.i64 ro, Value.int IntKind.i64 co, Value.string cs, .slice ac mc cc, Value.int IntKind.i64 bu] 24)).alloc (Obj.cells #[Value.int IntKind.i64 f, Value.int IntKind.i64 c] 87)).alloc (Obj.cells #[Value.int IntKind.i64 0, Value.int IntKind.i64 0, Value.string { data := #[] }, Value.slice none 0 0, Value.int IntKind.i64 0, Value.int IntKind.i64 0, Value.int IntKind.i64 0, Value.map none, Value.map none, Value.int IntKind.i64 0] 156))).heap.size = w.heap.size + 3 := by simp
  generalize (((w.alloc (Obj.cells #[Value.int IntKind.i64 ro, Value.int IntKind.i64 co, Value.string cs, .slice ac mc cc, Value.int IntKind.i64 bu] 24)).alloc (Obj.cells #[Value.int IntKind.i64 f, Value.int IntKind.i64 c] 87)).alloc (Obj.cells #[Value.int IntKind.i64 0, Value.int IntKind.i64 0, Value.string { data := #[] }, Value.slice none 0 0, Value.int IntKind.i64 0, Value.int IntKind.i64 0, Value.int IntKind.i64 0, Value.map none, Value.map none, Value.int IntKind.i64 0] 156)) = w3 at *
  have R3 := Hid.mk r3
  have RF3 := Hid.mk rf3
  clear r3 rf3
  have e0 : w.heap.size < w3.heap.size := by omega
  have e1 : w.heap.size + 1 < w3.heap.size := by omega
  have e2 : w.heap.size + 1 + 1 < w3.heap.size := by omega
  have n0 : w.heap.size + 1 + 1 ≠ w.heap.size := by omega
  have n1 : w.heap.size ≠ w.heap.size + 1 + 1 := by omega
  go_region_held3 (fun w' => w'.cell? ⟨w.heap.size, 0, none⟩ = some (.int .i64 ro) ∧ w'.cell? ⟨w.heap.size, 1, none⟩ = some (.int .i64 co) ∧ w'.cell? ⟨w.heap.size, 2, none⟩ = some (.string cs) ∧ w'.cell? ⟨w.heap.size, 3, none⟩ = some (.slice ac mc cc) ∧ w'.cell? ⟨w.heap.size, 4, none⟩ = some (.int .i64 bu) ∧ w'.cell? ⟨w.heap.size + 1, 0, none⟩ = some (.int .i64 f) ∧ w'.cell? ⟨w.heap.size + 1, 1, none⟩ = some (.int .i64 c)) (go_keep)
    (first
      | (go_at_call_of 151 (Value.int IntKind.i64 ro); refine (bansOf_any _ _ _ _ _ _ _ _ R _ hs HR.out HWF.out (HA.out.below (by exact HB3.out.drew))).mono ?_; rintro e w4 ⟨bs, bt, rfl, hbs, hbt, hban, hb4⟩; have q40 : w4.cell? ⟨w.heap.size, 0, none⟩ = some (.int .i64 ro) := (hb4.cell (p := ⟨w.heap.size, 0, none⟩) e0).trans k0; have q41 : w4.cell? ⟨w.heap.size, 1, none⟩ = some (.int .i64 co) := (hb4.cell (p := ⟨w.heap.size, 1, none⟩) e0).trans k1; have q42 : w4.cell? ⟨w.heap.size, 2, none⟩ = some (.string cs) := (hb4.cell (p := ⟨w.heap.size, 2, none⟩) e0).trans k2; have q43 : w4.cell? ⟨w.heap.size, 3, none⟩ = some (.slice ac mc cc) := (hb4.cell (p := ⟨w.heap.size, 3, none⟩) e0).trans k3; have q44 : w4.cell? ⟨w.heap.size, 4, none⟩ = some (.int .i64 bu) := (hb4.cell (p := ⟨w.heap.size, 4, none⟩) e0).trans k4; have q45 : w4.cell? ⟨w.heap.size + 1, 0, none⟩ = some (.int .i64 f) := (hb4.cell (p := ⟨w.heap.size + 1, 0, none⟩) e1).trans k5; have q46 : w4.cell? ⟨w.heap.size + 1, 1, none⟩ = some (.int .i64 c) := (hb4.cell (p := ⟨w.heap.size + 1, 1, none⟩) e1).trans k6; have r4 : ∀ o, w4.cell? ⟨w.heap.size + 1 + 1, o, none⟩ = #[Value.int IntKind.i64 0, Value.int IntKind.i64 0, Value.string { data := #[] }, Value.slice none 0 0, Value.int IntKind.i64 0, Value.int IntKind.i64 0, Value.int IntKind.i64 0, Value.map none, Value.map none, Value.int IntKind.i64 0][o]? := fun o => (hb4.cell (p := ⟨w.heap.size + 1 + 1, o, none⟩) e2).trans (R3.out o); have rf4 : ∀ o, w4.frozen? ⟨w.heap.size + 1 + 1, o, none⟩ = false := fun o => (hb4.frozen (p := ⟨w.heap.size + 1 + 1, o, none⟩) e2).trans (RF3.out o); have g0 : w.heap.size < w4.heap.size := Nat.lt_of_lt_of_le e0 hb4.size; have g1 : w.heap.size + 1 < w4.heap.size := Nat.lt_of_lt_of_le e1 hb4.size; have g2 : w.heap.size + 1 + 1 < w4.heap.size := Nat.lt_of_lt_of_le e2 hb4.size)
      | (go_at_call_of 152 (Value.int IntKind.i64 c); refine (settled_any c _ _ _ cs.size R _ HR.out (HA.out.below (by exact HB3.out.drew.trans (hb4.mono (Nat.le_of_lt e0))))).mono ?_; rintro e w5 ⟨rfl, hb5⟩; have q50 : w5.cell? ⟨w.heap.size, 0, none⟩ = some (.int .i64 ro) := (hb5.cell (p := ⟨w.heap.size, 0, none⟩) g0).trans q40; have q51 : w5.cell? ⟨w.heap.size, 1, none⟩ = some (.int .i64 co) := (hb5.cell (p := ⟨w.heap.size, 1, none⟩) g0).trans q41; have q52 : w5.cell? ⟨w.heap.size, 2, none⟩ = some (.string cs) := (hb5.cell (p := ⟨w.heap.size, 2, none⟩) g0).trans q42; have q53 : w5.cell? ⟨w.heap.size, 3, none⟩ = some (.slice ac mc cc) := (hb5.cell (p := ⟨w.heap.size, 3, none⟩) g0).trans q43; have q54 : w5.cell? ⟨w.heap.size, 4, none⟩ = some (.int .i64 bu) := (hb5.cell (p := ⟨w.heap.size, 4, none⟩) g0).trans q44; have q55 : w5.cell? ⟨w.heap.size + 1, 0, none⟩ = some (.int .i64 f) := (hb5.cell (p := ⟨w.heap.size + 1, 0, none⟩) g1).trans q45; have q56 : w5.cell? ⟨w.heap.size + 1, 1, none⟩ = some (.int .i64 c) := (hb5.cell (p := ⟨w.heap.size + 1, 1, none⟩) g1).trans q46; have r5 : ∀ o, w5.cell? ⟨w.heap.size + 1 + 1, o, none⟩ = #[Value.int IntKind.i64 0, Value.int IntKind.i64 0, Value.string { data := #[] }, Value.slice none 0 0, Value.int IntKind.i64 0, Value.int IntKind.i64 0, Value.int IntKind.i64 0, Value.map none, Value.map none, Value.int IntKind.i64 0][o]? := fun o => (hb5.cell (p := ⟨w.heap.size + 1 + 1, o, none⟩) g2).trans (r4 o); have rf5 : ∀ o, w5.frozen? ⟨w.heap.size + 1 + 1, o, none⟩ = false := fun o => (hb5.frozen (p := ⟨w.heap.size + 1 + 1, o, none⟩) g2).trans (rf4 o)))
  have HBAN : Hid (BansIn w5 bs bt cs.size n R) := hban.below hb5
  have hn1 : Hid (bs ≠ w.heap.size + 1 + 1 ∧ bt ≠ w.heap.size + 1 + 1) := by
    have h1 : w3.heap.size ≤ bs := hbs
    have h2 : w3.heap.size ≤ bt := hbt
    exact ⟨by omega, by omega⟩
  have hle : Hid (w.heap.size ≤ bs ∧ w.heap.size ≤ bt) := by
    have h1 : w3.heap.size ≤ bs := hbs
    have h2 : w3.heap.size ≤ bt := hbt
    exact ⟨by omega, by omega⟩
  have HB5 : Hid (Below w.heap.size w w5) := (HB3.out.drew.trans (hb4.mono (Nat.le_of_lt e0))).trans (hb5.mono (Nat.le_of_lt g0))
  clear hban hb4 hb5 hbs hbt
  go_wp2
  refine bodyPost_ret (v := tripV ro co bu cs ac mc cc f c bs bt (settledM c R n)) (by simp [results, Tryd.results115, tripV]; go_simp) rfl ⟨bs, bt, rfl, hle.out.1, hle.out.2, ?_, ?_⟩
  · refine HBAN.out.block ?_ ?_
    · iterate 10 rw [Below.heap_setCell _ _ _ _ (by show bs ≠ w.heap.size + 1 + 1; exact hn1.out.1)]
    · iterate 10 rw [Below.heap_setCell _ _ _ _ (by show bt ≠ w.heap.size + 1 + 1; exact hn1.out.2)]
  · iterate 10 refine Below.setCell ?_ (by show w.heap.size ≤ w.heap.size + 1 + 1; omega) _
    exact HB5.out

end Go.Proofs.YtnkgpinadgacgaaDoor

/- Walks of the program's mayBegin, nexts: to where one cart may go under rules. -/
namespace Go.Proofs.YtnkgpinadgacgaaDoor
open Go.RowKit M

/-- May the cart go there, by the rules? -/
def stepB (n : Nat) (R : Nat → RuleM) (c : Int) (t : Nat) (z : Int) : Bool := !noWayM n R c z t && onM n R z (t + 1 : Nat)

/-- To where a cart may go. -/
def nxL (ro co : Int) (cs : ByteArray) (n : Nat) (R : Nat → RuleM) (c : Int) (t : Nat) : List Int := (mvL ro co cs c).filter (stepB n R c t)

def nxAt (L : List Int) (p : Int → Bool) (m : Nat) : List Int := (L.take m).filter p

theorem nxAt_in {L : List Int} {p : Int → Bool} {m : Nat} {z : Int} (hm : m < L.length) (hz : L.getD m 0 = z) (hp : p z = true) : nxAt L p (m + 1) = nxAt L p m ++ [z] := by
  have e : L[m] = z := by rw [← hz]; simp [List.getD, hm]
  unfold nxAt
  rw [List.take_succ_eq_append_getElem hm, List.filter_append, e]
  simp [hp]

theorem nxAt_out {L : List Int} {p : Int → Bool} {m : Nat} {z : Int} (hm : m < L.length) (hz : L.getD m 0 = z) (hp : p z = false) : nxAt L p (m + 1) = nxAt L p m := by
  have e : L[m] = z := by rw [← hz]; simp [List.getD, hm]
  unfold nxAt
  rw [List.take_succ_eq_append_getElem hm, List.filter_append, e]
  simp [hp]

theorem nxAt_all {L : List Int} {p : Int → Bool} {m : Nat} (hm : ¬ m < L.length) : nxAt L p m = L.filter p := by
  unfold nxAt
  rw [List.take_of_length_le (by omega)]

theorem nxAt_len {L : List Int} {p : Int → Bool} {m : Nat} : (nxAt L p m).length ≤ L.length := by
  unfold nxAt
  refine Nat.le_trans (List.length_filter_le p _) ?_
  rw [List.length_take]; omega

/-- What is told is where the cart may go. -/
theorem nx_mem {ro co : Int} {cs : ByteArray} {n : Nat} {R : Nat → RuleM} {c t b : Nat} (h1 : 1 ≤ co) (h2 : co ≤ 6) (hsz : (cs.size : Int) = ro * co) (hc : c < cs.size) (hf : freeB cs c = true) : (b : Int) ∈ nxL ro co cs n R c t ↔ goesM co cs n R c b t = true := by
  unfold nxL stepB goesM
  rw [List.mem_filter]
  simp only [Bool.and_eq_true, Bool.not_eq_true']
  constructor
  · rintro ⟨hm, hn, ho⟩
    have fb := mvL_free hf hm
    refine ⟨⟨?_, ho⟩, hn⟩
    unfold adjM
    rw [mayM_in fb (by omega) (by omega)]
    exact mvL_near h1 h2 hm
  · rintro ⟨⟨ha, ho⟩, hn⟩
    have fb := adj_free ha
    refine ⟨mvL_all h1 h2 hsz (by omega) (by omega) fb ?_, hn, ho⟩
    unfold adjM at ha
    rw [mayM_in fb (by omega) (by omega)] at ha
    exact ha

/-- Each is a cell. -/
theorem nx_nat {ro co : Int} {cs : ByteArray} {n : Nat} {R : Nat → RuleM} {c t : Nat} {z : Int} (hf : freeB cs c = true) (h : z ∈ nxL ro co cs n R c t) : ∃ b : Nat, z = b ∧ b < cs.size := by
  unfold nxL at h
  have fz := mvL_free hf (List.mem_filter.1 h).1
  have hz : 0 ≤ z ∧ z < cs.size := by
    by_cases e : 0 ≤ z ∧ z < cs.size
    · exact e
    · rw [freeB_out e] at fz; cases fz
  obtain ⟨b, hb⟩ := Int.eq_ofNat_of_zero_le hz.1
  exact ⟨b, hb, by omega⟩

set_option maxRecDepth 100000 in
set_option maxHeartbeats 2000000 in
theorem mayBegin_any (ro co bu : Int) (cs : ByteArray) (ac : Option Addr) (mc cc f : Nat) (c S : Int) (bs bt n : Nat) (R : Nat → RuleM) (w : World) (hs : cs.size ≤ 36) (hf : f < cs.size) (hb : BansIn w bs bt cs.size n R) :
    Calls Tryd.prog 116 #[tripV ro co bu cs ac mc cc f c bs bt S] w fun e w' => e = .returned (.bool (onM n R f 0)) ∧ Below w.heap.size w w' := by
  obtain ⟨ns, nt, F, G, hns, hnt, hset, hste, hF, hG⟩ := hb
  have HS := Hid.mk hset
  have HF := Hid.mk hF
  have hl := hset.lt
  clear hset hste hF hG
  unfold tripV
  go_enter Tryd.func116, Tryd.ntmps116
  go_wp2_with fail
  have HB1 : Hid (∀ o, Below w.heap.size w (w.alloc o)) := fun _ => (Below.refl _ _).alloc (Nat.le_refl _) _
  refine (allowSpot_any bs bt ns F f 0 _ (HS.out.block (Below.heap_alloc _ _ _ hl)) (i64B_small (by omega) (by omega)) (i64B_small (by omega) (by omega))).mono ?_
  rintro e w4 ⟨rfl, hb4⟩
  have HB4 : Hid (Below w.heap.size w w4) := (HB1.out _).trans (hb4.mono (by simp))
  rw [HF.out f (by omega) (by omega) 0, Bool.not_not]
  clear hb4
  go_wp2
  go_ret
  exact ⟨rfl, HB4.out⟩

set_option maxRecDepth 100000 in
set_option maxHeartbeats 2000000 in
theorem nexts_any (ro co bu : Int) (cs : ByteArray) (ac : Option Addr) (mc cc : Nat) (f c S : Int) (bs bt n x t : Nat) (R : Nat → RuleM) (w : World) (hsd : SidesIn w) (r1 : 1 ≤ ro) (r2 : ro ≤ 6) (r3 : 1 ≤ co) (r4 : co ≤ 6) (hs : cs.size ≤ 36) (hx : x < cs.size) (hfx : freeB cs x = true) (ht : t ≤ 100000) (hb : BansIn w bs bt cs.size n R) :
    Calls Tryd.prog 158 #[tripV ro co bu cs ac mc cc f c bs bt S, .agg #[.int .i64 x, .int .i64 t]] w fun e w' =>
      ∃ v, e = .returned v ∧ w'.ownsRow w.heap.size 3 1 v (nxL ro co cs n R x t).length (ints (nxL ro co cs n R x t)) ∧ Below w.heap.size w w' := by
  have HBA := Hid.mk hb
  have Hsd := Hid.mk hsd
  have hbl := hb.lt
  have hpos : 0 < w.heap.size := World.block_lt_of_cell? _ _ hsd.1
  have FX := Hid.mk hfx
  clear hb hsd hfx
  unfold tripV
  go_enter Tryd.func158, Tryd.ntmps158
  go_wp2_with fail
  have HB2 : Hid (Below w.heap.size w ((w.alloc (Obj.cells #[Value.int IntKind.i64 ro, Value.int IntKind.i64 co, Value.string cs, Value.slice ac mc cc, Value.int IntKind.i64 bu, Value.int IntKind.i64 f, Value.int IntKind.i64 c, Value.map (some bs), Value.map (some bt), Value.int IntKind.i64 S] 156)).alloc (Obj.cells #[Value.int IntKind.i64 (x : Int), Value.int IntKind.i64 (t : Int)] 225))) := ((Below.refl _ w).alloc (Nat.le_refl _) _).alloc (by simp) _
  have y2 : ∀ o, ((w.alloc (Obj.cells #[Value.int IntKind.i64 ro, Value.int IntKind.i64 co, Value.string cs, Value.slice ac mc cc, Value.int IntKind.i64 bu, Value.int IntKind.i64 f, Value.int IntKind.i64 c, Value.map (some bs), Value.map (some bt), Value.int IntKind.i64 S] 156)).alloc (Obj.cells #[Value.int IntKind.i64 (x : Int), Value.int IntKind.i64 (t : Int)] 225)).cell? ⟨w.heap.size, o, none⟩ = #[Value.int IntKind.i64 ro, Value.int IntKind.i64 co, Value.string cs, Value.slice ac mc cc, Value.int IntKind.i64 bu, Value.int IntKind.i64 f, Value.int IntKind.i64 c, Value.map (some bs), Value.map (some bt), Value.int IntKind.i64 S][o]? := by
    intro o; go_simp
  have s2 : ∀ o, ((w.alloc (Obj.cells #[Value.int IntKind.i64 ro, Value.int IntKind.i64 co, Value.string cs, Value.slice ac mc cc, Value.int IntKind.i64 bu, Value.int IntKind.i64 f, Value.int IntKind.i64 c, Value.map (some bs), Value.map (some bt), Value.int IntKind.i64 S] 156)).alloc (Obj.cells #[Value.int IntKind.i64 (x : Int), Value.int IntKind.i64 (t : Int)] 225)).cell? ⟨w.heap.size + 1, o, none⟩ = #[Value.int IntKind.i64 (x : Int), Value.int IntKind.i64 (t : Int)][o]? := by
    intro o; go_simp
  have hz2 : ((w.alloc (Obj.cells #[Value.int IntKind.i64 ro, Value.int IntKind.i64 co, Value.string cs, Value.slice ac mc cc, Value.int IntKind.i64 bu, Value.int IntKind.i64 f, Value.int IntKind.i64 c, Value.map (some bs), Value.map (some bt), Value.int IntKind.i64 S] 156)).alloc (Obj.cells #[Value.int IntKind.i64 (x : Int), Value.int IntKind.i64 (t : Int)] 225)).heap.size = w.heap.size + 2 := by simp
  generalize (w.alloc (Obj.cells #[Value.int IntKind.i64 ro, Value.int IntKind.i64 co, Value.string cs, Value.slice ac mc cc, Value.int IntKind.i64 bu, Value.int IntKind.i64 f, Value.int IntKind.i64 c, Value.map (some bs), Value.map (some bt), Value.int IntKind.i64 S] 156)).alloc (Obj.cells #[Value.int IntKind.i64 (x : Int), Value.int IntKind.i64 (t : Int)] 225) = w2 at *
  refine (moves_any _ _ _ _ _ x _ (by exact Hsd.out.below HB2.out) r1 r2 r3 r4 (by omega) hs).mono ?_
  rintro e w5 ⟨gm, cm, rfl, hgm, hom, hb5⟩
  obtain ⟨L, hL⟩ : ∃ L, L = mvL ro co cs x := ⟨_, rfl⟩
  have hLn := (mvL_len (ro := ro) (co := co) (cs := cs) (c := (x : Int))).1
  have HLF : Hid (∀ m, m < L.length → ∃ z : Nat, L.getD m 0 = z ∧ z < cs.size) := fun m hm => by
    have hz := at_mem hm
    rw [hL] at hz
    have fz := mvL_free FX.out hz
    rw [← hL] at fz
    have hz : 0 ≤ L.getD m 0 ∧ L.getD m 0 < cs.size := by
      by_cases e : 0 ≤ L.getD m 0 ∧ L.getD m 0 < cs.size
      · exact e
      · rw [freeB_out e] at fz; cases fz
    obtain ⟨b, hb⟩ := Int.eq_ofNat_of_zero_le hz.1
    exact ⟨b, hb, by omega⟩
  have NX : Hid (nxL ro co cs n R x t = L.filter (stepB n R x t)) := by unfold Hid nxL; rw [hL]
  rw [← hL] at hom hLn ⊢
  have HOM := Hid.mk hom
  have hgl := (own_lt hom).2
  have Y5 : Hid (∀ o, w5.cell? ⟨w.heap.size, o, none⟩ = #[Value.int IntKind.i64 ro, Value.int IntKind.i64 co, Value.string cs, Value.slice ac mc cc, Value.int IntKind.i64 bu, Value.int IntKind.i64 f, Value.int IntKind.i64 c, Value.map (some bs), Value.map (some bt), Value.int IntKind.i64 S][o]?) := fun o => (hb5.cell (p := ⟨w.heap.size, o, none⟩) (by show w.heap.size < _; omega)).trans (y2 o)
  have S5 : Hid (∀ o, w5.cell? ⟨w.heap.size + 1, o, none⟩ = #[Value.int IntKind.i64 (x : Int), Value.int IntKind.i64 (t : Int)][o]?) := fun o => (hb5.cell (p := ⟨w.heap.size + 1, o, none⟩) (by show w.heap.size + 1 < _; omega)).trans (s2 o)
  have HB5 : Hid (Below w.heap.size w w5) := HB2.out.trans (hb5.mono (by omega))
  have HBA5 := Hid.mk (HBA.out.below HB5.out)
  have hz5 := hb5.size
  clear hL hom hb5 y2 s2
  go_wp2
  go_loopw [5, 14] (fun v s wr => ∃ (m : Nat), s = .int .i64 m ∧ m ≤ L.length ∧ wr.ownsRow w5.heap.size 3 1 v (nxAt L (stepB n R x t) m).length (ints (nxAt L (stepB n R x t) m)) ∧ Below w5.heap.size w5 wr) (fun _ s _ => L.length - (intOf s).toNat)
  case atStart => exact ⟨0, rfl, Nat.zero_le _, own_nil _ _ _, Below.refl _ _⟩
  case round =>
    obtain ⟨m, rfl, hm, hown, hbr⟩ := hrel
    have HO := Hid.mk hown
    have HB := Hid.mk hbr
    have hzr := hbr.size
    have hml := nxAt_len (L := L) (p := stepB n R x t) (m := m)
    have yr : ∀ o, wr.cell? ⟨w.heap.size, o, none⟩ = #[Value.int IntKind.i64 ro, Value.int IntKind.i64 co, Value.string cs, Value.slice ac mc cc, Value.int IntKind.i64 bu, Value.int IntKind.i64 f, Value.int IntKind.i64 c, Value.map (some bs), Value.map (some bt), Value.int IntKind.i64 S][o]? := fun o => (hbr.cell (p := ⟨w.heap.size, o, none⟩) (by show w.heap.size < _; omega)).trans (Y5.out o)
    have sr : ∀ o, wr.cell? ⟨w.heap.size + 1, o, none⟩ = #[Value.int IntKind.i64 (x : Int), Value.int IntKind.i64 (t : Int)][o]? := fun o => (hbr.cell (p := ⟨w.heap.size + 1, o, none⟩) (by show w.heap.size + 1 < _; omega)).trans (S5.out o)
    clear hown hbr
    by_cases hlt : m < L.length
    · have hxm := own_cell HOM.out hlt
      obtain ⟨z, hz, hzN⟩ := HLF.out m hlt
      rw [ints_at' hlt, hz] at hxm
      have hxm := cell_later HB.out hxm
      have HZ := Hid.mk hz
      clear hz
      go_wp2_with fail
      obtain ⟨ns, nt, F, G, hns, hnt, hset, hste, hF, hG⟩ := HBA5.out.below HB.out
      refine (allowStep_any bs bt ns nt F G x z t _ hset hste (i64B_small (by omega) (by omega)) (i64B_small (by omega) (by omega)) ht).mono ?_
      rintro e w6 ⟨rfl, hb6⟩
      obtain ⟨g, hg⟩ : ∃ g, g = stepB n R x t (z : Int) := ⟨_, rfl⟩
      rw [hG, hF z (by omega) (by omega) (t + 1 : Nat), Bool.not_not, show (!noWayM n R (x : Int) (z : Int) (t : Int) && onM n R (z : Int) ((t + 1 : Nat) : Int)) = stepB n R x t (z : Int) from rfl, ← hg]
      have HG := Hid.mk hg
      have HO6 := Hid.mk (own_below HO.out hb6)
      have HB6 := Hid.mk (HB.out.trans (hb6.mono hzr))
      have hz6 := hb6.size
      clear hset hste hF hG hns hnt hg hb6 yr sr hxm
      cases g
      · have e7 := nxAt_out (p := stepB n R x t) hlt HZ.out HG.out.symm
        have E7 := Hid.mk e7
        clear e7
        go_wp2
        go_roundw
        case rel => exact ⟨m + 1, by go_num, by omega, by rw [E7.out]; exact HO6.out, HB6.out⟩
        case measure => simp [intOf]; omega
      · have e7 := nxAt_in (p := stepB n R x t) hlt HZ.out HG.out.symm
        have E7 := Hid.mk e7
        clear e7
        go_wp2_with (refine wpList_push rfl _ _ 26 rfl w5.heap.size 3 _ _ Tryd.underlying26 Tryd.infoInt rfl _ _ _ rfl (by exact own_below HO6.out ((Below.refl _ _).alloc (Nat.le_refl _) _)) _ _ (.int .i64 (z : Int)) rfl (by go_simp) rfl (by unfold maxLen; omega) (by omega) (by simp; omega) ?_)
        intro g cap w8 ho8 hg8
        have hb8 := grown_below (own_below HO6.out ((Below.refl _ _).alloc (Nat.le_refl _) _)) hg8 (by simp; omega)
        have HO8 := Hid.mk ho8
        have HB8 : Hid (Below w5.heap.size w5 w8) := HB6.out.trans (((Below.refl _ _).alloc (by omega) _).trans hb8)
        clear ho8 hg8 hb8
        go_wp2
        go_roundw
        case rel => exact ⟨m + 1, by go_num, by omega, by rw [E7.out]; simpa [ints] using HO8.out, HB8.out⟩
        case measure => simp [intOf]; omega
    · have e7 := nxAt_all (p := stepB n R x t) hlt
      have E7 := Hid.mk e7
      clear e7
      go_wp2
      go_ret
      refine ⟨_, rfl, ?_, HB5.out.trans (HB.out.mono (by omega))⟩
      rw [NX.out, ← E7.out]
      exact own_base HO.out (by omega)

end Go.Proofs.YtnkgpinadgacgaaDoor

/- Walk of wayTo: the path back from a spot to the start. -/
namespace Go.Proofs.YtnkgpinadgacgaaDoor
open Go.RowKit M

def wayVF (p : Nat → Nat) (k : Nat) : Nat → Value := fun i => if k ≤ i then .int .i64 (p i : Nat) else .int .i64 0

set_option maxRecDepth 100000 in
set_option maxHeartbeats 2000000 in
theorem wayTo_any (mb n N T : Nat) (f : Int → Int → Option Int) (p : Nat → Nat) (q : Int) (w : World) (hm : SpotMap w mb n f) (hN : N ≤ 36) (hT : T ≤ 1000) (hp : ∀ s, s ≤ T → p s < N) (hq : f (p 0 : Nat) 0 = some q) (hs : ∀ s, s < T → f (p (s + 1) : Nat) (s + 1 : Nat) = some (p s : Nat)) :
    Calls Tryd.prog 157 #[.agg #[.int .i64 (p T : Nat), .int .i64 T], .map (some mb)] w fun e w' =>
      ∃ g, e = .returned (.slice (some ⟨g, 0, none⟩) (T + 1) (T + 1)) ∧ w.heap.size ≤ g ∧ w'.rowIs g 3 (T + 1) (natV p) ∧ Below w.heap.size w w' := by
  have HM := Hid.mk hm
  have HP := Hid.mk hp
  have HQ := Hid.mk hq
  have HS := Hid.mk hs
  have hml := hm.lt
  clear hm hp hq hs
  have v1 : ((T + 1 : Nat) : Int) = (T : Int) + 1 := by omega
  go_enter Tryd.func157, Tryd.ntmps157
  go_wp2_with (at_make; go_must (refine wpList_make_all _ rfl _ _ 26 rfl 3 _ _ _ Tryd.underlying26 Tryd.infoInt _ _ _ _ (T + 1) rfl rfl (by omega) (by omega) (by omega) (by omega) ?_))
  have hrow0 : Hid (((w.alloc (Obj.cells #[.int .i64 (p T : Nat), .int .i64 (T : Int)] 225)).alloc (Obj.cells (madeCells #[Value.int IntKind.i64 0] (T + 1)) 3)).rowIs (w.heap.size + 1) 3 (T + 1) (wayVF p (T + 1))) := by
    have h := row_zero (T + 1) (w.alloc (Obj.cells #[.int .i64 (p T : Nat), .int .i64 (T : Int)] 225)) 3 (w.heap.size + 1) (by simp)
    exact h.congr fun i hi => by unfold wayVF intV fillF; rw [if_neg (by omega), if_neg (by omega)]
  have hB3 : Hid (Below w.heap.size w ((w.alloc (Obj.cells #[.int .i64 (p T : Nat), .int .i64 (T : Int)] 225)).alloc (Obj.cells (madeCells #[Value.int IntKind.i64 0] (T + 1)) 3))) := ((Below.refl _ w).alloc (Nat.le_refl _) _).alloc (by simp) _
  have HM3 := Hid.mk (HM.out.block (hB3.out.block _ hml))
  have hz3 : ((w.alloc (Obj.cells #[.int .i64 (p T : Nat), .int .i64 (T : Int)] 225)).alloc (Obj.cells (madeCells #[Value.int IntKind.i64 0] (T + 1)) 3)).heap.size = w.heap.size + 2 := by simp
  generalize (w.alloc (Obj.cells #[.int .i64 (p T : Nat), .int .i64 (T : Int)] 225)).alloc (Obj.cells (madeCells #[Value.int IntKind.i64 0] (T + 1)) 3) = w3 at *
  go_loopw [6, 7] (fun c s wr => ∃ (k : Nat) (x : Int), k ≤ T + 1 ∧ c = .int .i64 x ∧ (0 < k → x = (p (k - 1) : Nat)) ∧ s = .int .i64 ((k : Int) - 1) ∧ wr.rowIs (w.heap.size + 1) 3 (T + 1) (wayVF p k) ∧ Below (w.heap.size + 1) w3 wr) (fun _ s _ => (intOf s + 1).toNat)
  case atStart => exact ⟨T + 1, _, Nat.le_refl _, rfl, fun _ => by rw [show T + 1 - 1 = T by omega], by go_num, hrow0.out, Below.refl _ _⟩
  case round =>
    obtain ⟨k, x, hk, rfl, hx, rfl, hrw, hbr⟩ := hrel
    have HR := Hid.mk hrw
    have HB := Hid.mk hbr
    have HX := Hid.mk hx
    clear hrw hbr hx
    by_cases h0 : 0 < k
    · obtain ⟨j, hj⟩ : ∃ j, k = j + 1 := ⟨k - 1, by omega⟩
      subst hj
      have e1 : (((j + 1 : Nat) : Int) - 1) = (j : Int) := by omega
      have hxj := HX.out h0
      rw [show j + 1 - 1 = j by omega] at hxj
      subst hxj
      rw [e1]
      have x1 := HR.out.cell (i := j) (by omega)
      have x3 := HR.out.frozen
      have hj1 : j < T + 1 := by omega
      have HN : SpotMap (wr.setCell ⟨w.heap.size + 1, j, none⟩ (.int .i64 (p j : Nat))) mb n f := (HM3.out.block (HB.out.block _ (by omega))).block (Below.heap_setCell _ _ _ _ (by show mb ≠ w.heap.size + 1; omega))
      have HNH := Hid.mk HN
      have hpj := HP.out j (by omega)
      have FIN : Hid ((wr.setCell ⟨w.heap.size + 1, j, none⟩ (.int .i64 (p j : Nat))).rowIs (w.heap.size + 1) 3 (T + 1) (wayVF p j)) := by
        refine (HR.out.set j _).congr fun i hi => ?_
        unfold wayVF
        by_cases e : i = j
        · subst e; rw [if_pos rfl, if_pos (Nat.le_refl _)]
        · rw [if_neg e]
          by_cases e2 : j + 1 ≤ i
          · rw [if_pos e2, if_pos (by omega)]
          · rw [if_neg e2, if_neg (by omega)]
      clear HN
      obtain ⟨y, hy, hy2⟩ : ∃ y : Int, f (p j : Nat) (j : Int) = some y ∧ (0 < j → y = (p (j - 1) : Nat)) := by
        by_cases ej : j = 0
        · subst ej; exact ⟨q, HQ.out, fun h => absurd h (Nat.lt_irrefl 0)⟩
        · refine ⟨(p (j - 1) : Nat), ?_, fun _ => rfl⟩
          have := HS.out (j - 1) (by omega)
          rw [show j - 1 + 1 = j by omega] at this; exact this
      have HY := Hid.mk hy
      have HY2 := Hid.mk hy2
      clear hy hy2
      go_wp2_with (at_lookup; refine wpList_get_map rfl _ _ rfl mb n f rfl HNH.out (p j : Nat) j y rfl (i64B_small (by omega) (by omega)) (i64B_small (by omega) (by omega)) HY.out ?_)
      go_roundw
      case rel => exact ⟨j, y, by omega, rfl, HY2.out, rfl, FIN.out, HB.out.setCell (by simp) _⟩
      case measure => simp [intOf]
    · have ek : k = 0 := by omega
      subst ek
      go_wp2
      go_ret
      exact ⟨w.heap.size + 1, rfl, by omega, HR.out.congr fun i _ => by unfold wayVF natV; rw [if_pos (Nat.zero_le _)], hB3.out.trans (HB.out.mono (by omega))⟩

theorem wayTo_at (mb n N T c : Nat) (f : Int → Int → Option Int) (p : Nat → Nat) (q : Int) (w : World) (hc : p T = c) (hm : SpotMap w mb n f) (hN : N ≤ 36) (hT : T ≤ 1000) (hp : ∀ s, s ≤ T → p s < N) (hq : f (p 0 : Nat) 0 = some q) (hs : ∀ s, s < T → f (p (s + 1) : Nat) (s + 1 : Nat) = some (p s : Nat)) :
    Calls Tryd.prog 157 #[.agg #[.int .i64 c, .int .i64 T], .map (some mb)] w fun e w' =>
      ∃ g, e = .returned (.slice (some ⟨g, 0, none⟩) (T + 1) (T + 1)) ∧ w.heap.size ≤ g ∧ w'.rowIs g 3 (T + 1) (natV p) ∧ Below w.heap.size w w' := by
  subst hc
  exact wayTo_any mb n N T f p q w hm hN hT hp hq hs

end Go.Proofs.YtnkgpinadgacgaaDoor

/- What a search for one cart's least path holds in memory; what a push and a pop leave of it. -/
namespace Go.Proofs.YtnkgpinadgacgaaDoor
open Go.RowKit M

/-- What a search's answer is in memory. -/
def Told (w w' : World) (v : Value) (x : Option (Nat × (Nat → Nat))) : Prop :=
  (x = none → v = .slice none 0 0) ∧ ∀ T p, x = some (T, p) → ∃ g, v = .slice (some ⟨g, 0, none⟩) (T + 1) (T + 1) ∧ w.heap.size ≤ g ∧ w'.rowIs g 3 (T + 1) (natV p)

/-- What the search holds in memory. -/
structure Srch (b0 : Nat) (w6 wr : World) (N : Nat) (seen : Nat → Nat → Option Nat) (m : Nat) (it : Nat → Spot) (v : Value) (nm : Nat) : Prop where
  heap : HeapAt wr (b0 + 1 + 1) (b0 + 1) v
  list : ListAt wr v m it
  own : ∀ G, v.ownBlock = some G → b0 + 5 ≤ G
  map : SpotMap wr (b0 + 1 + 1 + 1 + 1) nm (mapOf seen)
  cnt : nm + unseen N seen ≤ 10000
  size : m + unseen N seen ≤ 10000
  below : Below (b0 + 1 + 1) w6 wr
  sz : b0 + 5 ≤ wr.heap.size

theorem ListAt.keep {w w' : World} {v : Value} {n : Nat} {it : Nat → Spot} (h : ListAt w v n it) (hk : ∀ G, v.ownBlock = some G → w'.heap[G]? = w.heap[G]?) : ListAt w' v n it := by
  rcases h with h | ⟨G, cap, h1, h2⟩
  · exact Or.inl h
  · exact Or.inr ⟨G, cap, h1, h2.block (hk G (by rw [h1]; rfl))⟩

theorem ListAt.lt {w : World} {v : Value} {n : Nat} {it : Nat → Spot} (h : ListAt w v n it) : ∀ G, v.ownBlock = some G → G < w.heap.size := by
  rcases h with h | ⟨G, cap, h1, h2⟩
  · intro G hG; rw [h.1] at hG; cases hG
  · intro G' hG; rw [h1] at hG; cases hG; exact h2.lt

theorem ListAt.form {w : World} {v : Value} {n : Nat} {it : Nat → Spot} (h : ListAt w v n it) : ∃ a c, v = .slice a n c := by
  rcases h with ⟨h1, h2⟩ | ⟨G, cap, h1, h2⟩
  · exact ⟨none, 0, by rw [h1, h2]⟩
  · exact ⟨_, _, h1⟩

theorem Srch.later {b0 : Nat} {w6 wr w' : World} {N : Nat} {seen : Nat → Nat → Option Nat} {m : Nat} {it : Nat → Spot} {v : Value} {nm : Nat} (h : Srch b0 w6 wr N seen m it v nm) (hb : Below wr.heap.size wr w') : Srch b0 w6 w' N seen m it v nm :=
  ⟨h.heap.block (hb.block _ h.heap.lt), h.list.keep (fun G hG => hb.block _ (h.list.lt G hG)), h.own, h.map.block (hb.block _ h.map.lt), h.cnt, h.size, h.below.trans (hb.mono (by have := h.sz; omega)), Nat.le_trans h.sz hb.size⟩

theorem fine_start {N n : Nat} {it : Nat → Spot} (h : n = 0) : Fine N n it := fun p ⟨i, hi, _⟩ => by omega

theorem ord_start {key : Spot → Int} {n : Nat} {it : Nat → Spot} (h : n ≤ 1) : Ord key n it := fun i h0 hi => by omega

theorem Srch.far {b0 gf : Nat} {w6 wr : World} {N : Nat} {seen : Nat → Nat → Option Nat} {m : Nat} {it : Nat → Spot} {v : Value} {nm : Nat} {st : Nat → Int} (h : Srch b0 w6 wr N seen m it v nm) (hf : FarAt w6 (b0 + 1) gf N st) (hg : gf < b0) : FarAt wr (b0 + 1) gf N st :=
  ⟨(h.below.cell (p := ⟨b0 + 1, 0, none⟩) (by show b0 + 1 < _; omega)).trans hf.1, hf.2.of_block (h.below.block _ (by omega))⟩

/-- The map has one more. -/
theorem Srch.put {b0 : Nat} {w6 wr w' : World} {N : Nat} {seen : Nat → Nat → Option Nat} {m : Nat} {it : Nat → Spot} {v : Value} {nm b t p : Nat} (h : Srch b0 w6 wr N seen m it v nm) (hN : 0 < N) (hb : b < N) (ht : t ≤ 61 + N) (hn : seen b t = none)
    (hm : SpotMap w' (b0 + 1 + 1 + 1 + 1) (nm + 1) (mapPut (mapOf seen) (b : Int) (t : Int) (p : Int))) (hg : wr.grownBy w' (some (b0 + 1 + 1 + 1 + 1))) : Srch b0 w6 w' N (seenPut seen b t p) m it v (nm + 1) := by
  have hu := unseen_put (p := p) hN hb ht hn
  have hs := h.sz
  have hmg : ∀ G, v.ownBlock = some G → w'.heap[G]? = wr.heap[G]? := fun G hG => hg.block _ (h.list.lt G hG) (by
    intro e
    have e := Option.some.inj e
    have := h.own G hG
    omega)
  refine ⟨h.heap.block (hg.block _ h.heap.lt (by intro e; have e := Option.some.inj e; omega)), h.list.keep hmg, h.own, hm.same (mapOf_put seen b t p), by have := h.cnt; omega, by have := h.size; omega, ?_, Nat.le_trans hs hg.size⟩
  exact h.below.grown hg (by omega) (fun k hk => by cases hk; omega)

/-- A cell of a block of its own is written. -/
theorem Srch.box {b0 : Nat} {w6 wr : World} {N : Nat} {seen : Nat → Nat → Option Nat} {m : Nat} {it : Nat → Spot} {v : Value} {nm B : Nat} (h : Srch b0 w6 wr N seen m it v nm) (hB : b0 + 5 ≤ B) (hG : ∀ G, v.ownBlock = some G → G ≠ B) (o : Nat) (u : Value) : Srch b0 w6 (wr.setCell ⟨B, o, none⟩ u) N seen m it v nm :=
  ⟨h.heap.block (Below.heap_setCell _ _ _ _ (by show b0 + 1 + 1 ≠ B; omega)), h.list.keep (fun G hg => Below.heap_setCell _ _ _ _ (hG G hg)), h.own, h.map.block (Below.heap_setCell _ _ _ _ (by show b0 + 1 + 1 + 1 + 1 ≠ B; omega)), h.cnt, h.size, h.below.setCell (by show b0 + 1 + 1 ≤ B; omega) _, by have := h.sz; simpa using this⟩

theorem pop_srch (b0 gf N : Nat) (w6 wr : World) (seen : Nat → Nat → Option Nat) (m : Nat) (it : Nat → Spot) (v : Value) (nm : Nat) (st : Nat → Int) (h : Srch b0 w6 wr N seen m it v nm) (hf : FarAt w6 (b0 + 1) gf N st) (hg : gf < b0) (hst : ∀ x, x < N → -1 ≤ st x ∧ st x ≤ 1000) (hfine : Fine N m it) (hord : Ord (keyM st) m it) :
    Calls Tryd.prog 156 #[.pointer (some ⟨b0 + 1 + 1, 0, none⟩)] wr fun e w' =>
      ∃ (okb : Bool) (hc ht m' : Nat) (it' : Nat → Spot) (v' : Value), e = .returned (.tuple #[.agg #[.int .i64 (hc : Int), .int .i64 (ht : Int)], .bool okb]) ∧ Srch b0 w6 w' N seen m' it' v' nm ∧ Ord (keyM st) m' it' ∧ Fine N m' it' ∧
        (okb = true → (∀ a b, Mem m it (a, b) ↔ Mem m' it' (a, b) ∨ (a = hc ∧ b = ht)) ∧ (∀ a b, Mem m it (a, b) → keyM st (hc, ht) ≤ keyM st (a, b)) ∧ m' + 1 = m ∧ hc < N ∧ ht ≤ 100000) ∧ (okb = false → m = 0 ∧ m' = 0) ∧
        Only (fun k => k = b0 + 1 + 1 ∨ v.ownBlock = some k) wr w' ∧ (∀ G, v'.ownBlock = some G → v.ownBlock = some G) := by
  by_cases h0 : m = 0
  · subst h0
    obtain ⟨a, cv, rfl⟩ := h.list.form
    refine (pop_none (b0 + 1 + 1) (b0 + 1) a cv wr h.heap).mono ?_
    rintro e w' ⟨rfl, hb⟩
    exact ⟨false, 0, 0, 0, it, _, rfl, h.later hb, ord_start (Nat.zero_le _), fine_start rfl, fun h => (by cases h), fun _ => ⟨rfl, rfl⟩, Only.of_below hb, fun _ h => h⟩
  · rcases h.list with ⟨_, e⟩ | ⟨G, cap, rfl, hit⟩
    · exact absurd e h0
    · have hGo := h.own G rfl
      refine (pop_some (b0 + 1 + 1) (b0 + 1) gf G cap m N it st wr h.heap hit (h.far hf hg) ⟨by omega, by omega⟩ hst hfine (by omega) (by have := h.size; omega) hord).mono ?_
      rintro e w' ⟨rfl, it', ho, hm, hh, hi, hon⟩
      have hs := h.sz
      have on2 : Only (fun k => k = b0 + 1 + 1 ∨ Value.ownBlock (.slice (some ⟨G, 0, none⟩) m cap) = some k) wr w' := hon.mono (fun i _ e => e.elim Or.inl (fun e => Or.inr (by rw [e]; rfl)))
      have hfi : ∀ p, Mem (m - 1) it' p → Mem m it p := fun p hp => (hm p).2 (Or.inl hp)
      have h00 : Mem m it (it 0) := ⟨0, by omega, rfl⟩
      refine ⟨true, (it 0).1, (it 0).2, m - 1, it', .slice (some ⟨G, 0, none⟩) (m - 1) cap, rfl, ⟨hh, Or.inr ⟨G, cap, rfl, hi⟩, fun G' hG' => ?_, h.map.block (hon.block _ h.map.lt (by intro e; rcases e with e | e <;> omega)), h.cnt, by have := h.size; omega, ?_, Nat.le_trans hs hon.size⟩, ho, fun p hp => hfine p (hfi p hp), fun _ => ⟨fun a b => ?_, fun a b hab => ?_, by omega, (hfine _ h00).1, (hfine _ h00).2⟩, fun h => (by cases h), on2, fun G' hG' => hG'⟩
      · cases hG'; exact hGo
      · exact h.below.trans (hon.below (by omega) (fun i e => by rcases e with e | e <;> omega))
      · rw [hm (a, b)]
        refine or_congr Iff.rfl ⟨fun e => ?_, fun e => ?_⟩
        · rw [← e]; exact ⟨rfl, rfl⟩
        · rw [e.1, e.2]
      · obtain ⟨i, hi, he⟩ := hab
        rw [← he]
        exact ord_first hord i hi

theorem push_srch (b0 gf N : Nat) (w6 wr : World) (seen : Nat → Nat → Option Nat) (m : Nat) (it : Nat → Spot) (v : Value) (nm : Nat) (st : Nat → Int) (pc pa : Nat) (h : Srch b0 w6 wr N seen m it v nm) (hf : FarAt w6 (b0 + 1) gf N st) (hg : gf < b0) (hst : ∀ x, x < N → -1 ≤ st x ∧ st x ≤ 1000) (hfine : Fine N m it) (hord : Ord (keyM st) m it) (hp1 : pc < N) (hp2 : pa ≤ 100000) (hroom : m + 1 + unseen N seen ≤ 10000) :
    Calls Tryd.prog 155 #[.pointer (some ⟨b0 + 1 + 1, 0, none⟩), .agg #[.int .i64 (pc : Int), .int .i64 (pa : Int)]] wr fun e w' =>
      e = .returned (.tuple #[]) ∧ ∃ (it' : Nat → Spot) (v' : Value), Srch b0 w6 w' N seen (m + 1) it' v' nm ∧ Ord (keyM st) (m + 1) it' ∧ Fine N (m + 1) it' ∧ (∀ a b, Mem (m + 1) it' (a, b) ↔ Mem m it (a, b) ∨ (a = pc ∧ b = pa)) ∧
        Only (fun k => k = b0 + 1 + 1 ∨ v.ownBlock = some k) wr w' ∧ (∀ G, v'.ownBlock = some G → v.ownBlock = some G ∨ wr.heap.size ≤ G) := by
  have hs := h.sz
  have own1 : ∀ k, k < b0 + 5 → v.ownBlock ≠ some k := fun k hk e => by have := h.own k e; omega
  refine (push_any (b0 + 1 + 1) (b0 + 1) gf m N v it (pc, pa) st wr h.heap h.list (own1 _ (by omega)) (h.far hf hg) ⟨own1 _ (by omega), own1 _ (by omega)⟩ ⟨by omega, by omega⟩ hst hfine hp1 hp2 (by have := h.size; omega) hord).mono ?_
  rintro e w' ⟨rfl, it', G, cap, ho, hm, hh, hi, hloc, hon⟩
  refine ⟨rfl, it', .slice (some ⟨G, 0, none⟩) (m + 1) cap, ⟨hh, Or.inr ⟨G, cap, rfl, hi⟩, fun G' hG' => ?_, h.map.block (hon.block _ h.map.lt (by
      intro e
      rcases e with e | e
      · omega
      · exact own1 _ (by omega) e)), h.cnt, hroom, ?_, Nat.le_trans hs hon.size⟩, ho, fun p hp => ?_, fun a b => ?_, hon, fun G' hG' => ?_⟩
  · cases hG'
    rcases hloc with e | e
    · exact h.own _ e
    · show b0 + 5 ≤ G; omega
  · exact h.below.trans (hon.below (by omega) (fun i e => by
      rcases e with e | e
      · omega
      · have := h.own i e; omega))
  · rcases (hm p).1 hp with e | e
    · exact hfine p e
    · rw [e]; exact ⟨hp1, hp2⟩
  · rw [hm (a, b)]
    refine or_congr Iff.rfl ⟨fun e => ?_, fun e => ?_⟩
    · cases e; exact ⟨rfl, rfl⟩
    · rw [e.1, e.2]
  · cases hG'; exact hloc

theorem star_congr {N : Nat} {rch : Nat → Nat → Bool} {goes : Nat → Nat → Nat → Bool} {fr c : Nat} {S : Int} {seen : Nat → Nat → Option Nat} {op op' hx : Nat → Nat → Prop} (h : Star N rch goes fr c S seen op hx) (e : ∀ a b, op' a b ↔ op a b) : Star N rch goes fr c S seen op' hx :=
  ⟨h.start, fun a b ho => h.sub a b ((e a b).1 ho), h.rch, h.pre0, h.pre, fun a b hs ho => h.exp a b hs (fun ho' => ho ((e a b).2 ho')), fun a b hs ho => h.ng a b hs (fun ho' => ho ((e a b).2 ho')), h.bd⟩

theorem unseen_le (N : Nat) (seen : Nat → Nat → Option Nat) : unseen N seen ≤ N * (62 + N) := cnt_le _ _

theorem push_srch_at (b0 gf N : Nat) (w6 wr : World) (seen : Nat → Nat → Option Nat) (m : Nat) (it : Nat → Spot) (v : Value) (nm : Nat) (st : Nat → Int) (pc pa : Nat) (pa' : Int) (hpa : pa' = (pa : Int)) (h : Srch b0 w6 wr N seen m it v nm) (hf : FarAt w6 (b0 + 1) gf N st) (hg : gf < b0) (hst : ∀ x, x < N → -1 ≤ st x ∧ st x ≤ 1000) (hfine : Fine N m it) (hord : Ord (keyM st) m it) (hp1 : pc < N) (hp2 : pa ≤ 100000) (hroom : m + 1 + unseen N seen ≤ 10000) :
    Calls Tryd.prog 155 #[.pointer (some ⟨b0 + 1 + 1, 0, none⟩), .agg #[.int .i64 (pc : Int), .int .i64 pa']] wr fun e w' =>
      e = .returned (.tuple #[]) ∧ ∃ (it' : Nat → Spot) (v' : Value), Srch b0 w6 w' N seen (m + 1) it' v' nm ∧ Ord (keyM st) (m + 1) it' ∧ Fine N (m + 1) it' ∧ (∀ a b, Mem (m + 1) it' (a, b) ↔ Mem m it (a, b) ∨ (a = pc ∧ b = pa)) ∧
        Only (fun k => k = b0 + 1 + 1 ∨ v.ownBlock = some k) wr w' ∧ (∀ G, v'.ownBlock = some G → v.ownBlock = some G ∨ wr.heap.size ≤ G) := by
  subst hpa
  exact push_srch b0 gf N w6 wr seen m it v nm st pc pa h hf hg hst hfine hord hp1 hp2 hroom

end Go.Proofs.YtnkgpinadgacgaaDoor
