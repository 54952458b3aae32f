/- A trip's two maps are two: the walks of bansOf and newTrip once more, with that said. -/
import Derived.Test.YtnkgpinadgacgaaDoorEa
namespace Go.Proofs.YtnkgpinadgacgaaDoor
open Go.RowKit M

set_option maxRecDepth 100000 in
set_option maxHeartbeats 2000000 in
theorem bansOf_two (ro co bu : Int) (cs : ByteArray) (ca : Value) (a : Option Addr) (n cap : Nat) (R : Nat → RuleM) (w : World) (hs : cs.size ≤ 36) (hr : rulesB cs.size n R = true) (hwf : RulesWf n R) (ha : RulesAt w a n R) :
    Calls Tryd.prog 151 #[.agg #[.int .i64 ro, .int .i64 co, .string cs, ca, .int .i64 bu], .slice a n cap] w fun e w' =>
      ∃ bs bt, e = .returned (.agg #[.map (some bs), .map (some bt)]) ∧ w.heap.size ≤ bs ∧ w.heap.size ≤ bt ∧ bs ≠ bt ∧ BansIn w' bs bt cs.size n R ∧ Below w.heap.size w w' := by
  have HA := Hid.mk ha
  have HR := Hid.mk hr
  have HWF := Hid.mk hwf
  have hn := rulesB_len hr
  have hmm := @run_makeMap Tryd.prog
  clear ha hr hwf
  go_enter Tryd.func151, Tryd.ntmps151
  go_wp2
  have HB5 : Hid (Below w.heap.size w (((((w.alloc (Obj.cells #[Value.int IntKind.i64 ro, Value.int IntKind.i64 co, Value.string cs, ca, Value.int IntKind.i64 bu] 24)).alloc (Obj.cells #[Value.map none, Value.map none] 154)).alloc (Obj.map #[] 0)).alloc (Obj.map #[] 0)).alloc (Obj.cells #[Value.map (some (w.heap.size + 1 + 1)), Value.map (some (w.heap.size + 1 + 1 + 1))] 154))) := ((((Below.refl _ w).alloc (Nat.le_refl _) _).alloc (by simp) _).alloc (by simp; omega) _).alloc (by simp; omega) _ |>.alloc (by simp; omega) _
  have HS5 : Hid (SpotSet (((((w.alloc (Obj.cells #[Value.int IntKind.i64 ro, Value.int IntKind.i64 co, Value.string cs, ca, Value.int IntKind.i64 bu] 24)).alloc (Obj.cells #[Value.map none, Value.map none] 154)).alloc (Obj.map #[] 0)).alloc (Obj.map #[] 0)).alloc (Obj.cells #[Value.map (some (w.heap.size + 1 + 1)), Value.map (some (w.heap.size + 1 + 1 + 1))] 154)) (w.heap.size + 1 + 1) 0 (fun _ _ => false)) :=
    ((spotSet_made ((w.alloc (Obj.cells #[Value.int IntKind.i64 ro, Value.int IntKind.i64 co, Value.string cs, ca, Value.int IntKind.i64 bu] 24)).alloc (Obj.cells #[Value.map none, Value.map none] 154)) (w.heap.size + 1 + 1) (by simp)).block (Below.heap_alloc _ _ _ (by simp))).block (Below.heap_alloc _ _ _ (by simp))
  have HT5 : Hid (StepSet (((((w.alloc (Obj.cells #[Value.int IntKind.i64 ro, Value.int IntKind.i64 co, Value.string cs, ca, Value.int IntKind.i64 bu] 24)).alloc (Obj.cells #[Value.map none, Value.map none] 154)).alloc (Obj.map #[] 0)).alloc (Obj.map #[] 0)).alloc (Obj.cells #[Value.map (some (w.heap.size + 1 + 1)), Value.map (some (w.heap.size + 1 + 1 + 1))] 154)) (w.heap.size + 1 + 1 + 1) 0 (fun _ _ _ => false)) :=
    (stepSet_made (((w.alloc (Obj.cells #[Value.int IntKind.i64 ro, Value.int IntKind.i64 co, Value.string cs, ca, Value.int IntKind.i64 bu] 24)).alloc (Obj.cells #[Value.map none, Value.map none] 154)).alloc (Obj.map #[] 0)) (w.heap.size + 1 + 1 + 1) (by simp)).block (Below.heap_alloc _ _ _ (by simp))
  have y5 : ∀ o, (((((w.alloc (Obj.cells #[Value.int IntKind.i64 ro, Value.int IntKind.i64 co, Value.string cs, ca, Value.int IntKind.i64 bu] 24)).alloc (Obj.cells #[Value.map none, Value.map none] 154)).alloc (Obj.map #[] 0)).alloc (Obj.map #[] 0)).alloc (Obj.cells #[Value.map (some (w.heap.size + 1 + 1)), Value.map (some (w.heap.size + 1 + 1 + 1))] 154)).cell? ⟨w.heap.size, o, none⟩ = #[Value.int .i64 ro, .int .i64 co, .string cs, ca, .int .i64 bu][o]? := by
    intro o; go_simp
  have z5 : ∀ o, (((((w.alloc (Obj.cells #[Value.int IntKind.i64 ro, Value.int IntKind.i64 co, Value.string cs, ca, Value.int IntKind.i64 bu] 24)).alloc (Obj.cells #[Value.map none, Value.map none] 154)).alloc (Obj.map #[] 0)).alloc (Obj.map #[] 0)).alloc (Obj.cells #[Value.map (some (w.heap.size + 1 + 1)), Value.map (some (w.heap.size + 1 + 1 + 1))] 154)).cell? ⟨w.heap.size + 1, o, none⟩ = #[Value.map none, Value.map none][o]? := by
    intro o; go_simp
  have zf5 : ∀ o, (((((w.alloc (Obj.cells #[Value.int IntKind.i64 ro, Value.int IntKind.i64 co, Value.string cs, ca, Value.int IntKind.i64 bu] 24)).alloc (Obj.cells #[Value.map none, Value.map none] 154)).alloc (Obj.map #[] 0)).alloc (Obj.map #[] 0)).alloc (Obj.cells #[Value.map (some (w.heap.size + 1 + 1)), Value.map (some (w.heap.size + 1 + 1 + 1))] 154)).frozen? ⟨w.heap.size + 1, o, none⟩ = false := by
    intro o; go_simp
  have b5 : ∀ o, (((((w.alloc (Obj.cells #[Value.int IntKind.i64 ro, Value.int IntKind.i64 co, Value.string cs, ca, Value.int IntKind.i64 bu] 24)).alloc (Obj.cells #[Value.map none, Value.map none] 154)).alloc (Obj.map #[] 0)).alloc (Obj.map #[] 0)).alloc (Obj.cells #[Value.map (some (w.heap.size + 1 + 1)), Value.map (some (w.heap.size + 1 + 1 + 1))] 154)).cell? ⟨w.heap.size + 1 + 1 + 1 + 1, o, none⟩ = #[Value.map (some (w.heap.size + 1 + 1)), Value.map (some (w.heap.size + 1 + 1 + 1))][o]? := by
    intro o; go_simp
  have hz5 : (((((w.alloc (Obj.cells #[Value.int IntKind.i64 ro, Value.int IntKind.i64 co, Value.string cs, ca, Value.int IntKind.i64 bu] 24)).alloc (Obj.cells #[Value.map none, Value.map none] 154)).alloc (Obj.map #[] 0)).alloc (Obj.map #[] 0)).alloc (Obj.cells #[Value.map (some (w.heap.size + 1 + 1)), Value.map (some (w.heap.size + 1 + 1 + 1))] 154)).heap.size = w.heap.size + 5 := by simp
  generalize ((((w.alloc (Obj.cells #[Value.int IntKind.i64 ro, Value.int IntKind.i64 co, Value.string cs, ca, Value.int IntKind.i64 bu] 24)).alloc (Obj.cells #[Value.map none, Value.map none] 154)).alloc (Obj.map #[] 0)).alloc (Obj.map #[] 0)).alloc (Obj.cells #[Value.map (some (w.heap.size + 1 + 1)), Value.map (some (w.heap.size + 1 + 1 + 1))] 154) = w5 at *
  have Y5 := Hid.mk y5
  have Z5 := Hid.mk z5
  have ZF5 := Hid.mk zf5
  have B5 := Hid.mk b5
  clear y5 z5 zf5 b5 hmm
  go_loopw [13] (fun s wr => ∃ (k ns nt : Nat) (f : Int → Int → Bool) (g : Int → Int → Int → Bool), k ≤ n ∧ s = .int .i64 k ∧ ns ≤ k * 40 ∧ nt ≤ k ∧ SpotSet wr (w.heap.size + 1 + 1) ns f ∧ StepSet wr (w.heap.size + 1 + 1 + 1) nt g ∧
    (∀ c : Int, 0 ≤ c → c < cs.size → ∀ t, f c t = !onM k R c t) ∧ (∀ a c t, g a c t = noWayM k R a c t) ∧ Only (fun i => i = w.heap.size + 1 + 1 ∨ i = w.heap.size + 1 + 1 + 1) w5 wr) (fun s _ => n - (intOf s).toNat)
  case atStart => exact ⟨0, 0, 0, _, _, Nat.zero_le _, rfl, Nat.zero_le _, Nat.zero_le _, HS5.out, HT5.out, fun _ _ _ _ => rfl, fun _ _ _ => rfl, Only.refl _ _⟩
  case round =>
    obtain ⟨k, ns, nt, f, g, hk, rfl, hns, hnt, hset, hste, hf0, hg0, honly⟩ := hrel
    have HS := Hid.mk hset
    have HT := Hid.mk hste
    have HF := Hid.mk hf0
    have HG := Hid.mk hg0
    have HO := Hid.mk honly
    have hz := honly.size
    have HW : Hid (Below w.heap.size w wr) := below_only HB5.out honly (by omega) (fun i hi => by rcases hi with e | e <;> omega)
    have yr : ∀ o, wr.cell? ⟨w.heap.size, o, none⟩ = #[Value.int .i64 ro, .int .i64 co, .string cs, ca, .int .i64 bu][o]? := fun o => (honly.cell (p := ⟨w.heap.size, o, none⟩) (by show w.heap.size < _; omega) (by show ¬ (w.heap.size = _ ∨ w.heap.size = _); omega)).trans (Y5.out o)
    have br : ∀ o, wr.cell? ⟨w.heap.size + 1 + 1 + 1 + 1, o, none⟩ = #[Value.map (some (w.heap.size + 1 + 1)), Value.map (some (w.heap.size + 1 + 1 + 1))][o]? := fun o => (honly.cell (p := ⟨w.heap.size + 1 + 1 + 1 + 1, o, none⟩) (by show w.heap.size + 1 + 1 + 1 + 1 < _; omega) (by show ¬ (w.heap.size + 1 + 1 + 1 + 1 = _ ∨ w.heap.size + 1 + 1 + 1 + 1 = _); omega)).trans (B5.out o)
    have hzw : w.heap.size < wr.heap.size := by omega
    have hzb : w.heap.size + 1 + 1 + 1 + 1 < wr.heap.size := by omega
    clear hset hste hf0 hg0 honly
    by_cases hlt : k < n
    · obtain ⟨b, off, rfl, hrs⟩ := HA.out (by omega)
      obtain ⟨c0, c1, c2, c3⟩ := hrs k hlt
      have c0 := cell_later HW.out c0
      have c1 := cell_later HW.out c1
      have c2 := cell_later HW.out c2
      have c3 := cell_later HW.out c3
      have hrk := rulesB_at HR.out hlt
      have hwk := HWF.out k hlt
      clear hrs
      obtain ⟨r, hr⟩ : ∃ r, r = R k := ⟨_, rfl⟩
      rw [← hr] at c0 c1 c2 c3 hrk hwk
      obtain ⟨kd, ce, ne, ta⟩ := r
      have Hr := Hid.mk hr
      clear hr
      dsimp only at c0 c1 c2 c3 hrk hwk
      have WN := Hid.mk hwk
      have wt : Hid (i64B ta) := i64B_small (by omega) (by omega)
      have wc : Hid (i64B ce) := i64B_small (by omega) (by omega)
      have HSx : Hid (SpotSet (wr.alloc (Obj.cells #[.int .i64 kd, .int .i64 ce, .int .i64 ne, .int .i64 ta] 101)) (w.heap.size + 1 + 1) ns f) := HS.out.block (Below.heap_alloc _ _ _ (by omega))
      have HTx : Hid (StepSet (wr.alloc (Obj.cells #[.int .i64 kd, .int .i64 ce, .int .i64 ne, .int .i64 ta] 101)) (w.heap.size + 1 + 1 + 1) nt g) := HT.out.block (Below.heap_alloc _ _ _ (by omega))
      have HOx : Hid (Only (fun i => i = w.heap.size + 1 + 1 ∨ i = w.heap.size + 1 + 1 + 1) w5 (wr.alloc (Obj.cells #[.int .i64 kd, .int .i64 ce, .int .i64 ne, .int .i64 ta] 101))) := HO.out.alloc _
      clear hwk
      by_cases k0 : (kd == 0) = true
      · have K0 := Hid.mk k0
        go_wp2_with fail
        refine (banSpot_any _ (w.heap.size + 1 + 1 + 1) ns f ce ta _ HSx.out (by omega) wc.out wt.out).mono ?_
        rintro e w7 ⟨rfl, hs7, ho7⟩
        have HS7 := Hid.mk hs7
        have HT7 : Hid (StepSet w7 (w.heap.size + 1 + 1 + 1) nt g) := HTx.out.block (ho7.block _ HTx.out.lt (by omega))
        have HO7 : Hid (Only (fun i => i = w.heap.size + 1 + 1 ∨ i = w.heap.size + 1 + 1 + 1) w5 w7) := HOx.out.trans ho7 (fun _ _ e => Or.inl e)
        clear hs7 ho7 yr br c0 c1 c2 c3
        go_wp2
        go_roundw
        case rel => exact ⟨k + 1, ns + 1, nt, _, g, by omega, by go_num, by omega, by omega, HS7.out, HT7.out, fun c h0 h1 t => bans_keep Hr.out K0.out (HF.out c h0 h1 t), fun a c t => ways_same Hr.out (by have := K0.out; simp at this ⊢; omega) (HG.out a c t), HO7.out⟩
        case measure => simp [intOf]; omega
      · have k0' : (kd == 0) = false := by simpa using k0
        clear k0
        by_cases k1 : (kd == 1) = true
        · have K1 := Hid.mk k1
          go_wp2_with fail
          refine (banStep_any (w.heap.size + 1 + 1) _ nt g ce ne ta _ HTx.out (by omega) wc.out WN.out wt.out).mono ?_
          rintro e w7 ⟨rfl, hs7, ho7⟩
          have HT7 := Hid.mk hs7
          have HS7 : Hid (SpotSet w7 (w.heap.size + 1 + 1) ns f) := HSx.out.block (ho7.block _ HSx.out.lt (by omega))
          have HO7 : Hid (Only (fun i => i = w.heap.size + 1 + 1 ∨ i = w.heap.size + 1 + 1 + 1) w5 w7) := HOx.out.trans ho7 (fun _ _ e => Or.inr e)
          clear hs7 ho7 yr br c0 c1 c2 c3
          go_wp2
          go_roundw
          case rel => exact ⟨k + 1, ns, nt + 1, f, _, by omega, by go_num, by omega, by omega, HS7.out, HT7.out, fun c h0 h1 t => bans_same Hr.out K1.out (HF.out c h0 h1 t), fun a c t => ways_put Hr.out K1.out (HG.out a c t), HO7.out⟩
          case measure => simp [intOf]; omega
        · have k1' : (kd == 1) = false := by simpa using k1
          clear k1
          have k2 : (kd == 2) = true := by simp at k0' k1' ⊢; omega
          have K1 := Hid.mk k1'
          have K2 := Hid.mk k2
          go_wp2_with fail
          refine (banOthers_any _ (w.heap.size + 1 + 1 + 1) ns cs.size f ce ta _ HSx.out hs (by omega) wt.out).mono ?_
          rintro e w7 ⟨rfl, hs7, ho7⟩
          have HS7 := Hid.mk hs7
          have HT7 : Hid (StepSet w7 (w.heap.size + 1 + 1 + 1) nt g) := HTx.out.block (ho7.block _ HTx.out.lt (by omega))
          have HO7 : Hid (Only (fun i => i = w.heap.size + 1 + 1 ∨ i = w.heap.size + 1 + 1 + 1) w5 w7) := HOx.out.trans ho7 (fun _ _ e => Or.inl e)
          clear hs7 ho7 yr br c0 c1 c2 c3
          go_wp2
          go_roundw
          case rel => exact ⟨k + 1, ns + cs.size, nt, _, g, by omega, by go_num, by omega, by omega, HS7.out, HT7.out, fun c h0 h1 t => bans_there Hr.out K2.out h0 h1 (HF.out c h0 h1 t), fun a c t => ways_same Hr.out K1.out (HG.out a c t), HO7.out⟩
          case measure => simp [intOf]; omega
    · have hd : k = n := by omega
      have zr : ∀ o, wr.cell? ⟨w.heap.size + 1, o, none⟩ = #[Value.map none, Value.map none][o]? := fun o => (HO.out.cell (p := ⟨w.heap.size + 1, o, none⟩) (by show w.heap.size + 1 < _; omega) (by show ¬ (w.heap.size + 1 = _ ∨ w.heap.size + 1 = _); omega)).trans (Z5.out o)
      have zfr : ∀ o, wr.frozen? ⟨w.heap.size + 1, o, none⟩ = false := fun o => (HO.out.frozen (p := ⟨w.heap.size + 1, o, none⟩) (by show w.heap.size + 1 < _; omega) (by show ¬ (w.heap.size + 1 = _ ∨ w.heap.size + 1 = _); omega)).trans (ZF5.out o)
      go_wp2
      subst hd
      refine bodyPost_ret (v := .agg #[.map (some (w.heap.size + 1 + 1)), .map (some (w.heap.size + 1 + 1 + 1))]) (by simp [results, Tryd.results151]; go_simp) rfl ⟨w.heap.size + 1 + 1, w.heap.size + 1 + 1 + 1, rfl, by omega, by omega, by omega, ?_, ?_⟩
      · refine ⟨ns, nt, f, g, hns, hnt, HS.out.block ?_, HT.out.block ?_, HF.out, HG.out⟩
        · iterate 2 rw [Below.heap_setCell _ _ _ _ (by show w.heap.size + 1 + 1 ≠ w.heap.size + 1; omega)]
        · iterate 2 rw [Below.heap_setCell _ _ _ _ (by show w.heap.size + 1 + 1 + 1 ≠ w.heap.size + 1; omega)]
      · iterate 2 refine Below.setCell ?_ (by show w.heap.size ≤ w.heap.size + 1; omega) _
        exact HW.out

set_option maxRecDepth 100000 in
set_option maxHeartbeats 4000000 in
theorem newTrip_two (ro co bu f c : Int) (cs : ByteArray) (ac : Option Addr) (mc cc : Nat) (a : Option Addr) (n cap : Nat) (R : Nat → RuleM) (w : World) (hs : cs.size ≤ 36) (hr : rulesB cs.size n R = true) (hwf : RulesWf n R) (ha : RulesAt w a n R) :
    Calls Tryd.prog 115 #[.agg #[.int .i64 ro, .int .i64 co, .string cs, .slice ac mc cc, .int .i64 bu], .agg #[.int .i64 f, .int .i64 c], .slice a n cap] w fun e w' =>
      ∃ bs bt, e = .returned (tripV ro co bu cs ac mc cc f c bs bt (settledM c R n)) ∧ w.heap.size ≤ bs ∧ w.heap.size ≤ bt ∧ bs ≠ bt ∧ BansIn w' bs bt cs.size n R ∧ Below w.heap.size w w' := by
  have HA := Hid.mk ha
  have HR := Hid.mk hr
  have HWF := Hid.mk hwf
  clear ha hr hwf
  go_enter Tryd.func115, Tryd.ntmps115
  go_upto_region 1 with fail
  have HB3 : Hid (Below w.heap.size w ((((w.alloc (Obj.cells #[Value.int IntKind.i64 ro, Value.int IntKind.i64 co, Value.string cs, .slice ac mc cc, Value.int IntKind.i64 bu] 24)).alloc (Obj.cells #[Value.int IntKind.i64 f, Value.int IntKind.i64 c] 87)).alloc (Obj.cells #[Value.int IntKind.i64 0, Value.int IntKind.i64 0, Value.string { data := #[] }, Value.slice none 0 0, Value.int IntKind.i64 0, Value.int IntKind.i64 0, Value.int IntKind.i64 0, Value.map none, Value.map none, Value.int IntKind.i64 0] 156)))) := (((Below.refl _ w).alloc (Nat.le_refl _) _).alloc (by simp) _).alloc (by simp; omega) _
  have k0 : ((((w.alloc (Obj.cells #[Value.int IntKind.i64 ro, Value.int IntKind.i64 co, Value.string cs, .slice ac mc cc, Value.int IntKind.i64 bu] 24)).alloc (Obj.cells #[Value.int IntKind.i64 f, Value.int IntKind.i64 c] 87)).alloc (Obj.cells #[Value.int IntKind.i64 0, Value.int IntKind.i64 0, Value.string { data := #[] }, Value.slice none 0 0, Value.int IntKind.i64 0, Value.int IntKind.i64 0, Value.int IntKind.i64 0, Value.map none, Value.map none, Value.int IntKind.i64 0] 156))).cell? ⟨w.heap.size, 0, none⟩ = some (.int .i64 ro) := by go_simp
  have k1 : ((((w.alloc (Obj.cells #[Value.int IntKind.i64 ro, Value.int IntKind.i64 co, Value.string cs, .slice ac mc cc, Value.int IntKind.i64 bu] 24)).alloc (Obj.cells #[Value.int IntKind.i64 f, Value.int IntKind.i64 c] 87)).alloc (Obj.cells #[Value.int IntKind.i64 0, Value.int IntKind.i64 0, Value.string { data := #[] }, Value.slice none 0 0, Value.int IntKind.i64 0, Value.int IntKind.i64 0, Value.int IntKind.i64 0, Value.map none, Value.map none, Value.int IntKind.i64 0] 156))).cell? ⟨w.heap.size, 1, none⟩ = some (.int .i64 co) := by go_simp
  have k2 : ((((w.alloc (Obj.cells #[Value.int IntKind.i64 ro, Value.int IntKind.i64 co, Value.string cs, .slice ac mc cc, Value.int IntKind.i64 bu] 24)).alloc (Obj.cells #[Value.int IntKind.i64 f, Value.int IntKind.i64 c] 87)).alloc (Obj.cells #[Value.int IntKind.i64 0, Value.int IntKind.i64 0, Value.string { data := #[] }, Value.slice none 0 0, Value.int IntKind.i64 0, Value.int IntKind.i64 0, Value.int IntKind.i64 0, Value.map none, Value.map none, Value.int IntKind.i64 0] 156))).cell? ⟨w.heap.size, 2, none⟩ = some (.string cs) := by go_simp
  have k3 : ((((w.alloc (Obj.cells #[Value.int IntKind.i64 ro, Value.int IntKind.i64 co, Value.string cs, .slice ac mc cc, Value.int IntKind.i64 bu] 24)).alloc (Obj.cells #[Value.int IntKind.i64 f, Value.int IntKind.i64 c] 87)).alloc (Obj.cells #[Value.int IntKind.i64 0, Value.int IntKind.i64 0, Value.string { data := #[] }, Value.slice none 0 0, Value.int IntKind.i64 0, Value.int IntKind.i64 0, Value.int IntKind.i64 0, Value.map none, Value.map none, Value.int IntKind.i64 0] 156))).cell? ⟨w.heap.size, 3, none⟩ = some (.slice ac mc cc) := by go_simp
  have k4 : ((((w.alloc (Obj.cells #[Value.int IntKind.i64 ro, Value.int IntKind.i64 co, Value.string cs, .slice ac mc cc, Value.int IntKind.i64 bu] 24)).alloc (Obj.cells #[Value.int IntKind.i64 f, Value.int IntKind.i64 c] 87)).alloc (Obj.cells #[Value.int IntKind.i64 0, Value.int IntKind.i64 0, Value.string { data := #[] }, Value.slice none 0 0, Value.int IntKind.i64 0, Value.int IntKind.i64 0, Value.int IntKind.i64 0, Value.map none, Value.map none, Value.int IntKind.i64 0] 156))).cell? ⟨w.heap.size, 4, none⟩ = some (.int .i64 bu) := by go_simp
  have k5 : ((((w.alloc (Obj.cells #[Value.int IntKind.i64 ro, Value.int IntKind.i64 co, Value.string cs, .slice ac mc cc, Value.int IntKind.i64 bu] 24)).alloc (Obj.cells #[Value.int IntKind.i64 f, Value.int IntKind.i64 c] 87)).alloc (Obj.cells #[Value.int IntKind.i64 0, Value.int IntKind.i64 0, Value.string { data := #[] }, Value.slice none 0 0, Value.int IntKind.i64 0, Value.int IntKind.i64 0, Value.int IntKind.i64 0, Value.map none, Value.map none, Value.int IntKind.i64 0] 156))).cell? ⟨w.heap.size + 1, 0, none⟩ = some (.int .i64 f) := by go_simp
  have k6 : ((((w.alloc (Obj.cells #[Value.int IntKind.i64 ro, Value.int IntKind.i64 co, Value.string cs, .slice ac mc cc, Value.int IntKind.i64 bu] 24)).alloc (Obj.cells #[Value.int IntKind.i64 f, Value.int IntKind.i64 c] 87)).alloc (Obj.cells #[Value.int IntKind.i64 0, Value.int IntKind.i64 0, Value.string { data := #[] }, Value.slice none 0 0, Value.int IntKind.i64 0, Value.int IntKind.i64 0, Value.int IntKind.i64 0, Value.map none, Value.map none, Value.int IntKind.i64 0] 156))).cell? ⟨w.heap.size + 1, 1, none⟩ = some (.int .i64 c) := by go_simp
  have r3 : ∀ o, ((((w.alloc (Obj.cells #[Value.int IntKind.i64 ro, Value.int IntKind.i64 co, Value.string cs, .slice ac mc cc, Value.int IntKind.i64 bu] 24)).alloc (Obj.cells #[Value.int IntKind.i64 f, Value.int IntKind.i64 c] 87)).alloc (Obj.cells #[Value.int IntKind.i64 0, Value.int IntKind.i64 0, Value.string { data := #[] }, Value.slice none 0 0, Value.int IntKind.i64 0, Value.int IntKind.i64 0, Value.int IntKind.i64 0, Value.map none, Value.map none, Value.int IntKind.i64 0] 156))).cell? ⟨w.heap.size + 1 + 1, o, none⟩ = #[Value.int IntKind.i64 0, Value.int IntKind.i64 0, Value.string { data := #[] }, Value.slice none 0 0, Value.int IntKind.i64 0, Value.int IntKind.i64 0, Value.int IntKind.i64 0, Value.map none, Value.map none, Value.int IntKind.i64 0][o]? := by
    intro o; go_simp
  have rf3 : ∀ o, ((((w.alloc (Obj.cells #[Value.int IntKind.i64 ro, Value.int IntKind.i64 co, Value.string cs, .slice ac mc cc, Value.int IntKind.i64 bu] 24)).alloc (Obj.cells #[Value.int IntKind.i64 f, Value.int IntKind.i64 c] 87)).alloc (Obj.cells #[Value.int IntKind.i64 0, Value.int IntKind.i64 0, Value.string { data := #[] }, Value.slice none 0 0, Value.int IntKind.i64 0, Value.int IntKind.i64 0, Value.int IntKind.i64 0, Value.map none, Value.map none, Value.int IntKind.i64 0] 156))).frozen? ⟨w.heap.size + 1 + 1, o, none⟩ = false := by
    intro o; go_simp
  have hz3 : ((((w.alloc (Obj.cells #[Value.int IntKind.i64 ro, Value.int IntKind.i64 co, Value.string cs, .slice ac mc cc, Value.int IntKind.i64 bu] 24)).alloc (Obj.cells #[Value.int IntKind.i64 f, Value.int IntKind.i64 c] 87)).alloc (Obj.cells #[Value.int IntKind.i64 0, Value.int IntKind.i64 0, Value.string { data := #[] }, Value.slice none 0 0, Value.int IntKind.i64 0, Value.int IntKind.i64 0, Value.int IntKind.i64 0, Value.map none, Value.map none, Value.int IntKind.i64 0] 156))).heap.size = w.heap.size + 3 := by simp
  generalize (((w.alloc (Obj.cells #[Value.int IntKind.i64 ro, Value.int IntKind.i64 co, Value.string cs, .slice ac mc cc, Value.int IntKind.i64 bu] 24)).alloc (Obj.cells #[Value.int IntKind.i64 f, Value.int IntKind.i64 c] 87)).alloc (Obj.cells #[Value.int IntKind.i64 0, Value.int IntKind.i64 0, Value.string { data := #[] }, Value.slice none 0 0, Value.int IntKind.i64 0, Value.int IntKind.i64 0, Value.int IntKind.i64 0, Value.map none, Value.map none, Value.int IntKind.i64 0] 156)) = w3 at *
  have R3 := Hid.mk r3
  have RF3 := Hid.mk rf3
  clear r3 rf3
  have e0 : w.heap.size < w3.heap.size := by omega
  have e1 : w.heap.size + 1 < w3.heap.size := by omega
  have e2 : w.heap.size + 1 + 1 < w3.heap.size := by omega
  have n0 : w.heap.size + 1 + 1 ≠ w.heap.size := by omega
  have n1 : w.heap.size ≠ w.heap.size + 1 + 1 := by omega
  go_region_held3 (fun w' => w'.cell? ⟨w.heap.size, 0, none⟩ = some (.int .i64 ro) ∧ w'.cell? ⟨w.heap.size, 1, none⟩ = some (.int .i64 co) ∧ w'.cell? ⟨w.heap.size, 2, none⟩ = some (.string cs) ∧ w'.cell? ⟨w.heap.size, 3, none⟩ = some (.slice ac mc cc) ∧ w'.cell? ⟨w.heap.size, 4, none⟩ = some (.int .i64 bu) ∧ w'.cell? ⟨w.heap.size + 1, 0, none⟩ = some (.int .i64 f) ∧ w'.cell? ⟨w.heap.size + 1, 1, none⟩ = some (.int .i64 c)) (go_keep)
    (first
      | (go_at_call_of 151 (Value.int IntKind.i64 ro); refine (bansOf_two _ _ _ _ _ _ _ _ R _ hs HR.out HWF.out (HA.out.below (by exact HB3.out.drew))).mono ?_; rintro e w4 ⟨bs, bt, rfl, hbs, hbt, hneq, hban, hb4⟩; have q40 : w4.cell? ⟨w.heap.size, 0, none⟩ = some (.int .i64 ro) := (hb4.cell (p := ⟨w.heap.size, 0, none⟩) e0).trans k0; have q41 : w4.cell? ⟨w.heap.size, 1, none⟩ = some (.int .i64 co) := (hb4.cell (p := ⟨w.heap.size, 1, none⟩) e0).trans k1; have q42 : w4.cell? ⟨w.heap.size, 2, none⟩ = some (.string cs) := (hb4.cell (p := ⟨w.heap.size, 2, none⟩) e0).trans k2; have q43 : w4.cell? ⟨w.heap.size, 3, none⟩ = some (.slice ac mc cc) := (hb4.cell (p := ⟨w.heap.size, 3, none⟩) e0).trans k3; have q44 : w4.cell? ⟨w.heap.size, 4, none⟩ = some (.int .i64 bu) := (hb4.cell (p := ⟨w.heap.size, 4, none⟩) e0).trans k4; have q45 : w4.cell? ⟨w.heap.size + 1, 0, none⟩ = some (.int .i64 f) := (hb4.cell (p := ⟨w.heap.size + 1, 0, none⟩) e1).trans k5; have q46 : w4.cell? ⟨w.heap.size + 1, 1, none⟩ = some (.int .i64 c) := (hb4.cell (p := ⟨w.heap.size + 1, 1, none⟩) e1).trans k6; have r4 : ∀ o, w4.cell? ⟨w.heap.size + 1 + 1, o, none⟩ = #[Value.int IntKind.i64 0, Value.int IntKind.i64 0, Value.string { data := #[] }, Value.slice none 0 0, Value.int IntKind.i64 0, Value.int IntKind.i64 0, Value.int IntKind.i64 0, Value.map none, Value.map none, Value.int IntKind.i64 0][o]? := fun o => (hb4.cell (p := ⟨w.heap.size + 1 + 1, o, none⟩) e2).trans (R3.out o); have rf4 : ∀ o, w4.frozen? ⟨w.heap.size + 1 + 1, o, none⟩ = false := fun o => (hb4.frozen (p := ⟨w.heap.size + 1 + 1, o, none⟩) e2).trans (RF3.out o); have g0 : w.heap.size < w4.heap.size := Nat.lt_of_lt_of_le e0 hb4.size; have g1 : w.heap.size + 1 < w4.heap.size := Nat.lt_of_lt_of_le e1 hb4.size; have g2 : w.heap.size + 1 + 1 < w4.heap.size := Nat.lt_of_lt_of_le e2 hb4.size)
      | (go_at_call_of 152 (Value.int IntKind.i64 c); refine (settled_any c _ _ _ cs.size R _ HR.out (HA.out.below (by exact HB3.out.drew.trans (hb4.mono (Nat.le_of_lt e0))))).mono ?_; rintro e w5 ⟨rfl, hb5⟩; have q50 : w5.cell? ⟨w.heap.size, 0, none⟩ = some (.int .i64 ro) := (hb5.cell (p := ⟨w.heap.size, 0, none⟩) g0).trans q40; have q51 : w5.cell? ⟨w.heap.size, 1, none⟩ = some (.int .i64 co) := (hb5.cell (p := ⟨w.heap.size, 1, none⟩) g0).trans q41; have q52 : w5.cell? ⟨w.heap.size, 2, none⟩ = some (.string cs) := (hb5.cell (p := ⟨w.heap.size, 2, none⟩) g0).trans q42; have q53 : w5.cell? ⟨w.heap.size, 3, none⟩ = some (.slice ac mc cc) := (hb5.cell (p := ⟨w.heap.size, 3, none⟩) g0).trans q43; have q54 : w5.cell? ⟨w.heap.size, 4, none⟩ = some (.int .i64 bu) := (hb5.cell (p := ⟨w.heap.size, 4, none⟩) g0).trans q44; have q55 : w5.cell? ⟨w.heap.size + 1, 0, none⟩ = some (.int .i64 f) := (hb5.cell (p := ⟨w.heap.size + 1, 0, none⟩) g1).trans q45; have q56 : w5.cell? ⟨w.heap.size + 1, 1, none⟩ = some (.int .i64 c) := (hb5.cell (p := ⟨w.heap.size + 1, 1, none⟩) g1).trans q46; have r5 : ∀ o, w5.cell? ⟨w.heap.size + 1 + 1, o, none⟩ = #[Value.int IntKind.i64 0, Value.int IntKind.i64 0, Value.string { data := #[] }, Value.slice none 0 0, Value.int IntKind.i64 0, Value.int IntKind.i64 0, Value.int IntKind.i64 0, Value.map none, Value.map none, Value.int IntKind.i64 0][o]? := fun o => (hb5.cell (p := ⟨w.heap.size + 1 + 1, o, none⟩) g2).trans (r4 o); have rf5 : ∀ o, w5.frozen? ⟨w.heap.size + 1 + 1, o, none⟩ = false := fun o => (hb5.frozen (p := ⟨w.heap.size + 1 + 1, o, none⟩) g2).trans (rf4 o)))
  have hneq2 := Hid.mk hneq
  have HBAN : Hid (BansIn w5 bs bt cs.size n R) := hban.below hb5
  have hn1 : Hid (bs ≠ w.heap.size + 1 + 1 ∧ bt ≠ w.heap.size + 1 + 1) := by
    have h1 : w3.heap.size ≤ bs := hbs
    have h2 : w3.heap.size ≤ bt := hbt
    exact ⟨by omega, by omega⟩
  have hle : Hid (w.heap.size ≤ bs ∧ w.heap.size ≤ bt) := by
    have h1 : w3.heap.size ≤ bs := hbs
    have h2 : w3.heap.size ≤ bt := hbt
    exact ⟨by omega, by omega⟩
  have HB5 : Hid (Below w.heap.size w w5) := (HB3.out.drew.trans (hb4.mono (Nat.le_of_lt e0))).trans (hb5.mono (Nat.le_of_lt g0))
  clear hban hb4 hb5 hbs hbt hneq
  go_wp2
  refine bodyPost_ret (v := tripV ro co bu cs ac mc cc f c bs bt (settledM c R n)) (by simp [results, Tryd.results115, tripV]; go_simp) rfl ⟨bs, bt, rfl, hle.out.1, hle.out.2, hneq2.out, ?_, ?_⟩
  · refine HBAN.out.block ?_ ?_
    · iterate 10 rw [Below.heap_setCell _ _ _ _ (by show bs ≠ w.heap.size + 1 + 1; exact hn1.out.1)]
    · iterate 10 rw [Below.heap_setCell _ _ _ _ (by show bt ≠ w.heap.size + 1 + 1; exact hn1.out.2)]
  · iterate 10 refine Below.setCell ?_ (by show w.heap.size ≤ w.heap.size + 1 + 1; omega) _
    exact HB5.out

end Go.Proofs.YtnkgpinadgacgaaDoor
