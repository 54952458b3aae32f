/- Walk of the program's bansOf: what rules forbid, in two maps. -/
import Derived.Test.YtaldfpoolajoiaaDoorScSd
import Derived.Carry
namespace Go.Proofs.YtaldfpoolajoiaaDoor
open Go.RowKit M

theorem on_succ {k : Nat} {R : Nat → RuleM} {c t : Int} : onM (k + 1) R c t = (onM k R c t && !brkOn (R k) c t) := by
  simp [onM, anyB]

theorem noWay_succ {k : Nat} {R : Nat → RuleM} {a b t : Int} : noWayM (k + 1) R a b t = (noWayM k R a b t || brkGo (R k) a b t) := by
  simp [noWayM, anyB]

theorem beq_swap (a b : Int) : (a == b) = (b == a) := by
  rw [Bool.eq_iff_iff]; simp only [beq_iff_eq]; exact ⟨fun h => h.symm, fun h => h.symm⟩

theorem bans_keep {k : Nat} {R : Nat → RuleM} {f : Int → Int → Bool} {c t kd ce ne ta : Int} (hr : (⟨kd, ce, ne, ta⟩ : RuleM) = R k) (h0 : (kd == 0) = true) (hf : f c t = !onM k R c t) : (f c t || (c == ce && t == ta)) = !onM (k + 1) R c t := by
  rw [on_succ, ← hr, hf]
  have h2 : (kd == 2) = false := by simp at h0 ⊢; omega
  unfold brkOn
  simp only [h0, h2, Bool.true_and, Bool.false_and, Bool.or_false]
  rw [beq_swap c ce, beq_swap t ta]
  cases onM k R c t <;> cases (ce == c) <;> cases (ta == t) <;> rfl

theorem bans_there {k N : Nat} {R : Nat → RuleM} {f : Int → Int → Bool} {c t kd ce ne ta : Int} (hr : (⟨kd, ce, ne, ta⟩ : RuleM) = R k) (h2 : (kd == 2) = true) (hc0 : 0 ≤ c) (hc1 : c < N) (hf : f c t = !onM k R c t) : banF f ce ta N c t = !onM (k + 1) R c t := by
  rw [on_succ, ← hr]
  have h0 : (kd == 0) = false := by simp at h2 ⊢; omega
  unfold brkOn banF
  rw [hf]
  simp only [h0, h2, Bool.true_and, Bool.false_and, Bool.false_or, hc0, hc1, decide_true]
  rw [beq_swap c ce, beq_swap t ta]
  cases onM k R c t <;> cases (ce == c) <;> cases (ta == t) <;> rfl

theorem bans_same {k : Nat} {R : Nat → RuleM} {f : Int → Int → Bool} {c t kd ce ne ta : Int} (hr : (⟨kd, ce, ne, ta⟩ : RuleM) = R k) (h1 : (kd == 1) = true) (hf : f c t = !onM k R c t) : f c t = !onM (k + 1) R c t := by
  rw [on_succ, ← hr, hf]
  have h0 : (kd == 0) = false := by simp at h1 ⊢; omega
  have h2 : (kd == 2) = false := by simp at h1 ⊢; omega
  unfold brkOn
  simp [h0, h2]

theorem ways_put {k : Nat} {R : Nat → RuleM} {g : Int → Int → Int → Bool} {a c t kd ce ne ta : Int} (hr : (⟨kd, ce, ne, ta⟩ : RuleM) = R k) (h1 : (kd == 1) = true) (hg : g a c t = noWayM k R a c t) : (g a c t || (a == ce && c == ne && t == ta)) = noWayM (k + 1) R a c t := by
  rw [noWay_succ, ← hr, hg]
  unfold brkGo
  simp only [h1, Bool.true_and]
  rw [beq_swap a ce, beq_swap c ne, beq_swap t ta]
  cases noWayM k R a c t <;> cases (ce == a) <;> cases (ta == t) <;> cases (ne == c) <;> rfl

theorem ways_same {k : Nat} {R : Nat → RuleM} {g : Int → Int → Int → Bool} {a c t kd ce ne ta : Int} (hr : (⟨kd, ce, ne, ta⟩ : RuleM) = R k) (h1 : (kd == 1) = false) (hg : g a c t = noWayM k R a c t) : g a c t = noWayM (k + 1) R a c t := by
  rw [noWay_succ, ← hr, hg]
  unfold brkGo
  simp [h1]

/-- What the two maps of bans tell. -/
def BansIn (w : World) (bs bt N n : Nat) (R : Nat → RuleM) : Prop :=
  ∃ (ns nt : Nat) (f : Int → Int → Bool) (g : Int → Int → Int → Bool), ns ≤ n * 40 ∧ nt ≤ n ∧ SpotSet w bs ns f ∧ StepSet w bt nt g ∧ (∀ c : Int, 0 ≤ c → c < N → ∀ t, f c t = !onM n R c t) ∧ (∀ a c t, g a c t = noWayM n R a c t)

theorem BansIn.block {w w' : World} {bs bt N n : Nat} {R : Nat → RuleM} (h : BansIn w bs bt N n R) (e1 : w'.heap[bs]? = w.heap[bs]?) (e2 : w'.heap[bt]? = w.heap[bt]?) : BansIn w' bs bt N n R := by
  obtain ⟨ns, nt, f, g, h1, h2, h3, h4, h5, h6⟩ := h
  exact ⟨ns, nt, f, g, h1, h2, h3.block e1, h4.block e2, h5, h6⟩

theorem BansIn.lt {w : World} {bs bt N n : Nat} {R : Nat → RuleM} (h : BansIn w bs bt N n R) : bs < w.heap.size ∧ bt < w.heap.size := by
  obtain ⟨ns, nt, f, g, h1, h2, h3, h4, h5, h6⟩ := h
  exact ⟨h3.lt, h4.lt⟩

theorem BansIn.below {w w' : World} {bs bt N n : Nat} {R : Nat → RuleM} (h : BansIn w bs bt N n R) (hb : Below w.heap.size w w') : BansIn w' bs bt N n R :=
  h.block (hb.block _ h.lt.1) (hb.block _ h.lt.2)

/-- The numbers of the rules are numbers of Go's. -/
def RulesWf (n : Nat) (R : Nat → RuleM) : Prop := ∀ i, i < n → i64B (R i).next

set_option maxRecDepth 100000 in
set_option maxHeartbeats 2000000 in
theorem bansOf_any (ro co bu : Int) (cs : ByteArray) (ca : Value) (a : Option Addr) (n cap : Nat) (R : Nat → RuleM) (w : World) (hs : cs.size ≤ 36) (hr : rulesB cs.size n R = true) (hwf : RulesWf n R) (ha : RulesAt w a n R) :
    Calls Tryd.prog 83 #[.agg #[.int .i64 ro, .int .i64 co, .string cs, ca, .int .i64 bu], .slice a n cap] w fun e w' =>
      ∃ bs bt, e = .returned (.agg #[.map (some bs), .map (some bt)]) ∧ w.heap.size ≤ bs ∧ w.heap.size ≤ bt ∧ BansIn w' bs bt cs.size n R ∧ Below w.heap.size w w' := by
  have HA := Hid.mk ha
  have HR := Hid.mk hr
  have HWF := Hid.mk hwf
  have hn := rulesB_len hr
  have hmm := @run_makeMap Tryd.prog
  clear ha hr hwf
  go_enter Tryd.func83, Tryd.ntmps83
  go_wp2
  have HB5 : Hid (Below w.heap.size w (((((w.alloc (Obj.cells #[Value.int IntKind.i64 ro, Value.int IntKind.i64 co, Value.string cs, ca, Value.int IntKind.i64 bu] 24)).alloc (Obj.cells #[Value.map none, Value.map none] 103)).alloc (Obj.map #[] 0)).alloc (Obj.map #[] 0)).alloc (Obj.cells #[Value.map (some (w.heap.size + 1 + 1)), Value.map (some (w.heap.size + 1 + 1 + 1))] 103))) := ((((Below.refl _ w).alloc (Nat.le_refl _) _).alloc (by simp) _).alloc (by simp; omega) _).alloc (by simp; omega) _ |>.alloc (by simp; omega) _
  have HS5 : Hid (SpotSet (((((w.alloc (Obj.cells #[Value.int IntKind.i64 ro, Value.int IntKind.i64 co, Value.string cs, ca, Value.int IntKind.i64 bu] 24)).alloc (Obj.cells #[Value.map none, Value.map none] 103)).alloc (Obj.map #[] 0)).alloc (Obj.map #[] 0)).alloc (Obj.cells #[Value.map (some (w.heap.size + 1 + 1)), Value.map (some (w.heap.size + 1 + 1 + 1))] 103)) (w.heap.size + 1 + 1) 0 (fun _ _ => false)) :=
    ((spotSet_made ((w.alloc (Obj.cells #[Value.int IntKind.i64 ro, Value.int IntKind.i64 co, Value.string cs, ca, Value.int IntKind.i64 bu] 24)).alloc (Obj.cells #[Value.map none, Value.map none] 103)) (w.heap.size + 1 + 1) (by simp)).block (Below.heap_alloc _ _ _ (by simp))).block (Below.heap_alloc _ _ _ (by simp))
  have HT5 : Hid (StepSet (((((w.alloc (Obj.cells #[Value.int IntKind.i64 ro, Value.int IntKind.i64 co, Value.string cs, ca, Value.int IntKind.i64 bu] 24)).alloc (Obj.cells #[Value.map none, Value.map none] 103)).alloc (Obj.map #[] 0)).alloc (Obj.map #[] 0)).alloc (Obj.cells #[Value.map (some (w.heap.size + 1 + 1)), Value.map (some (w.heap.size + 1 + 1 + 1))] 103)) (w.heap.size + 1 + 1 + 1) 0 (fun _ _ _ => false)) :=
    (stepSet_made (((w.alloc (Obj.cells #[Value.int IntKind.i64 ro, Value.int IntKind.i64 co, Value.string cs, ca, Value.int IntKind.i64 bu] 24)).alloc (Obj.cells #[Value.map none, Value.map none] 103)).alloc (Obj.map #[] 0)) (w.heap.size + 1 + 1 + 1) (by simp)).block (Below.heap_alloc _ _ _ (by simp))
  have y5 : ∀ o, (((((w.alloc (Obj.cells #[Value.int IntKind.i64 ro, Value.int IntKind.i64 co, Value.string cs, ca, Value.int IntKind.i64 bu] 24)).alloc (Obj.cells #[Value.map none, Value.map none] 103)).alloc (Obj.map #[] 0)).alloc (Obj.map #[] 0)).alloc (Obj.cells #[Value.map (some (w.heap.size + 1 + 1)), Value.map (some (w.heap.size + 1 + 1 + 1))] 103)).cell? ⟨w.heap.size, o, none⟩ = #[Value.int .i64 ro, .int .i64 co, .string cs, ca, .int .i64 bu][o]? := by
    intro o; go_simp
  have z5 : ∀ o, (((((w.alloc (Obj.cells #[Value.int IntKind.i64 ro, Value.int IntKind.i64 co, Value.string cs, ca, Value.int IntKind.i64 bu] 24)).alloc (Obj.cells #[Value.map none, Value.map none] 103)).alloc (Obj.map #[] 0)).alloc (Obj.map #[] 0)).alloc (Obj.cells #[Value.map (some (w.heap.size + 1 + 1)), Value.map (some (w.heap.size + 1 + 1 + 1))] 103)).cell? ⟨w.heap.size + 1, o, none⟩ = #[Value.map none, Value.map none][o]? := by
    intro o; go_simp
  have zf5 : ∀ o, (((((w.alloc (Obj.cells #[Value.int IntKind.i64 ro, Value.int IntKind.i64 co, Value.string cs, ca, Value.int IntKind.i64 bu] 24)).alloc (Obj.cells #[Value.map none, Value.map none] 103)).alloc (Obj.map #[] 0)).alloc (Obj.map #[] 0)).alloc (Obj.cells #[Value.map (some (w.heap.size + 1 + 1)), Value.map (some (w.heap.size + 1 + 1 + 1))] 103)).frozen? ⟨w.heap.size + 1, o, none⟩ = false := by
    intro o; go_simp
  have b5 : ∀ o, (((((w.alloc (Obj.cells #[Value.int IntKind.i64 ro, Value.int IntKind.i64 co, Value.string cs, ca, Value.int IntKind.i64 bu] 24)).alloc (Obj.cells #[Value.map none, Value.map none] 103)).alloc (Obj.map #[] 0)).alloc (Obj.map #[] 0)).alloc (Obj.cells #[Value.map (some (w.heap.size + 1 + 1)), Value.map (some (w.heap.size + 1 + 1 + 1))] 103)).cell? ⟨w.heap.size + 1 + 1 + 1 + 1, o, none⟩ = #[Value.map (some (w.heap.size + 1 + 1)), Value.map (some (w.heap.size + 1 + 1 + 1))][o]? := by
    intro o; go_simp
  have hz5 : (((((w.alloc (Obj.cells #[Value.int IntKind.i64 ro, Value.int IntKind.i64 co, Value.string cs, ca, Value.int IntKind.i64 bu] 24)).alloc (Obj.cells #[Value.map none, Value.map none] 103)).alloc (Obj.map #[] 0)).alloc (Obj.map #[] 0)).alloc (Obj.cells #[Value.map (some (w.heap.size + 1 + 1)), Value.map (some (w.heap.size + 1 + 1 + 1))] 103)).heap.size = w.heap.size + 5 := by simp
  generalize ((((w.alloc (Obj.cells #[Value.int IntKind.i64 ro, Value.int IntKind.i64 co, Value.string cs, ca, Value.int IntKind.i64 bu] 24)).alloc (Obj.cells #[Value.map none, Value.map none] 103)).alloc (Obj.map #[] 0)).alloc (Obj.map #[] 0)).alloc (Obj.cells #[Value.map (some (w.heap.size + 1 + 1)), Value.map (some (w.heap.size + 1 + 1 + 1))] 103) = w5 at *
  have Y5 := Hid.mk y5
  have Z5 := Hid.mk z5
  have ZF5 := Hid.mk zf5
  have B5 := Hid.mk b5
  clear y5 z5 zf5 b5 hmm
  go_loopw [13] (fun s wr => ∃ (k ns nt : Nat) (f : Int → Int → Bool) (g : Int → Int → Int → Bool), k ≤ n ∧ s = .int .i64 k ∧ ns ≤ k * 40 ∧ nt ≤ k ∧ SpotSet wr (w.heap.size + 1 + 1) ns f ∧ StepSet wr (w.heap.size + 1 + 1 + 1) nt g ∧
    (∀ c : Int, 0 ≤ c → c < cs.size → ∀ t, f c t = !onM k R c t) ∧ (∀ a c t, g a c t = noWayM k R a c t) ∧ Only (fun i => i = w.heap.size + 1 + 1 ∨ i = w.heap.size + 1 + 1 + 1) w5 wr) (fun s _ => n - (intOf s).toNat)
  case atStart => exact ⟨0, 0, 0, _, _, Nat.zero_le _, rfl, Nat.zero_le _, Nat.zero_le _, HS5.out, HT5.out, fun _ _ _ _ => rfl, fun _ _ _ => rfl, Only.refl _ _⟩
  case round =>
    obtain ⟨k, ns, nt, f, g, hk, rfl, hns, hnt, hset, hste, hf0, hg0, honly⟩ := hrel
    have HS := Hid.mk hset
    have HT := Hid.mk hste
    have HF := Hid.mk hf0
    have HG := Hid.mk hg0
    have HO := Hid.mk honly
    have hz := honly.size
    have HW : Hid (Below w.heap.size w wr) := below_only HB5.out honly (by omega) (fun i hi => by rcases hi with e | e <;> omega)
    have yr : ∀ o, wr.cell? ⟨w.heap.size, o, none⟩ = #[Value.int .i64 ro, .int .i64 co, .string cs, ca, .int .i64 bu][o]? := fun o => (honly.cell (p := ⟨w.heap.size, o, none⟩) (by show w.heap.size < _; omega) (by show ¬ (w.heap.size = _ ∨ w.heap.size = _); omega)).trans (Y5.out o)
    have br : ∀ o, wr.cell? ⟨w.heap.size + 1 + 1 + 1 + 1, o, none⟩ = #[Value.map (some (w.heap.size + 1 + 1)), Value.map (some (w.heap.size + 1 + 1 + 1))][o]? := fun o => (honly.cell (p := ⟨w.heap.size + 1 + 1 + 1 + 1, o, none⟩) (by show w.heap.size + 1 + 1 + 1 + 1 < _; omega) (by show ¬ (w.heap.size + 1 + 1 + 1 + 1 = _ ∨ w.heap.size + 1 + 1 + 1 + 1 = _); omega)).trans (B5.out o)
    have hzw : w.heap.size < wr.heap.size := by omega
    have hzb : w.heap.size + 1 + 1 + 1 + 1 < wr.heap.size := by omega
    clear hset hste hf0 hg0 honly
    by_cases hlt : k < n
    · obtain ⟨b, off, rfl, hrs⟩ := HA.out (by omega)
      obtain ⟨c0, c1, c2, c3⟩ := hrs k hlt
      have c0 := cell_later HW.out c0
      have c1 := cell_later HW.out c1
      have c2 := cell_later HW.out c2
      have c3 := cell_later HW.out c3
      have hrk := rulesB_at HR.out hlt
      have hwk := HWF.out k hlt
      clear hrs
      obtain ⟨r, hr⟩ : ∃ r, r = R k := ⟨_, rfl⟩
      rw [← hr] at c0 c1 c2 c3 hrk hwk
      obtain ⟨kd, ce, ne, ta⟩ := r
      have Hr := Hid.mk hr
      clear hr
      dsimp only at c0 c1 c2 c3 hrk hwk
      have WN := Hid.mk hwk
      have wt : Hid (i64B ta) := i64B_small (by omega) (by omega)
      have wc : Hid (i64B ce) := i64B_small (by omega) (by omega)
      have HSx : Hid (SpotSet (wr.alloc (Obj.cells #[.int .i64 kd, .int .i64 ce, .int .i64 ne, .int .i64 ta] 77)) (w.heap.size + 1 + 1) ns f) := HS.out.block (Below.heap_alloc _ _ _ (by omega))
      have HTx : Hid (StepSet (wr.alloc (Obj.cells #[.int .i64 kd, .int .i64 ce, .int .i64 ne, .int .i64 ta] 77)) (w.heap.size + 1 + 1 + 1) nt g) := HT.out.block (Below.heap_alloc _ _ _ (by omega))
      have HOx : Hid (Only (fun i => i = w.heap.size + 1 + 1 ∨ i = w.heap.size + 1 + 1 + 1) w5 (wr.alloc (Obj.cells #[.int .i64 kd, .int .i64 ce, .int .i64 ne, .int .i64 ta] 77))) := HO.out.alloc _
      clear hwk
      by_cases k0 : (kd == 0) = true
      · have K0 := Hid.mk k0
        go_wp2_with fail
        refine (banSpot_any _ (w.heap.size + 1 + 1 + 1) ns f ce ta _ HSx.out (by omega) wc.out wt.out).mono ?_
        rintro e w7 ⟨rfl, hs7, ho7⟩
        have HS7 := Hid.mk hs7
        have HT7 : Hid (StepSet w7 (w.heap.size + 1 + 1 + 1) nt g) := HTx.out.block (ho7.block _ HTx.out.lt (by omega))
        have HO7 : Hid (Only (fun i => i = w.heap.size + 1 + 1 ∨ i = w.heap.size + 1 + 1 + 1) w5 w7) := HOx.out.trans ho7 (fun _ _ e => Or.inl e)
        clear hs7 ho7 yr br c0 c1 c2 c3
        go_wp2
        go_roundw
        case rel => exact ⟨k + 1, ns + 1, nt, _, g, by omega, by go_num, by omega, by omega, HS7.out, HT7.out, fun c h0 h1 t => bans_keep Hr.out K0.out (HF.out c h0 h1 t), fun a c t => ways_same Hr.out (by have := K0.out; simp at this ⊢; omega) (HG.out a c t), HO7.out⟩
        case measure => simp [intOf]; omega
      · have k0' : (kd == 0) = false := by simpa using k0
        clear k0
        by_cases k1 : (kd == 1) = true
        · have K1 := Hid.mk k1
          go_wp2_with fail
          refine (banStep_any (w.heap.size + 1 + 1) _ nt g ce ne ta _ HTx.out (by omega) wc.out WN.out wt.out).mono ?_
          rintro e w7 ⟨rfl, hs7, ho7⟩
          have HT7 := Hid.mk hs7
          have HS7 : Hid (SpotSet w7 (w.heap.size + 1 + 1) ns f) := HSx.out.block (ho7.block _ HSx.out.lt (by omega))
          have HO7 : Hid (Only (fun i => i = w.heap.size + 1 + 1 ∨ i = w.heap.size + 1 + 1 + 1) w5 w7) := HOx.out.trans ho7 (fun _ _ e => Or.inr e)
          clear hs7 ho7 yr br c0 c1 c2 c3
          go_wp2
          go_roundw
          case rel => exact ⟨k + 1, ns, nt + 1, f, _, by omega, by go_num, by omega, by omega, HS7.out, HT7.out, fun c h0 h1 t => bans_same Hr.out K1.out (HF.out c h0 h1 t), fun a c t => ways_put Hr.out K1.out (HG.out a c t), HO7.out⟩
          case measure => simp [intOf]; omega
        · have k1' : (kd == 1) = false := by simpa using k1
          clear k1
          have k2 : (kd == 2) = true := by simp at k0' k1' ⊢; omega
          have K1 := Hid.mk k1'
          have K2 := Hid.mk k2
          go_wp2_with fail
          refine (banOthers_any _ (w.heap.size + 1 + 1 + 1) ns cs.size f ce ta _ HSx.out hs (by omega) wt.out).mono ?_
          rintro e w7 ⟨rfl, hs7, ho7⟩
          have HS7 := Hid.mk hs7
          have HT7 : Hid (StepSet w7 (w.heap.size + 1 + 1 + 1) nt g) := HTx.out.block (ho7.block _ HTx.out.lt (by omega))
          have HO7 : Hid (Only (fun i => i = w.heap.size + 1 + 1 ∨ i = w.heap.size + 1 + 1 + 1) w5 w7) := HOx.out.trans ho7 (fun _ _ e => Or.inl e)
          clear hs7 ho7 yr br c0 c1 c2 c3
          go_wp2
          go_roundw
          case rel => exact ⟨k + 1, ns + cs.size, nt, _, g, by omega, by go_num, by omega, by omega, HS7.out, HT7.out, fun c h0 h1 t => bans_there Hr.out K2.out h0 h1 (HF.out c h0 h1 t), fun a c t => ways_same Hr.out K1.out (HG.out a c t), HO7.out⟩
          case measure => simp [intOf]; omega
    · have hd : k = n := by omega
      have zr : ∀ o, wr.cell? ⟨w.heap.size + 1, o, none⟩ = #[Value.map none, Value.map none][o]? := fun o => (HO.out.cell (p := ⟨w.heap.size + 1, o, none⟩) (by show w.heap.size + 1 < _; omega) (by show ¬ (w.heap.size + 1 = _ ∨ w.heap.size + 1 = _); omega)).trans (Z5.out o)
      have zfr : ∀ o, wr.frozen? ⟨w.heap.size + 1, o, none⟩ = false := fun o => (HO.out.frozen (p := ⟨w.heap.size + 1, o, none⟩) (by show w.heap.size + 1 < _; omega) (by show ¬ (w.heap.size + 1 = _ ∨ w.heap.size + 1 = _); omega)).trans (ZF5.out o)
      go_wp2
      subst hd
      refine bodyPost_ret (v := .agg #[.map (some (w.heap.size + 1 + 1)), .map (some (w.heap.size + 1 + 1 + 1))]) (by simp [results, Tryd.results83]; go_simp) rfl ⟨w.heap.size + 1 + 1, w.heap.size + 1 + 1 + 1, rfl, by omega, by omega, ?_, ?_⟩
      · refine ⟨ns, nt, f, g, hns, hnt, HS.out.block ?_, HT.out.block ?_, HF.out, HG.out⟩
        · iterate 2 rw [Below.heap_setCell _ _ _ _ (by show w.heap.size + 1 + 1 ≠ w.heap.size + 1; omega)]
        · iterate 2 rw [Below.heap_setCell _ _ _ _ (by show w.heap.size + 1 + 1 + 1 ≠ w.heap.size + 1; omega)]
      · iterate 2 refine Below.setCell ?_ (by show w.heap.size ≤ w.heap.size + 1; omega) _
        exact HW.out

end Go.Proofs.YtaldfpoolajoiaaDoor
