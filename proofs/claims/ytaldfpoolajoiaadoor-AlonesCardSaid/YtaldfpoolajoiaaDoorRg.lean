/- Walk of the document's ahead: where a cart can be an instant later. -/
import Derived.Test.YtaldfpoolajoiaaDoorRf
namespace Go.Proofs.YtaldfpoolajoiaaDoor
open Go.RowKit M

/-- Where a cart can be an instant later, as far as the cells below A were gone on from, and at A to those below B. -/
def ahdM (s : Nat → Bool) (go : Nat → Nat → Bool) (A B b : Nat) : Bool := anyB (fun a => s a && go a b) A || (decide (b < B) && (s A && go A b))

theorem ahd_zero {s : Nat → Bool} {go : Nat → Nat → Bool} (A b : Nat) : ahdM s go A 0 b = anyB (fun a => s a && go a b) A := by simp [ahdM]

theorem ahd_full {s : Nat → Bool} {go : Nat → Nat → Bool} {A B b : Nat} (hb : b < B) : ahdM s go A B b = ahdM s go (A + 1) 0 b := by simp [ahdM, anyB, hb]

theorem ahd_none {s : Nat → Bool} {go : Nat → Nat → Bool} {A b : Nat} (h : s A = false) : ahdM s go A 0 b = ahdM s go (A + 1) 0 b := by simp [ahdM, anyB, h]

theorem ahd_step {s : Nat → Bool} {go : Nat → Nat → Bool} {A B : Nat} (h : s A = true) (b : Nat) : (if b = B then (ahdM s go A B b || go A b) else ahdM s go A B b) = ahdM s go A (B + 1) b := by
  unfold ahdM
  by_cases e : b = B
  · subst e; simp [h]
  · rw [if_neg e]
    have : decide (b < B + 1) = decide (b < B) := by simp; omega
    rw [this]

set_option maxRecDepth 100000 in
set_option maxHeartbeats 1000000 in
theorem ahead_any (ro co bu : Int) (cs : ByteArray) (ca : Value) (ar : Option Addr) (n capr : Nat) (R : Nat → RuleM) (g0 c0 t : Nat) (s : Nat → Bool) (w : World) (hs : cs.size ≤ 36) (h1 : 1 ≤ co) (h2 : co ≤ 6) (hn : n ≤ maxLen) (ht : t ≤ 999) (har : RulesAt w ar n R) (hrow : w.rowIs g0 4 cs.size (boolV s)) :
    Calls Tryd.prog 51 #[.agg #[.int .i64 ro, .int .i64 co, .string cs, ca, .int .i64 bu], .slice ar n capr, .slice (some ⟨g0, 0, none⟩) cs.size c0, .int .i64 t] w fun e w' =>
      ∃ g, e = .returned (.slice (some ⟨g, 0, none⟩) cs.size cs.size) ∧ w.heap.size ≤ g ∧ w'.rowIs g 4 cs.size (boolV (fun b => anyB (fun a => s a && goesM co cs n R a b t) cs.size)) ∧ Below w.heap.size w w' := by
  have HA := Hid.mk har
  have HS := Hid.mk hrow
  have hg0 := hrow.lt
  clear har hrow
  go_enter Tryd.func51, Tryd.ntmps51
  go_wp2_with (at_make; go_must (refine wpList_make_all _ rfl _ _ 81 rfl 4 _ _ _ Tryd.underlying81 Tryd.infoBool _ _ _ _ cs.size rfl rfl rfl rfl (by omega) (by omega) ?_))
  have hrow0 := Hid.mk (brow_zero cs.size (w.alloc (Obj.cells #[Value.int IntKind.i64 ro, Value.int IntKind.i64 co, Value.string cs, ca, Value.int IntKind.i64 bu] 24)) 4 (w.heap.size + 1) (by simp))
  have hB3 : Hid (Below w.heap.size w ((w.alloc (Obj.cells #[Value.int IntKind.i64 ro, Value.int IntKind.i64 co, Value.string cs, ca, Value.int IntKind.i64 bu] 24)).alloc (Obj.cells (madeCells #[Value.bool false] cs.size) 4))) := ((Below.refl _ w).alloc (Nat.le_refl _) _).alloc (by simp) _
  have y3 : ∀ o, ((w.alloc (Obj.cells #[Value.int IntKind.i64 ro, Value.int IntKind.i64 co, Value.string cs, ca, Value.int IntKind.i64 bu] 24)).alloc (Obj.cells (madeCells #[Value.bool false] cs.size) 4)).cell? ⟨w.heap.size, o, none⟩ = #[Value.int .i64 ro, .int .i64 co, .string cs, ca, .int .i64 bu][o]? := by
    intro o; go_simp
  have hz3 : ((w.alloc (Obj.cells #[Value.int IntKind.i64 ro, Value.int IntKind.i64 co, Value.string cs, ca, Value.int IntKind.i64 bu] 24)).alloc (Obj.cells (madeCells #[Value.bool false] cs.size) 4)).heap.size = w.heap.size + 2 := by simp
  generalize (w.alloc (Obj.cells #[Value.int IntKind.i64 ro, Value.int IntKind.i64 co, Value.string cs, ca, Value.int IntKind.i64 bu] 24)).alloc (Obj.cells (madeCells #[Value.bool false] cs.size) 4) = w3 at *
  go_loopw [11] (fun v wr => ∃ A : Nat, A ≤ cs.size ∧ v = .int .i64 A ∧ wr.rowIs (w.heap.size + 1) 4 cs.size (boolV (ahdM s (fun a b => goesM co cs n R a b t) A 0)) ∧ Below (w.heap.size + 1) w3 wr) (fun v _ => cs.size - (intOf v).toNat)
  case atStart => exact ⟨0, Nat.zero_le _, rfl, hrow0.out.congr fun i _ => by simp [boolV, ahdM, anyB], Below.refl _ _⟩
  case round =>
    obtain ⟨wo, rfl⟩ : ∃ x, x = wr := ⟨_, rfl⟩
    obtain ⟨A, hA, rfl, hrw, hbr⟩ := hrel
    have HR := Hid.mk hrw
    have HB := Hid.mk hbr
    have Y3 := Hid.mk y3
    clear hrw hbr y3 hrow0
    by_cases hlt : A < cs.size
    · go_wp2
      go_loopw [12] (fun v wr => ∃ B : Nat, B ≤ cs.size ∧ (s A = false → B = 0) ∧ v = .int .i64 B ∧ wr.rowIs (w.heap.size + 1) 4 cs.size (boolV (ahdM s (fun a b => goesM co cs n R a b t) A B)) ∧ Below (w.heap.size + 1) w3 wr) (fun v _ => cs.size - (intOf v).toNat)
      case atStart => exact ⟨0, Nat.zero_le _, fun _ => rfl, rfl, HR.out, HB.out⟩
      case round =>
        obtain ⟨wi, rfl⟩ : ∃ x, x = wr := ⟨_, rfl⟩
        obtain ⟨B, hB, hB0, rfl, hrw, hbi⟩ := hrel
        have HRI := Hid.mk hrw
        have HBI := Hid.mk hbi
        have hzi := hbi.size
        have HB0 := Hid.mk hB0
        have HWI : Hid (Below w.heap.size w wi) := hB3.out.trans (hbi.mono (by omega))
        have yi : ∀ o, wi.cell? ⟨w.heap.size, o, none⟩ = #[Value.int .i64 ro, .int .i64 co, .string cs, ca, .int .i64 bu][o]? := fun o => (hbi.cell (p := ⟨w.heap.size, o, none⟩) (by show w.heap.size < _; omega)).trans (Y3.out o)
        have sA := cell_later HWI.out (HS.out.cell (i := A) hlt)
        obtain ⟨sa, hsa⟩ : ∃ x, x = s A := ⟨_, rfl⟩
        rw [show boolV s A = Value.bool (s A) from rfl, ← hsa] at sA
        have HSA := Hid.mk hsa
        clear hrw hbi hB0 hsa
        by_cases hltB : B < cs.size
        · cases sa
          · go_wp2
            go_roundw
            case rel =>
              have e0 := HB0.out HSA.out.symm
              subst e0
              exact ⟨A + 1, by omega, by go_num, HRI.out.congr fun i _ => by unfold boolV; rw [ahd_none HSA.out.symm], HBI.out⟩
            case measure => simp [intOf]; omega
          · go_wp2_with fail
            refine (goes_nat _ _ _ _ _ _ _ _ R A B t _ hs h1 h2 hn (by omega) (by omega) (HA.out.below (by exact HWI.out))).mono ?_
            rintro e w4 ⟨rfl, hb4⟩
            have HR4 := Hid.mk (HRI.out.of_block (hb4.block _ (by omega)))
            have HB4 := Hid.mk (HBI.out.trans (hb4.mono (by omega)))
            have cB := HR4.out.cell (i := B) hltB
            have cF := HR4.out.frozen
            obtain ⟨g, hg⟩ : ∃ g, g = goesM co cs n R A B t := ⟨_, rfl⟩
            obtain ⟨o, ho⟩ : ∃ o, o = ahdM s (fun a b => goesM co cs n R a b t) A B B := ⟨_, rfl⟩
            rw [show boolV (ahdM s (fun a b => goesM co cs n R a b t) A B) B = Value.bool (ahdM s (fun a b => goesM co cs n R a b t) A B B) from rfl, ← ho] at cB
            rw [← hg]
            have HG := Hid.mk hg
            have HO := Hid.mk ho
            clear hg ho yi sA hb4
            have fin : ∀ v : Bool, v = (o || g) → (w4.setCell ⟨w.heap.size + 1, B, none⟩ (.bool v)).rowIs (w.heap.size + 1) 4 cs.size (boolV (ahdM s (fun a b => goesM co cs n R a b t) A (B + 1))) := by
              intro v hv
              refine brow_store HR4.out B _ fun j _ => ?_
              rw [← ahd_step HSA.out.symm j, hv, HO.out, HG.out]
              by_cases e : j = B
              · subst e; rfl
              · rw [if_neg e, if_neg e]
            have FIN := Hid.mk fin
            clear fin
            cases o
            · cases g
              · go_wp2
                go_roundw
                case rel => exact ⟨B + 1, by omega, (fun h => by rw [← HSA.out] at h; cases h), by go_num, FIN.out _ rfl, HB4.out.setCell (by simp) _⟩
                case measure => simp [intOf]; omega
              · go_wp2
                go_roundw
                case rel => exact ⟨B + 1, by omega, (fun h => by rw [← HSA.out] at h; cases h), by go_num, FIN.out _ rfl, HB4.out.setCell (by simp) _⟩
                case measure => simp [intOf]; omega
            · go_wp2
              go_roundw
              case rel => exact ⟨B + 1, by omega, (fun h => by rw [← HSA.out] at h; cases h), by go_num, FIN.out _ (by simp), HB4.out.setCell (by simp) _⟩
              case measure => simp [intOf]; omega
        · go_wp2
          go_roundw
          case rel =>
            refine ⟨A + 1, by omega, by go_num, HRI.out.congr fun i hi => ?_, HBI.out⟩
            unfold boolV
            rw [show B = cs.size by omega, ahd_full hi]
          case measure => simp [intOf]; omega
    · have hd : A = cs.size := by omega
      go_wp2
      go_ret
      subst hd
      exact ⟨w.heap.size + 1, rfl, by omega, HR.out.congr fun i _ => by unfold boolV; rw [ahd_zero], hB3.out.trans (HB.out.mono (by omega))⟩

end Go.Proofs.YtaldfpoolajoiaaDoor
