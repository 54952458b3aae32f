/- Walk of the document's behind: from where a cart can come to one of these cells. -/
import Derived.Test.YtnkgpinadgacgaaDoorEl
namespace Go.Proofs.YtnkgpinadgacgaaDoor
open Go.RowKit M

/-- May one come from a to b, where one of the cells is b? -/
def behP (co : Int) (cs : ByteArray) (n : Nat) (R : Nat → RuleM) (s : Nat → Bool) (t : Int) (eb : Bool) (a b : Nat) : Bool := s b && goesI co cs n R a b t && !(eb && a == b)

/-- The row as far as it is filled. -/
def behF (P : Nat → Nat → Bool) (N A B i : Nat) : Bool := if i < A then anyB (P i) N else if i = A then anyB (P A) B else false

theorem behF_skip {P : Nat → Nat → Bool} {N A B : Nat} (h : P A B = false) (i : Nat) : behF P N A B i = behF P N A (B + 1) i := by
  unfold behF
  by_cases e : i < A
  · rw [if_pos e, if_pos e]
  · rw [if_neg e, if_neg e]
    by_cases e2 : i = A
    · rw [if_pos e2, if_pos e2]
      show _ = (anyB (P A) B || P A B)
      rw [h, Bool.or_false]
    · rw [if_neg e2, if_neg e2]

theorem behF_hit {P : Nat → Nat → Bool} {N A B : Nat} (h : P A B = true) (i : Nat) : (if i = A then true else behF P N A B i) = behF P N A (B + 1) i := by
  unfold behF
  by_cases e2 : i = A
  · subst e2
    rw [if_pos rfl, if_neg (Nat.lt_irrefl _), if_pos rfl]
    show _ = (anyB (P i) B || P i B)
    rw [h, Bool.or_true]
  · rw [if_neg e2]
    by_cases e : i < A
    · rw [if_pos e, if_pos e]
    · rw [if_neg e, if_neg e2, if_neg e, if_neg e2]

theorem behF_full {P : Nat → Nat → Bool} {N A : Nat} (i : Nat) : behF P N A N i = behF P N (A + 1) 0 i := by
  unfold behF
  by_cases e : i < A
  · rw [if_pos e, if_pos (by omega)]
  · rw [if_neg e]
    by_cases e2 : i = A
    · rw [if_pos e2, if_pos (by omega), e2]
    · rw [if_neg e2, if_neg (by omega)]
      by_cases e3 : i = A + 1
      · rw [if_pos e3]; rfl
      · rw [if_neg e3]

set_option maxRecDepth 100000 in
set_option maxHeartbeats 4000000 in
theorem behind_any (ro co bu : Int) (cs : ByteArray) (ca : Value) (ar : Option Addr) (n capr : Nat) (R : Nat → RuleM) (g0 c0 t : Nat) (eb : Bool) (s : Nat → Bool) (w : World) (hs : cs.size ≤ 36) (h1 : 1 ≤ co) (h2 : co ≤ 6) (hn : n ≤ maxLen) (ht : t ≤ 999) (har : RulesAt w ar n R) (hrow : w.rowIs g0 4 cs.size (boolV s)) :
    Calls Tryd.prog 77 #[.agg #[.int .i64 ro, .int .i64 co, .string cs, ca, .int .i64 bu], .slice ar n capr, .slice (some ⟨g0, 0, none⟩) cs.size c0, .int .i64 t, .bool eb] w fun e w' =>
      ∃ g, e = .returned (.slice (some ⟨g, 0, none⟩) cs.size cs.size) ∧ w.heap.size ≤ g ∧ w'.rowIs g 4 cs.size (boolV (fun a => anyB (behP co cs n R s ((t : Int) - 1) eb a) cs.size)) ∧ Below w.heap.size w w' := by
  have HA := Hid.mk har
  have HS := Hid.mk hrow
  obtain ⟨P, hP⟩ : ∃ P, P = behP co cs n R s ((t : Int) - 1) eb := ⟨_, rfl⟩
  rw [← hP]
  have HP := Hid.mk hP
  have hwt : IntKind.i64.wrap ((t : Int) - 1) = (t : Int) - 1 := wrap_mid (by omega) (by omega)
  clear har hrow hP
  go_enter Tryd.func77, Tryd.ntmps77
  go_wp2_with (at_make; go_must (refine wpList_make_all _ rfl _ _ 105 rfl 4 _ _ _ Tryd.underlying105 Tryd.infoBool _ _ _ _ cs.size rfl rfl rfl rfl (by omega) (by omega) ?_))
  have hrow0 := Hid.mk (brow_zero cs.size (w.alloc (Obj.cells #[Value.int IntKind.i64 ro, Value.int IntKind.i64 co, Value.string cs, ca, Value.int IntKind.i64 bu] 24)) 4 (w.heap.size + 1) (by simp))
  have hB3 : Hid (Below w.heap.size w ((w.alloc (Obj.cells #[Value.int IntKind.i64 ro, Value.int IntKind.i64 co, Value.string cs, ca, Value.int IntKind.i64 bu] 24)).alloc (Obj.cells (madeCells #[Value.bool false] cs.size) 4))) := ((Below.refl _ w).alloc (Nat.le_refl _) _).alloc (by simp) _
  have y3 : ∀ o, ((w.alloc (Obj.cells #[Value.int IntKind.i64 ro, Value.int IntKind.i64 co, Value.string cs, ca, Value.int IntKind.i64 bu] 24)).alloc (Obj.cells (madeCells #[Value.bool false] cs.size) 4)).cell? ⟨w.heap.size, o, none⟩ = #[Value.int IntKind.i64 ro, Value.int IntKind.i64 co, Value.string cs, ca, Value.int IntKind.i64 bu][o]? := by
    intro o; go_simp
  have hz3 : ((w.alloc (Obj.cells #[Value.int IntKind.i64 ro, Value.int IntKind.i64 co, Value.string cs, ca, Value.int IntKind.i64 bu] 24)).alloc (Obj.cells (madeCells #[Value.bool false] cs.size) 4)).heap.size = w.heap.size + 2 := by simp
  generalize (w.alloc (Obj.cells #[Value.int IntKind.i64 ro, Value.int IntKind.i64 co, Value.string cs, ca, Value.int IntKind.i64 bu] 24)).alloc (Obj.cells (madeCells #[Value.bool false] cs.size) 4) = w3 at *
  have Y3 := Hid.mk y3
  have hz3a : w.heap.size + 2 ≤ w3.heap.size := by omega
  clear y3 hz3
  go_loopw [13] (fun v wr => ∃ A : Nat, A ≤ cs.size ∧ v = .int .i64 A ∧ wr.rowIs (w.heap.size + 1) 4 cs.size (boolV (behF P cs.size A 0)) ∧ Below (w.heap.size + 1) w3 wr) (fun v _ => cs.size - (intOf v).toNat)
  case atStart => exact ⟨0, Nat.zero_le _, rfl, hrow0.out.congr fun i _ => by unfold boolV behF; rw [if_neg (by omega)]; by_cases e : i = 0; rw [if_pos e]; rfl; rw [if_neg e], Below.refl _ _⟩
  case round =>
    obtain ⟨wo, rfl⟩ : ∃ x, x = wr := ⟨_, rfl⟩
    obtain ⟨A, hA, rfl, hrw, hbr⟩ := hrel
    have HR := Hid.mk hrw
    have HB := Hid.mk hbr
    clear hrw hbr
    by_cases hlt : A < cs.size
    · go_wp2
      go_loopw [14] (fun v wr => ∃ B : Nat, B ≤ cs.size ∧ v = .int .i64 B ∧ wr.rowIs (w.heap.size + 1) 4 cs.size (boolV (behF P cs.size A B)) ∧ Below (w.heap.size + 1) w3 wr) (fun v _ => cs.size - (intOf v).toNat)
      case atStart => exact ⟨0, Nat.zero_le _, rfl, HR.out, HB.out⟩
      case round =>
        obtain ⟨wi, rfl⟩ : ∃ x, x = wr := ⟨_, rfl⟩
        obtain ⟨B, hB, rfl, hrw, hbi⟩ := hrel
        have HRI := Hid.mk hrw
        have HBI := Hid.mk hbi
        have hzi := hbi.size
        have HWI : Hid (Below w.heap.size w wi) := hB3.out.trans (hbi.mono (by omega))
        clear hrw hbi
        by_cases hltB : B < cs.size
        · have yi : ∀ o, wi.cell? ⟨w.heap.size, o, none⟩ = #[Value.int .i64 ro, .int .i64 co, .string cs, ca, .int .i64 bu][o]? := fun o => (HBI.out.cell (p := ⟨w.heap.size, o, none⟩) (by show w.heap.size < _; omega)).trans (Y3.out o)
          have y0 := yi 0
          have y1 := yi 1
          have y2 := yi 2
          have y3 := yi 3
          have y4 := yi 4
          clear yi
          go_wp2_with fail
          refine (goes_any ro co bu cs ca ar n capr R A B ((t : Int) - 1) wi hs h1 h2 hn (by omega) (by omega) (by omega) (HA.out.below HWI.out)).mono ?_
          rintro e w4 ⟨rfl, hb4⟩
          have HR4 := Hid.mk (rowIs_below HRI.out hb4)
          have HB4 := Hid.mk (HBI.out.trans (hb4.mono (by omega)))
          obtain ⟨g, hg⟩ : ∃ g, g = goesI co cs n R A B ((t : Int) - 1) := ⟨_, rfl⟩
          obtain ⟨sb, hsb⟩ : ∃ x, x = s B := ⟨_, rfl⟩
          have sB : w4.cell? ⟨g0, B, none⟩ = some (.bool sb) := by
            rw [hsb]
            exact cell_later (HWI.out.trans (hb4.mono HWI.out.size)) (HS.out.cell (i := B) hltB)
          have cF := HR4.out.frozen
          have cA := HR4.out.cell (i := A) hlt
          rw [← hg]
          have PV : Hid (P A B = (sb && g && !(eb && A == B))) := by unfold Hid; rw [HP.out, hsb, hg]; rfl
          have SKIP : Hid (P A B = false → w4.rowIs (w.heap.size + 1) 4 cs.size (boolV (behF P cs.size A (B + 1)))) := fun h => HR4.out.congr fun i _ => by unfold boolV; rw [behF_skip h]
          have HIT : Hid (P A B = true → (w4.setCell ⟨w.heap.size + 1, A, none⟩ (.bool true)).rowIs (w.heap.size + 1) 4 cs.size (boolV (behF P cs.size A (B + 1)))) := fun h => brow_store HR4.out A true fun j _ => behF_hit h j
          have hBI : (B : Int) < (cs.size : Int) := by omega
          have hAI : (A : Int) < (cs.size : Int) := by omega
          clear hg hsb hb4 y0 y1 y2 y3 y4
          cases sb with
          | false =>
            go_wp2
            go_roundw
            case rel => exact ⟨B + 1, by omega, by go_num, SKIP.out (by rw [PV.out]; rfl), HB4.out⟩
            case measure => simp [intOf]; omega
          | true =>
            cases g with
            | false =>
              go_wp2
              go_roundw
              case rel => exact ⟨B + 1, by omega, by go_num, SKIP.out (by rw [PV.out]; rfl), HB4.out⟩
              case measure => simp [intOf]; omega
            | true =>
              cases eb with
              | false =>
                go_wp2
                go_roundw
                case rel => exact ⟨B + 1, by omega, by go_num, HIT.out (by rw [PV.out]; rfl), HB4.out.setCell (p := ⟨w.heap.size + 1, A, none⟩) (Nat.le_refl _) _⟩
                case measure => simp [intOf]; omega
              | true =>
                by_cases e : A = B
                · have e1 : (((A : Nat) : Int) == ((B : Nat) : Int)) = true := by simp [e]
                  have E := Hid.mk e
                  clear e
                  go_wp2
                  go_roundw
                  case rel => exact ⟨B + 1, by omega, by go_num, SKIP.out (by rw [PV.out, E.out]; simp), HB4.out⟩
                  case measure => simp [intOf]; omega
                · have e1 : (((A : Nat) : Int) == ((B : Nat) : Int)) = false := by simp; omega
                  have E := Hid.mk e
                  clear e
                  go_wp2
                  go_roundw
                  case rel => exact ⟨B + 1, by omega, by go_num, HIT.out (by rw [PV.out]; simp [E.out]), HB4.out.setCell (p := ⟨w.heap.size + 1, A, none⟩) (Nat.le_refl _) _⟩
                  case measure => simp [intOf]; omega
        · have hd : B = cs.size := by omega
          subst hd
          go_wp2
          go_roundw
          case rel => exact ⟨A + 1, by omega, by go_num, HRI.out.congr fun i _ => by unfold boolV; rw [behF_full], HBI.out⟩
          case measure => simp [intOf]; omega
    · have hd : A = cs.size := by omega
      go_wp2
      go_ret
      subst hd
      exact ⟨w.heap.size + 1, rfl, by omega, HR.out.congr fun i hi => by unfold boolV behF; rw [if_pos hi], hB3.out.trans (HB.out.mono (by omega))⟩

end Go.Proofs.YtnkgpinadgacgaaDoor
