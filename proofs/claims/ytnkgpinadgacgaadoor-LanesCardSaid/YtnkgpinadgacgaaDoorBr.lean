/- Walk of rules: a list of rules such as there may be, out of raw ones. -/
import Derived.Test.YtnkgpinadgacgaaDoorBf
import Derived.Test.YtnkgpinadgacgaaDoorBk
import Derived.Test.YtnkgpinadgacgaaDoorBn
import Derived.Test.YtnkgpinadgacgaaDoorBi
import Derived.Deep.RegionHeld3
import Derived.Deep.RegionLaw
import Derived.Deep.AppendLies
import Derived.Deep.DeepCutAuto
namespace Go.Proofs.YtnkgpinadgacgaaDoor
open Go.RowKit M

/-- The cells of a list of rules. -/
def ruleCells (R : Nat → RuleM) : Nat → List Value
  | 0 => []
  | m + 1 => ruleCells R m ++ [.int .i64 (R m).kind, .int .i64 (R m).cell, .int .i64 (R m).next, .int .i64 (R m).at']

theorem ruleCells_len (R : Nat → RuleM) : ∀ m, (ruleCells R m).length = m * 4
  | 0 => rfl
  | m + 1 => by simp [ruleCells, ruleCells_len R m]; omega

theorem ruleCells_at {R : Nat → RuleM} : ∀ {m i : Nat}, i < m → (ruleCells R m)[i * 4]? = some (.int .i64 (R i).kind) ∧ (ruleCells R m)[i * 4 + 1]? = some (.int .i64 (R i).cell) ∧ (ruleCells R m)[i * 4 + 2]? = some (.int .i64 (R i).next) ∧ (ruleCells R m)[i * 4 + 3]? = some (.int .i64 (R i).at')
  | m + 1, i, h => by
    have hl := ruleCells_len R m
    by_cases e : i = m
    · subst e
      simp only [ruleCells]
      rw [List.getElem?_append_right (by omega), List.getElem?_append_right (by omega), List.getElem?_append_right (by omega), List.getElem?_append_right (by omega), hl]
      simp
    · simp only [ruleCells]
      rw [List.getElem?_append_left (by omega), List.getElem?_append_left (by omega), List.getElem?_append_left (by omega), List.getElem?_append_left (by omega)]
      exact ruleCells_at (by omega)

theorem ruleCells_same {R R' : Nat → RuleM} : ∀ {m : Nat}, (∀ i, i < m → R i = R' i) → ruleCells R m = ruleCells R' m
  | 0, _ => rfl
  | m + 1, h => by simp only [ruleCells]; rw [ruleCells_same (fun i hi => h i (by omega)), h m (by omega)]

def extK (R : Nat → RuleM) (m : Nat) (r : RuleM) (i : Nat) : RuleM := if i = m then r else R i

theorem ruleCells_ext (R : Nat → RuleM) (m : Nat) (r : RuleM) : ruleCells (extK R m r) (m + 1) = ruleCells R m ++ [.int .i64 r.kind, .int .i64 r.cell, .int .i64 r.next, .int .i64 r.at'] := by
  simp only [ruleCells]
  rw [ruleCells_same (R := extK R m r) (R' := R) (fun i hi => by unfold extK; rw [if_neg (by omega)])]
  unfold extK; rw [if_pos rfl]

theorem cell_four_new (w : World) (a b c d : Value) (t : TypeId) : ∀ j u, [a, b, c, d][j]? = some u → (w.alloc (.cells #[a, b, c, d] t)).cell? ((⟨w.heap.size, 0, none⟩ : Addr).add j) = some u := by
  intro j u h
  match j, h with
  | 0, h => simp at h; subst h; simp [Addr.add]
  | 1, h => simp at h; subst h; simp [Addr.add]
  | 2, h => simp at h; subst h; simp [Addr.add]
  | 3, h => simp at h; subst h; simp [Addr.add]
  | j + 4, h => simp at h

theorem four_oneCell (a b c d : Int) : ∀ x ∈ [Value.int .i64 a, Value.int .i64 b, Value.int .i64 c, Value.int .i64 d], x.oneCell' = true := by
  intro x hx
  simp at hx
  rcases hx with rfl | rfl | rfl | rfl <;> rfl

/-- A list of rules that the call made. -/
theorem own_rules {w : World} {base m cc : Nat} {e : TypeId} {ac : Option Addr} {R : Nat → RuleM} (h : w.ownsRow base e 4 (.slice ac m cc) m (ruleCells R m)) : RulesAt w ac m R := by
  intro hm
  rcases h.2 with ⟨_, e2⟩ | ⟨g, cap', cur, hv, _, hh, h4, _, h6, h7⟩
  · omega
  · cases hv
    refine ⟨g, 0, rfl, fun i hi => ?_⟩
    obtain ⟨c1, c2, c3, c4⟩ := ruleCells_at (R := R) hi
    rw [← h7, List.getElem?_take, if_pos (by omega), Array.getElem?_toList] at c1 c2 c3 c4
    exact ⟨by simpa [World.cell?, hh] using c1, by simpa [World.cell?, hh] using c2, by simpa [World.cell?, hh] using c3, by simpa [World.cell?, hh] using c4⟩

theorem own_head {w : World} {base n k c : Nat} {e : TypeId} {a : Option Addr} {xs : List Value} (h : w.ownsRow base e 4 (.slice a k c) n xs) (hk : k = n) : (k = 0 ∧ a = none ∧ c = 0) ∨ ∃ g, a = some ⟨g, 0, none⟩ := by
  rcases h.2 with ⟨e1, e2⟩ | ⟨g, cap', cur, hv, _⟩
  · cases e1; exact .inl ⟨rfl, rfl, rfl⟩
  · cases hv; exact .inr ⟨g, rfl⟩

/-- Such a rule as there may be. -/
structure RuleOk (N : Nat) (r : RuleM) : Prop where
  k0 : 0 ≤ r.kind
  k2 : r.kind ≤ 2
  c0 : 0 ≤ r.cell
  cN : r.cell < N
  a0 : 0 ≤ r.at'
  a60 : r.at' ≤ 60
  nx : i64B r.next

theorem rules_good {N m : Nat} {R : Nat → RuleM} (hm : m ≤ 40) (h : ∀ i, i < m → RuleOk N (R i)) : rulesB N m R = true ∧ RulesWf m R := by
  refine ⟨?_, fun i hi => (h i hi).nx⟩
  unfold rulesB
  rw [anyB_false.2 fun i hi => ?_]
  · simp [hm]
  · have k := h i hi
    have := k.k0; have := k.k2; have := k.c0; have := k.cN; have := k.a0; have := k.a60
    unfold ruleB
    simp only [Bool.not_eq_false', Bool.and_eq_true, decide_eq_true_eq]
    omega

theorem pick3 (c : Int) (w : World) (hc : (Lit.int .i64 c).wf = true) :
    Calls Tryd.prog 50 #[.int .i64 c, .int .i64 3] w fun e w' => ∃ r : Nat, r < 3 ∧ e = .returned (.int .i64 r) ∧ w' = w := pick_any c 3 w (by decide) (by decide) hc

theorem pick61 (c : Int) (w : World) (hc : (Lit.int .i64 c).wf = true) :
    Calls Tryd.prog 50 #[.int .i64 c, .int .i64 61] w fun e w' => ∃ r : Nat, r < 61 ∧ e = .returned (.int .i64 r) ∧ w' = w := pick_any c 61 w (by decide) (by decide) hc

/-- Rules that came in are integers of their kind. -/
def RulesInt (n : Nat) (R : Nat → RuleM) : Prop := ∀ i, i < n → (Lit.int .i64 (R i).kind).wf = true ∧ (Lit.int .i64 (R i).cell).wf = true ∧ (Lit.int .i64 (R i).next).wf = true ∧ (Lit.int .i64 (R i).at').wf = true

set_option maxRecDepth 100000 in
set_option maxHeartbeats 4000000 in
theorem krules_any (ro co bu : Int) (cs : ByteArray) (ac : Option Addr) (mc cc : Nat) (ar : Option Addr) (n capr : Nat) (R : Nat → RuleM) (w : World) (hs : cs.size ≤ 36) (hs1 : 1 ≤ cs.size) (hn : n ≤ maxLen) (har : RulesAt w ar n R) (hwf : RulesInt n R) :
    Calls Tryd.prog 52 #[.agg #[.int .i64 ro, .int .i64 co, .string cs, .slice ac mc cc, .int .i64 bu], .slice ar n capr] w fun e w' =>
      ∃ m a' c' R', e = .returned (.slice a' m c') ∧ ((m = 0 ∧ a' = none ∧ c' = 0) ∨ ∃ g, a' = some ⟨g, 0, none⟩) ∧ m ≤ 40 ∧ m ≤ c' ∧ RulesAt w' a' m R' ∧ rulesB cs.size m R' = true ∧ RulesWf m R' ∧ Below w.heap.size w w' := by
  obtain ⟨i0, hi0, hi1, hi2, hi3⟩ := info_parts Tryd.infoRule
  have HAR := Hid.mk har
  have HWF := Hid.mk hwf
  unfold maxLen at hn
  clear har hwf
  go_enter Tryd.func52, Tryd.ntmps52
  go_wp2
  have hB0 : Hid (Below w.heap.size w (w.alloc (Obj.cells #[Value.int IntKind.i64 ro, Value.int IntKind.i64 co, Value.string cs, .slice ac mc cc, Value.int IntKind.i64 bu] 24))) := (Below.refl _ w).alloc (Nat.le_refl _) _
  have y0 : ∀ o, (w.alloc (Obj.cells #[Value.int IntKind.i64 ro, Value.int IntKind.i64 co, Value.string cs, .slice ac mc cc, Value.int IntKind.i64 bu] 24)).cell? ⟨w.heap.size, o, none⟩ = #[Value.int .i64 ro, .int .i64 co, .string cs, .slice ac mc cc, .int .i64 bu][o]? := by
    intro o; go_simp
  have hz0 : (w.alloc (Obj.cells #[Value.int IntKind.i64 ro, Value.int IntKind.i64 co, Value.string cs, .slice ac mc cc, Value.int IntKind.i64 bu] 24)).heap.size = w.heap.size + 1 := by simp
  generalize w.alloc (Obj.cells #[Value.int IntKind.i64 ro, Value.int IntKind.i64 co, Value.string cs, .slice ac mc cc, Value.int IntKind.i64 bu] 24) = w0 at *
  have Y0 := Hid.mk y0
  clear y0
  go_loopw [5, 6] (fun v s wr => ∃ (k c : Nat) (a' : Option Addr) (R' : Nat → RuleM), k ≤ n ∧ k ≤ 40 ∧ v = .slice a' k c ∧ s = .int .i64 k ∧ wr.ownsRow (w.heap.size + 1) 101 4 (.slice a' k c) k (ruleCells R' k) ∧ (∀ i, i < k → RuleOk cs.size (R' i)) ∧ Below (w.heap.size + 1) w0 wr) (fun _ s _ => n - (intOf s).toNat)
  case atStart => exact ⟨0, 0, none, fun _ => ⟨0, 0, 0, 0⟩, Nat.zero_le _, by omega, rfl, rfl, ⟨rfl, .inl ⟨rfl, rfl⟩⟩, fun i hi => absurd hi (Nat.not_lt_zero i), Below.refl _ _⟩
  case round =>
    obtain ⟨k, c, a', R', hk, hk40, rfl, rfl, hown, hok, hbr⟩ := hrel
    have OWN := Hid.mk hown
    have OK := Hid.mk hok
    have HB := Hid.mk hbr
    have hzr := hbr.size
    have y1 : ∀ o, wr.cell? ⟨w.heap.size, o, none⟩ = #[Value.int .i64 ro, .int .i64 co, .string cs, .slice ac mc cc, .int .i64 bu][o]? := fun o => (hbr.cell (p := ⟨w.heap.size, o, none⟩) (by show w.heap.size < _; omega)).trans (Y0.out o)
    clear hown hok hbr
    by_cases hlt : k < n
    · by_cases h40 : k < 40
      · obtain ⟨b, off, rfl, hrs⟩ := HAR.out (by omega)
        obtain ⟨c0, c1, c2, c3⟩ := hrs k hlt
        obtain ⟨f0, f1, f2, f3⟩ := HWF.out k hlt
        have HW : Hid (Below w.heap.size w wr) := hB0.out.trans (HB.out.mono (by omega))
        have c0 := cell_later HW.out c0
        have c1 := cell_later HW.out c1
        have c2 := cell_later HW.out c2
        have c3 := cell_later HW.out c3
        clear hrs
        obtain ⟨r, hr⟩ : ∃ r, r = R k := ⟨_, rfl⟩
        rw [← hr] at c0 c1 c2 c3 f0 f1 f2 f3
        obtain ⟨kd, ce, ne, ta⟩ := r
        clear hr
        dsimp only at c0 c1 c2 c3 f0 f1 f2 f3
        have y2 : wr.cell? ⟨w.heap.size, 2, none⟩ = some (.string cs) := y1 2
        have n0 := World.new_ne wr _ c0
        have n1 := World.new_ne wr _ c1
        have n2 := World.new_ne wr _ c2
        have n3 := World.new_ne wr _ c3
        have ny := World.new_ne wr _ y2
        have zb : b < wr.heap.size := World.block_lt_of_cell? _ _ c0
        have hkI : (k : Int) < (n : Int) := by omega
        have h40I : (k : Int) < 40 := by omega
        clear y1
        go_upto_region 5 with fail
        go_cut [7] (fun v7 wx => ∃ p1 p2 p3 : Nat, p1 < 3 ∧ p2 < cs.size ∧ p3 < 61 ∧ v7 = .pointer (some ⟨wr.heap.size, 0, none⟩) ∧ ∃ nq, wx = ((wr.alloc (Obj.cells #[Value.int IntKind.i64 (p1 : Int), Value.int IntKind.i64 (p2 : Int), Value.int IntKind.i64 0, Value.int IntKind.i64 (p3 : Int)] 101)).drewN nq))
        case first =>
          go_region_held3 (fun w' => w'.cell? ⟨w.heap.size, 2, none⟩ = some (.string cs) ∧ w'.cell? ⟨b, off + k * 4, none⟩ = some (.int .i64 kd) ∧ w'.cell? ⟨b, off + k * 4 + 1, none⟩ = some (.int .i64 ce) ∧ w'.cell? ⟨b, off + k * 4 + 3, none⟩ = some (.int .i64 ta)) (go_keep)
            (first
              | (go_at_call_of 50 (Value.int IntKind.i64 kd); refine (pick3 kd _ f0).mono ?_; rintro e w' ⟨p1, hp1, rfl, rfl⟩)
              | (go_at_call_of 50 (Value.int IntKind.i64 ce); refine (pick_any ce cs.size _ (by omega) (by omega) f1).mono ?_; rintro e w' ⟨p2, hp2, rfl, rfl⟩)
              | (go_at_call_of 50 (Value.int IntKind.i64 ta); refine (pick61 ta _ f3).mono ?_; rintro e w' ⟨p3, hp3, rfl, rfl⟩))
          all_goals (go_wp2_with fail)
          all_goals go_meet
          all_goals (case rel => exact ⟨p1, p2, p3, hp1, hp2, hp3, rfl, 1, rfl⟩)
        case rest =>
          obtain ⟨p1, p2, p3, hp1, hp2, hp3, rfl, nq, rfl⟩ := hcut
          have B5 : Hid (Below wr.heap.size wr ((wr.alloc (Obj.cells #[Value.int IntKind.i64 (p1 : Int), Value.int IntKind.i64 (p2 : Int), Value.int IntKind.i64 0, Value.int IntKind.i64 (p3 : Int)] 101)).drewN nq)) := below_drewN ((Below.refl _ _).alloc (Nat.le_refl _) _) _
          have X5 : ∀ o, ((wr.alloc (Obj.cells #[Value.int IntKind.i64 (p1 : Int), Value.int IntKind.i64 (p2 : Int), Value.int IntKind.i64 0, Value.int IntKind.i64 (p3 : Int)] 101)).drewN nq).cell? ⟨wr.heap.size, o, none⟩ = #[Value.int IntKind.i64 (p1 : Int), Value.int IntKind.i64 (p2 : Int), Value.int IntKind.i64 0, Value.int IntKind.i64 (p3 : Int)][o]? := by
            intro o
            show (wr.alloc _).cell? _ = _
            go_simp
          have XF5 : ∀ o, ((wr.alloc (Obj.cells #[Value.int IntKind.i64 (p1 : Int), Value.int IntKind.i64 (p2 : Int), Value.int IntKind.i64 0, Value.int IntKind.i64 (p3 : Int)] 101)).drewN nq).frozen? ⟨wr.heap.size, o, none⟩ = false := by
            intro o
            show (wr.alloc _).frozen? _ = _
            go_simp
          have hz5 : ((wr.alloc (Obj.cells #[Value.int IntKind.i64 (p1 : Int), Value.int IntKind.i64 (p2 : Int), Value.int IntKind.i64 0, Value.int IntKind.i64 (p3 : Int)] 101)).drewN nq).heap.size = wr.heap.size + 1 := by show (wr.alloc _).heap.size = _; simp
          have c25 := cell_later B5.out c2
          have y25 := cell_later B5.out y2
          clear c0 c1 c2 c3 y2 n0 n1 n2 n3 ny
          generalize (wr.alloc (Obj.cells #[Value.int IntKind.i64 (p1 : Int), Value.int IntKind.i64 (p2 : Int), Value.int IntKind.i64 0, Value.int IntKind.i64 (p3 : Int)] 101)).drewN nq = w5 at *
          have hzr1 : w.heap.size < wr.heap.size := by omega
          have nb : b ≠ wr.heap.size := by omega
          have nb' : wr.heap.size ≠ b := by omega
          have nw : w.heap.size ≠ wr.heap.size := by omega
          have nw' : wr.heap.size ≠ w.heap.size := by omega
          have x52 := X5 2
          have xf52 := XF5 2
          simp only [List.getElem?_toArray, List.getElem?_cons_zero, List.getElem?_cons_succ] at x52
          have HX5 := Hid.mk X5
          have HXF5 := Hid.mk XF5
          clear X5 XF5
          go_upto_region 6 with fail
          go_cut [] (fun wx => ∃ p4 : Nat, p4 < cs.size ∧ ∃ nq, wx = ((w5.setCell ⟨wr.heap.size, 2, none⟩ (Value.int IntKind.i64 (p4 : Int))).drewN nq))
          case first =>
            go_region_held3 (fun w' => w'.cell? ⟨w.heap.size, 2, none⟩ = some (.string cs) ∧ w'.cell? ⟨b, off + k * 4 + 2, none⟩ = some (.int .i64 ne) ∧ w'.frozen? ⟨wr.heap.size, 2, none⟩ = false) (go_keep)
              (first
                | (go_at_call_of 50 (Value.int IntKind.i64 ne); refine (pick_any ne cs.size _ (by omega) (by omega) f2).mono ?_; rintro e w' ⟨p4, hp4, rfl, rfl⟩))
            all_goals (go_wp2_with fail)
            all_goals go_meet
            all_goals (case rel => exact ⟨p4, hp4, 1, rfl⟩)
          case rest =>
            obtain ⟨p4, hp4, nq, rfl⟩ := hcut
            have X6 : Hid (∀ o, ((w5.setCell ⟨wr.heap.size, 2, none⟩ (Value.int IntKind.i64 (p4 : Int))).drewN nq).cell? ⟨wr.heap.size, o, none⟩ = #[Value.int IntKind.i64 (p1 : Int), Value.int IntKind.i64 (p2 : Int), Value.int IntKind.i64 (p4 : Int), Value.int IntKind.i64 (p3 : Int)][o]?) := box_set HX5.out (by simp) rfl
            have B6 : Hid (Below (w.heap.size + 1) w0 ((w5.setCell ⟨wr.heap.size, 2, none⟩ (Value.int IntKind.i64 (p4 : Int))).drewN nq)) := below_drewN ((HB.out.trans (B5.out.mono (by omega))).setCell (by show w.heap.size + 1 ≤ wr.heap.size; omega) _) _
            have OWN6 : Hid (((w5.setCell ⟨wr.heap.size, 2, none⟩ (Value.int IntKind.i64 (p4 : Int))).drewN nq).ownsRow (w.heap.size + 1) 101 4 (.slice a' k c) k (ruleCells R' k)) := own_keep OWN.out (fun g _ hg _ => by
              show (w5.setCell _ _).heap[g]? = _
              rw [Below.heap_setCell _ _ _ _ (by show g ≠ wr.heap.size; omega)]
              exact B5.out.block g hg)
            have hz6 : ((w5.setCell ⟨wr.heap.size, 2, none⟩ (Value.int IntKind.i64 (p4 : Int))).drewN nq).heap.size = wr.heap.size + 1 := by show (w5.setCell _ _).heap.size = _; simp [World.setCell]; omega
            clear x52 xf52 c25 y25 HX5 HXF5 B5 OWN HB hz5
            generalize (w5.setCell ⟨wr.heap.size, 2, none⟩ (Value.int IntKind.i64 (p4 : Int))).drewN nq = w6 at *
            have x60 := X6.out 0
            have x61 := X6.out 1
            have x62 := X6.out 2
            have x63 := X6.out 3
            simp only [List.getElem?_toArray, List.getElem?_cons_zero, List.getElem?_cons_succ] at x60 x61 x62 x63
            have hc1 : k + 1 ≤ maxLen := by unfold maxLen; omega
            have NEW : Hid (∀ j u, [Value.int IntKind.i64 (p1 : Int), Value.int IntKind.i64 (p2 : Int), Value.int IntKind.i64 (p4 : Int), Value.int IntKind.i64 (p3 : Int)][j]? = some u → (w6.alloc (Obj.cells #[Value.int IntKind.i64 (p1 : Int), Value.int IntKind.i64 (p2 : Int), Value.int IntKind.i64 (p4 : Int), Value.int IntKind.i64 (p3 : Int)] 101)).cell? ((⟨wr.heap.size + 1, 0, none⟩ : Addr).add j) = some u) := by
              have h := cell_four_new w6 (Value.int IntKind.i64 (p1 : Int)) (Value.int IntKind.i64 (p2 : Int)) (Value.int IntKind.i64 (p4 : Int)) (Value.int IntKind.i64 (p3 : Int)) 101
              rw [hz6] at h
              exact h
            go_wp2_with (at_builtin; go_must (refine wpList_append_lies _ rfl _ _ 38 (by rfl) (w.heap.size + 1) 101 _ _ 4 32 Tryd.underlying38 hi0 hi1 hi2 hi3 rfl (by omega) (.slice a' k c) k (ruleCells R' k) (by rfl) (by exact own_keep OWN6.out (fun g _ hg _ => Below.heap_alloc _ _ _ hg)) _ 1 _ [.int .i64 (p1 : Int), .int .i64 (p2 : Int), .int .i64 (p4 : Int), .int .i64 (p3 : Int)] (by rfl) (by rfl) (by exact NEW.out) (four_oneCell _ _ _ _) (by omega) hc1 (by omega) (by simp; omega) (wr.heap.size + 2) (by simp; omega) ?_))
            intro g1 cc1 w9 ho9 hg9 _ hl9
            have HO9 := Hid.mk ho9
            have B9 : Hid (Below (w.heap.size + 1) w0 w9) := (B6.out.alloc (by omega) _).grown hg9 (by simp; omega) (fun k hk => (OWN6.out.lt k hk).1)
            clear ho9 hg9 x60 x61 x62 x63
            go_wp2
            go_roundw
            case rel =>
              refine ⟨k + 1, cc1, some ⟨g1, 0, none⟩, extK R' k ⟨p1, p2, p4, p3⟩, by omega, by omega, rfl, by go_num, by rw [ruleCells_ext]; exact HO9.out, fun i hi => ?_, B9.out⟩
              unfold extK
              by_cases e : i = k
              · rw [if_pos e]
                exact ⟨by show (0 : Int) ≤ p1; omega, by show (p1 : Int) ≤ 2; omega, by show (0 : Int) ≤ p2; omega, by show (p2 : Int) < cs.size; omega, by show (0 : Int) ≤ p3; omega, by show (p3 : Int) ≤ 60; omega, by show i64B (p4 : Int); simp [i64B, Lit.wf, IntKind.min, IntKind.max, IntKind.signed, IntKind.bits]; omega⟩
              · rw [if_neg e]
                exact OK.out i (by omega)
            case measure => simp [intOf]; omega
      · have h40' : decide ((k : Int) < 40) = false := by simp; omega
        obtain ⟨G1, G2⟩ := rules_good hk40 OK.out
        have RES : Hid (((k = 0 ∧ a' = none ∧ c = 0) ∨ ∃ g, a' = some ⟨g, 0, none⟩) ∧ k ≤ 40 ∧ k ≤ c ∧ RulesAt wr a' k R' ∧ rulesB cs.size k R' = true ∧ RulesWf k R' ∧ Below w.heap.size w wr) := ⟨own_head OWN.out rfl, hk40, own2_cap OWN.out, own_rules OWN.out, G1, G2, hB0.out.trans (HB.out.mono (by omega))⟩
        clear G1 G2
        go_wp2
        go_ret
        exact ⟨k, a', c, R', rfl, RES.out⟩
    · obtain ⟨G1, G2⟩ := rules_good hk40 OK.out
      have RES : Hid (((k = 0 ∧ a' = none ∧ c = 0) ∨ ∃ g, a' = some ⟨g, 0, none⟩) ∧ k ≤ 40 ∧ k ≤ c ∧ RulesAt wr a' k R' ∧ rulesB cs.size k R' = true ∧ RulesWf k R' ∧ Below w.heap.size w wr) := ⟨own_head OWN.out rfl, hk40, own2_cap OWN.out, own_rules OWN.out, G1, G2, hB0.out.trans (HB.out.mono (by omega))⟩
      clear G1 G2
      go_wp2
      go_ret
      exact ⟨k, a', c, R', rfl, RES.out⟩

end Go.Proofs.YtnkgpinadgacgaaDoor
