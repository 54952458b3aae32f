/- Walk of Neighbours. -/
import Derived.Test.YtaldfpoolajoiaaDoorWh
import Derived.Test.YtaldfpoolajoiaaDoorWi
import Derived.Test.YtaldfpoolajoiaaDoorLb
namespace Go.Proofs.YtaldfpoolajoiaaDoor
open Go.RowKit M

/-- What the table of the four sides holds. -/
def SidesIn (w : World) : Prop :=
  w.cell? ⟨0, 0, none⟩ = some (.int .i64 (-1)) ∧ w.cell? ⟨0, 1, none⟩ = some (.int .i64 0) ∧ w.cell? ⟨0, 2, none⟩ = some (.int .i64 1) ∧ w.cell? ⟨0, 3, none⟩ = some (.int .i64 0) ∧
  w.cell? ⟨0, 4, none⟩ = some (.int .i64 0) ∧ w.cell? ⟨0, 5, none⟩ = some (.int .i64 (-1)) ∧ w.cell? ⟨0, 6, none⟩ = some (.int .i64 0) ∧ w.cell? ⟨0, 7, none⟩ = some (.int .i64 1)

theorem SidesIn.below {w w' : World} (h : SidesIn w) (hb : Below w.heap.size w w') : SidesIn w' := by
  obtain ⟨h0, h1, h2, h3, h4, h5, h6, h7⟩ := h
  exact ⟨cell_later hb h0, cell_later hb h1, cell_later hb h2, cell_later hb h3, cell_later hb h4, cell_later hb h5, cell_later hb h6, cell_later hb h7⟩

def ints (L : List Int) : List Value := L.map (Value.int .i64)

def drow (j : Nat) : Int := if j = 0 then -1 else if j = 1 then 1 else 0
def dcol (j : Nat) : Int := if j = 2 then -1 else if j = 3 then 1 else 0

/-- The neighbours, as far as j sides were looked at. -/
def nbAt (ro co c : Int) : Nat → List Int
  | 0 => []
  | j + 1 => nbAt ro co c j ++ (if rngB (c / co + drow j) 0 (ro - 1) && rngB (c % co + dcol j) 0 (co - 1) then [(c / co + drow j) * co + (c % co + dcol j)] else [])

theorem nb_in {ro co c r k : Int} {j : Nat} (h1 : rngB r 0 (ro - 1) = true) (h2 : rngB k 0 (co - 1) = true) (hr : c / co + drow j = r) (hk : c % co + dcol j = k) : nbAt ro co c (j + 1) = nbAt ro co c j ++ [r * co + k] := by
  simp only [nbAt, hr, hk, h1, h2]; simp

theorem nb_out1 {ro co c r k : Int} {j : Nat} (h1 : rngB r 0 (ro - 1) = false) (hr : c / co + drow j = r) (hk : c % co + dcol j = k) : nbAt ro co c (j + 1) = nbAt ro co c j := by
  simp only [nbAt, hr, hk, h1]; simp

theorem nb_out2 {ro co c r k : Int} {j : Nat} (h2 : rngB k 0 (co - 1) = false) (hr : c / co + drow j = r) (hk : c % co + dcol j = k) : nbAt ro co c (j + 1) = nbAt ro co c j := by
  simp only [nbAt, hr, hk, h2]; simp

theorem rng_bd {n a b : Int} (h : rngB n a b = true) : a ≤ n ∧ n ≤ b := by unfold rngB at h; simpa using h

theorem mul_bd0 {a b : Int} (h1 : 0 ≤ a) (h2 : a ≤ 5) (h3 : 1 ≤ b) (h4 : b ≤ 6) : 0 ≤ a * b ∧ a * b ≤ 30 := by
  have e : a = 0 ∨ a = 1 ∨ a = 2 ∨ a = 3 ∨ a = 4 ∨ a = 5 := by omega
  rcases e with e | e | e | e | e | e <;> subst e <;> omega

theorem nbAt_len (ro co c : Int) : ∀ j, (nbAt ro co c j).length ≤ j
  | 0 => Nat.le_refl 0
  | j + 1 => by
    have := nbAt_len ro co c j
    simp only [nbAt, List.length_append]
    split <;> simp <;> omega

def sidesV : Array Value := #[.int .i64 (-1), .int .i64 0, .int .i64 1, .int .i64 0, .int .i64 0, .int .i64 (-1), .int .i64 0, .int .i64 1]

theorem side_at0 (w : World) : (Instr.index 147 (.agg sidesV) (.int .i64 0)).run Tryd.prog w = .ok (.agg #[.int .i64 (-1), .int .i64 0]) w := by kernel_rfl
theorem side_at1 (w : World) : (Instr.index 147 (.agg sidesV) (.int .i64 1)).run Tryd.prog w = .ok (.agg #[.int .i64 1, .int .i64 0]) w := by kernel_rfl
theorem side_at2 (w : World) : (Instr.index 147 (.agg sidesV) (.int .i64 2)).run Tryd.prog w = .ok (.agg #[.int .i64 0, .int .i64 (-1)]) w := by kernel_rfl
theorem side_at3 (w : World) : (Instr.index 147 (.agg sidesV) (.int .i64 3)).run Tryd.prog w = .ok (.agg #[.int .i64 0, .int .i64 1]) w := by kernel_rfl

set_option maxRecDepth 100000 in
set_option maxHeartbeats 1000000 in
theorem neighbours_any (ro co bu : Int) (cs : ByteArray) (ca : Value) (c : Nat) (w : World) (hsd : SidesIn w) (r1 : 1 ≤ ro) (r2 : ro ≤ 6) (r3 : 1 ≤ co) (r4 : co ≤ 6) (hc : c ≤ 36) :
    Calls Tryd.prog 81 #[.agg #[.int .i64 ro, .int .i64 co, .string cs, ca, .int .i64 bu], .int .i64 c] w fun e w' =>
      ∃ v, e = .returned v ∧ w'.ownsRow w.heap.size 3 1 v (nbAt ro co c 4).length (ints (nbAt ro co c 4)) ∧ Below w.heap.size w w' := by
  obtain ⟨s0, s1, s2, s3, s4, s5, s6, s7⟩ := hsd
  have hz : 0 < w.heap.size := World.block_lt_of_cell? _ _ s0
  obtain ⟨q1, q2, q3, q4⟩ := divmod_bd (a := c) (by omega) (by omega) r3 r4
  have hco : (co == 0) = false := by simp; omega
  have i0 := side_at0
  have i1 := side_at1
  have i2 := side_at2
  have i3 := side_at3
  unfold sidesV at i0 i1 i2 i3
  go_enter Tryd.func81, Tryd.ntmps81
  go_wp2
  have hB0 : Hid (Below w.heap.size w (w.alloc (Obj.cells #[Value.int IntKind.i64 ro, Value.int IntKind.i64 co, Value.string cs, ca, Value.int IntKind.i64 bu] 24))) := (Below.refl _ w).alloc (Nat.le_refl _) _
  have y0 : ∀ o, (w.alloc (Obj.cells #[Value.int IntKind.i64 ro, Value.int IntKind.i64 co, Value.string cs, ca, Value.int IntKind.i64 bu] 24)).cell? ⟨w.heap.size, o, none⟩ = #[Value.int .i64 ro, .int .i64 co, .string cs, ca, .int .i64 bu][o]? := by
    intro o; go_simp
  have hz0 : (w.alloc (Obj.cells #[Value.int IntKind.i64 ro, Value.int IntKind.i64 co, Value.string cs, ca, Value.int IntKind.i64 bu] 24)).heap.size = w.heap.size + 1 := by simp
  clear s0 s1 s2 s3 s4 s5 s6 s7 hz
  generalize w.alloc (Obj.cells #[Value.int IntKind.i64 ro, Value.int IntKind.i64 co, Value.string cs, ca, Value.int IntKind.i64 bu] 24) = w1 at *
  go_loopw [5, 11] (fun v s wr => ∃ j : Nat, j ≤ 4 ∧ s = .int .i64 j ∧ wr.ownsRow (w.heap.size + 1) 3 1 v (nbAt ro co c j).length (ints (nbAt ro co c j)) ∧ Below (w.heap.size + 1) w1 wr) (fun _ s _ => 4 - (intOf s).toNat)
  case atStart => exact ⟨0, by omega, rfl, own_nil _ _ _, Below.refl _ _⟩
  case round =>
    obtain ⟨j, hj, rfl, hown, hbr⟩ := hrel
    have hlen := nbAt_len ro co c j
    have hzr : w.heap.size < wr.heap.size := by have := hbr.size; omega
    have y1 : ∀ o, wr.cell? ⟨w.heap.size, o, none⟩ = #[Value.int .i64 ro, .int .i64 co, .string cs, ca, .int .i64 bu][o]? := fun o => (hbr.cell (p := ⟨w.heap.size, o, none⟩) (by show w.heap.size < _; omega)).trans (y0 o)
    have HO := Hid.mk hown
    have HB := Hid.mk hbr
    clear hown hbr y0
    by_cases hlt : j < 4
    · have e4 : j = 0 ∨ j = 1 ∨ j = 2 ∨ j = 3 := by omega
      rcases e4 with rfl | rfl | rfl | rfl
      · clear i1 i2 i3
        go_wp2
        go_quiet (fail)
        go_wp2_with fail
        have HOq : Hid (((wr.alloc (Obj.cells #[Value.int IntKind.i64 (-1), Value.int IntKind.i64 0] 146)).drewN nq).ownsRow (w.heap.size + 1) 3 1 u5 (nbAt ro co c 0).length (ints (nbAt ro co c 0))) :=
          own_below HO.out (below_drewN ((Below.refl _ _).alloc (Nat.le_refl _) _) _)
        have HBq : Hid (Below (w.heap.size + 1) w1 ((wr.alloc (Obj.cells #[Value.int IntKind.i64 (-1), Value.int IntKind.i64 0] 146)).drewN nq)) :=
          below_drewN (HB.out.alloc (by omega) _) _
        have yq : ∀ o, ((wr.alloc (Obj.cells #[Value.int IntKind.i64 (-1), Value.int IntKind.i64 0] 146)).drewN nq).cell? ⟨w.heap.size, o, none⟩ = #[Value.int .i64 ro, .int .i64 co, .string cs, ca, .int .i64 bu][o]? :=
          fun o => ((below_drewN ((Below.refl _ _).alloc (Nat.le_refl _) _) _ : Below wr.heap.size wr _).cell (p := ⟨w.heap.size, o, none⟩) hzr).trans (y1 o)
        have hzq : w.heap.size < ((wr.alloc (Obj.cells #[Value.int IntKind.i64 (-1), Value.int IntKind.i64 0] 146)).drewN nq).heap.size := by
          show w.heap.size < (wr.alloc _).heap.size
          simp; omega
        generalize (wr.alloc (Obj.cells #[Value.int IntKind.i64 (-1), Value.int IntKind.i64 0] 146)).drewN nq = wq at *
        refine (within_rng _ _ _ _).mono ?_
        rintro e w2 ⟨rfl, hw2⟩
        have hw2 := hw2.symm
        subst hw2
        clear y1 HO HB hzr
        by_cases g1 : rngB ((c : Int) / co + -1) 0 (ro - 1) = true
        · go_wp2_with fail
          refine (within_rng _ _ _ _).mono ?_
          rintro e w2 ⟨rfl, hw2⟩
          have hw2 := hw2.symm
          subst hw2
          by_cases g2 : rngB ((c : Int) % co) 0 (co - 1) = true
          · obtain ⟨b1, b2⟩ := rng_bd g1
            obtain ⟨b3, b4⟩ := mul_bd0 (a := (c : Int) / co + -1) (b := co) b1 (by omega) r3 r4
            go_wp2_with (refine wpList_push rfl _ _ 26 rfl (w.heap.size + 1) 3 _ _ Tryd.underlying26 Tryd.infoInt rfl _ _ _ rfl (by exact own_below HOq.out ((Below.refl _ _).alloc (Nat.le_refl _) _)) _ _ (.int .i64 (((c : Int) / co + -1) * co + ((c : Int) % co))) rfl (by go_simp) rfl (by unfold maxLen; omega) (by omega) (by simp; omega) ?_)
            intro g cap w3 ho3 hg3
            have hb3 := grown_below (own_below HOq.out ((Below.refl _ _).alloc (Nat.le_refl _) _)) hg3 (by simp; omega)
            have e3 := nb_in g1 g2 (c := c) (j := 0) (by simp [drow]) (by simp [dcol])
            go_wp2
            go_roundw
            case rel => exact ⟨0 + 1, by omega, by go_num, by rw [e3]; simpa [ints] using ho3, HBq.out.trans (((Below.refl _ _).alloc (by omega) _).trans hb3)⟩
            case measure => simp [intOf]
          · have g2' : rngB ((c : Int) % co) 0 (co - 1) = false := by simpa using g2
            have e3 := nb_out2 (r := (c : Int) / co + -1) g2' (c := c) (ro := ro) (j := 0) (by simp [drow]) (by simp [dcol])
            go_wp2
            go_roundw
            case rel => exact ⟨0 + 1, by omega, by go_num, by rw [e3]; exact HOq.out, HBq.out⟩
            case measure => simp [intOf]
        · have g1' : rngB ((c : Int) / co + -1) 0 (ro - 1) = false := by simpa using g1
          have e3 := nb_out1 (k := (c : Int) % co) g1' (c := c) (co := co) (j := 0) (by simp [drow]) (by simp [dcol])
          go_wp2
          go_roundw
          case rel => exact ⟨0 + 1, by omega, by go_num, by rw [e3]; exact HOq.out, HBq.out⟩
          case measure => simp [intOf]
      · clear i0 i2 i3
        go_wp2
        go_quiet (fail)
        go_wp2_with fail
        have HOq : Hid (((wr.alloc (Obj.cells #[Value.int IntKind.i64 1, Value.int IntKind.i64 0] 146)).drewN nq).ownsRow (w.heap.size + 1) 3 1 u5 (nbAt ro co c 1).length (ints (nbAt ro co c 1))) :=
          own_below HO.out (below_drewN ((Below.refl _ _).alloc (Nat.le_refl _) _) _)
        have HBq : Hid (Below (w.heap.size + 1) w1 ((wr.alloc (Obj.cells #[Value.int IntKind.i64 1, Value.int IntKind.i64 0] 146)).drewN nq)) :=
          below_drewN (HB.out.alloc (by omega) _) _
        have yq : ∀ o, ((wr.alloc (Obj.cells #[Value.int IntKind.i64 1, Value.int IntKind.i64 0] 146)).drewN nq).cell? ⟨w.heap.size, o, none⟩ = #[Value.int .i64 ro, .int .i64 co, .string cs, ca, .int .i64 bu][o]? :=
          fun o => ((below_drewN ((Below.refl _ _).alloc (Nat.le_refl _) _) _ : Below wr.heap.size wr _).cell (p := ⟨w.heap.size, o, none⟩) hzr).trans (y1 o)
        have hzq : w.heap.size < ((wr.alloc (Obj.cells #[Value.int IntKind.i64 1, Value.int IntKind.i64 0] 146)).drewN nq).heap.size := by
          show w.heap.size < (wr.alloc _).heap.size
          simp; omega
        generalize (wr.alloc (Obj.cells #[Value.int IntKind.i64 1, Value.int IntKind.i64 0] 146)).drewN nq = wq at *
        refine (within_rng _ _ _ _).mono ?_
        rintro e w2 ⟨rfl, hw2⟩
        have hw2 := hw2.symm
        subst hw2
        clear y1 HO HB hzr
        by_cases g1 : rngB ((c : Int) / co + 1) 0 (ro - 1) = true
        · go_wp2_with fail
          refine (within_rng _ _ _ _).mono ?_
          rintro e w2 ⟨rfl, hw2⟩
          have hw2 := hw2.symm
          subst hw2
          by_cases g2 : rngB ((c : Int) % co) 0 (co - 1) = true
          · obtain ⟨b1, b2⟩ := rng_bd g1
            obtain ⟨b3, b4⟩ := mul_bd0 (a := (c : Int) / co + 1) (b := co) b1 (by omega) r3 r4
            go_wp2_with (refine wpList_push rfl _ _ 26 rfl (w.heap.size + 1) 3 _ _ Tryd.underlying26 Tryd.infoInt rfl _ _ _ rfl (by exact own_below HOq.out ((Below.refl _ _).alloc (Nat.le_refl _) _)) _ _ (.int .i64 (((c : Int) / co + 1) * co + ((c : Int) % co))) rfl (by go_simp) rfl (by unfold maxLen; omega) (by omega) (by simp; omega) ?_)
            intro g cap w3 ho3 hg3
            have hb3 := grown_below (own_below HOq.out ((Below.refl _ _).alloc (Nat.le_refl _) _)) hg3 (by simp; omega)
            have e3 := nb_in g1 g2 (c := c) (j := 1) (by simp [drow]) (by simp [dcol])
            go_wp2
            go_roundw
            case rel => exact ⟨1 + 1, by omega, by go_num, by rw [e3]; simpa [ints] using ho3, HBq.out.trans (((Below.refl _ _).alloc (by omega) _).trans hb3)⟩
            case measure => simp [intOf]
          · have g2' : rngB ((c : Int) % co) 0 (co - 1) = false := by simpa using g2
            have e3 := nb_out2 (r := (c : Int) / co + 1) g2' (c := c) (ro := ro) (j := 1) (by simp [drow]) (by simp [dcol])
            go_wp2
            go_roundw
            case rel => exact ⟨1 + 1, by omega, by go_num, by rw [e3]; exact HOq.out, HBq.out⟩
            case measure => simp [intOf]
        · have g1' : rngB ((c : Int) / co + 1) 0 (ro - 1) = false := by simpa using g1
          have e3 := nb_out1 (k := (c : Int) % co) g1' (c := c) (co := co) (j := 1) (by simp [drow]) (by simp [dcol])
          go_wp2
          go_roundw
          case rel => exact ⟨1 + 1, by omega, by go_num, by rw [e3]; exact HOq.out, HBq.out⟩
          case measure => simp [intOf]
      · clear i0 i1 i3
        go_wp2
        go_quiet (fail)
        go_wp2_with fail
        have HOq : Hid (((wr.alloc (Obj.cells #[Value.int IntKind.i64 0, Value.int IntKind.i64 (-1)] 146)).drewN nq).ownsRow (w.heap.size + 1) 3 1 u5 (nbAt ro co c 2).length (ints (nbAt ro co c 2))) :=
          own_below HO.out (below_drewN ((Below.refl _ _).alloc (Nat.le_refl _) _) _)
        have HBq : Hid (Below (w.heap.size + 1) w1 ((wr.alloc (Obj.cells #[Value.int IntKind.i64 0, Value.int IntKind.i64 (-1)] 146)).drewN nq)) :=
          below_drewN (HB.out.alloc (by omega) _) _
        have yq : ∀ o, ((wr.alloc (Obj.cells #[Value.int IntKind.i64 0, Value.int IntKind.i64 (-1)] 146)).drewN nq).cell? ⟨w.heap.size, o, none⟩ = #[Value.int .i64 ro, .int .i64 co, .string cs, ca, .int .i64 bu][o]? :=
          fun o => ((below_drewN ((Below.refl _ _).alloc (Nat.le_refl _) _) _ : Below wr.heap.size wr _).cell (p := ⟨w.heap.size, o, none⟩) hzr).trans (y1 o)
        have hzq : w.heap.size < ((wr.alloc (Obj.cells #[Value.int IntKind.i64 0, Value.int IntKind.i64 (-1)] 146)).drewN nq).heap.size := by
          show w.heap.size < (wr.alloc _).heap.size
          simp; omega
        generalize (wr.alloc (Obj.cells #[Value.int IntKind.i64 0, Value.int IntKind.i64 (-1)] 146)).drewN nq = wq at *
        refine (within_rng _ _ _ _).mono ?_
        rintro e w2 ⟨rfl, hw2⟩
        have hw2 := hw2.symm
        subst hw2
        clear y1 HO HB hzr
        by_cases g1 : rngB ((c : Int) / co) 0 (ro - 1) = true
        · go_wp2_with fail
          refine (within_rng _ _ _ _).mono ?_
          rintro e w2 ⟨rfl, hw2⟩
          have hw2 := hw2.symm
          subst hw2
          by_cases g2 : rngB ((c : Int) % co + -1) 0 (co - 1) = true
          · obtain ⟨b1, b2⟩ := rng_bd g1
            obtain ⟨b3, b4⟩ := mul_bd0 (a := (c : Int) / co) (b := co) b1 (by omega) r3 r4
            go_wp2_with (refine wpList_push rfl _ _ 26 rfl (w.heap.size + 1) 3 _ _ Tryd.underlying26 Tryd.infoInt rfl _ _ _ rfl (by exact own_below HOq.out ((Below.refl _ _).alloc (Nat.le_refl _) _)) _ _ (.int .i64 (((c : Int) / co) * co + ((c : Int) % co + -1))) rfl (by go_simp) rfl (by unfold maxLen; omega) (by omega) (by simp; omega) ?_)
            intro g cap w3 ho3 hg3
            have hb3 := grown_below (own_below HOq.out ((Below.refl _ _).alloc (Nat.le_refl _) _)) hg3 (by simp; omega)
            have e3 := nb_in g1 g2 (c := c) (j := 2) (by simp [drow]) (by simp [dcol])
            go_wp2
            go_roundw
            case rel => exact ⟨2 + 1, by omega, by go_num, by rw [e3]; simpa [ints] using ho3, HBq.out.trans (((Below.refl _ _).alloc (by omega) _).trans hb3)⟩
            case measure => simp [intOf]
          · have g2' : rngB ((c : Int) % co + -1) 0 (co - 1) = false := by simpa using g2
            have e3 := nb_out2 (r := (c : Int) / co) g2' (c := c) (ro := ro) (j := 2) (by simp [drow]) (by simp [dcol])
            go_wp2
            go_roundw
            case rel => exact ⟨2 + 1, by omega, by go_num, by rw [e3]; exact HOq.out, HBq.out⟩
            case measure => simp [intOf]
        · have g1' : rngB ((c : Int) / co) 0 (ro - 1) = false := by simpa using g1
          have e3 := nb_out1 (k := (c : Int) % co + -1) g1' (c := c) (co := co) (j := 2) (by simp [drow]) (by simp [dcol])
          go_wp2
          go_roundw
          case rel => exact ⟨2 + 1, by omega, by go_num, by rw [e3]; exact HOq.out, HBq.out⟩
          case measure => simp [intOf]
      · clear i0 i1 i2
        go_wp2
        go_quiet (fail)
        go_wp2_with fail
        have HOq : Hid (((wr.alloc (Obj.cells #[Value.int IntKind.i64 0, Value.int IntKind.i64 1] 146)).drewN nq).ownsRow (w.heap.size + 1) 3 1 u5 (nbAt ro co c 3).length (ints (nbAt ro co c 3))) :=
          own_below HO.out (below_drewN ((Below.refl _ _).alloc (Nat.le_refl _) _) _)
        have HBq : Hid (Below (w.heap.size + 1) w1 ((wr.alloc (Obj.cells #[Value.int IntKind.i64 0, Value.int IntKind.i64 1] 146)).drewN nq)) :=
          below_drewN (HB.out.alloc (by omega) _) _
        have yq : ∀ o, ((wr.alloc (Obj.cells #[Value.int IntKind.i64 0, Value.int IntKind.i64 1] 146)).drewN nq).cell? ⟨w.heap.size, o, none⟩ = #[Value.int .i64 ro, .int .i64 co, .string cs, ca, .int .i64 bu][o]? :=
          fun o => ((below_drewN ((Below.refl _ _).alloc (Nat.le_refl _) _) _ : Below wr.heap.size wr _).cell (p := ⟨w.heap.size, o, none⟩) hzr).trans (y1 o)
        have hzq : w.heap.size < ((wr.alloc (Obj.cells #[Value.int IntKind.i64 0, Value.int IntKind.i64 1] 146)).drewN nq).heap.size := by
          show w.heap.size < (wr.alloc _).heap.size
          simp; omega
        generalize (wr.alloc (Obj.cells #[Value.int IntKind.i64 0, Value.int IntKind.i64 1] 146)).drewN nq = wq at *
        refine (within_rng _ _ _ _).mono ?_
        rintro e w2 ⟨rfl, hw2⟩
        have hw2 := hw2.symm
        subst hw2
        clear y1 HO HB hzr
        by_cases g1 : rngB ((c : Int) / co) 0 (ro - 1) = true
        · go_wp2_with fail
          refine (within_rng _ _ _ _).mono ?_
          rintro e w2 ⟨rfl, hw2⟩
          have hw2 := hw2.symm
          subst hw2
          by_cases g2 : rngB ((c : Int) % co + 1) 0 (co - 1) = true
          · obtain ⟨b1, b2⟩ := rng_bd g1
            obtain ⟨b3, b4⟩ := mul_bd0 (a := (c : Int) / co) (b := co) b1 (by omega) r3 r4
            go_wp2_with (refine wpList_push rfl _ _ 26 rfl (w.heap.size + 1) 3 _ _ Tryd.underlying26 Tryd.infoInt rfl _ _ _ rfl (by exact own_below HOq.out ((Below.refl _ _).alloc (Nat.le_refl _) _)) _ _ (.int .i64 (((c : Int) / co) * co + ((c : Int) % co + 1))) rfl (by go_simp) rfl (by unfold maxLen; omega) (by omega) (by simp; omega) ?_)
            intro g cap w3 ho3 hg3
            have hb3 := grown_below (own_below HOq.out ((Below.refl _ _).alloc (Nat.le_refl _) _)) hg3 (by simp; omega)
            have e3 := nb_in g1 g2 (c := c) (j := 3) (by simp [drow]) (by simp [dcol])
            go_wp2
            go_roundw
            case rel => exact ⟨3 + 1, by omega, by go_num, by rw [e3]; simpa [ints] using ho3, HBq.out.trans (((Below.refl _ _).alloc (by omega) _).trans hb3)⟩
            case measure => simp [intOf]
          · have g2' : rngB ((c : Int) % co + 1) 0 (co - 1) = false := by simpa using g2
            have e3 := nb_out2 (r := (c : Int) / co) g2' (c := c) (ro := ro) (j := 3) (by simp [drow]) (by simp [dcol])
            go_wp2
            go_roundw
            case rel => exact ⟨3 + 1, by omega, by go_num, by rw [e3]; exact HOq.out, HBq.out⟩
            case measure => simp [intOf]
        · have g1' : rngB ((c : Int) / co) 0 (ro - 1) = false := by simpa using g1
          have e3 := nb_out1 (k := (c : Int) % co + 1) g1' (c := c) (co := co) (j := 3) (by simp [drow]) (by simp [dcol])
          go_wp2
          go_roundw
          case rel => exact ⟨3 + 1, by omega, by go_num, by rw [e3]; exact HOq.out, HBq.out⟩
          case measure => simp [intOf]
    · have hd : j = 4 := by omega
      subst hd
      go_wp2
      go_ret
      exact ⟨u5, rfl, own_base HO.out (by omega), hB0.out.trans (HB.out.mono (by omega))⟩

end Go.Proofs.YtaldfpoolajoiaaDoor
