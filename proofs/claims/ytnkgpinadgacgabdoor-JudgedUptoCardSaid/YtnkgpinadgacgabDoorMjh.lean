/- Several texts in one: Ce. -/
import Derived.Test.YtnkgpinadgacgabDoorMjg
namespace Go.Proofs.YtnkgpinadgacgabDoor
open Go.RowKit M
namespace M
/-- Is there a fault of a step, or of the first cell, at an instant? -/
def stepB (co : Int) (cs : ByteArray) (n : Nat) (x : Nat → Int) (t : Nat) : Bool := (decide (t + 1 < n) && !mayM co cs (x t) (x (t + 1))) || (decide (t = 0) && !freeB cs (x t))

/-- The faults of a cart's steps, at the first instants. -/
def cellsF (co : Int) (cs : ByteArray) (i n : Nat) (x : Nat → Int) : Nat → List FaultM
  | 0 => []
  | t + 1 => cellsF co cs i n x t ++ (if M.stepB co cs n x t = true then [⟨1, i, -1, t⟩] else [])

/-- The faults of level 1. -/
def stepsF (co : Int) (cs : ByteArray) (len : Nat → Nat) (num : Nat → Nat → Int) : Nat → List FaultM
  | 0 => []
  | i + 1 => stepsF co cs len num i ++ cellsF co cs i (len i) (num i) (len i)

theorem cellsF_len (co : Int) (cs : ByteArray) (i n : Nat) (x : Nat → Int) : ∀ t, (cellsF co cs i n x t).length ≤ t
  | 0 => by simp [cellsF]
  | t + 1 => by
    have := cellsF_len co cs i n x t
    simp only [cellsF, List.length_append]
    split <;> simp <;> omega

theorem stepsF_len {co : Int} {cs : ByteArray} {n B : Nat} {len : Nat → Nat} {num : Nat → Nat → Int} (h : ∀ j, j < n → len j ≤ B) : ∀ i, i ≤ n → (stepsF co cs len num i).length ≤ i * B
  | 0, _ => by simp [stepsF]
  | i + 1, hi => by
    have ih := stepsF_len (co := co) (cs := cs) (num := num) h i (by omega)
    have h1 := cellsF_len co cs i (len i) (num i) (len i)
    have h2 := h i (by omega)
    have h3 : (i + 1) * B = i * B + B := Nat.succ_mul i B
    simp only [stepsF, List.length_append]
    omega

theorem cells_hit {co : Int} {cs : ByteArray} {i n t : Nat} {x : Nat → Int} (h : M.stepB co cs n x t = true) : cellsF co cs i n x (t + 1) = cellsF co cs i n x t ++ [⟨1, i, -1, t⟩] := by simp only [cellsF]; rw [if_pos h]

theorem cells_miss {co : Int} {cs : ByteArray} {i n t : Nat} {x : Nat → Int} (h : M.stepB co cs n x t = false) : cellsF co cs i n x (t + 1) = cellsF co cs i n x t := by simp only [cellsF]; rw [if_neg (by rw [h]; decide), List.append_nil]

end M
theorem steps_bd {co : Int} {cs : ByteArray} {n : Nat} {len : Nat → Nat} {num : Nat → Nat → Int} (hn : n ≤ 4) (h : ∀ j, j < n → len j ≤ 1048576) {i : Nat} (hi : i ≤ n) : (stepsF co cs len num i).length ≤ 4194304 := by
  have h1 := stepsF_len (co := co) (cs := cs) (num := num) h i hi
  have h2 : i * 1048576 ≤ 4 * 1048576 := Nat.mul_le_mul (by omega) (Nat.le_refl _)
  omega

/-- Does a number stand in a list? -/
def memB (z : Int) (L : List Int) : Bool := L.any (fun y => z == y)

theorem memB_iff {z : Int} {L : List Int} : memB z L = true ↔ z ∈ L := by
  unfold memB
  rw [List.any_eq_true]
  constructor
  · rintro ⟨y, hy, h⟩
    rw [show z = y by simpa using h]; exact hy
  · intro h
    exact ⟨z, h, by simp⟩

set_option maxRecDepth 100000 in
set_option maxHeartbeats 1000000 in
theorem sindex_any (base : Nat) (v : Value) (L : List Int) (z : Int) (w : World) (hL : L.length ≤ 1000) (hown : w.ownsRow base 3 1 v L.length (ints L)) :
    Calls Tryd.prog 111 #[v, .int .i64 z] w fun e w' => ∃ r : Int, e = .returned (.int .i64 r) ∧ decide (0 ≤ r) = memB z L ∧ w' = w := by
  obtain ⟨a, cap, rfl, hpos, _⟩ := own_form hown
  have HO := Hid.mk hown
  have HP := Hid.mk hpos
  clear hown hpos
  go_enter Tryd.func111, Tryd.ntmps111
  go_wp2
  go_loop [8] (fun v8 => ∃ k : Nat, v8 = .int .i64 k ∧ k ≤ L.length ∧ ∀ j, j < k → L[j]? ≠ some z) (fun v8 => L.length - (intOf v8).toNat)
  case atStart => exact ⟨0, rfl, Nat.zero_le _, fun j hj => absurd hj (Nat.not_lt_zero j)⟩
  case round =>
    obtain ⟨k, rfl, hk, hmiss⟩ := hrel
    have HM := Hid.mk hmiss
    clear hmiss
    by_cases hlt : k < L.length
    · obtain ⟨g, rfl⟩ := HP.out (by omega)
      have d := own_cell HO.out hlt
      rw [ints_at' hlt] at d
      obtain ⟨y, hy⟩ : ∃ y, y = L.getD k 0 := ⟨_, rfl⟩
      rw [← hy] at d
      have hyk : Hid (L[k]? = some y) := by unfold Hid; rw [hy, List.getD_eq_getElem?_getD, List.getElem?_eq_getElem hlt]; rfl
      clear hy
      by_cases e : (z == y) = true
      · have MEM : Hid (memB z L = true) := memB_iff.2 (by
          rw [show z = y by simpa using e]
          exact List.mem_of_getElem? hyk.out)
        go_wp2
        go_ret
        exact ⟨k, rfl, by rw [MEM.out]; simp, rfl⟩
      · have en : (z == y) = false := by simpa using e
        have NEQ : Hid (L[k]? ≠ some z) := by unfold Hid; rw [hyk.out]; intro h; exact e (by simp at h; simp [h])
        clear e
        go_wp2
        go_round
        case rel =>
          refine ⟨k + 1, by go_num, by omega, fun j hj => ?_⟩
          by_cases ej : j = k
          · subst ej; exact NEQ.out
          · exact HM.out j (by omega)
        case measure => simp [intOf]; omega
    · have NO : Hid (memB z L = false) := by
        cases h : memB z L with
        | false => rfl
        | true =>
          obtain ⟨j, hj⟩ := List.mem_iff_getElem?.1 (memB_iff.1 h)
          have hjl : j < L.length := (List.getElem?_eq_some_iff.1 hj).1
          exact absurd hj (HM.out j (by omega))
      go_wp2
      go_ret
      exact ⟨-1, rfl, by rw [NO.out]; decide, rfl⟩

theorem contains_any (base : Nat) (v : Value) (L : List Int) (z : Int) (w : World) (hL : L.length ≤ 1000) (hown : w.ownsRow base 3 1 v L.length (ints L)) :
    Calls Tryd.prog 109 #[v, .int .i64 z] w fun e w' => e = .returned (.bool (memB z L)) ∧ w' = w := by
  go_enter Tryd.func109, Tryd.ntmps109
  go_wp2_with fail
  refine (sindex_any base v L z _ hL hown).mono ?_
  rintro e w1 ⟨r, rfl, hr, hw⟩
  have hw := hw.symm
  subst hw
  have HR := Hid.mk hr
  clear hr
  go_wp2
  go_ret
  exact ⟨ret_bool HR.out, rfl⟩

theorem nb_range {ro co c z : Int} (h1 : 1 ≤ co) (h2 : co ≤ 6) (h : z ∈ nbAt ro co c 4) : 0 ≤ z ∧ z < ro * co := by
  obtain ⟨i, hi, hr, hk, rfl⟩ := nbAt_mem.1 h
  obtain ⟨k0, k1⟩ := rng_bd hk
  obtain ⟨r0, r1⟩ := rng_bd hr
  obtain ⟨r, hr'⟩ : ∃ r, r = c / co + drow i := ⟨_, rfl⟩
  obtain ⟨k, hk'⟩ : ∃ k, k = c % co + dcol i := ⟨_, rfl⟩
  rw [← hr'] at r0 r1 ⊢
  rw [← hk'] at k0 k1 ⊢
  have e : co = 1 ∨ co = 2 ∨ co = 3 ∨ co = 4 ∨ co = 5 ∨ co = 6 := by omega
  rcases e with e | e | e | e | e | e <;> subst e <;> omega

/-- To go from a to a free cell: the same, or a neighbour. -/
theorem mayGo_eq {ro co a : Int} {b : Nat} {cs : ByteArray} (h1 : 1 ≤ co) (h2 : co ≤ 6) (hsz : (cs.size : Int) = ro * co) (hf : freeB cs b = true) (hb : b < cs.size) : mayM co cs a b = (a == (b : Int) || memB a (nbAt ro co b 4)) := by
  rw [Bool.eq_iff_iff, Bool.or_eq_true, memB_iff]
  constructor
  · intro h
    unfold mayM at h
    simp only [Bool.and_eq_true, decide_eq_true_eq] at h
    obtain ⟨_, h0, h3, hn⟩ := h
    by_cases e : a = (b : Int)
    · exact Or.inl (by simpa using e)
    · exact Or.inr (nb_all h1 h2 (by omega) (by omega) h0 (by omega) (by rw [near_comm]; exact hn) e)
  · rintro (h | h)
    · have e : a = (b : Int) := by simpa using h
      subst e
      rw [mayM_in hf (by omega) (by omega)]
      unfold nearM; simp
    · obtain ⟨h3, h4⟩ := nb_range h1 h2 h
      rw [mayM_in hf h3 (by omega), near_comm]
      exact nb_near h1 h2 h

set_option maxRecDepth 100000 in
set_option maxHeartbeats 1000000 in
theorem mayGo_any (ro co bu a b : Int) (cs : ByteArray) (ac : Option Addr) (mc cc : Nat) (w : World) (hs : cs.size ≤ 36) (r1 : 1 ≤ ro) (r2 : ro ≤ 6) (h1 : 1 ≤ co) (h2 : co ≤ 6) (hsz : (cs.size : Int) = ro * co) (hsd : SidesIn w) :
    Calls Tryd.prog 103 #[.agg #[.int .i64 ro, .int .i64 co, .string cs, .slice ac mc cc, .int .i64 bu], .int .i64 a, .int .i64 b] w fun e w' => e = .returned (.bool (mayM co cs a b)) ∧ Below w.heap.size w w' := by
  have HSD := Hid.mk hsd
  have HB0 : Hid (∀ o, Below w.heap.size w (w.alloc o)) := fun _ => (Below.refl _ w).alloc (Nat.le_refl _) _
  have hsm : cs.size ≤ maxLen := by unfold maxLen; omega
  clear hsd
  by_cases hf : freeB cs b = true
  · obtain ⟨b', rfl⟩ := Int.eq_ofNat_of_zero_le (show 0 ≤ b by
      by_cases h : 0 ≤ b
      · exact h
      · rw [freeB_out (by omega)] at hf; cases hf)
    have hbN := free_lt hf
    have EQ := Hid.mk (mayGo_eq (a := a) h1 h2 hsz hf hbN)
    have HF := Hid.mk hf
    clear hf hsz
    go_enter Tryd.func103, Tryd.ntmps103
    go_wp2_with fail
    refine (gfree_any _ _ _ _ _ _ _ hsm).mono ?_
    rintro e w1 ⟨he, hb1⟩
    rw [HF.out] at he
    subst he
    have B1 : Hid (Below w.heap.size w w1) := (HB0.out _).trans (hb1.mono (by simp))
    have y1 : ∀ o, w1.cell? ⟨w.heap.size, o, none⟩ = #[Value.int .i64 ro, .int .i64 co, .string cs, .slice ac mc cc, .int .i64 bu][o]? := by
      intro o
      rw [hb1.cell (p := ⟨w.heap.size, o, none⟩) (by show w.heap.size < _; simp)]; go_simp
    clear hb1
    by_cases e1 : (a == (b' : Int)) = true
    · have RES : Hid (mayM co cs a b' = true) := by unfold Hid; rw [EQ.out, e1]; rfl
      go_wp2
      go_ret
      exact ⟨ret_bool RES.out.symm, B1.out⟩
    · have e1n : (a == (b' : Int)) = false := by simpa using e1
      have RES : Hid (mayM co cs a b' = memB a (nbAt ro co b' 4)) := by unfold Hid; rw [EQ.out, e1n]; rfl
      clear e1
      go_wp2_with fail
      refine (neighbours_any ro co bu cs _ b' _ (HSD.out.below B1.out) r1 r2 h1 h2 (by omega)).mono ?_
      rintro e w2 ⟨v, rfl, hown, hb2⟩
      have OWN := Hid.mk hown
      have B2 : Hid (Below w.heap.size w w2) := B1.out.trans (hb2.mono B1.out.size)
      have NL := nbAt_len ro co b' 4
      clear hown hb2 y1
      go_wp2_with fail
      refine (contains_any _ v _ a _ (by omega) OWN.out).mono ?_
      rintro e w3 ⟨rfl, hw⟩
      have hw := hw.symm
      subst hw
      go_wp2
      go_ret
      exact ⟨ret_bool RES.out.symm, B2.out⟩
  · have hfn : freeB cs b = false := by simpa using hf
    have HM : Hid (mayM co cs a b = false) := mayM_out (Or.inl hfn)
    have HF := Hid.mk hfn
    clear hf hfn
    go_enter Tryd.func103, Tryd.ntmps103
    go_wp2_with fail
    refine (gfree_any _ _ _ _ _ _ _ hsm).mono ?_
    rintro e w1 ⟨he, hb1⟩
    rw [HF.out] at he
    subst he
    have B1 : Hid (Below w.heap.size w w1) := (HB0.out _).trans (hb1.mono (by simp))
    clear hb1
    go_wp2
    go_ret
    exact ⟨ret_bool HM.out.symm, B1.out⟩

end Go.Proofs.YtnkgpinadgacgabDoor
