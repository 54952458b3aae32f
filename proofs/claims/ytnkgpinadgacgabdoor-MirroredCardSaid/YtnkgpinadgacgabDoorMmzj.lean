/- Several texts in one: Ce, Cf. -/
import Derived.Test.YtnkgpinadgacgabDoorMmzi
namespace Go.Proofs.YtnkgpinadgacgabDoor
open Go.RowKit M
namespace M
/-- Is there a fault of a step, or of the first cell, at an instant? -/
def stepB (co : Int) (cs : ByteArray) (n : Nat) (x : Nat → Int) (t : Nat) : Bool := (decide (t + 1 < n) && !mayM co cs (x t) (x (t + 1))) || (decide (t = 0) && !freeB cs (x t))

/-- The faults of a cart's steps, at the first instants. -/
def cellsF (co : Int) (cs : ByteArray) (i n : Nat) (x : Nat → Int) : Nat → List FaultM
  | 0 => []
  | t + 1 => cellsF co cs i n x t ++ (if M.stepB co cs n x t = true then [⟨1, i, -1, t⟩] else [])

/-- The faults of level 1. -/
def stepsF (co : Int) (cs : ByteArray) (len : Nat → Nat) (num : Nat → Nat → Int) : Nat → List FaultM
  | 0 => []
  | i + 1 => stepsF co cs len num i ++ cellsF co cs i (len i) (num i) (len i)

theorem cellsF_len (co : Int) (cs : ByteArray) (i n : Nat) (x : Nat → Int) : ∀ t, (cellsF co cs i n x t).length ≤ t
  | 0 => by simp [cellsF]
  | t + 1 => by
    have := cellsF_len co cs i n x t
    simp only [cellsF, List.length_append]
    split <;> simp <;> omega

theorem stepsF_len {co : Int} {cs : ByteArray} {n B : Nat} {len : Nat → Nat} {num : Nat → Nat → Int} (h : ∀ j, j < n → len j ≤ B) : ∀ i, i ≤ n → (stepsF co cs len num i).length ≤ i * B
  | 0, _ => by simp [stepsF]
  | i + 1, hi => by
    have ih := stepsF_len (co := co) (cs := cs) (num := num) h i (by omega)
    have h1 := cellsF_len co cs i (len i) (num i) (len i)
    have h2 := h i (by omega)
    have h3 : (i + 1) * B = i * B + B := Nat.succ_mul i B
    simp only [stepsF, List.length_append]
    omega

theorem cells_hit {co : Int} {cs : ByteArray} {i n t : Nat} {x : Nat → Int} (h : M.stepB co cs n x t = true) : cellsF co cs i n x (t + 1) = cellsF co cs i n x t ++ [⟨1, i, -1, t⟩] := by simp only [cellsF]; rw [if_pos h]

theorem cells_miss {co : Int} {cs : ByteArray} {i n t : Nat} {x : Nat → Int} (h : M.stepB co cs n x t = false) : cellsF co cs i n x (t + 1) = cellsF co cs i n x t := by simp only [cellsF]; rw [if_neg (by rw [h]; decide), List.append_nil]

end M
theorem steps_bd {co : Int} {cs : ByteArray} {n : Nat} {len : Nat → Nat} {num : Nat → Nat → Int} (hn : n ≤ 4) (h : ∀ j, j < n → len j ≤ 1048576) {i : Nat} (hi : i ≤ n) : (stepsF co cs len num i).length ≤ 4194304 := by
  have h1 := stepsF_len (co := co) (cs := cs) (num := num) h i hi
  have h2 : i * 1048576 ≤ 4 * 1048576 := Nat.mul_le_mul (by omega) (Nat.le_refl _)
  omega

/-- Does a number stand in a list? -/
def memB (z : Int) (L : List Int) : Bool := L.any (fun y => z == y)

theorem memB_iff {z : Int} {L : List Int} : memB z L = true ↔ z ∈ L := by
  unfold memB
  rw [List.any_eq_true]
  constructor
  · rintro ⟨y, hy, h⟩
    rw [show z = y by simpa using h]; exact hy
  · intro h
    exact ⟨z, h, by simp⟩

set_option maxRecDepth 100000 in
set_option maxHeartbeats 1000000 in
theorem sindex_any (base : Nat) (v : Value) (L : List Int) (z : Int) (w : World) (hL : L.length ≤ 1000) (hown : w.ownsRow base 3 1 v L.length (ints L)) :
    Calls Tryd.prog 111 #[v, .int .i64 z] w fun e w' => ∃ r : Int, e = .returned (.int .i64 r) ∧ decide (0 ≤ r) = memB z L ∧ w' = w := by
  obtain ⟨a, cap, rfl, hpos, _⟩ := own_form hown
  have HO := Hid.mk hown
  have HP := Hid.mk hpos
  clear hown hpos
  go_enter Tryd.func111, Tryd.ntmps111
  go_wp2
  go_loop [8] (fun v8 => ∃ k : Nat, v8 = .int .i64 k ∧ k ≤ L.length ∧ ∀ j, j < k → L[j]? ≠ some z) (fun v8 => L.length - (intOf v8).toNat)
  case atStart => exact ⟨0, rfl, Nat.zero_le _, fun j hj => absurd hj (Nat.not_lt_zero j)⟩
  case round =>
    obtain ⟨k, rfl, hk, hmiss⟩ := hrel
    have HM := Hid.mk hmiss
    clear hmiss
    by_cases hlt : k < L.length
    · obtain ⟨g, rfl⟩ := HP.out (by omega)
      have d := own_cell HO.out hlt
      rw [ints_at' hlt] at d
      obtain ⟨y, hy⟩ : ∃ y, y = L.getD k 0 := ⟨_, rfl⟩
      rw [← hy] at d
      have hyk : Hid (L[k]? = some y) := by unfold Hid; rw [hy, List.getD_eq_getElem?_getD, List.getElem?_eq_getElem hlt]; rfl
      clear hy
      by_cases e : (z == y) = true
      · have MEM : Hid (memB z L = true) := memB_iff.2 (by
          rw [show z = y by simpa using e]
          exact List.mem_of_getElem? hyk.out)
        go_wp2
        go_ret
        exact ⟨k, rfl, by rw [MEM.out]; simp, rfl⟩
      · have en : (z == y) = false := by simpa using e
        have NEQ : Hid (L[k]? ≠ some z) := by unfold Hid; rw [hyk.out]; intro h; exact e (by simp at h; simp [h])
        clear e
        go_wp2
        go_round
        case rel =>
          refine ⟨k + 1, by go_num, by omega, fun j hj => ?_⟩
          by_cases ej : j = k
          · subst ej; exact NEQ.out
          · exact HM.out j (by omega)
        case measure => simp [intOf]; omega
    · have NO : Hid (memB z L = false) := by
        cases h : memB z L with
        | false => rfl
        | true =>
          obtain ⟨j, hj⟩ := List.mem_iff_getElem?.1 (memB_iff.1 h)
          have hjl : j < L.length := (List.getElem?_eq_some_iff.1 hj).1
          exact absurd hj (HM.out j (by omega))
      go_wp2
      go_ret
      exact ⟨-1, rfl, by rw [NO.out]; decide, rfl⟩

theorem contains_any (base : Nat) (v : Value) (L : List Int) (z : Int) (w : World) (hL : L.length ≤ 1000) (hown : w.ownsRow base 3 1 v L.length (ints L)) :
    Calls Tryd.prog 109 #[v, .int .i64 z] w fun e w' => e = .returned (.bool (memB z L)) ∧ w' = w := by
  go_enter Tryd.func109, Tryd.ntmps109
  go_wp2_with fail
  refine (sindex_any base v L z _ hL hown).mono ?_
  rintro e w1 ⟨r, rfl, hr, hw⟩
  have hw := hw.symm
  subst hw
  have HR := Hid.mk hr
  clear hr
  go_wp2
  go_ret
  exact ⟨ret_bool HR.out, rfl⟩

theorem nb_range {ro co c z : Int} (h1 : 1 ≤ co) (h2 : co ≤ 6) (h : z ∈ nbAt ro co c 4) : 0 ≤ z ∧ z < ro * co := by
  obtain ⟨i, hi, hr, hk, rfl⟩ := nbAt_mem.1 h
  obtain ⟨k0, k1⟩ := rng_bd hk
  obtain ⟨r0, r1⟩ := rng_bd hr
  obtain ⟨r, hr'⟩ : ∃ r, r = c / co + drow i := ⟨_, rfl⟩
  obtain ⟨k, hk'⟩ : ∃ k, k = c % co + dcol i := ⟨_, rfl⟩
  rw [← hr'] at r0 r1 ⊢
  rw [← hk'] at k0 k1 ⊢
  have e : co = 1 ∨ co = 2 ∨ co = 3 ∨ co = 4 ∨ co = 5 ∨ co = 6 := by omega
  rcases e with e | e | e | e | e | e <;> subst e <;> omega

/-- To go from a to a free cell: the same, or a neighbour. -/
theorem mayGo_eq {ro co a : Int} {b : Nat} {cs : ByteArray} (h1 : 1 ≤ co) (h2 : co ≤ 6) (hsz : (cs.size : Int) = ro * co) (hf : freeB cs b = true) (hb : b < cs.size) : mayM co cs a b = (a == (b : Int) || memB a (nbAt ro co b 4)) := by
  rw [Bool.eq_iff_iff, Bool.or_eq_true, memB_iff]
  constructor
  · intro h
    unfold mayM at h
    simp only [Bool.and_eq_true, decide_eq_true_eq] at h
    obtain ⟨_, h0, h3, hn⟩ := h
    by_cases e : a = (b : Int)
    · exact Or.inl (by simpa using e)
    · exact Or.inr (nb_all h1 h2 (by omega) (by omega) h0 (by omega) (by rw [near_comm]; exact hn) e)
  · rintro (h | h)
    · have e : a = (b : Int) := by simpa using h
      subst e
      rw [mayM_in hf (by omega) (by omega)]
      unfold nearM; simp
    · obtain ⟨h3, h4⟩ := nb_range h1 h2 h
      rw [mayM_in hf h3 (by omega), near_comm]
      exact nb_near h1 h2 h

set_option maxRecDepth 100000 in
set_option maxHeartbeats 1000000 in
theorem mayGo_any (ro co bu a b : Int) (cs : ByteArray) (ac : Option Addr) (mc cc : Nat) (w : World) (hs : cs.size ≤ 36) (r1 : 1 ≤ ro) (r2 : ro ≤ 6) (h1 : 1 ≤ co) (h2 : co ≤ 6) (hsz : (cs.size : Int) = ro * co) (hsd : SidesIn w) :
    Calls Tryd.prog 103 #[.agg #[.int .i64 ro, .int .i64 co, .string cs, .slice ac mc cc, .int .i64 bu], .int .i64 a, .int .i64 b] w fun e w' => e = .returned (.bool (mayM co cs a b)) ∧ Below w.heap.size w w' := by
  have HSD := Hid.mk hsd
  have HB0 : Hid (∀ o, Below w.heap.size w (w.alloc o)) := fun _ => (Below.refl _ w).alloc (Nat.le_refl _) _
  have hsm : cs.size ≤ maxLen := by unfold maxLen; omega
  clear hsd
  by_cases hf : freeB cs b = true
  · obtain ⟨b', rfl⟩ := Int.eq_ofNat_of_zero_le (show 0 ≤ b by
      by_cases h : 0 ≤ b
      · exact h
      · rw [freeB_out (by omega)] at hf; cases hf)
    have hbN := free_lt hf
    have EQ := Hid.mk (mayGo_eq (a := a) h1 h2 hsz hf hbN)
    have HF := Hid.mk hf
    clear hf hsz
    go_enter Tryd.func103, Tryd.ntmps103
    go_wp2_with fail
    refine (gfree_any _ _ _ _ _ _ _ hsm).mono ?_
    rintro e w1 ⟨he, hb1⟩
    rw [HF.out] at he
    subst he
    have B1 : Hid (Below w.heap.size w w1) := (HB0.out _).trans (hb1.mono (by simp))
    have y1 : ∀ o, w1.cell? ⟨w.heap.size, o, none⟩ = #[Value.int .i64 ro, .int .i64 co, .string cs, .slice ac mc cc, .int .i64 bu][o]? := by
      intro o
      rw [hb1.cell (p := ⟨w.heap.size, o, none⟩) (by show w.heap.size < _; simp)]; go_simp
    clear hb1
    by_cases e1 : (a == (b' : Int)) = true
    · have RES : Hid (mayM co cs a b' = true) := by unfold Hid; rw [EQ.out, e1]; rfl
      go_wp2
      go_ret
      exact ⟨ret_bool RES.out.symm, B1.out⟩
    · have e1n : (a == (b' : Int)) = false := by simpa using e1
      have RES : Hid (mayM co cs a b' = memB a (nbAt ro co b' 4)) := by unfold Hid; rw [EQ.out, e1n]; rfl
      clear e1
      go_wp2_with fail
      refine (neighbours_any ro co bu cs _ b' _ (HSD.out.below B1.out) r1 r2 h1 h2 (by omega)).mono ?_
      rintro e w2 ⟨v, rfl, hown, hb2⟩
      have OWN := Hid.mk hown
      have B2 : Hid (Below w.heap.size w w2) := B1.out.trans (hb2.mono B1.out.size)
      have NL := nbAt_len ro co b' 4
      clear hown hb2 y1
      go_wp2_with fail
      refine (contains_any _ v _ a _ (by omega) OWN.out).mono ?_
      rintro e w3 ⟨rfl, hw⟩
      have hw := hw.symm
      subst hw
      go_wp2
      go_ret
      exact ⟨ret_bool RES.out.symm, B2.out⟩
  · have hfn : freeB cs b = false := by simpa using hf
    have HM : Hid (mayM co cs a b = false) := mayM_out (Or.inl hfn)
    have HF := Hid.mk hfn
    clear hf hfn
    go_enter Tryd.func103, Tryd.ntmps103
    go_wp2_with fail
    refine (gfree_any _ _ _ _ _ _ _ hsm).mono ?_
    rintro e w1 ⟨he, hb1⟩
    rw [HF.out] at he
    subst he
    have B1 : Hid (Below w.heap.size w w1) := (HB0.out _).trans (hb1.mono (by simp))
    clear hb1
    go_wp2
    go_ret
    exact ⟨ret_bool HM.out.symm, B1.out⟩

end Go.Proofs.YtnkgpinadgacgabDoor

namespace Go.Proofs.YtnkgpinadgacgabDoor
open Go.RowKit M
set_option maxRecDepth 100000 in
set_option maxHeartbeats 4000000 in
theorem wrongFrom_any (ro co bu : Int) (cs : ByteArray) (ac : Option Addr) (mc cc : Nat) (a : Option Addr) (n cap t : Nat) (x : Nat → Int) (w : World) (hs : cs.size ≤ 36) (r1 : 1 ≤ ro) (r2 : ro ≤ 6) (h1 : 1 ≤ co) (h2 : co ≤ 6) (hsz : (cs.size : Int) = ro * co) (hsd : SidesIn w)
    (ht : t < n) (hn : n ≤ 1048576) (hx : NumsAt w a n x) :
    Calls Tryd.prog 88 #[.agg #[.int .i64 ro, .int .i64 co, .string cs, .slice ac mc cc, .int .i64 bu], .slice a n cap, .int .i64 t] w fun e w' => e = .returned (.bool (M.stepB co cs n x t)) ∧ Below w.heap.size w w' := by
  obtain ⟨b, off, rfl, hc⟩ := hx (by omega)
  have HC := Hid.mk hc
  have HSD := Hid.mk hsd
  have HSZ := Hid.mk hsz
  have hsm : cs.size ≤ maxLen := by unfold maxLen; omega
  clear hx hc hsd hsz
  go_enter Tryd.func88, Tryd.ntmps88
  go_upto_region 1 with fail
  have B0 : Hid (Below w.heap.size w (w.alloc (Obj.cells #[Value.int IntKind.i64 ro, Value.int IntKind.i64 co, Value.string cs, .slice ac mc cc, Value.int IntKind.i64 bu] 28))) := (Below.refl _ w).alloc (Nat.le_refl _) _
  have y0 : ∀ o, (w.alloc (Obj.cells #[Value.int IntKind.i64 ro, Value.int IntKind.i64 co, Value.string cs, .slice ac mc cc, Value.int IntKind.i64 bu] 28)).cell? ⟨w.heap.size, o, none⟩ = #[Value.int .i64 ro, .int .i64 co, .string cs, .slice ac mc cc, .int .i64 bu][o]? := by
    intro o; go_simp
  have hz0 : w.heap.size < (w.alloc (Obj.cells #[Value.int IntKind.i64 ro, Value.int IntKind.i64 co, Value.string cs, .slice ac mc cc, Value.int IntKind.i64 bu] 28)).heap.size := by simp
  generalize w.alloc (Obj.cells #[Value.int IntKind.i64 ro, Value.int IntKind.i64 co, Value.string cs, .slice ac mc cc, Value.int IntKind.i64 bu] 28) = w0 at *
  have Y0 := Hid.mk y0
  clear y0
  go_cut [7] (fun v7 wx => v7 = .bool (decide (t + 1 < n) && !mayM co cs (x t) (x (t + 1))) ∧ Below w0.heap.size w0 wx)
  case first =>
    by_cases hlt : t + 1 < n
    · have hltI : (t : Int) + 1 < (n : Int) := by omega
      have hd : decide ((t : Int) + 1 < (n : Int)) = true := by simp; omega
      have j1 : (0 : Int) ≤ (t : Int) + 1 := by omega
      have j2 : ((t : Int) + 1).toNat = t + 1 := by omega
      have j3 : (t : Int) < (n : Int) := by omega
      have j4 : IntKind.i64.wrap ((t : Int) + 1) = (t : Int) + 1 := wrap_mid (by omega) (by omega)
      have d1 := cell_later B0.out (HC.out t ht)
      have d2 := cell_later B0.out (HC.out (t + 1) hlt)
      have y00 := Y0.out 0
      have y01 := Y0.out 1
      have y02 := Y0.out 2
      have y03 := Y0.out 3
      have y04 := Y0.out 4
      simp only [List.getElem?_toArray, List.getElem?_cons_zero, List.getElem?_cons_succ] at y00 y01 y02 y03 y04
      have HS0 := Hid.mk (HSD.out.below B0.out)
      obtain ⟨p, hp⟩ : ∃ p, p = x t := ⟨_, rfl⟩
      obtain ⟨q, hq⟩ : ∃ q, q = x (t + 1) := ⟨_, rfl⟩
      rw [← hp] at d1
      rw [← hq] at d2
      have RES : Hid ((decide (t + 1 < n) && !mayM co cs (x t) (x (t + 1))) = !mayM co cs p q) := by unfold Hid; rw [hp, hq]; simp [hlt]
      clear hp hq
      have hzb : b < w0.heap.size := World.block_lt_of_cell? _ _ d1
      go_region_held3 (fun w' => w'.cell? ⟨w.heap.size, 0, none⟩ = some (.int .i64 ro) ∧ w'.cell? ⟨w.heap.size, 1, none⟩ = some (.int .i64 co) ∧ w'.cell? ⟨w.heap.size, 2, none⟩ = some (.string cs) ∧ w'.cell? ⟨w.heap.size, 3, none⟩ = some (.slice ac mc cc) ∧ w'.cell? ⟨w.heap.size, 4, none⟩ = some (.int .i64 bu) ∧ w'.cell? ⟨b, off + t, none⟩ = some (.int .i64 p) ∧ w'.cell? ⟨b, off + (t + 1), none⟩ = some (.int .i64 q)) (go_keep)
        (first
          | (go_at_call 103; refine (mayGo_any ro co bu p q cs ac mc cc _ hs r1 r2 h1 h2 HSZ.out (by exact HS0.out)).mono ?_; rintro e w4 ⟨he4, hb4⟩; obtain ⟨mb, hmb⟩ : ∃ mb, mb = mayM co cs p q := ⟨_, rfl⟩; rw [← hmb] at he4; subst he4; have MB := Hid.mk hmb; clear hmb; have q0 : w4.cell? ⟨w.heap.size, 0, none⟩ = some (.int .i64 ro) := (hb4.cell (p := ⟨w.heap.size, 0, none⟩) hz0).trans y00; have q1 : w4.cell? ⟨w.heap.size, 1, none⟩ = some (.int .i64 co) := (hb4.cell (p := ⟨w.heap.size, 1, none⟩) hz0).trans y01; have q2 : w4.cell? ⟨w.heap.size, 2, none⟩ = some (.string cs) := (hb4.cell (p := ⟨w.heap.size, 2, none⟩) hz0).trans y02; have q3 : w4.cell? ⟨w.heap.size, 3, none⟩ = some (.slice ac mc cc) := (hb4.cell (p := ⟨w.heap.size, 3, none⟩) hz0).trans y03; have q4 : w4.cell? ⟨w.heap.size, 4, none⟩ = some (.int .i64 bu) := (hb4.cell (p := ⟨w.heap.size, 4, none⟩) hz0).trans y04; have q5 : w4.cell? ⟨b, off + t, none⟩ = some (.int .i64 p) := (hb4.cell (p := ⟨b, off + t, none⟩) hzb).trans d1; have q6 : w4.cell? ⟨b, off + (t + 1), none⟩ = some (.int .i64 q) := (hb4.cell (p := ⟨b, off + (t + 1), none⟩) hzb).trans d2))
      all_goals (go_wp2_with fail)
      all_goals go_meet
      all_goals (case rel => exact ⟨by rw [RES.out, ← MB.out], (Below.refl _ w0).drew.trans hb4⟩)
    · have hd : decide ((t : Int) + 1 < (n : Int)) = false := by simp; omega
      have RES : Hid ((decide (t + 1 < n) && !mayM co cs (x t) (x (t + 1))) = false) := by unfold Hid; simp [hlt]
      clear hlt
      go_quiet (fail)
      go_wp2_with fail
      go_meet
      case rel => exact ⟨by rw [RES.out], below_drewN (Below.refl _ _) _⟩
  case rest =>
    obtain ⟨wx, rfl⟩ : ∃ q, q = wc := ⟨_, rfl⟩
    obtain ⟨rfl, hb1⟩ := hcut
    have B1 : Hid (Below w0.heap.size w0 wx) := hb1
    have B1w : Hid (Below w.heap.size w wx) := B0.out.trans (hb1.mono (by omega))
    obtain ⟨sb, hsb⟩ : ∃ sb, sb = (decide (t + 1 < n) && !mayM co cs (x t) (x (t + 1))) := ⟨_, rfl⟩
    have SB := Hid.mk hsb
    rw [← hsb]
    clear hb1 hsb
    cases sb
    · by_cases t0 : t = 0
      · have tI : ((t : Int) == 0) = true := by simp [t0]
        have nI : (0 : Int) < (n : Int) := by omega
        have nN : 0 < n := by omega
        have d1 := cell_later B1w.out (HC.out 0 (by omega))
        rw [Nat.add_zero] at d1
        have RES : Hid (M.stepB co cs n x t = !freeB cs (x 0)) := by unfold Hid M.stepB; rw [← SB.out]; simp [t0]
        obtain ⟨p, hp⟩ : ∃ p, p = x 0 := ⟨_, rfl⟩
        rw [← hp] at d1 RES
        have y1 : ∀ o, wx.cell? ⟨w.heap.size, o, none⟩ = #[Value.int .i64 ro, .int .i64 co, .string cs, .slice ac mc cc, .int .i64 bu][o]? := fun o => (B1.out.cell (p := ⟨w.heap.size, o, none⟩) hz0).trans (Y0.out o)
        have y10 := y1 0
        have y11 := y1 1
        have y12 := y1 2
        have y13 := y1 3
        have y14 := y1 4
        simp only [List.getElem?_toArray, List.getElem?_cons_zero, List.getElem?_cons_succ] at y10 y11 y12 y13 y14
        have hzb : b < wx.heap.size := World.block_lt_of_cell? _ _ d1
        have hzw : w.heap.size < wx.heap.size := Nat.lt_of_lt_of_le hz0 B1.out.size
        clear y1 t0 hp
        go_wp2_with fail
        go_region_held3 (fun w' => w'.cell? ⟨w.heap.size, 0, none⟩ = some (.int .i64 ro) ∧ w'.cell? ⟨w.heap.size, 1, none⟩ = some (.int .i64 co) ∧ w'.cell? ⟨w.heap.size, 2, none⟩ = some (.string cs) ∧ w'.cell? ⟨w.heap.size, 3, none⟩ = some (.slice ac mc cc) ∧ w'.cell? ⟨w.heap.size, 4, none⟩ = some (.int .i64 bu) ∧ w'.cell? ⟨b, off, none⟩ = some (.int .i64 p)) (go_keep)
          (first
            | (go_at_call 52; refine (gfree_any ro co bu p cs _ _ hsm).mono ?_; rintro e w4 ⟨he4, hb4⟩; obtain ⟨mb, hmb⟩ : ∃ mb, mb = freeB cs p := ⟨_, rfl⟩; rw [← hmb] at he4; subst he4; have MB := Hid.mk hmb; clear hmb; have q0 : w4.cell? ⟨w.heap.size, 0, none⟩ = some (.int .i64 ro) := (hb4.cell (p := ⟨w.heap.size, 0, none⟩) hzw).trans y10; have q1 : w4.cell? ⟨w.heap.size, 1, none⟩ = some (.int .i64 co) := (hb4.cell (p := ⟨w.heap.size, 1, none⟩) hzw).trans y11; have q2 : w4.cell? ⟨w.heap.size, 2, none⟩ = some (.string cs) := (hb4.cell (p := ⟨w.heap.size, 2, none⟩) hzw).trans y12; have q3 : w4.cell? ⟨w.heap.size, 3, none⟩ = some (.slice ac mc cc) := (hb4.cell (p := ⟨w.heap.size, 3, none⟩) hzw).trans y13; have q4 : w4.cell? ⟨w.heap.size, 4, none⟩ = some (.int .i64 bu) := (hb4.cell (p := ⟨w.heap.size, 4, none⟩) hzw).trans y14; have q5 : w4.cell? ⟨b, off, none⟩ = some (.int .i64 p) := (hb4.cell (p := ⟨b, off, none⟩) hzb).trans d1; have B4 : Hid (Below w.heap.size w w4) := B1w.out.drew.trans (hb4.mono B1w.out.size); clear hb4))
        go_wp2
        go_ret
        exact ⟨ret_bool (by rw [RES.out, ← MB.out]), B4.out⟩
      · have tI : ((t : Int) == 0) = false := by simp; omega
        have RES : Hid (M.stepB co cs n x t = false) := by unfold Hid M.stepB; rw [← SB.out]; simp [t0]
        clear t0
        go_wp2_with fail
        go_quiet (fail)
        go_wp2
        go_ret
        exact ⟨ret_bool RES.out.symm, below_drewN B1w.out _⟩
    · have RES : Hid (M.stepB co cs n x t = true) := by unfold Hid M.stepB; rw [← SB.out]; rfl
      go_wp2_with fail
      go_quiet (fail)
      go_wp2
      go_ret
      exact ⟨ret_bool RES.out.symm, below_drewN B1w.out _⟩

set_option maxRecDepth 100000 in
set_option maxHeartbeats 4000000 in
theorem stepFaults_any (ro co bu : Int) (cs : ByteArray) (ac : Option Addr) (mc cc : Nat) (a : Option Addr) (n cap : Nat) (p : PlanM) (w : World) (hs : cs.size ≤ 36) (r1 : 1 ≤ ro) (r2 : ro ≤ 6) (h1 : 1 ≤ co) (h2 : co ≤ 6) (hsz : (cs.size : Int) = ro * co) (hsd : SidesIn w)
    (hn : n ≤ 4) (hB : ∀ i, i < n → p.len i ≤ 1048576) (hp : PlanAt w a n p) :
    Calls Tryd.prog 64 #[.agg #[.int .i64 ro, .int .i64 co, .string cs, .slice ac mc cc, .int .i64 bu], .slice a n cap] w fun e w' => ∃ v, e = .returned v ∧ OwnF w' w.heap.size v (stepsF co cs p.len p.num n) ∧ Below w.heap.size w w' := by
  have HP := Hid.mk hp
  have HB := Hid.mk hB
  have HSD := Hid.mk hsd
  have HSZ := Hid.mk hsz
  clear hp hB hsd hsz
  go_enter Tryd.func64, Tryd.ntmps64
  go_wp2
  have B0 : Hid (Below w.heap.size w (w.alloc (Obj.cells #[Value.int IntKind.i64 ro, Value.int IntKind.i64 co, Value.string cs, .slice ac mc cc, Value.int IntKind.i64 bu] 28))) := (Below.refl _ w).alloc (Nat.le_refl _) _
  have y0 : ∀ o, (w.alloc (Obj.cells #[Value.int IntKind.i64 ro, Value.int IntKind.i64 co, Value.string cs, .slice ac mc cc, Value.int IntKind.i64 bu] 28)).cell? ⟨w.heap.size, o, none⟩ = #[Value.int .i64 ro, .int .i64 co, .string cs, .slice ac mc cc, .int .i64 bu][o]? := by
    intro o; go_simp
  have hz0 : w.heap.size + 1 = (w.alloc (Obj.cells #[Value.int IntKind.i64 ro, Value.int IntKind.i64 co, Value.string cs, .slice ac mc cc, Value.int IntKind.i64 bu] 28)).heap.size := by simp
  generalize w.alloc (Obj.cells #[Value.int IntKind.i64 ro, Value.int IntKind.i64 co, Value.string cs, .slice ac mc cc, Value.int IntKind.i64 bu] 28) = w0 at *
  have Y0 := Hid.mk y0
  have HZ0 := Hid.mk hz0
  have YALL : Hid (∀ wx, Below (w.heap.size + 1) w0 wx → (∀ o, wx.cell? ⟨w.heap.size, o, none⟩ = #[Value.int .i64 ro, .int .i64 co, .string cs, .slice ac mc cc, .int .i64 bu][o]?) ∧ Below w.heap.size w wx ∧ w.heap.size < wx.heap.size ∧ w.heap.size + 1 ≤ wx.heap.size) := by
    intro wx hb
    have := hb.size
    exact ⟨fun o => (hb.cell (p := ⟨w.heap.size, o, none⟩) (by show w.heap.size < _; omega)).trans (Y0.out o), B0.out.trans (hb.mono (by omega)), by omega, by omega⟩
  clear y0 hz0
  go_loopw [5, 11] (fun v5 v11 wr => ∃ (i : Nat) (L : Value), i ≤ n ∧ L = v5 ∧ v11 = .int .i64 i ∧ OwnF wr (w.heap.size + 1) L (stepsF co cs p.len p.num i) ∧ Below (w.heap.size + 1) w0 wr) (fun _ v11 _ => n - (intOf v11).toNat)
  case atStart => exact ⟨0, _, Nat.zero_le _, rfl, rfl, OwnF.nil _ _, Below.refl _ _⟩
  case round =>
    obtain ⟨wo, rfl⟩ : ∃ q, q = wr := ⟨_, rfl⟩
    obtain ⟨i, L, hi, rfl, rfl, hown, hbr⟩ := hrel
    have OWN := Hid.mk hown
    have BR := Hid.mk hbr
    clear hown hbr
    by_cases hlt : i < n
    · obtain ⟨b, off, rfl, hpi⟩ := HP.out (by omega)
      obtain ⟨_, bw, _, _⟩ := YALL.out wo BR.out
      have c1 := cell_later bw (hpi i hlt).1
      have NI := Hid.mk (hpi i hlt).2
      have BI := HB.out i hlt
      have E1 : Hid (stepsF co cs p.len p.num (i + 1) = stepsF co cs p.len p.num i ++ cellsF co cs i (p.len i) (p.num i) (p.len i)) := rfl
      obtain ⟨ai, hai⟩ : ∃ q, q = p.ad i := ⟨_, rfl⟩
      obtain ⟨li, hli⟩ : ∃ q, q = p.len i := ⟨_, rfl⟩
      obtain ⟨ci, hci⟩ : ∃ q, q = p.cap i := ⟨_, rfl⟩
      rw [← hai, ← hli, ← hci] at c1
      rw [← hai, ← hli] at NI
      rw [← hli] at BI E1
      have LP := Hid.mk (steps_bd (co := co) (cs := cs) (num := p.num) hn HB.out hi)
      clear hpi hai hli hci bw
      go_wp2
      go_loopw [5, 18] (fun v5 v18 wr => ∃ (t : Nat) (L : Value), t ≤ li ∧ L = v5 ∧ v18 = .int .i64 t ∧ OwnF wr (w.heap.size + 1) L (stepsF co cs p.len p.num i ++ cellsF co cs i li (p.num i) t) ∧ Below (w.heap.size + 1) w0 wr) (fun _ v18 _ => li - (intOf v18).toNat)
      case atStart => exact ⟨0, _, Nat.zero_le _, rfl, rfl, by simp only [cellsF]; rw [List.append_nil]; exact OWN.out, BR.out⟩
      case round =>
        obtain ⟨wt, rfl⟩ : ∃ q, q = wr := ⟨_, rfl⟩
        obtain ⟨t, L2, ht, rfl, rfl, hown2, hbr2⟩ := hrel
        have OWN2 := Hid.mk hown2
        have BR2 := Hid.mk hbr2
        clear hown2 hbr2
        by_cases hlt2 : t < li
        · obtain ⟨y1, bw2, zw, zw1⟩ := YALL.out wt BR2.out
          have NI2 := Hid.mk (NI.out.below bw2)
          have HS2 := Hid.mk (HSD.out.below bw2)
          clear bw2
          go_wp2_with fail
          refine (wrongFrom_any ro co bu cs ac mc cc ai li ci t (p.num i) _ hs r1 r2 h1 h2 HSZ.out HS2.out hlt2 BI NI2.out).mono ?_
          rintro e w4 ⟨he, hb4⟩
          obtain ⟨sb, hsb⟩ : ∃ sb, sb = M.stepB co cs li (p.num i) t := ⟨_, rfl⟩
          rw [← hsb] at he
          subst he
          have SB := Hid.mk hsb
          have OWN4 := Hid.mk (OWN2.out.below hb4)
          have BR4 : Hid (Below (w.heap.size + 1) w0 w4) := BR2.out.trans (hb4.mono zw1)
          have LT := Hid.mk (cellsF_len co cs i li (p.num i) t)
          clear hb4 hsb y1 OWN2 BR2 NI2 HS2
          cases sb
          · have E2 := Hid.mk (cells_miss (i := i) SB.out.symm)
            go_wp2
            go_roundw
            case rel => exact ⟨t + 1, L2, by omega, rfl, by go_num, by rw [E2.out]; exact OWN4.out, BR4.out⟩
            case measure => simp [intOf]; omega
          · have E2 := Hid.mk (cells_hit (i := i) SB.out.symm)
            have hbs : Hid (w.heap.size + 1 ≤ w4.heap.size) := (YALL.out _ BR4.out).2.2.2
            have HLEN : Hid ((stepsF co cs p.len p.num i ++ cellsF co cs i li (p.num i) t).length ≤ 100000000) := by
              have h1 := LP.out; have h3 := LT.out; unfold Hid; simp only [List.length_append]; omega
            go_wp2_with (at_builtin; go_must (refine wpList_pushF rfl _ _ rfl (w.heap.size + 1) L2 _ ⟨1, i, -1, t⟩ rfl OWN4.out hbs.out _ rfl HLEN.out ?_; intro v5 w5 hown5 hb5))
            have OWN6 := Hid.mk hown5
            have BR6 : Hid (Below (w.heap.size + 1) w0 w5) := BR4.out.trans hb5
            clear hown5 hb5
            go_wp2
            go_roundw
            case rel => exact ⟨t + 1, v5, by omega, rfl, by go_num, by rw [E2.out, ← List.append_assoc]; exact OWN6.out, BR6.out⟩
            case measure => simp [intOf]; omega
        · have E3 : Hid (stepsF co cs p.len p.num (i + 1) = stepsF co cs p.len p.num i ++ cellsF co cs i li (p.num i) t) := by
            have e : t = li := by omega
            unfold Hid
            rw [e, E1.out]
          go_wp2
          go_roundw
          case rel => exact ⟨i + 1, L2, by omega, rfl, by go_num, by rw [E3.out]; exact OWN2.out, BR2.out⟩
          case measure => simp [intOf]; omega
    · have E5 : Hid (stepsF co cs p.len p.num i = stepsF co cs p.len p.num n) := by
        have e : i = n := by omega
        unfold Hid
        rw [e]
      go_wp2
      go_ret
      exact ⟨L, rfl, by rw [← E5.out]; exact OWN.out.le (by omega), (YALL.out _ BR.out).2.1⟩

end Go.Proofs.YtnkgpinadgacgabDoor
