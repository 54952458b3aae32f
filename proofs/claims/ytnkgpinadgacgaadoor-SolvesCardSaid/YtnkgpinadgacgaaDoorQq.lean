/- Several texts in one: Ce, Cg. -/
import Derived.Test.YtnkgpinadgacgaaDoorQp
namespace Go.Proofs.YtnkgpinadgacgaaDoor
open Go.RowKit M
namespace M
/-- Is there a fault of a step, or of the first cell, at an instant? -/
def stepB (co : Int) (cs : ByteArray) (n : Nat) (x : Nat → Int) (t : Nat) : Bool := (decide (t + 1 < n) && !mayM co cs (x t) (x (t + 1))) || (decide (t = 0) && !freeB cs (x t))

/-- The faults of a cart's steps, at the first instants. -/
def cellsF (co : Int) (cs : ByteArray) (i n : Nat) (x : Nat → Int) : Nat → List FaultM
  | 0 => []
  | t + 1 => cellsF co cs i n x t ++ (if M.stepB co cs n x t = true then [⟨1, i, -1, t⟩] else [])

/-- The faults of level 1. -/
def stepsF (co : Int) (cs : ByteArray) (len : Nat → Nat) (num : Nat → Nat → Int) : Nat → List FaultM
  | 0 => []
  | i + 1 => stepsF co cs len num i ++ cellsF co cs i (len i) (num i) (len i)

theorem cellsF_len (co : Int) (cs : ByteArray) (i n : Nat) (x : Nat → Int) : ∀ t, (cellsF co cs i n x t).length ≤ t
  | 0 => by simp [cellsF]
  | t + 1 => by
    have := cellsF_len co cs i n x t
    simp only [cellsF, List.length_append]
    split <;> simp <;> omega

theorem stepsF_len {co : Int} {cs : ByteArray} {n B : Nat} {len : Nat → Nat} {num : Nat → Nat → Int} (h : ∀ j, j < n → len j ≤ B) : ∀ i, i ≤ n → (stepsF co cs len num i).length ≤ i * B
  | 0, _ => by simp [stepsF]
  | i + 1, hi => by
    have ih := stepsF_len (co := co) (cs := cs) (num := num) h i (by omega)
    have h1 := cellsF_len co cs i (len i) (num i) (len i)
    have h2 := h i (by omega)
    have h3 : (i + 1) * B = i * B + B := Nat.succ_mul i B
    simp only [stepsF, List.length_append]
    omega

theorem cells_hit {co : Int} {cs : ByteArray} {i n t : Nat} {x : Nat → Int} (h : M.stepB co cs n x t = true) : cellsF co cs i n x (t + 1) = cellsF co cs i n x t ++ [⟨1, i, -1, t⟩] := by simp only [cellsF]; rw [if_pos h]

theorem cells_miss {co : Int} {cs : ByteArray} {i n t : Nat} {x : Nat → Int} (h : M.stepB co cs n x t = false) : cellsF co cs i n x (t + 1) = cellsF co cs i n x t := by simp only [cellsF]; rw [if_neg (by rw [h]; decide), List.append_nil]

end M
theorem steps_bd {co : Int} {cs : ByteArray} {n : Nat} {len : Nat → Nat} {num : Nat → Nat → Int} (hn : n ≤ 4) (h : ∀ j, j < n → len j ≤ 1048576) {i : Nat} (hi : i ≤ n) : (stepsF co cs len num i).length ≤ 4194304 := by
  have h1 := stepsF_len (co := co) (cs := cs) (num := num) h i hi
  have h2 : i * 1048576 ≤ 4 * 1048576 := Nat.mul_le_mul (by omega) (Nat.le_refl _)
  omega

set_option maxHeartbeats 1000000 in
theorem may_all (ro co bu a b : Int) (cs : ByteArray) (ca : Value) (w : World) (hs : cs.size ≤ 36) (h1 : 1 ≤ co) (h2 : co ≤ 6) :
    Calls Tryd.prog 65 #[.agg #[.int .i64 ro, .int .i64 co, .string cs, ca, .int .i64 bu], .int .i64 a, .int .i64 b] w fun e w' => e = .returned (.bool (mayM co cs a b)) ∧ Below w.heap.size w w' := by
  by_cases hb : 0 ≤ b ∧ b ≤ 36
  · exact may_any ro co bu a b cs ca w hs h1 h2 hb.1 hb.2
  · have hf : freeB cs b = false := freeB_out (by omega)
    have HM : Hid (mayM co cs a b = false) := mayM_out (Or.inl hf)
    have hsm : cs.size ≤ maxLen := by unfold maxLen; omega
    have HF := Hid.mk hf
    clear hf
    go_enter Tryd.func65, Tryd.ntmps65
    go_wp2_with fail
    refine (rfree_any _ _ _ _ _ _ _ hsm).mono ?_
    rintro e w1 ⟨he, hb1⟩
    rw [HF.out] at he
    subst he
    have B1 : Hid (Below w.heap.size w w1) := ((Below.refl _ w).alloc (Nat.le_refl _) _).trans (hb1.mono (by simp))
    clear hb1
    go_wp2
    go_ret
    exact ⟨ret_bool HM.out.symm, B1.out⟩

end Go.Proofs.YtnkgpinadgacgaaDoor

namespace Go.Proofs.YtnkgpinadgacgaaDoor
open Go.RowKit M
set_option maxRecDepth 100000 in
set_option maxHeartbeats 4000000 in
theorem rsteps_any (ro co bu : Int) (cs : ByteArray) (ac : Option Addr) (mc cc : Nat) (a : Option Addr) (n cap : Nat) (p : PlanM) (w : World) (hs : cs.size ≤ 36) (h1 : 1 ≤ co) (h2 : co ≤ 6)
    (hn : n ≤ 4) (hB : ∀ i, i < n → p.len i ≤ 1048576) (hp : PlanAt w a n p) :
    Calls Tryd.prog 82 #[.agg #[.int .i64 ro, .int .i64 co, .string cs, .slice ac mc cc, .int .i64 bu], .slice a n cap] w fun e w' => ∃ v, e = .returned v ∧ OwnF w' w.heap.size v (stepsF co cs p.len p.num n) ∧ Below w.heap.size w w' := by
  have HP := Hid.mk hp
  have HB := Hid.mk hB
  have hsm : cs.size ≤ maxLen := by unfold maxLen; omega
  clear hp hB
  go_enter Tryd.func82, Tryd.ntmps82
  go_wp2
  have B0 : Hid (Below w.heap.size w (w.alloc (Obj.cells #[Value.int IntKind.i64 ro, Value.int IntKind.i64 co, Value.string cs, .slice ac mc cc, Value.int IntKind.i64 bu] 24))) := (Below.refl _ w).alloc (Nat.le_refl _) _
  have y0 : ∀ o, (w.alloc (Obj.cells #[Value.int IntKind.i64 ro, Value.int IntKind.i64 co, Value.string cs, .slice ac mc cc, Value.int IntKind.i64 bu] 24)).cell? ⟨w.heap.size, o, none⟩ = #[Value.int .i64 ro, .int .i64 co, .string cs, .slice ac mc cc, .int .i64 bu][o]? := by
    intro o; go_simp
  have hz0 : w.heap.size + 1 = (w.alloc (Obj.cells #[Value.int IntKind.i64 ro, Value.int IntKind.i64 co, Value.string cs, .slice ac mc cc, Value.int IntKind.i64 bu] 24)).heap.size := by simp
  generalize w.alloc (Obj.cells #[Value.int IntKind.i64 ro, Value.int IntKind.i64 co, Value.string cs, .slice ac mc cc, Value.int IntKind.i64 bu] 24) = w0 at *
  have Y0 := Hid.mk y0
  have YALL : Hid (∀ wx, Below (w.heap.size + 1) w0 wx → (∀ o, wx.cell? ⟨w.heap.size, o, none⟩ = #[Value.int .i64 ro, .int .i64 co, .string cs, .slice ac mc cc, .int .i64 bu][o]?) ∧ Below w.heap.size w wx ∧ w.heap.size < wx.heap.size ∧ w.heap.size + 1 ≤ wx.heap.size) := by
    intro wx hb
    have := hb.size
    exact ⟨fun o => (hb.cell (p := ⟨w.heap.size, o, none⟩) (by show w.heap.size < _; omega)).trans (Y0.out o), B0.out.trans (hb.mono (by omega)), by omega, by omega⟩
  clear y0 hz0
  go_loopw [5, 6] (fun v5 v6 wr => ∃ (i : Nat) (L : Value), i ≤ n ∧ L = v5 ∧ v6 = .int .i64 i ∧ OwnF wr (w.heap.size + 1) L (stepsF co cs p.len p.num i) ∧ Below (w.heap.size + 1) w0 wr) (fun _ v6 _ => n - (intOf v6).toNat)
  case atStart => exact ⟨0, _, Nat.zero_le _, rfl, rfl, OwnF.nil _ _, Below.refl _ _⟩
  case round =>
    obtain ⟨wo, rfl⟩ : ∃ q, q = wr := ⟨_, rfl⟩
    obtain ⟨i, L, hi, rfl, rfl, hown, hbr⟩ := hrel
    have OWN := Hid.mk hown
    have BR := Hid.mk hbr
    clear hown hbr
    by_cases hlt : i < n
    · obtain ⟨b, off, rfl, hpi⟩ := HP.out (by omega)
      have NI := Hid.mk (hpi i hlt).2
      have BI := HB.out i hlt
      have E1 : Hid (stepsF co cs p.len p.num (i + 1) = stepsF co cs p.len p.num i ++ cellsF co cs i (p.len i) (p.num i) (p.len i)) := rfl
      obtain ⟨ai, hai⟩ : ∃ q, q = p.ad i := ⟨_, rfl⟩
      obtain ⟨li, hli⟩ : ∃ q, q = p.len i := ⟨_, rfl⟩
      obtain ⟨ci, hci⟩ : ∃ q, q = p.cap i := ⟨_, rfl⟩
      have C1 : Hid (w.cell? ⟨b, off + i, none⟩ = some (.slice ai li ci)) := by rw [hai, hli, hci]; exact (hpi i hlt).1
      rw [← hai, ← hli] at NI
      rw [← hli] at BI E1
      have LP := Hid.mk (steps_bd (co := co) (cs := cs) (num := p.num) hn HB.out hi)
      clear hpi hai hli hci
      go_wp2
      go_loopw [5, 7] (fun v5 v7 wr => ∃ (t : Nat) (L : Value), t ≤ li ∧ L = v5 ∧ v7 = .int .i64 t ∧ OwnF wr (w.heap.size + 1) L (stepsF co cs p.len p.num i ++ cellsF co cs i li (p.num i) t) ∧ Below (w.heap.size + 1) w0 wr) (fun _ v7 _ => li - (intOf v7).toNat)
      case atStart => exact ⟨0, _, Nat.zero_le _, rfl, rfl, by simp only [cellsF]; rw [List.append_nil]; exact OWN.out, BR.out⟩
      case round =>
        obtain ⟨wt, rfl⟩ : ∃ q, q = wr := ⟨_, rfl⟩
        obtain ⟨t, L2, ht, rfl, rfl, hown2, hbr2⟩ := hrel
        have OWN2 := Hid.mk hown2
        have BR2 := Hid.mk hbr2
        clear hown2 hbr2
        obtain ⟨yt, bwt, ztw, ztw1⟩ := YALL.out wt BR2.out
        have c1 := cell_later bwt C1.out
        by_cases hlt2 : t < li
        · obtain ⟨bi, oi, rfl, hnc⟩ := NI.out (by omega)
          have HNC := Hid.mk hnc
          obtain ⟨pv, hpv⟩ : ∃ q, q = p.num i t := ⟨_, rfl⟩
          obtain ⟨qv, hqv⟩ : ∃ q, q = p.num i (t + 1) := ⟨_, rfl⟩
          have d1 := cell_later bwt (hnc t hlt2)
          rw [← (show pv = p.num i t from hpv)] at d1
          have y0 := yt 0
          have y1 := yt 1
          have y2 := yt 2
          have y3 := yt 3
          have y4 := yt 4
          simp only [List.getElem?_toArray, List.getElem?_cons_zero, List.getElem?_cons_succ] at y0 y1 y2 y3 y4
          have zb : b < wt.heap.size := World.block_lt_of_cell? _ _ c1
          have zi : bi < wt.heap.size := World.block_lt_of_cell? _ _ d1
          have HLENX : Hid ((stepsF co cs p.len p.num i ++ cellsF co cs i li (p.num i) t).length ≤ 100000000) := by
            have h1 := LP.out; have h3 := cellsF_len co cs i li (p.num i) t; unfold Hid; simp only [List.length_append]; omega
          have PV := Hid.mk hpv
          have QV := Hid.mk hqv
          clear hnc yt hpv hqv bwt
          go_wp2_with fail
          go_region_held3 (fun w' => w'.cell? ⟨w.heap.size, 0, none⟩ = some (.int .i64 ro) ∧ w'.cell? ⟨w.heap.size, 1, none⟩ = some (.int .i64 co) ∧ w'.cell? ⟨w.heap.size, 2, none⟩ = some (.string cs) ∧ w'.cell? ⟨w.heap.size, 3, none⟩ = some (.slice ac mc cc) ∧ w'.cell? ⟨w.heap.size, 4, none⟩ = some (.int .i64 bu) ∧ w'.cell? ⟨b, off + i, none⟩ = some (.slice (some ⟨bi, oi, none⟩) li ci) ∧ w'.cell? ⟨bi, oi + t, none⟩ = some (.int .i64 pv)) (go_keep)
            (first
              | (go_at_call 64; refine (rfree_any ro co bu pv cs _ _ hsm).mono ?_; rintro e w6 ⟨he6, hb6⟩; obtain ⟨fb, hfb⟩ : ∃ fb, fb = freeB cs pv := ⟨_, rfl⟩; rw [← hfb] at he6; subst he6; have FB := Hid.mk hfb; clear hfb; have q0 : w6.cell? ⟨w.heap.size, 0, none⟩ = some (.int .i64 ro) := (hb6.cell (p := ⟨w.heap.size, 0, none⟩) ztw).trans y0; have q1 : w6.cell? ⟨w.heap.size, 1, none⟩ = some (.int .i64 co) := (hb6.cell (p := ⟨w.heap.size, 1, none⟩) ztw).trans y1; have q2 : w6.cell? ⟨w.heap.size, 2, none⟩ = some (.string cs) := (hb6.cell (p := ⟨w.heap.size, 2, none⟩) ztw).trans y2; have q3 : w6.cell? ⟨w.heap.size, 3, none⟩ = some (.slice ac mc cc) := (hb6.cell (p := ⟨w.heap.size, 3, none⟩) ztw).trans y3; have q4 : w6.cell? ⟨w.heap.size, 4, none⟩ = some (.int .i64 bu) := (hb6.cell (p := ⟨w.heap.size, 4, none⟩) ztw).trans y4; have q6 : w6.cell? ⟨b, off + i, none⟩ = some (.slice (some ⟨bi, oi, none⟩) li ci) := (hb6.cell (p := ⟨b, off + i, none⟩) zb).trans c1; have q7 : w6.cell? ⟨bi, oi + t, none⟩ = some (.int .i64 pv) := (hb6.cell (p := ⟨bi, oi + t, none⟩) zi).trans d1))
          have OWN6 : Hid (OwnF w6 (w.heap.size + 1) L2 (stepsF co cs p.len p.num i ++ cellsF co cs i li (p.num i) t)) := OwnF.below (show OwnF wt.drew (w.heap.size + 1) L2 (stepsF co cs p.len p.num i ++ cellsF co cs i li (p.num i) t) from OWN2.out) hb6
          have BR6 : Hid (Below (w.heap.size + 1) w0 w6) := BR2.out.drew.trans (hb6.mono ztw1)
          clear hb6 q0 q1 q2 q3 q4 q6 q7 y0 y1 y2 y3 y4 c1 d1 OWN2 BR2 zb zi ztw ztw1
          obtain ⟨y6, bw6, z6, z6w⟩ := YALL.out w6 BR6.out
          have BWX := Hid.mk bw6
          have y60 := y6 0
          have y61 := y6 1
          have y62 := y6 2
          have y63 := y6 3
          have y64 := y6 4
          simp only [List.getElem?_toArray, List.getElem?_cons_zero, List.getElem?_cons_succ] at y60 y61 y62 y63 y64
          have c16 := cell_later bw6 C1.out
          have d16 : w6.cell? ⟨bi, oi + t, none⟩ = some (.int .i64 pv) := by have h := cell_later bw6 (HNC.out t hlt2); rw [h, ← PV.out]
          have z6b : b < w6.heap.size := World.block_lt_of_cell? _ _ c16
          have z6i : bi < w6.heap.size := World.block_lt_of_cell? _ _ d16
          clear y6 bw6
          by_cases tEq : t = 0
          · have tI : ((t : Int) == 0) = true := by simp [tEq]
            have D0 : Hid (decide (t = 0) = true) := decide_eq_true tEq
            clear tEq
            cases fb
            · by_cases hn2 : t + 1 < li
              · have D1 : Hid (decide (t + 1 < li) = true) := decide_eq_true hn2
                have hnI : (t : Int) + 1 < (li : Int) := by omega
                have j1 : (0 : Int) ≤ (t : Int) + 1 := by omega
                have j2 : ((t : Int) + 1).toNat = t + 1 := by omega
                have j4 : IntKind.i64.wrap ((t : Int) + 1) = (t : Int) + 1 := wrap_mid (by omega) (by omega)
                have d2 : w6.cell? ⟨bi, oi + (t + 1), none⟩ = some (.int .i64 qv) := by have h := cell_later BWX.out (HNC.out (t + 1) hn2); rw [h, ← QV.out]
                go_wp2_with fail
                go_region_held3 (fun w' => w'.cell? ⟨w.heap.size, 0, none⟩ = some (.int .i64 ro) ∧ w'.cell? ⟨w.heap.size, 1, none⟩ = some (.int .i64 co) ∧ w'.cell? ⟨w.heap.size, 2, none⟩ = some (.string cs) ∧ w'.cell? ⟨w.heap.size, 3, none⟩ = some (.slice ac mc cc) ∧ w'.cell? ⟨w.heap.size, 4, none⟩ = some (.int .i64 bu) ∧ w'.cell? ⟨b, off + i, none⟩ = some (.slice (some ⟨bi, oi, none⟩) li ci) ∧ w'.cell? ⟨bi, oi + t, none⟩ = some (.int .i64 pv) ∧ w'.cell? ⟨bi, oi + (t + 1), none⟩ = some (.int .i64 qv)) (go_keep)
                  (first
                    | (go_at_call 65; refine (may_all ro co bu pv qv cs _ _ hs h1 h2).mono ?_; rintro e w7 ⟨he7, hb7⟩; obtain ⟨mb, hmb⟩ : ∃ mb, mb = mayM co cs pv qv := ⟨_, rfl⟩; rw [← hmb] at he7; subst he7; have MB := Hid.mk hmb; clear hmb; have s0 : w7.cell? ⟨w.heap.size, 0, none⟩ = some (.int .i64 ro) := (hb7.cell (p := ⟨w.heap.size, 0, none⟩) z6).trans y60; have s1 : w7.cell? ⟨w.heap.size, 1, none⟩ = some (.int .i64 co) := (hb7.cell (p := ⟨w.heap.size, 1, none⟩) z6).trans y61; have s2 : w7.cell? ⟨w.heap.size, 2, none⟩ = some (.string cs) := (hb7.cell (p := ⟨w.heap.size, 2, none⟩) z6).trans y62; have s3 : w7.cell? ⟨w.heap.size, 3, none⟩ = some (.slice ac mc cc) := (hb7.cell (p := ⟨w.heap.size, 3, none⟩) z6).trans y63; have s4 : w7.cell? ⟨w.heap.size, 4, none⟩ = some (.int .i64 bu) := (hb7.cell (p := ⟨w.heap.size, 4, none⟩) z6).trans y64; have s6 : w7.cell? ⟨b, off + i, none⟩ = some (.slice (some ⟨bi, oi, none⟩) li ci) := (hb7.cell (p := ⟨b, off + i, none⟩) z6b).trans c16; have s7 : w7.cell? ⟨bi, oi + t, none⟩ = some (.int .i64 pv) := (hb7.cell (p := ⟨bi, oi + t, none⟩) z6i).trans d16; have s8 : w7.cell? ⟨bi, oi + (t + 1), none⟩ = some (.int .i64 qv) := (hb7.cell (p := ⟨bi, oi + (t + 1), none⟩) z6i).trans d2))
                have OWN7 : Hid (OwnF w7 (w.heap.size + 1) L2 (stepsF co cs p.len p.num i ++ cellsF co cs i li (p.num i) t)) := OwnF.below (show OwnF w6.drew (w.heap.size + 1) L2 (stepsF co cs p.len p.num i ++ cellsF co cs i li (p.num i) t) from OWN6.out) hb7
                have BR7 : Hid (Below (w.heap.size + 1) w0 w7) := BR6.out.drew.trans (hb7.mono z6w)
                clear hb7 s0 s1 s2 s3 s4 s6 s7 s8 y60 y61 y62 y63 y64 c16 d16 d2
                have SB : Hid (M.stepB co cs li (p.num i) t = true) := by unfold Hid M.stepB; rw [← PV.out, ← FB.out, D1.out, D0.out]; simp
                have E2 := Hid.mk (cells_hit (i := i) SB.out)
                have hbs : Hid (w.heap.size + 1 ≤ w7.heap.size) := (YALL.out _ BR7.out).2.2.2
                have HLEN := HLENX
                go_wp2_with (at_builtin; go_must (refine wpList_pushF rfl _ _ rfl (w.heap.size + 1) L2 _ ⟨1, i, -1, t⟩ rfl OWN7.out hbs.out _ rfl HLEN.out ?_; intro v5 w5 hown5 hb5))
                have OWN8 := Hid.mk hown5
                have BR8 : Hid (Below (w.heap.size + 1) w0 w5) := BR7.out.trans hb5
                clear hown5 hb5
                go_wp2
                go_roundw
                case rel => exact ⟨t + 1, v5, by omega, rfl, by go_num, by rw [E2.out, ← List.append_assoc]; exact OWN8.out, BR8.out⟩
                case measure => simp [intOf]; omega
              · have D1 : Hid (decide (t + 1 < li) = false) := decide_eq_false hn2
                have hnI : ¬ (t : Int) + 1 < (li : Int) := by omega
                have OWN7 := OWN6
                have BR7 := BR6
                have SB : Hid (M.stepB co cs li (p.num i) t = true) := by unfold Hid M.stepB; rw [← PV.out, ← FB.out, D1.out, D0.out]; simp
                have E2 := Hid.mk (cells_hit (i := i) SB.out)
                have hbs : Hid (w.heap.size + 1 ≤ w6.heap.size) := (YALL.out _ BR7.out).2.2.2
                have HLEN := HLENX
                go_wp2_with (at_builtin; go_must (refine wpList_pushF rfl _ _ rfl (w.heap.size + 1) L2 _ ⟨1, i, -1, t⟩ rfl OWN7.out hbs.out _ rfl HLEN.out ?_; intro v5 w5 hown5 hb5))
                have OWN8 := Hid.mk hown5
                have BR8 : Hid (Below (w.heap.size + 1) w0 w5) := BR7.out.trans hb5
                clear hown5 hb5
                go_wp2
                go_roundw
                case rel => exact ⟨t + 1, v5, by omega, rfl, by go_num, by rw [E2.out, ← List.append_assoc]; exact OWN8.out, BR8.out⟩
                case measure => simp [intOf]; omega
            · by_cases hn2 : t + 1 < li
              · have D1 : Hid (decide (t + 1 < li) = true) := decide_eq_true hn2
                have hnI : (t : Int) + 1 < (li : Int) := by omega
                have j1 : (0 : Int) ≤ (t : Int) + 1 := by omega
                have j2 : ((t : Int) + 1).toNat = t + 1 := by omega
                have j4 : IntKind.i64.wrap ((t : Int) + 1) = (t : Int) + 1 := wrap_mid (by omega) (by omega)
                have d2 : w6.cell? ⟨bi, oi + (t + 1), none⟩ = some (.int .i64 qv) := by have h := cell_later BWX.out (HNC.out (t + 1) hn2); rw [h, ← QV.out]
                go_wp2_with fail
                go_region_held3 (fun w' => w'.cell? ⟨w.heap.size, 0, none⟩ = some (.int .i64 ro) ∧ w'.cell? ⟨w.heap.size, 1, none⟩ = some (.int .i64 co) ∧ w'.cell? ⟨w.heap.size, 2, none⟩ = some (.string cs) ∧ w'.cell? ⟨w.heap.size, 3, none⟩ = some (.slice ac mc cc) ∧ w'.cell? ⟨w.heap.size, 4, none⟩ = some (.int .i64 bu) ∧ w'.cell? ⟨b, off + i, none⟩ = some (.slice (some ⟨bi, oi, none⟩) li ci) ∧ w'.cell? ⟨bi, oi + t, none⟩ = some (.int .i64 pv) ∧ w'.cell? ⟨bi, oi + (t + 1), none⟩ = some (.int .i64 qv)) (go_keep)
                  (first
                    | (go_at_call 65; refine (may_all ro co bu pv qv cs _ _ hs h1 h2).mono ?_; rintro e w7 ⟨he7, hb7⟩; obtain ⟨mb, hmb⟩ : ∃ mb, mb = mayM co cs pv qv := ⟨_, rfl⟩; rw [← hmb] at he7; subst he7; have MB := Hid.mk hmb; clear hmb; have s0 : w7.cell? ⟨w.heap.size, 0, none⟩ = some (.int .i64 ro) := (hb7.cell (p := ⟨w.heap.size, 0, none⟩) z6).trans y60; have s1 : w7.cell? ⟨w.heap.size, 1, none⟩ = some (.int .i64 co) := (hb7.cell (p := ⟨w.heap.size, 1, none⟩) z6).trans y61; have s2 : w7.cell? ⟨w.heap.size, 2, none⟩ = some (.string cs) := (hb7.cell (p := ⟨w.heap.size, 2, none⟩) z6).trans y62; have s3 : w7.cell? ⟨w.heap.size, 3, none⟩ = some (.slice ac mc cc) := (hb7.cell (p := ⟨w.heap.size, 3, none⟩) z6).trans y63; have s4 : w7.cell? ⟨w.heap.size, 4, none⟩ = some (.int .i64 bu) := (hb7.cell (p := ⟨w.heap.size, 4, none⟩) z6).trans y64; have s6 : w7.cell? ⟨b, off + i, none⟩ = some (.slice (some ⟨bi, oi, none⟩) li ci) := (hb7.cell (p := ⟨b, off + i, none⟩) z6b).trans c16; have s7 : w7.cell? ⟨bi, oi + t, none⟩ = some (.int .i64 pv) := (hb7.cell (p := ⟨bi, oi + t, none⟩) z6i).trans d16; have s8 : w7.cell? ⟨bi, oi + (t + 1), none⟩ = some (.int .i64 qv) := (hb7.cell (p := ⟨bi, oi + (t + 1), none⟩) z6i).trans d2))
                have OWN7 : Hid (OwnF w7 (w.heap.size + 1) L2 (stepsF co cs p.len p.num i ++ cellsF co cs i li (p.num i) t)) := OwnF.below (show OwnF w6.drew (w.heap.size + 1) L2 (stepsF co cs p.len p.num i ++ cellsF co cs i li (p.num i) t) from OWN6.out) hb7
                have BR7 : Hid (Below (w.heap.size + 1) w0 w7) := BR6.out.drew.trans (hb7.mono z6w)
                clear hb7 s0 s1 s2 s3 s4 s6 s7 s8 y60 y61 y62 y63 y64 c16 d16 d2
                cases mb
                · have SB : Hid (M.stepB co cs li (p.num i) t = true) := by unfold Hid M.stepB; rw [← PV.out, ← QV.out, ← MB.out, D1.out, D0.out]; simp
                  have E2 := Hid.mk (cells_hit (i := i) SB.out)
                  have hbs : Hid (w.heap.size + 1 ≤ w7.heap.size) := (YALL.out _ BR7.out).2.2.2
                  have HLEN := HLENX
                  go_wp2_with (at_builtin; go_must (refine wpList_pushF rfl _ _ rfl (w.heap.size + 1) L2 _ ⟨1, i, -1, t⟩ rfl OWN7.out hbs.out _ rfl HLEN.out ?_; intro v5 w5 hown5 hb5))
                  have OWN8 := Hid.mk hown5
                  have BR8 : Hid (Below (w.heap.size + 1) w0 w5) := BR7.out.trans hb5
                  clear hown5 hb5
                  go_wp2
                  go_roundw
                  case rel => exact ⟨t + 1, v5, by omega, rfl, by go_num, by rw [E2.out, ← List.append_assoc]; exact OWN8.out, BR8.out⟩
                  case measure => simp [intOf]; omega
                · have SB : Hid (M.stepB co cs li (p.num i) t = false) := by unfold Hid M.stepB; rw [← PV.out, ← QV.out, ← MB.out, ← FB.out, D1.out, D0.out]; simp
                  have E2 := Hid.mk (cells_miss (i := i) SB.out)
                  go_wp2
                  go_roundw
                  case rel => exact ⟨t + 1, L2, by omega, rfl, by go_num, by rw [E2.out]; exact OWN7.out, BR7.out⟩
                  case measure => simp [intOf]; omega
              · have D1 : Hid (decide (t + 1 < li) = false) := decide_eq_false hn2
                have hnI : ¬ (t : Int) + 1 < (li : Int) := by omega
                have OWN7 := OWN6
                have BR7 := BR6
                have SB : Hid (M.stepB co cs li (p.num i) t = false) := by unfold Hid M.stepB; rw [← PV.out, ← FB.out, D1.out, D0.out]; simp
                have E2 := Hid.mk (cells_miss (i := i) SB.out)
                clear hn2
                go_wp2
                go_roundw
                case rel => exact ⟨t + 1, L2, by omega, rfl, by go_num, by rw [E2.out]; exact OWN7.out, BR7.out⟩
                case measure => simp [intOf]; omega
          · have tI : ((t : Int) == 0) = false := by simp; omega
            have D0 : Hid (decide (t = 0) = false) := decide_eq_false tEq
            clear tEq
            by_cases hn2 : t + 1 < li
            · have D1 : Hid (decide (t + 1 < li) = true) := decide_eq_true hn2
              have hnI : (t : Int) + 1 < (li : Int) := by omega
              have j1 : (0 : Int) ≤ (t : Int) + 1 := by omega
              have j2 : ((t : Int) + 1).toNat = t + 1 := by omega
              have j4 : IntKind.i64.wrap ((t : Int) + 1) = (t : Int) + 1 := wrap_mid (by omega) (by omega)
              have d2 : w6.cell? ⟨bi, oi + (t + 1), none⟩ = some (.int .i64 qv) := by have h := cell_later BWX.out (HNC.out (t + 1) hn2); rw [h, ← QV.out]
              go_wp2_with fail
              go_region_held3 (fun w' => w'.cell? ⟨w.heap.size, 0, none⟩ = some (.int .i64 ro) ∧ w'.cell? ⟨w.heap.size, 1, none⟩ = some (.int .i64 co) ∧ w'.cell? ⟨w.heap.size, 2, none⟩ = some (.string cs) ∧ w'.cell? ⟨w.heap.size, 3, none⟩ = some (.slice ac mc cc) ∧ w'.cell? ⟨w.heap.size, 4, none⟩ = some (.int .i64 bu) ∧ w'.cell? ⟨b, off + i, none⟩ = some (.slice (some ⟨bi, oi, none⟩) li ci) ∧ w'.cell? ⟨bi, oi + t, none⟩ = some (.int .i64 pv) ∧ w'.cell? ⟨bi, oi + (t + 1), none⟩ = some (.int .i64 qv)) (go_keep)
                (first
                  | (go_at_call 65; refine (may_all ro co bu pv qv cs _ _ hs h1 h2).mono ?_; rintro e w7 ⟨he7, hb7⟩; obtain ⟨mb, hmb⟩ : ∃ mb, mb = mayM co cs pv qv := ⟨_, rfl⟩; rw [← hmb] at he7; subst he7; have MB := Hid.mk hmb; clear hmb; have s0 : w7.cell? ⟨w.heap.size, 0, none⟩ = some (.int .i64 ro) := (hb7.cell (p := ⟨w.heap.size, 0, none⟩) z6).trans y60; have s1 : w7.cell? ⟨w.heap.size, 1, none⟩ = some (.int .i64 co) := (hb7.cell (p := ⟨w.heap.size, 1, none⟩) z6).trans y61; have s2 : w7.cell? ⟨w.heap.size, 2, none⟩ = some (.string cs) := (hb7.cell (p := ⟨w.heap.size, 2, none⟩) z6).trans y62; have s3 : w7.cell? ⟨w.heap.size, 3, none⟩ = some (.slice ac mc cc) := (hb7.cell (p := ⟨w.heap.size, 3, none⟩) z6).trans y63; have s4 : w7.cell? ⟨w.heap.size, 4, none⟩ = some (.int .i64 bu) := (hb7.cell (p := ⟨w.heap.size, 4, none⟩) z6).trans y64; have s6 : w7.cell? ⟨b, off + i, none⟩ = some (.slice (some ⟨bi, oi, none⟩) li ci) := (hb7.cell (p := ⟨b, off + i, none⟩) z6b).trans c16; have s7 : w7.cell? ⟨bi, oi + t, none⟩ = some (.int .i64 pv) := (hb7.cell (p := ⟨bi, oi + t, none⟩) z6i).trans d16; have s8 : w7.cell? ⟨bi, oi + (t + 1), none⟩ = some (.int .i64 qv) := (hb7.cell (p := ⟨bi, oi + (t + 1), none⟩) z6i).trans d2))
              have OWN7 : Hid (OwnF w7 (w.heap.size + 1) L2 (stepsF co cs p.len p.num i ++ cellsF co cs i li (p.num i) t)) := OwnF.below (show OwnF w6.drew (w.heap.size + 1) L2 (stepsF co cs p.len p.num i ++ cellsF co cs i li (p.num i) t) from OWN6.out) hb7
              have BR7 : Hid (Below (w.heap.size + 1) w0 w7) := BR6.out.drew.trans (hb7.mono z6w)
              clear hb7 s0 s1 s2 s3 s4 s6 s7 s8 y60 y61 y62 y63 y64 c16 d16 d2
              cases mb
              · have SB : Hid (M.stepB co cs li (p.num i) t = true) := by unfold Hid M.stepB; rw [← PV.out, ← QV.out, ← MB.out, D1.out, D0.out]; simp
                have E2 := Hid.mk (cells_hit (i := i) SB.out)
                have hbs : Hid (w.heap.size + 1 ≤ w7.heap.size) := (YALL.out _ BR7.out).2.2.2
                have HLEN := HLENX
                go_wp2_with (at_builtin; go_must (refine wpList_pushF rfl _ _ rfl (w.heap.size + 1) L2 _ ⟨1, i, -1, t⟩ rfl OWN7.out hbs.out _ rfl HLEN.out ?_; intro v5 w5 hown5 hb5))
                have OWN8 := Hid.mk hown5
                have BR8 : Hid (Below (w.heap.size + 1) w0 w5) := BR7.out.trans hb5
                clear hown5 hb5
                go_wp2
                go_roundw
                case rel => exact ⟨t + 1, v5, by omega, rfl, by go_num, by rw [E2.out, ← List.append_assoc]; exact OWN8.out, BR8.out⟩
                case measure => simp [intOf]; omega
              · have SB : Hid (M.stepB co cs li (p.num i) t = false) := by unfold Hid M.stepB; rw [← PV.out, ← QV.out, ← MB.out, ← FB.out, D1.out, D0.out]; simp
                have E2 := Hid.mk (cells_miss (i := i) SB.out)
                go_wp2
                go_roundw
                case rel => exact ⟨t + 1, L2, by omega, rfl, by go_num, by rw [E2.out]; exact OWN7.out, BR7.out⟩
                case measure => simp [intOf]; omega
            · have D1 : Hid (decide (t + 1 < li) = false) := decide_eq_false hn2
              have hnI : ¬ (t : Int) + 1 < (li : Int) := by omega
              have OWN7 := OWN6
              have BR7 := BR6
              have SB : Hid (M.stepB co cs li (p.num i) t = false) := by unfold Hid M.stepB; rw [← PV.out, ← FB.out, D1.out, D0.out]; simp
              have E2 := Hid.mk (cells_miss (i := i) SB.out)
              clear hn2
              go_wp2
              go_roundw
              case rel => exact ⟨t + 1, L2, by omega, rfl, by go_num, by rw [E2.out]; exact OWN7.out, BR7.out⟩
              case measure => simp [intOf]; omega
        · have E3 : Hid (stepsF co cs p.len p.num (i + 1) = stepsF co cs p.len p.num i ++ cellsF co cs i li (p.num i) t) := by
            have e : t = li := by omega
            unfold Hid
            rw [e, E1.out]
          go_wp2
          go_roundw
          case rel => exact ⟨i + 1, L2, by omega, rfl, by go_num, by rw [E3.out]; exact OWN2.out, BR2.out⟩
          case measure => simp [intOf]; omega
    · have E5 : Hid (stepsF co cs p.len p.num i = stepsF co cs p.len p.num n) := by
        have e : i = n := by omega
        unfold Hid
        rw [e]
      go_wp2
      go_ret
      exact ⟨L, rfl, by rw [← E5.out]; exact OWN.out.le (by omega), (YALL.out _ BR.out).2.1⟩

end Go.Proofs.YtnkgpinadgacgaaDoor
