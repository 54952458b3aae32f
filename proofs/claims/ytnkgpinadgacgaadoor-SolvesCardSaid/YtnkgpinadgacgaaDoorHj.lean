/- Walks of the document's from and stays: what is come to by one step, and where one more cart comes to stay. -/
import Derived.Test.YtnkgpinadgacgaaDoorHc
import Derived.Test.YtnkgpinadgacgaaDoorQl
import Derived.Test.YtnkgpinadgacgaaDoorQj
import Derived.Deep.QuietTactic
import Derived.BigQuiet
import Derived.Deep.RegionHeld3
namespace Go.Proofs.YtnkgpinadgacgaaDoor
open Go.RowKit M SM
/-- How many of the first k carts have not come to stay. -/
def moreU (u : List Bool) (k : Nat) : Nat := ((List.range k).filter fun i => !u.getD i false).length

theorem moreU_next (u : List Bool) (k : Nat) : moreU u (k + 1) = moreU u k + if u.getD k false then 0 else 1 := by
  unfold moreU
  rw [List.range_succ, List.filter_append, List.length_append]
  cases h : u.getD k false
  · simp only [List.filter_cons, List.filter_nil, h, Bool.not_false, if_true]; rfl
  · simp only [List.filter_cons, List.filter_nil, h, Bool.not_true]; rfl

theorem moreU_le (u : List Bool) (k : Nat) : moreU u k ≤ k := by
  unfold moreU
  exact Nat.le_trans (List.length_filter_le _ _) (by simp)

theorem moreU_all : ∀ u : List Bool, moreU u u.length = u.length - cntU u
  | u => by
    have key : ∀ k, k ≤ u.length → moreU u k = k - sumN (fun i => if u.getD i false = true then 1 else 0) k ∧ sumN (fun i => if u.getD i false = true then 1 else 0) k ≤ k := by
      intro k
      induction k with
      | zero => intro _; exact ⟨rfl, Nat.le_refl _⟩
      | succ k ih =>
        intro hk
        obtain ⟨h1, h2⟩ := ih (by omega)
        rw [moreU_next, h1]
        simp only [sumN]
        by_cases e : u.getD k false = true
        · rw [if_pos e, if_pos e]; omega
        · rw [if_neg e, if_neg e]; omega
    rw [(key u.length (Nat.le_refl _)).1, cntU_sum rfl]

set_option maxRecDepth 100000 in
set_option maxHeartbeats 8000000 in
theorem rfrom_any (ro co bu : Int) (cs : ByteArray) (ac : Option Addr) (m cc gf cf gr cr cnt al : Nat) (a : St) (w : World) (hs : cs.size ≤ 36) (h1 : 1 ≤ co) (h2 : co ≤ 6) (hm1 : 1 ≤ m) (hm : m ≤ 4) (hal : al + 1 = 2 ^ m) (ha : GoodS cs m a) (ht : TabIn w cs gf gr) :
    Calls Tryd.prog 91 #[tabV ro co bu cs ac m cc gf cf gr cr cnt, .int .i64 (encS cs m a : Nat), .int .i64 (al : Nat)] w fun e w' =>
      ∃ v, e = .returned (.tuple #[v, .int .i64 ((m - cntU a.2 : Nat) : Int)]) ∧ OwnN w' w.heap.size v (fromL co cs m a) ∧ (fromL co cs m a = [] → v = .slice none 0 0) ∧ Below w.heap.size w w' := by
  have HT := Hid.mk ht
  have HA := Hid.mk ha
  obtain ⟨F, hF⟩ : ∃ F, F = (frees (frB cs) cs.size).length := ⟨_, rfl⟩
  obtain ⟨p, hp⟩ : ∃ p, p = a.1 := ⟨_, rfl⟩
  obtain ⟨fx, hfx⟩ : ∃ fx, fx = maskU a.2 := ⟨_, rfl⟩
  obtain ⟨np, hnp⟩ : ∃ np, np = numOf (frB cs) cs.size p := ⟨_, rfl⟩
  obtain ⟨X, hX⟩ : ∃ X, X = encS cs m a := ⟨_, rfl⟩
  have hal16 : al + 1 ≤ 16 := by
    rw [hal]
    exact Nat.pow_le_pow_right (n := 2) (by omega) hm
  have hal0 : 0 < al + 1 := by omega
  obtain ⟨hmod, hdiv⟩ := enc_mod (cs := cs) ha.2
  rw [← hX, ← hfx, ← hal] at hmod
  rw [← hX, ← hp, ← hnp, ← hal] at hdiv
  have hfx16 : fx < 16 := by
    have := Nat.mod_lt X hal0
    omega
  have hnpb : np < 1679616 := by
    have h7 := good_lt ha.1
    rw [← hp, ← hnp] at h7
    have h8 := Nat.pow_le_pow_left (show (frees (frB cs) cs.size).length ≤ 36 by have := frees_le cs; omega) m
    have h9 : 36 ^ m ≤ 36 ^ 4 := Nat.pow_le_pow_right (by omega) hm
    omega
  have hXb : X < 27000000 := by
    have h7 := Nat.div_add_mod X (al + 1)
    rw [hdiv, hmod] at h7
    have h8 : (al + 1) * np ≤ 16 * np := Nat.mul_le_mul hal16 (Nat.le_refl _)
    omega
  have hrem : (X : Int) % ((al : Int) + 1) = (fx : Int) := by
    rw [show (al : Int) + 1 = ((al + 1 : Nat) : Int) from rfl, ← Int.natCast_emod, hmod]
  have hquo : (X : Int) / ((al : Int) + 1) = (np : Int) := by
    rw [show (al : Int) + 1 = ((al + 1 : Nat) : Int) from rfl, ← Int.natCast_ediv, hdiv]
  have FIX : Hid (FixB (fun i => a.2.getD i false) fx) := ⟨hfx16, fun i hi => by
    rw [hfx]
    by_cases e : i < m
    · exact maskU_bit (by rw [ha.2]; exact e)
    · have hl := maskU_lt a.2
      rw [ha.2] at hl
      have h7 : 2 ^ m ≤ 2 ^ i := Nat.pow_le_pow_right (by omega) (by omega)
      show _ = if a.2.getD i false = true then 1 else 0
      rw [Nat.div_eq_of_lt (by omega), List.getD_eq_getElem?_getD, List.getElem?_eq_none (by rw [ha.2]; omega)]; rfl⟩
  have POS : Hid (∀ u : World, TabIn u cs gf gr → Calls Tryd.prog 87 #[.agg #[Value.int .i64 ro, .int .i64 co, .string cs, .slice ac m cc, .int .i64 bu, .slice (some ⟨gf, 0, none⟩) F cf, .slice (some ⟨gr, 0, none⟩) cs.size cr, .int .i64 (cnt : Nat)], .int .i64 (np : Nat)] u fun e w' => ∃ g, e = .returned (.slice (some ⟨g, 0, none⟩) m m) ∧ u.heap.size ≤ g ∧ w'.rowIs g 3 m (fun k => .int .i64 (p.getD k 0 : Nat)) ∧ Below u.heap.size u w') := fun u h => by
    have h7 := position_any ro co bu cs ac m cc gf cf gr cr cnt p u hs hm (by rw [hp]; exact HA.out.1) h
    unfold tabV at h7
    rw [← hF, ← hnp] at h7
    exact h7
  have NXT : Hid (∀ (g : Nat) (u : World), (∀ k, k < m → u.cell? ⟨g, 0 + k, none⟩ = some (.int .i64 (p.getD k 0 : Nat))) → Calls Tryd.prog 88 #[.agg #[Value.int .i64 ro, .int .i64 co, .string cs, .slice ac m cc, .int .i64 bu, .slice (some ⟨gf, 0, none⟩) F cf, .slice (some ⟨gr, 0, none⟩) cs.size cr, .int .i64 (cnt : Nat)], .slice (some ⟨g, 0, none⟩) m m, .int .i64 (fx : Nat)] u fun e w' => ∃ v, e = .returned v ∧ OwnQ w' u.heap.size v (growX (mayX co cs (fun i => a.2.getD i false) p) p m) ∧ Below u.heap.size u w') := fun g u h => by
    have h7 := rnextF_any (fun i => a.2.getD i false) fx FIX.out ro co bu cs ac m cc gf cf gr cr cnt g 0 m p u hs h1 h2 hm h
    unfold tabV at h7
    rw [← hF] at h7
    exact h7
  have NUM : Hid (∀ (b2 c2 : Nat) (q : List Nat) (u : World), Good cs m q → TabIn u cs gf gr → (∀ k, k < m → u.cell? ⟨b2, 0 + k, none⟩ = some (.int .i64 (q.getD k 0 : Nat))) →
      Calls Tryd.prog 89 #[.agg #[Value.int .i64 ro, .int .i64 co, .string cs, .slice ac m cc, .int .i64 bu, .slice (some ⟨gf, 0, none⟩) F cf, .slice (some ⟨gr, 0, none⟩) cs.size cr, .int .i64 (cnt : Nat)], .slice (some ⟨b2, 0, none⟩) m c2] u fun e w' => e = .returned (.int .i64 (numOf (frB cs) cs.size q : Nat)) ∧ Below u.heap.size u w') := fun b2 c2 q u q1 q2 q3 => by
    have h7 := number_any ro co bu cs ac m cc gf cf gr cr cnt m b2 0 c2 q u hs hm q1 q2 q3
    unfold tabV at h7
    rw [← hF] at h7
    exact h7
  unfold tabV
  rw [← hF, ← hX]
  have HP := Hid.mk hp
  have HFX := Hid.mk hfx
  clear ht ha hF hp hfx hnp hX hmod hdiv
  go_enter Tryd.func91, Tryd.ntmps91
  go_upto_region 2 with fail
  rw [hrem]
  have B1 : Hid (Below w.heap.size w (w.alloc (Obj.cells #[Value.int .i64 ro, .int .i64 co, .string cs, .slice ac m cc, .int .i64 bu, .slice (some ⟨gf, 0, none⟩) F cf, .slice (some ⟨gr, 0, none⟩) cs.size cr, .int .i64 (cnt : Nat)] 122))) := (Below.refl _ w).alloc (Nat.le_refl _) _
  have x1 : ∀ o, (w.alloc (Obj.cells #[Value.int .i64 ro, .int .i64 co, .string cs, .slice ac m cc, .int .i64 bu, .slice (some ⟨gf, 0, none⟩) F cf, .slice (some ⟨gr, 0, none⟩) cs.size cr, .int .i64 (cnt : Nat)] 122)).cell? ⟨w.heap.size, o, none⟩ = #[Value.int .i64 ro, .int .i64 co, .string cs, .slice ac m cc, .int .i64 bu, .slice (some ⟨gf, 0, none⟩) F cf, .slice (some ⟨gr, 0, none⟩) cs.size cr, .int .i64 (cnt : Nat)][o]? := by
    intro o; go_simp
  have hz1 : (w.alloc (Obj.cells #[Value.int .i64 ro, .int .i64 co, .string cs, .slice ac m cc, .int .i64 bu, .slice (some ⟨gf, 0, none⟩) F cf, .slice (some ⟨gr, 0, none⟩) cs.size cr, .int .i64 (cnt : Nat)] 122)).heap.size = w.heap.size + 1 := by simp
  generalize (w.alloc (Obj.cells #[Value.int .i64 ro, .int .i64 co, .string cs, .slice ac m cc, .int .i64 bu, .slice (some ⟨gf, 0, none⟩) F cf, .slice (some ⟨gr, 0, none⟩) cs.size cr, .int .i64 (cnt : Nat)] 122)) = w1 at *
  have q0 := x1 0
  have q1 := x1 1
  have q2 := x1 2
  have q3 := x1 3
  have q4 := x1 4
  have q5 := x1 5
  have q6 := x1 6
  have q7 := x1 7
  have X1 := Hid.mk x1
  have hw1 : IntKind.i64.wrap ((al : Int) + 1) = (al : Int) + 1 := by rw [IntKind.wrap_i64]; omega
  have hwq : IntKind.i64.wrap (np : Int) = (np : Int) := by rw [IntKind.wrap_i64]; omega
  have hal1 : ¬ (al : Int) + 1 = 0 := by omega
  clear x1
  go_region_held3 (fun w' => w'.cell? ⟨w.heap.size, 0, none⟩ = some (Value.int .i64 ro) ∧ w'.cell? ⟨w.heap.size, 1, none⟩ = some (.int .i64 co) ∧ w'.cell? ⟨w.heap.size, 2, none⟩ = some (.string cs) ∧ w'.cell? ⟨w.heap.size, 3, none⟩ = some (.slice ac m cc) ∧ w'.cell? ⟨w.heap.size, 4, none⟩ = some (.int .i64 bu) ∧ w'.cell? ⟨w.heap.size, 5, none⟩ = some (.slice (some ⟨gf, 0, none⟩) F cf) ∧ w'.cell? ⟨w.heap.size, 6, none⟩ = some (.slice (some ⟨gr, 0, none⟩) cs.size cr) ∧ w'.cell? ⟨w.heap.size, 7, none⟩ = some (.int .i64 (cnt : Nat))) (go_keep)
    (first
      | (go_at_call 87; refine (POS.out _ (HT.out.below (by exact B1.out.drew))).mono ?_; rintro e w5 ⟨gp, rfl, hgp, hrp, hb5⟩; have HB5 := Hid.mk hb5; have HRP := Hid.mk hrp; have p0 : w5.cell? ⟨w.heap.size, 0, none⟩ = some (Value.int .i64 ro) := cell_later hb5 q0; have p1 : w5.cell? ⟨w.heap.size, 1, none⟩ = some (.int .i64 co) := cell_later hb5 q1; have p2 : w5.cell? ⟨w.heap.size, 2, none⟩ = some (.string cs) := cell_later hb5 q2; have p3 : w5.cell? ⟨w.heap.size, 3, none⟩ = some (.slice ac m cc) := cell_later hb5 q3; have p4 : w5.cell? ⟨w.heap.size, 4, none⟩ = some (.int .i64 bu) := cell_later hb5 q4; have p5 : w5.cell? ⟨w.heap.size, 5, none⟩ = some (.slice (some ⟨gf, 0, none⟩) F cf) := cell_later hb5 q5; have p6 : w5.cell? ⟨w.heap.size, 6, none⟩ = some (.slice (some ⟨gr, 0, none⟩) cs.size cr) := cell_later hb5 q6; have p7 : w5.cell? ⟨w.heap.size, 7, none⟩ = some (.int .i64 (cnt : Nat)) := cell_later hb5 q7; clear hb5 hrp)
      | (fail "none"))
  have B5 : Hid (Below w.heap.size w w5) := B1.out.drew.trans (HB5.out.mono (by show w.heap.size ≤ w1.heap.size; omega))
  have hz5 := B5.out.size
  have hz5' : w.heap.size < w5.heap.size := World.block_lt_of_cell? (a := ⟨w.heap.size, 0, none⟩) w5 p0
  clear q0 q1 q2 q3 q4 q5 q6 q7 hquo hwq
  go_wp2_with fail
  go_loopw [10, 11] (fun v10 v11 wr => ∃ i : Nat, i ≤ m ∧ v11 = .int .i64 i ∧ v10 = .int .i64 (moreU a.2 i : Nat) ∧ w5 = wr) (fun _ v11 _ => m - (intOf v11).toNat)
  case atStart => exact ⟨0, Nat.zero_le _, rfl, rfl, rfl⟩
  case round =>
    obtain ⟨i, hi, rfl, rfl, rfl⟩ := hrel
    have hml := moreU_le a.2 i
    by_cases hlt : i < m
    · have hB0 := run_bits hfx16 (show i < 4 by omega)
      have hfb := FIX.out.2 i (by omega)
      rw [hfb] at hB0
      obtain ⟨x, hx⟩ : ∃ x, x = moreU a.2 i := ⟨_, rfl⟩
      have hnx := moreU_next a.2 i
      rw [← hx] at hml hnx ⊢
      have HX := Hid.mk hx
      clear hx hfb
      obtain ⟨ui, hui⟩ : ∃ ui, ui = a.2.getD i false := ⟨_, rfl⟩
      have hB1 : bits BinOp.and IntKind.i64 ((fx : Int) / 2 ^ i) 1 = ((if ui = true then 1 else 0 : Nat) : Int) := by rw [hui]; exact hB0
      rw [← hui] at hnx
      clear hui hB0
      cases ui with
      | false =>
        have hB : bits BinOp.and IntKind.i64 ((fx : Int) / 2 ^ i) 1 = 0 := hB1
        clear hB1
        have HNX : Hid (moreU a.2 (i + 1) = x + 1) := hnx
        clear hnx
        go_wp2
        go_roundw
        case rel => exact ⟨i + 1, by omega, by go_num, by rw [HNX.out]; go_num, trivial⟩
        case measure => simp [intOf]; omega
      | true =>
        have hB : bits BinOp.and IntKind.i64 ((fx : Int) / 2 ^ i) 1 = 1 := hB1
        clear hB1
        have HNX : Hid (moreU a.2 (i + 1) = x) := hnx
        clear hnx
        go_wp2
        go_roundw
        case rel => exact ⟨i + 1, by omega, by go_num, by rw [HNX.out], trivial⟩
        case measure => simp [intOf]; omega
    · have hd : i = m := by omega
      have HMO : Hid (moreU a.2 i = m - cntU a.2) := by
        have h7 := moreU_all a.2
        rw [HA.out.2] at h7
        rw [hd]; exact h7
      obtain ⟨mo, hmo⟩ : ∃ mo, mo = moreU a.2 i := ⟨_, rfl⟩
      rw [← hmo] at hml HMO ⊢
      clear hmo hd
      go_wp2_with fail
      refine (NXT.out gp _ (fun k hk => by rw [Nat.zero_add]; exact HRP.out.cell hk)).mono ?_
      rintro e w8 ⟨v, rfl, hov, hb8⟩
      have hz8 := hb8.size
      obtain ⟨N, hN⟩ : ∃ N, N = growX (mayX co cs (fun i => a.2.getD i false) p) p m := ⟨_, rfl⟩
      rw [← hN] at hov
      obtain ⟨an, capn, rfl, han, _⟩ := hov.form
      have HN := Hid.mk hN
      have HOV := Hid.mk hov
      have HAN := Hid.mk han
      have B8 : Hid (Below w.heap.size w w8) := B5.out.trans (hb8.mono hz5)
      have hz8' := B8.out.size
      have NLE : N.length ≤ 1679616 := by
        rw [hN]
        exact Nat.le_trans (growX_len (p := p) (fun c => mayX_le hs c) m) (Nat.le_trans (Nat.pow_le_pow_right (by omega) hm) (by decide))
      have X8 : Hid (∀ o, w8.cell? ⟨w.heap.size, o, none⟩ = #[Value.int .i64 ro, .int .i64 co, .string cs, .slice ac m cc, .int .i64 bu, .slice (some ⟨gf, 0, none⟩) F cf, .slice (some ⟨gr, 0, none⟩) cs.size cr, .int .i64 (cnt : Nat)][o]?) := fun o => (hb8.cell (p := ⟨w.heap.size, o, none⟩) (by show w.heap.size < w5.heap.size; omega)).trans ((HB5.out.cell (p := ⟨w.heap.size, o, none⟩) (by show w.heap.size < w1.heap.size; omega)).trans (X1.out o))
      clear hov han hb8 hN p0 p1 p2 p3 p4 p5 p6 p7
      go_wp2_with fail
      go_loopw [12, 14] (fun v12 v14 wr => ∃ (t : Nat) (V : Value), V = v12 ∧ v14 = .int .i64 t ∧ t ≤ N.length ∧ OwnN wr w8.heap.size V ((N.take t).map fun q => encS cs m (q, a.2)) ∧ (t = 0 → V = .slice none 0 0) ∧ Below w8.heap.size w8 wr) (fun _ v14 _ => N.length - (intOf v14).toNat)
      case atStart => exact ⟨0, _, rfl, rfl, Nat.zero_le _, OwnN.nil _ _, fun _ => rfl, Below.refl _ _⟩
      case round =>
        obtain ⟨wa, rfl⟩ : ∃ q, q = wr := ⟨_, rfl⟩
        obtain ⟨t, V, rfl, rfl, htn, hown, hnil, hba⟩ := hrel
        have NIL := Hid.mk hnil
        have OWNA := Hid.mk hown
        have BA := Hid.mk hba
        have hza := hba.size
        clear hown hba hnil
        by_cases htl : t < N.length
        · obtain ⟨gn, rfl⟩ := HAN.out (by omega)
          obtain ⟨q, hq⟩ : ∃ q, q = N.getD t [] := ⟨_, rfl⟩
          have hqN : q ∈ N := by rw [hq, List.getD_eq_getElem?_getD, List.getElem?_eq_getElem htl]; exact List.getElem_mem htl
          have GQ : Hid (Good cs m q) := good_step (co := co) (growX_is.1 (by rw [← HN.out]; exact hqN)).1
          have hql : q.length = m := GQ.out.1
          obtain ⟨sa, sc, hcell, hrq, hlo⟩ := HOV.out.cell htl
          rw [← hq, hql] at hcell hrq hlo
          obtain ⟨h, hsa, hcells⟩ : ∃ h, sa = some ⟨h, 0, none⟩ ∧ ∀ j, j < m → w8.cell? ⟨h, j, none⟩ = some (.int .i64 (q.getD j 0 : Nat)) := by
            obtain ⟨a2, c2, e2, h2⟩ := hrq.form
            obtain ⟨h, ha2, hc⟩ := h2 (by omega)
            refine ⟨h, ?_, fun j hj => hc j (by omega)⟩
            injection e2 with e3 _ _
            rw [e3, ha2]
          subst hsa
          have hh2 := hrq.lt h rfl
          have hg12 := HOV.out.lt gn rfl
          have d0 : wa.cell? ⟨gn, t, none⟩ = some (.slice (some ⟨h, 0, none⟩) m sc) := cell_later BA.out hcell
          have dk : Hid (∀ k, k < m → wa.cell? ⟨h, 0 + k, none⟩ = some (.int .i64 (q.getD k 0 : Nat))) := fun k hk => by
            rw [Nat.zero_add]
            exact cell_later BA.out (hcells k hk)
          obtain ⟨nq, hnq⟩ : ∃ n, n = numOf (frB cs) cs.size q := ⟨_, rfl⟩
          have hnqb : nq < 1679616 := by
            have h7 := good_lt GQ.out
            rw [← hnq] at h7
            have h8 := Nat.pow_le_pow_left (show (frees (frB cs) cs.size).length ≤ 36 by have := frees_le cs; omega) m
            have h9 : 36 ^ m ≤ 36 ^ 4 := Nat.pow_le_pow_right (by omega) hm
            omega
          have NUMQ : Hid (∀ u : World, TabIn u cs gf gr → (∀ k, k < m → u.cell? ⟨h, 0 + k, none⟩ = some (.int .i64 (q.getD k 0 : Nat))) → Calls Tryd.prog 89 #[.agg #[Value.int .i64 ro, .int .i64 co, .string cs, .slice ac m cc, .int .i64 bu, .slice (some ⟨gf, 0, none⟩) F cf, .slice (some ⟨gr, 0, none⟩) cs.size cr, .int .i64 (cnt : Nat)], .slice (some ⟨h, 0, none⟩) m sc] u fun e w' => e = .returned (.int .i64 (nq : Nat)) ∧ Below u.heap.size u w') := fun u q1 q2 => by
            rw [hnq]
            exact NUM.out h sc q u GQ.out q1 q2
          obtain ⟨z, hz⟩ : ∃ z, z = encS cs m (q, a.2) := ⟨_, rfl⟩
          have hzv : z = nq * (al + 1) + fx := by
            rw [hz, hal, hnq, HFX.out]; rfl
          have hmul : (nq : Int) * ((al : Int) + 1) + (fx : Int) = (z : Int) := by
            rw [hzv, Int.natCast_add, Int.natCast_mul]; rfl
          have hzb : nq * (al + 1) ≤ 26873856 := Nat.le_trans (Nat.mul_le_mul (Nat.le_of_lt_succ (Nat.lt_succ_of_lt hnqb)) hal16) (by decide)
          obtain ⟨mq, hmq⟩ : ∃ mq, mq = nq * (al + 1) := ⟨_, rfl⟩
          have hmqI : (nq : Int) * ((al : Int) + 1) = (mq : Int) := by rw [hmq, Int.natCast_mul]; rfl
          rw [← hmq] at hzb hzv
          have hwm : IntKind.i64.wrap ((nq : Int) * ((al : Int) + 1)) = (mq : Int) := by rw [hmqI, IntKind.wrap_i64]; omega
          have HZ := Hid.mk hz
          have HZV := Hid.mk hzv
          have HQ := Hid.mk hq
          have TABA : Hid (TabIn wa cs gf gr) := HT.out.below (B8.out.trans (BA.out.mono (by omega)))
          have q0 := cell_later BA.out (X8.out 0)
          have q1 := cell_later BA.out (X8.out 1)
          have q2 := cell_later BA.out (X8.out 2)
          have q3 := cell_later BA.out (X8.out 3)
          have q4 := cell_later BA.out (X8.out 4)
          have q5 := cell_later BA.out (X8.out 5)
          have q6 := cell_later BA.out (X8.out 6)
          have q7 := cell_later BA.out (X8.out 7)
          have HMQ := Hid.mk hmqI
          clear hnq hq hqN hcell hrq hlo hcells hql hz hzv hmul hmq hmqI hwm
          go_upto_region 14 with fail
          go_region_held3 (fun w' => w'.cell? ⟨w.heap.size, 0, none⟩ = some (Value.int .i64 ro) ∧ w'.cell? ⟨w.heap.size, 1, none⟩ = some (.int .i64 co) ∧ w'.cell? ⟨w.heap.size, 2, none⟩ = some (.string cs) ∧ w'.cell? ⟨w.heap.size, 3, none⟩ = some (.slice ac m cc) ∧ w'.cell? ⟨w.heap.size, 4, none⟩ = some (.int .i64 bu) ∧ w'.cell? ⟨w.heap.size, 5, none⟩ = some (.slice (some ⟨gf, 0, none⟩) F cf) ∧ w'.cell? ⟨w.heap.size, 6, none⟩ = some (.slice (some ⟨gr, 0, none⟩) cs.size cr) ∧ w'.cell? ⟨w.heap.size, 7, none⟩ = some (.int .i64 (cnt : Nat)) ∧ w'.cell? ⟨gn, t, none⟩ = some (.slice (some ⟨h, 0, none⟩) m sc)) (go_keep)
            (first
              | (go_at_call 89; refine (NUMQ.out _ (TABA.out.below (by exact (Below.refl _ _).drew)) (fun k hk => (by exact dk.out k hk))).mono ?_; rintro e w9 ⟨rfl, hb9⟩; have HB9 := Hid.mk hb9; have p0 : w9.cell? ⟨w.heap.size, 0, none⟩ = some (Value.int .i64 ro) := cell_later hb9 q0; have p1 : w9.cell? ⟨w.heap.size, 1, none⟩ = some (.int .i64 co) := cell_later hb9 q1; have p2 : w9.cell? ⟨w.heap.size, 2, none⟩ = some (.string cs) := cell_later hb9 q2; have p3 : w9.cell? ⟨w.heap.size, 3, none⟩ = some (.slice ac m cc) := cell_later hb9 q3; have p4 : w9.cell? ⟨w.heap.size, 4, none⟩ = some (.int .i64 bu) := cell_later hb9 q4; have p5 : w9.cell? ⟨w.heap.size, 5, none⟩ = some (.slice (some ⟨gf, 0, none⟩) F cf) := cell_later hb9 q5; have p6 : w9.cell? ⟨w.heap.size, 6, none⟩ = some (.slice (some ⟨gr, 0, none⟩) cs.size cr) := cell_later hb9 q6; have p7 : w9.cell? ⟨w.heap.size, 7, none⟩ = some (.int .i64 (cnt : Nat)) := cell_later hb9 q7; have pd : w9.cell? ⟨gn, t, none⟩ = some (.slice (some ⟨h, 0, none⟩) m sc) := cell_later hb9 d0; clear hb9)
              | (fail "none"))
          have b9 : Below wa.heap.size wa w9 := (Below.refl _ wa).drew.trans (by exact HB9.out)
          have hz9 := b9.size
          have OWN9 : Hid (OwnN w9 w8.heap.size V ((N.take t).map fun q => encS cs m (q, a.2))) := OWNA.out.below b9
          have B9 : Hid (Below w8.heap.size w8 w9) := BA.out.trans (b9.mono (by omega))
          have hz9' : w8.heap.size ≤ w9.heap.size := by omega
          have LN : Hid (((N.take t).map fun q => encS cs m (q, a.2)).length ≤ 100000000) := by unfold Hid; rw [List.length_map, List.length_take]; omega
          have hsum : (mq : Int) + (fx : Int) = (z : Int) := by rw [HZV.out]; rfl
          have hwz : IntKind.i64.wrap ((mq : Int) + (fx : Int)) = (z : Int) := by rw [hsum, IntKind.wrap_i64]; have := HZV.out; omega
          have hmqI := HMQ.out
          clear b9 q0 q1 q2 q3 q4 q5 q6 q7 p0 p1 p2 p3 p4 p5 p6 p7 d0 pd
          go_upto_region 13 with (at_builtin; go_must (refine wpList_pushN rfl _ _ rfl w8.heap.size V ((N.take t).map fun q => encS cs m (q, a.2)) z rfl OWN9.out (by exact hz9') _ rfl LN.out ?_; intro g5 c5 w11 ho5 hon5 hat5))
          have HO5 : Hid (OwnN w11 w8.heap.size (.slice (some ⟨g5, 0, none⟩) (t + 1) c5) ((N.take (t + 1)).map fun q => encS cs m (q, a.2))) := by
            have e : (N.take (t + 1)).map (fun q => encS cs m (q, a.2)) = ((N.take t).map fun q => encS cs m (q, a.2)) ++ [z] := by
              rw [List.take_succ_eq_append_getElem htl, List.map_append, HZ.out, HQ.out, List.getD_eq_getElem?_getD, List.getElem?_eq_getElem htl]
              rfl
            have el : (((N.take t).map fun q => encS cs m (q, a.2)) ++ [z]).length = t + 1 := by rw [List.length_append, List.length_map, List.length_take, Nat.min_eq_left (by omega)]; rfl
            rw [el] at ho5
            rw [e]
            exact ho5
          have B11 : Hid (Below w8.heap.size w8 w11) := B9.out.trans ⟨hon5.os, hon5.tape, hon5.output, hon5.size, fun k hk => hon5.block k (by omega) fun hh => by have := (OWN9.out.lt _ hh).1; omega⟩
          clear ho5 hon5 hat5
          go_wp2_with fail
          go_roundw
          case rel => exact ⟨t + 1, _, rfl, by go_num, by omega, HO5.out, fun e => absurd e (Nat.succ_ne_zero t), B11.out⟩
          case measure => simp [intOf]; omega
        · have hd : t = N.length := by omega
          have HFIN : Hid (OwnN wa w8.heap.size V (fromL co cs m a)) := by
            have h7 := OWNA.out
            rw [hd, List.take_length, HN.out, HP.out] at h7
            exact h7
          have HBF : Hid (Below w.heap.size w wa) := B8.out.trans (BA.out.mono (by omega))
          have HNF : Hid (fromL co cs m a = [] → V = .slice none 0 0) := fun e => NIL.out (by
            unfold fromL at e
            rw [← HP.out, ← HN.out] at e
            have h7 := congrArg List.length e
            rw [List.length_map, List.length_nil] at h7
            omega)
          obtain ⟨av, cv, rfl, _, _⟩ := OWNA.out.form
          rw [HMO.out]
          go_wp2_with fail
          go_ret2
          exact ⟨_, rfl, HFIN.out.le (by omega), HNF.out, HBF.out⟩

end Go.Proofs.YtnkgpinadgacgaaDoor
