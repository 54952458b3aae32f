/- Several texts in one: Dm, Dn, Gd, Ge. -/
import Derived.Test.YtnkgpinadgacgaaDoorQj
import Derived.Test.YtnkgpinadgacgaaDoorQk
import Derived.Deep.RegionHeld3
import Derived.Deep.DeepCutAuto
import Derived.Deep.QuietTactic
import Derived.BigQuiet
import Derived.Test.YtnkgpinadgacgaaDoorQf
import Derived.Test.YtnkgpinadgacgaaDoorQd
namespace Go.Proofs.YtnkgpinadgacgaaDoor
open Go.RowKit M
/-- The list as far as it is filled, from its end on. -/
def backV (q : List Nat) (j o : Nat) : Value := .int .i64 (if o < j then 0 else ((q.getD o 0 : Nat) : Int))

theorem back_row (q : List Nat) (m : Nat) (w : World) (t : TypeId) (k : Nat) (hk : k = w.heap.size) : (w.alloc (.cells (madeCells #[.int .i64 0] m) t)).rowIs k t m (backV q m) := by
  subst hk
  refine rowIs_made _ _ _ _ fun i hi => ?_
  unfold backV
  rw [if_pos hi]
  simp [Nat.mod_one]

theorem back_set {w : World} {g m j : Nat} {t : TypeId} {q : List Nat} (h : w.rowIs g t m (backV q (j + 1))) : (w.setCell ⟨g, j, none⟩ (.int .i64 (q.getD j 0 : Nat))).rowIs g t m (backV q j) := by
  refine (h.set j _).congr fun o _ => ?_
  unfold backV
  by_cases e : o = j
  · subst e; rw [if_pos rfl, if_neg (Nat.lt_irrefl _)]
  · rw [if_neg e]
    by_cases e2 : o < j
    · rw [if_pos e2, if_pos (by omega)]
    · rw [if_neg e2, if_neg (by omega)]

/-- The last digit of a number, and what is left without it. -/
theorem numTo_digit {cs : ByteArray} {m j : Nat} {q : List Nat} (hq : Good cs m q) (hj : j < m) :
    numTo cs q (j + 1) % (frees (frB cs) cs.size).length = rankOf (frB cs) (q.getD j 0) ∧ numTo cs q (j + 1) / (frees (frB cs) cs.size).length = numTo cs q j ∧ rankOf (frB cs) (q.getD j 0) < (frees (frB cs) cs.size).length ∧ (frees (frB cs) cs.size).getD (rankOf (frB cs) (q.getD j 0)) 0 = q.getD j 0 := by
  obtain ⟨h1, h2⟩ := hq.2 j hj
  obtain ⟨h3, h4⟩ := rank_at (f := frB cs) h2 h1
  rw [numTo_next (by rw [hq.1]; exact hj)]
  refine ⟨?_, ?_, h3, by rw [List.getD_eq_getElem?_getD, h4]; rfl⟩
  · rw [Nat.add_comm, Nat.add_mul_mod_self_right, Nat.mod_eq_of_lt h3]
  · rw [Nat.add_comm, Nat.add_mul_div_right _ _ (by omega), Nat.div_eq_of_lt h3, Nat.zero_add]

set_option maxRecDepth 100000 in
set_option maxHeartbeats 2000000 in
theorem position_any (ro co bu : Int) (cs : ByteArray) (ac : Option Addr) (m cc gf cf gr cr cnt : Nat) (q : List Nat) (w : World) (hs : cs.size ≤ 36) (hm : m ≤ 4) (hq : Good cs m q) (ht : TabIn w cs gf gr) :
    Calls Tryd.prog 87 #[tabV ro co bu cs ac m cc gf cf gr cr cnt, .int .i64 (numOf (frB cs) cs.size q : Nat)] w fun e w' => ∃ g, e = .returned (.slice (some ⟨g, 0, none⟩) m m) ∧ w.heap.size ≤ g ∧ w'.rowIs g 3 m (fun k => .int .i64 (q.getD k 0 : Nat)) ∧ Below w.heap.size w w' := by
  have HT := Hid.mk ht
  have HQ := Hid.mk hq
  obtain ⟨n0, hn0⟩ : ∃ n0, n0 = numOf (frB cs) cs.size q := ⟨_, rfl⟩
  have HN0 : Hid (n0 = numTo cs q m) := by
    unfold Hid numTo
    rw [List.take_of_length_le (by rw [hq.1]; omega)]; exact hn0
  rw [← hn0]
  obtain ⟨F, hF⟩ : ∃ F, F = (frees (frB cs) cs.size).length := ⟨_, rfl⟩
  have hFN : F ≤ cs.size := by rw [hF]; exact frees_le cs
  unfold tabV
  rw [← hF]
  have HF := Hid.mk hF
  clear ht hq hF hn0
  go_enter Tryd.func87, Tryd.ntmps87
  go_upto_region 2 with fail
  have B0 : Hid (Below w.heap.size w (w.alloc (Obj.cells #[Value.int IntKind.i64 ro, Value.int IntKind.i64 co, Value.string cs, .slice ac m cc, Value.int IntKind.i64 bu, .slice (some ⟨gf, 0, none⟩) F cf, .slice (some ⟨gr, 0, none⟩) cs.size cr, Value.int IntKind.i64 (cnt : Nat)] 122))) := (Below.refl _ w).alloc (Nat.le_refl _) _
  have t5 : (w.alloc (Obj.cells #[Value.int IntKind.i64 ro, Value.int IntKind.i64 co, Value.string cs, .slice ac m cc, Value.int IntKind.i64 bu, .slice (some ⟨gf, 0, none⟩) F cf, .slice (some ⟨gr, 0, none⟩) cs.size cr, Value.int IntKind.i64 (cnt : Nat)] 122)).cell? ⟨w.heap.size, 5, none⟩ = some (.slice (some ⟨gf, 0, none⟩) F cf) := by go_simp
  have hz : (w.alloc (Obj.cells #[Value.int IntKind.i64 ro, Value.int IntKind.i64 co, Value.string cs, .slice ac m cc, Value.int IntKind.i64 bu, .slice (some ⟨gf, 0, none⟩) F cf, .slice (some ⟨gr, 0, none⟩) cs.size cr, Value.int IntKind.i64 (cnt : Nat)] 122)).heap.size = w.heap.size + 1 := by simp
  generalize (w.alloc (Obj.cells #[Value.int IntKind.i64 ro, Value.int IntKind.i64 co, Value.string cs, .slice ac m cc, Value.int IntKind.i64 bu, .slice (some ⟨gf, 0, none⟩) F cf, .slice (some ⟨gr, 0, none⟩) cs.size cr, Value.int IntKind.i64 (cnt : Nat)] 122)) = w0 at *
  have T5 := Hid.mk t5
  have ROW0 := Hid.mk (back_row q m w0 3 _ rfl)
  have B1 : Hid (Below w0.heap.size w0 (w0.alloc (Obj.cells (madeCells #[Value.int .i64 0] m) 3))) := (Below.refl _ _).alloc (Nat.le_refl _) _
  clear t5
  go_wp2_with (at_make; go_must (refine wpList_make_all _ rfl _ _ 26 rfl 3 _ _ _ Tryd.underlying26 Tryd.infoInt2 _ _ _ _ m rfl rfl (by simp) (by simp) (by omega) (by omega) ?_))
  go_loopw [1, 7] (fun v1 v7 wr => ∃ (j : Nat) (z : Int) (n : Nat), j ≤ m ∧ v7 = .int .i64 z ∧ z = (j : Int) - 1 ∧ v1 = .int .i64 (n : Nat) ∧ n = numTo cs q j ∧ wr.rowIs w0.heap.size 3 m (backV q j) ∧ Below w0.heap.size w0 wr) (fun _ v7 _ => ((intOf v7) + 1).toNat)
  case atStart => exact ⟨m, _, n0, Nat.le_refl _, rfl, by go_num, rfl, HN0.out, ROW0.out, B1.out⟩
  case round =>
    obtain ⟨w1, rfl⟩ : ∃ q, q = wr := ⟨_, rfl⟩
    obtain ⟨j, z, n, hj, rfl, hzj, rfl, hn, hrow, hbr⟩ := hrel
    have HBR := Hid.mk hbr
    have HROW := Hid.mk hrow
    by_cases hlt : 0 < j
    · obtain ⟨k, rfl⟩ : ∃ k, j = k + 1 := ⟨j - 1, by omega⟩
      obtain rfl : z = (k : Int) := by omega
      clear hzj
      obtain ⟨g1, g2, g3, g4⟩ := numTo_digit HQ.out (show k < m by omega)
      rw [← hn, ← HF.out] at g1 g2
      rw [← HF.out] at g3
      obtain ⟨c, hc⟩ : ∃ c, c = q.getD k 0 := ⟨_, rfl⟩
      obtain ⟨R, hR⟩ : ∃ R, R = rankOf (frB cs) (q.getD k 0) := ⟨_, rfl⟩
      obtain ⟨n2, hn2⟩ : ∃ n2, n2 = numTo cs q k := ⟨_, rfl⟩
      have HN2 := Hid.mk hn2
      have hgfl : gf < w.heap.size := World.block_lt_of_cell? _ _ (HT.out.1 (rankOf (frB cs) (q.getD k 0)) (by rw [← HF.out]; exact g3))
      have hgf1 : gf ≠ w.heap.size + 1 := by omega
      have hgf2 : w.heap.size + 1 ≠ gf := by omega
      have d0 := cell_later HBR.out (cell_later B0.out (HT.out.1 (rankOf (frB cs) (q.getD k 0)) (by rw [← HF.out]; exact g3)))
      rw [g4, ← hR, ← hc] at d0
      rw [← hR] at g1 g3
      rw [← hn2] at g2
      have d5 := cell_later HBR.out T5.out
      have x1 := hrow.cell (i := k) (by omega)
      have x2 := hrow.frozen
      unfold backV at x1
      rw [if_pos (by omega)] at x1
      rw [hz] at x1 x2
      have hrem : ((n : Nat) : Int).tmod ((F : Nat) : Int) = (R : Int) := by
        rw [Int.tmod_eq_emod_of_nonneg (by omega), ← g1]; exact (Int.natCast_emod n F).symm
      have hquo : ((n : Nat) : Int).tdiv ((F : Nat) : Int) = (n2 : Int) := by
        rw [Int.tdiv_eq_ediv_of_nonneg (by omega), ← g2]; exact (Int.natCast_ediv n F).symm
      have hF0 : ¬ ((F : Nat) : Int) = 0 := by omega
      have hF1 : ¬ F = 0 := by omega
      have hRF : (R : Int) < (F : Int) := by omega
      have hkm : (k : Int) < (m : Int) := by omega
      have nb := numTo_lt HQ.out hm hs (k + 1) (by omega)
      have nb2 := numTo_lt HQ.out hm hs k (by omega)
      rw [← hn] at nb
      rw [← hn2] at nb2
      have NR : Hid ((w1.setCell ⟨w0.heap.size, k, none⟩ (.int .i64 (c : Int))).rowIs w0.heap.size 3 m (backV q k)) := by
        have h := back_set HROW.out
        rw [← hc] at h; exact h
      have NB : Hid (Below w0.heap.size w0 (w1.setCell ⟨w0.heap.size, k, none⟩ (.int .i64 (c : Int)))) := HBR.out.setCell (by exact Nat.le_refl _) _
      rw [hz] at NR NB
      have hne1 : w.heap.size + 1 ≠ w.heap.size := by omega
      have hne2 : w.heap.size ≠ w.heap.size + 1 := by omega
      clear hrow hbr hc hR hn hn2 g1 g2 g4
      go_upto_region 6 with fail
      go_region_held3 (fun w' => w'.cell? ⟨w.heap.size, 5, none⟩ = some (.slice (some ⟨gf, 0, none⟩) F cf) ∧ w'.cell? ⟨gf, R, none⟩ = some (.int .i64 (c : Int))) (go_keep) (fail)
      go_wp2
      go_roundw
      case rel =>
        refine ⟨k, _, n2, by omega, rfl, by omega, rfl, HN2.out, ?_, ?_⟩
        · have h := NR.out
          rw [← hz] at h ⊢
          exact h.drew
        · have h := NB.out
          rw [← hz] at h ⊢
          exact h.drew
      case measure => simp [intOf]
    · have e : j = 0 := by omega
      subst e
      have hneg : ¬ 0 ≤ z := by omega
      have hneg2 : z < 0 := by omega
      clear hzj
      have FIN : Hid (w1.rowIs (w.heap.size + 1) 3 m (fun k => .int .i64 (q.getD k 0 : Nat))) := by
        have h : w1.rowIs w0.heap.size 3 m (fun k => .int .i64 (q.getD k 0 : Nat)) := HROW.out.congr fun i hi => by unfold backV; rw [if_neg (Nat.not_lt_zero _)]
        rw [hz] at h; exact h
      clear hrow hbr
      go_wp2
      go_ret
      exact ⟨w.heap.size + 1, rfl, by omega, FIN.out, B0.out.trans (HBR.out.mono (by omega))⟩

end Go.Proofs.YtnkgpinadgacgaaDoor

namespace Go.Proofs.YtnkgpinadgacgaaDoor
open Go.RowKit M
set_option maxRecDepth 100000 in
set_option maxHeartbeats 4000000 in
theorem rapart_any (p q : List Nat) (bp op np cp bq oq nq cq k : Nat) (w : World) (hk1 : k < np) (hk2 : k < nq) (hk : k < 4)
    (hp : ∀ j, j < np → w.cell? ⟨bp, op + j, none⟩ = some (.int .i64 (p.getD j 0 : Nat))) (hq : ∀ j, j < nq → w.cell? ⟨bq, oq + j, none⟩ = some (.int .i64 (q.getD j 0 : Nat))) :
    Calls Tryd.prog 133 #[.slice (some ⟨bp, op, none⟩) np cp, .slice (some ⟨bq, oq, none⟩) nq cq, .int .i64 k] w fun e w' => e = .returned (.bool (fitB p q k)) ∧ Below w.heap.size w w' := by
  have HP := Hid.mk hp
  have HQ := Hid.mk hq
  clear hp hq
  go_enter Tryd.func133, Tryd.ntmps133
  go_wp2
  go_loopw [7] (fun v7 wr => ∃ o : Nat, o ≤ k ∧ v7 = .int .i64 o ∧ (∀ j, j < o → clashB p q k j = false) ∧ Below w.heap.size w wr) (fun v7 _ => k - (intOf v7).toNat)
  case atStart => exact ⟨0, Nat.zero_le _, rfl, fun j hj => absurd hj (Nat.not_lt_zero j), Below.refl _ _⟩
  case round =>
    obtain ⟨o, ho, rfl, hmiss, hbr⟩ := hrel
    have HM := Hid.mk hmiss
    have HB := Hid.mk hbr
    by_cases hlt : o < k
    · have ha := cell_later hbr (HQ.out k hk2)
      have hb := cell_later hbr (HQ.out o (by omega))
      have hc := cell_later hbr (HP.out o (by omega))
      have hd := cell_later hbr (HP.out k hk1)
      have i1 : (o : Int) < (np : Int) := by omega
      have i2 : (o : Int) < (nq : Int) := by omega
      have i3 : (k : Int) < (np : Int) := by omega
      have i4 : (k : Int) < (nq : Int) := by omega
      have j1 : o < np := by omega
      have j2 : o < nq := by omega
      obtain ⟨va, hva⟩ : ∃ v, v = q.getD k 0 := ⟨_, rfl⟩
      obtain ⟨vb, hvb⟩ : ∃ v, v = q.getD o 0 := ⟨_, rfl⟩
      obtain ⟨vc, hvc⟩ : ∃ v, v = p.getD o 0 := ⟨_, rfl⟩
      obtain ⟨vd, hvd⟩ : ∃ v, v = p.getD k 0 := ⟨_, rfl⟩
      rw [← hva] at ha
      rw [← hvb] at hb
      rw [← hvc] at hc
      rw [← hvd] at hd
      have CL : Hid (clashB p q k o = ((va == vb) || (va == vc && vb == vd))) := by unfold Hid clashB; rw [hva, hvb, hvc, hvd]
      clear hva hvb hvc hvd hmiss hbr
      by_cases e1 : vb = va
      · have e1' : (((vb : Nat) : Int) == ((va : Nat) : Int)) = true := by simp [e1]
        have RES : Hid (fitB p q k = false) := fit_hit hlt (by rw [CL.out]; simp [e1])
        clear e1
        go_wp2_with fail
        go_quiet (fail)
        go_wp2
        go_ret
        exact ⟨ret_bool RES.out.symm, below_drewN HB.out _⟩
      · have e1' : (((vb : Nat) : Int) == ((va : Nat) : Int)) = false := by simp; omega
        have e1n : ¬ va = vb := fun h => e1 h.symm
        by_cases e3 : vb = vd
        · have e3' : (((vb : Nat) : Int) == ((vd : Nat) : Int)) = true := by simp [e3]
          by_cases e2 : va = vc
          · have e2' : (((va : Nat) : Int) == ((vc : Nat) : Int)) = true := by simp [e2]
            have RES : Hid (fitB p q k = false) := fit_hit hlt (by rw [CL.out]; simp [e2, e3])
            clear e1 e1n e2 e3
            go_wp2_with fail
            go_quiet (fail)
            go_wp2
            go_ret
            exact ⟨ret_bool RES.out.symm, below_drewN HB.out _⟩
          · have e2' : (((va : Nat) : Int) == ((vc : Nat) : Int)) = false := by simp; omega
            have RES : Hid (clashB p q k o = false) := by unfold Hid; rw [CL.out]; simp [e1n, e2]
            clear e1 e1n e2 e3
            go_wp2_with fail
            go_quiet (fail)
            go_wp2
            go_roundw
            case rel => exact ⟨o + 1, by omega, by go_num, upto_step RES.out HM.out, below_drewN HB.out _⟩
            case measure => simp [intOf]; omega
        · have e3' : (((vb : Nat) : Int) == ((vd : Nat) : Int)) = false := by simp; omega
          have RES : Hid (clashB p q k o = false) := by unfold Hid; rw [CL.out]; simp [e1n, e3]
          clear e1 e1n e3
          go_wp2_with fail
          go_quiet (fail)
          go_wp2
          go_roundw
          case rel => exact ⟨o + 1, by omega, by go_num, upto_step RES.out HM.out, below_drewN HB.out _⟩
          case measure => simp [intOf]; omega
    · have RES : Hid (fitB p q k = true) := fit_miss fun j hj => HM.out j (by omega)
      clear hmiss hbr
      go_wp2
      go_ret
      exact ⟨ret_bool RES.out.symm, HB.out⟩

end Go.Proofs.YtnkgpinadgacgaaDoor

namespace Go.Proofs.YtnkgpinadgacgaaDoor
open Go.RowKit M
theorem map_range_snoc (f : Nat → Nat) (k : Nat) : (List.range (k + 1)).map f = (List.range k).map f ++ [f k] := by
  rw [List.range_succ, List.map_append]; rfl

set_option maxRecDepth 100000 in
set_option maxHeartbeats 2000000 in
theorem pathOf_any (gw n cw cart : Nat) (p : Nat → Nat → Nat) (u : Nat → Nat → Bool) (w : World) (hn : n ≤ 10000000) (hcart : cart < 4)
    (hp : ∀ i j, i < n → j < 4 → w.cell? ⟨gw, i * 8 + j, none⟩ = some (.int .u8 (p i j : Nat))) (hu : ∀ i j, i < n → j < 4 → w.cell? ⟨gw, i * 8 + 4 + j, none⟩ = some (.bool (u i j))) (h255 : ∀ i, i < n → p i cart ≤ 255) :
    Calls Tryd.prog 179 #[.int .i64 cart, .slice (some ⟨gw, 0, none⟩) n cw] w fun e w' =>
      ∃ k v, e = .returned v ∧ k ≤ n ∧ OwnN w' w.heap.size v ((List.range k).map fun i => p i cart) ∧ (∀ j, j + 1 < k → u j cart = true) ∧ (k = n ∨ (0 < k ∧ u (k - 1) cart = false)) ∧ Below w.heap.size w w' := by
  have HP := Hid.mk hp
  have HU := Hid.mk hu
  have H2 := Hid.mk h255
  clear hp hu h255
  go_enter Tryd.func179, Tryd.ntmps179
  go_wp2
  go_loopw [5, 7, 10] (fun v5 _ v10 wr => ∃ (k : Nat) (V : Value), V = v5 ∧ v10 = .int .i64 k ∧ k ≤ n ∧ OwnN wr w.heap.size V ((List.range k).map fun i => p i cart) ∧ (∀ j, j < k → u j cart = true) ∧ Below w.heap.size w wr) (fun _ _ v10 _ => n - (intOf v10).toNat)
  case atStart => exact ⟨0, _, rfl, rfl, Nat.zero_le _, OwnN.nil _ _, fun j hj => absurd hj (Nat.not_lt_zero j), Below.refl _ _⟩
  case round =>
    obtain ⟨k, V, rfl, rfl, hk, hown, hall, hb⟩ := hrel
    obtain ⟨wo, rfl⟩ : ∃ x, x = wr := ⟨_, rfl⟩
    have OWN := Hid.mk hown
    have ALL := Hid.mk hall
    have HB := Hid.mk hb
    have hz := hb.size
    clear hown hall hb
    by_cases hlt : k < n
    · have hkI : (k : Int) < (n : Int) := by omega
      have c0 := cell_later HB.out (HP.out k 0 hlt (by omega))
      have c1 := cell_later HB.out (HP.out k 1 hlt (by omega))
      have c2 := cell_later HB.out (HP.out k 2 hlt (by omega))
      have c3 := cell_later HB.out (HP.out k 3 hlt (by omega))
      have c4 := cell_later HB.out (HU.out k 0 hlt (by omega))
      have c5 := cell_later HB.out (HU.out k 1 hlt (by omega))
      have c6 := cell_later HB.out (HU.out k 2 hlt (by omega))
      have c7 := cell_later HB.out (HU.out k 3 hlt (by omega))
      simp only [Nat.add_zero, Nat.add_assoc, Nat.reduceAdd] at c0 c1 c2 c3 c4 c5 c6 c7
      have X0 : Hid (∀ j, j < 4 → (wo.alloc (Obj.cells #[Value.int .u8 (p k 0 : Nat), .int .u8 (p k 1 : Nat), .int .u8 (p k 2 : Nat), .int .u8 (p k 3 : Nat), .bool (u k 0), .bool (u k 1), .bool (u k 2), .bool (u k 3)] 185)).cell? ⟨wo.heap.size, j, none⟩ = some (.int .u8 (p k j : Nat))) := by
        intro j hj
        match j, hj with
        | 0, _ => go_simp
        | 1, _ => go_simp
        | 2, _ => go_simp
        | 3, _ => go_simp
      have X1 : Hid (∀ j, j < 4 → (wo.alloc (Obj.cells #[Value.int .u8 (p k 0 : Nat), .int .u8 (p k 1 : Nat), .int .u8 (p k 2 : Nat), .int .u8 (p k 3 : Nat), .bool (u k 0), .bool (u k 1), .bool (u k 2), .bool (u k 3)] 185)).cell? ⟨wo.heap.size, 4 + j, none⟩ = some (.bool (u k j))) := by
        intro j hj
        match j, hj with
        | 0, _ => go_simp
        | 1, _ => go_simp
        | 2, _ => go_simp
        | 3, _ => go_simp
      have BA : Hid (Below wo.heap.size wo (wo.alloc (Obj.cells #[Value.int .u8 (p k 0 : Nat), .int .u8 (p k 1 : Nat), .int .u8 (p k 2 : Nat), .int .u8 (p k 3 : Nat), .bool (u k 0), .bool (u k 1), .bool (u k 2), .bool (u k 3)] 185))) := (Below.refl _ _).alloc (Nat.le_refl _) _
      have hza : (wo.alloc (Obj.cells #[Value.int .u8 (p k 0 : Nat), .int .u8 (p k 1 : Nat), .int .u8 (p k 2 : Nat), .int .u8 (p k 3 : Nat), .bool (u k 0), .bool (u k 1), .bool (u k 2), .bool (u k 3)] 185)).heap.size = wo.heap.size + 1 := by simp
      go_upto_region 5 with fail
      generalize (wo.alloc (Obj.cells #[Value.int .u8 (p k 0 : Nat), .int .u8 (p k 1 : Nat), .int .u8 (p k 2 : Nat), .int .u8 (p k 3 : Nat), .bool (u k 0), .bool (u k 1), .bool (u k 2), .bool (u k 3)] 185)) = wa at *
      have d0 := X0.out cart hcart
      have d1 := X1.out cart hcart
      have hcI : (cart : Int) < 4 := by omega
      have h25 := H2.out k hlt
      have OWA : Hid (OwnN wa w.heap.size V ((List.range k).map fun i => p i cart)) := OWN.out.below BA.out
      obtain ⟨x, hx⟩ : ∃ x, x = p k cart := ⟨_, rfl⟩
      obtain ⟨ub, hub⟩ : ∃ ub, ub = u k cart := ⟨_, rfl⟩
      rw [← hx] at d0 h25
      rw [← hub] at d1
      have HXE := Hid.mk hx
      have HUB := Hid.mk hub
      have hbs : w.heap.size ≤ wa.heap.size := by omega
      have HBS := Hid.mk hbs
      have LL : Hid (((List.range k).map fun i => p i cart).length ≤ 100000000) := by unfold Hid; simp; omega
      have hVl : ∀ g, V.ownBlock = some g → g < wo.heap.size := fun g hg => (OWN.out.lt g hg).2
      have HVL := Hid.mk hVl
      clear c0 c1 c2 c3 c4 c5 c6 c7 hx hub hVl
      go_upto_region 6 with (at_builtin; go_must (refine wpList_pushN rfl _ _ rfl w.heap.size V ((List.range k).map fun i => p i cart) x rfl OWA.out HBS.out _ (by rw [hza]; exact rfl) LL.out ?_; intro g5 c5 w5 ho5 hon5 hat5; have d2 := (hon5.cell (p := ⟨wo.heap.size, 4 + cart, none⟩) (by show wo.heap.size < _; omega) (fun e => by have h9 : wo.heap.size < wo.heap.size := HVL.out _ e; omega)).trans d1; have e9 : (((List.range k).map fun i => p i cart) ++ [x]).length = k + 1 := (by simp); rw [e9] at ho5; rw [e9]; have HO5 := Hid.mk ho5; have HON5 := Hid.mk hon5; clear ho5 hon5 hat5 e9))
      all_goals
        have LST : Hid (OwnN w5 w.heap.size (.slice (some ⟨g5, 0, none⟩) (k + 1) c5) ((List.range (k + 1)).map fun i => p i cart)) := by unfold Hid; rw [map_range_snoc, ← HXE.out]; exact HO5.out
        have BW : Hid (Below w.heap.size w w5) := HB.out.trans ((BA.out.mono hz).trans (HON5.out.below hbs (fun i e => (OWN.out.lt i e).1)))
        cases ub
        · go_wp2
          go_ret
          exact ⟨k + 1, _, rfl, by omega, LST.out, fun j hj => ALL.out j (by omega), .inr ⟨by omega, by simpa using HUB.out.symm⟩, BW.out⟩
        · go_wp2
          go_roundw
          case rel => exact ⟨k + 1, _, rfl, by go_num, by omega, LST.out, fun j hj => by
            by_cases e : j = k
            · subst e; exact HUB.out.symm
            · exact ALL.out j (by omega), BW.out⟩
          case measure => simp [intOf]; omega
    · have hd : k = n := by omega
      subst hd
      go_wp2
      go_ret
      exact ⟨k, _, rfl, Nat.le_refl _, OWN.out, fun j hj => ALL.out j (by omega), .inl rfl, HB.out⟩

end Go.Proofs.YtnkgpinadgacgaaDoor

namespace Go.Proofs.YtnkgpinadgacgaaDoor
open Go.RowKit Go.Maps M
theorem Tryd.rowState : (185 : TypeId) < Tryd.prog.types.size := of_decide_eq_true (by kernel_rfl)

theorem Tryd.deepState : Tryd.prog.keyTypeAt 4 185 = true := by kernel_rfl

theorem Tryd.ktState : Tryd.prog.keyType 185 = true := by kernel_rfl

theorem Tryd.cellsState : Tryd.prog.cellsOf 185 = 8 := by kernel_rfl

theorem Tryd.lawState : Keyed Tryd.prog 185 := Keyed.of_law (deep_law_laid Tryd.laidOut0 (m := 4) (by omega) Tryd.rowState Tryd.deepState (by rw [Tryd.underlying185]))

theorem Tryd.cellsB4 : Tryd.prog.cellsOf 183 = 4 := by kernel_rfl

theorem Tryd.cellsBl : Tryd.prog.cellsOf 4 = 1 := by kernel_rfl

/-- A state as the program keeps it. -/
def stV (p : List Nat) (u : List Bool) : Value := .agg #[.int .u8 (p.getD 0 0 : Nat), .int .u8 (p.getD 1 0 : Nat), .int .u8 (p.getD 2 0 : Nat), .int .u8 (p.getD 3 0 : Nat), .bool (u.getD 0 false), .bool (u.getD 1 false), .bool (u.getD 2 false), .bool (u.getD 3 false)]

theorem st_ext {p p' : List Nat} {u u' : List Bool} {m : Nat} (hm : m ≤ 4) (hp : p.length = m) (hp' : p'.length = m) (hu : u.length = m) (hu' : u'.length = m) (h : stV p u = stV p' u') : p = p' ∧ u = u' := by
  unfold stV at h
  simp only [Value.agg.injEq, Array.mk.injEq, List.cons.injEq, Value.int.injEq, Value.bool.injEq, true_and, and_true] at h
  obtain ⟨h0, h1, h2, h3, h4, h5, h6, h7⟩ := h
  constructor
  · apply List.ext_getElem (by omega)
    intro i hi hi'
    have e : ∀ (l : List Nat) (hl : i < l.length), l[i] = l.getD i 0 := fun l hl => by rw [List.getD_eq_getElem?_getD, List.getElem?_eq_getElem hl]; rfl
    rw [e p hi, e p' hi']
    have hc : i = 0 ∨ i = 1 ∨ i = 2 ∨ i = 3 := by omega
    rcases hc with rfl | rfl | rfl | rfl <;> omega
  · apply List.ext_getElem (by omega)
    intro i hi hi'
    have e : ∀ (l : List Bool) (hl : i < l.length), l[i] = l.getD i false := fun l hl => by rw [List.getD_eq_getElem?_getD, List.getElem?_eq_getElem hl]; rfl
    rw [e u hi, e u' hi']
    have hc : i = 0 ∨ i = 1 ∨ i = 2 ∨ i = 3 := by omega
    rcases hc with rfl | rfl | rfl | rfl <;> assumption

theorem stKey {p : List Nat} {u : List Bool} (h : Small p) : ∃ kl, keyOf Tryd.prog 185 (stV p u) = some kl := by
  have h0 := wf_u8 (h 0)
  have h1 := wf_u8 (h 1)
  have h2 := wf_u8 (h 2)
  have h3 := wf_u8 (h 3)
  obtain ⟨m, hm⟩ : ∃ m, Tryd.prog.types.size = m + 3 := ⟨Tryd.prog.types.size - 3, by have h9 : (185 : Nat) < Tryd.prog.types.size := Tryd.rowState; omega⟩
  unfold keyOf stV
  generalize p.getD 0 0 = a0 at h0 ⊢
  generalize p.getD 1 0 = a1 at h1 ⊢
  generalize p.getD 2 0 = a2 at h2 ⊢
  generalize p.getD 3 0 = a3 at h3 ⊢
  generalize u.getD 0 false = b0
  generalize u.getD 1 false = b1
  generalize u.getD 2 false = b2
  generalize u.getD 3 false = b3
  simp only [Tryd.underlying185]
  rw [if_pos (by simp [Tryd.ktState, Value.formed, Tryd.underlying185, Tryd.cellsState]), hm]
  unfold Program.keyLits
  simp only [Tryd.underlying185, Value.cells]
  rw [if_pos (by refine ⟨by rw [Tryd.cellsState]; rfl, by kernel_rfl⟩)]
  simp [List.range, List.range.loop, Tryd.cellsPos, Tryd.cellsB4, Tryd.cellsU8, Tryd.cellsBl, Program.keyLits, Tryd.underlying179, Tryd.underlying183, Tryd.underlying5, Tryd.underlying4, h0, h1, h2, h3]

end Go.Proofs.YtnkgpinadgacgaaDoor
