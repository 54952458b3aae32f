/- Walk of the document's position: the cells that a number stands for. -/
import Derived.Test.YtnkgpinadgacgaaDoorDz
import Derived.Test.YtnkgpinadgacgaaDoorDl
import Derived.Deep.RegionHeld3
import Derived.Deep.DeepCutAuto
namespace Go.Proofs.YtnkgpinadgacgaaDoor
open Go.RowKit M


/-- The list as far as it is filled, from its end on. -/
def backV (q : List Nat) (j o : Nat) : Value := .int .i64 (if o < j then 0 else ((q.getD o 0 : Nat) : Int))

theorem back_row (q : List Nat) (m : Nat) (w : World) (t : TypeId) (k : Nat) (hk : k = w.heap.size) : (w.alloc (.cells (madeCells #[.int .i64 0] m) t)).rowIs k t m (backV q m) := by
  subst hk
  refine rowIs_made _ _ _ _ fun i hi => ?_
  unfold backV
  rw [if_pos hi]
  simp [Nat.mod_one]

theorem back_set {w : World} {g m j : Nat} {t : TypeId} {q : List Nat} (h : w.rowIs g t m (backV q (j + 1))) : (w.setCell ⟨g, j, none⟩ (.int .i64 (q.getD j 0 : Nat))).rowIs g t m (backV q j) := by
  refine (h.set j _).congr fun o _ => ?_
  unfold backV
  by_cases e : o = j
  · subst e; rw [if_pos rfl, if_neg (Nat.lt_irrefl _)]
  · rw [if_neg e]
    by_cases e2 : o < j
    · rw [if_pos e2, if_pos (by omega)]
    · rw [if_neg e2, if_neg (by omega)]

/-- The last digit of a number, and what is left without it. -/
theorem numTo_digit {cs : ByteArray} {m j : Nat} {q : List Nat} (hq : Good cs m q) (hj : j < m) :
    numTo cs q (j + 1) % (frees (frB cs) cs.size).length = rankOf (frB cs) (q.getD j 0) ∧ numTo cs q (j + 1) / (frees (frB cs) cs.size).length = numTo cs q j ∧ rankOf (frB cs) (q.getD j 0) < (frees (frB cs) cs.size).length ∧ (frees (frB cs) cs.size).getD (rankOf (frB cs) (q.getD j 0)) 0 = q.getD j 0 := by
  obtain ⟨h1, h2⟩ := hq.2 j hj
  obtain ⟨h3, h4⟩ := rank_at (f := frB cs) h2 h1
  rw [numTo_next (by rw [hq.1]; exact hj)]
  refine ⟨?_, ?_, h3, by rw [List.getD_eq_getElem?_getD, h4]; rfl⟩
  · rw [Nat.add_comm, Nat.add_mul_mod_self_right, Nat.mod_eq_of_lt h3]
  · rw [Nat.add_comm, Nat.add_mul_div_right _ _ (by omega), Nat.div_eq_of_lt h3, Nat.zero_add]

set_option maxRecDepth 100000 in
set_option maxHeartbeats 2000000 in
theorem position_any (ro co bu : Int) (cs : ByteArray) (ac : Option Addr) (m cc gf cf gr cr cnt : Nat) (q : List Nat) (w : World) (hs : cs.size ≤ 36) (hm : m ≤ 4) (hq : Good cs m q) (ht : TabIn w cs gf gr) :
    Calls Tryd.prog 87 #[tabV ro co bu cs ac m cc gf cf gr cr cnt, .int .i64 (numOf (frB cs) cs.size q : Nat)] w fun e w' => ∃ g, e = .returned (.slice (some ⟨g, 0, none⟩) m m) ∧ w.heap.size ≤ g ∧ w'.rowIs g 3 m (fun k => .int .i64 (q.getD k 0 : Nat)) ∧ Below w.heap.size w w' := by
  have HT := Hid.mk ht
  have HQ := Hid.mk hq
  obtain ⟨n0, hn0⟩ : ∃ n0, n0 = numOf (frB cs) cs.size q := ⟨_, rfl⟩
  have HN0 : Hid (n0 = numTo cs q m) := by
    unfold Hid numTo
    rw [List.take_of_length_le (by rw [hq.1]; omega)]; exact hn0
  rw [← hn0]
  obtain ⟨F, hF⟩ : ∃ F, F = (frees (frB cs) cs.size).length := ⟨_, rfl⟩
  have hFN : F ≤ cs.size := by rw [hF]; exact frees_le cs
  unfold tabV
  rw [← hF]
  have HF := Hid.mk hF
  clear ht hq hF hn0
  go_enter Tryd.func87, Tryd.ntmps87
  go_upto_region 2 with fail
  have B0 : Hid (Below w.heap.size w (w.alloc (Obj.cells #[Value.int IntKind.i64 ro, Value.int IntKind.i64 co, Value.string cs, .slice ac m cc, Value.int IntKind.i64 bu, .slice (some ⟨gf, 0, none⟩) F cf, .slice (some ⟨gr, 0, none⟩) cs.size cr, Value.int IntKind.i64 (cnt : Nat)] 122))) := (Below.refl _ w).alloc (Nat.le_refl _) _
  have t5 : (w.alloc (Obj.cells #[Value.int IntKind.i64 ro, Value.int IntKind.i64 co, Value.string cs, .slice ac m cc, Value.int IntKind.i64 bu, .slice (some ⟨gf, 0, none⟩) F cf, .slice (some ⟨gr, 0, none⟩) cs.size cr, Value.int IntKind.i64 (cnt : Nat)] 122)).cell? ⟨w.heap.size, 5, none⟩ = some (.slice (some ⟨gf, 0, none⟩) F cf) := by go_simp
  have hz : (w.alloc (Obj.cells #[Value.int IntKind.i64 ro, Value.int IntKind.i64 co, Value.string cs, .slice ac m cc, Value.int IntKind.i64 bu, .slice (some ⟨gf, 0, none⟩) F cf, .slice (some ⟨gr, 0, none⟩) cs.size cr, Value.int IntKind.i64 (cnt : Nat)] 122)).heap.size = w.heap.size + 1 := by simp
  generalize (w.alloc (Obj.cells #[Value.int IntKind.i64 ro, Value.int IntKind.i64 co, Value.string cs, .slice ac m cc, Value.int IntKind.i64 bu, .slice (some ⟨gf, 0, none⟩) F cf, .slice (some ⟨gr, 0, none⟩) cs.size cr, Value.int IntKind.i64 (cnt : Nat)] 122)) = w0 at *
  have T5 := Hid.mk t5
  have ROW0 := Hid.mk (back_row q m w0 3 _ rfl)
  have B1 : Hid (Below w0.heap.size w0 (w0.alloc (Obj.cells (madeCells #[Value.int .i64 0] m) 3))) := (Below.refl _ _).alloc (Nat.le_refl _) _
  clear t5
  go_wp2_with (at_make; go_must (refine wpList_make_all _ rfl _ _ 26 rfl 3 _ _ _ Tryd.underlying26 Tryd.infoInt2 _ _ _ _ m rfl rfl (by simp) (by simp) (by omega) (by omega) ?_))
  go_loopw [1, 7] (fun v1 v7 wr => ∃ (j : Nat) (z : Int) (n : Nat), j ≤ m ∧ v7 = .int .i64 z ∧ z = (j : Int) - 1 ∧ v1 = .int .i64 (n : Nat) ∧ n = numTo cs q j ∧ wr.rowIs w0.heap.size 3 m (backV q j) ∧ Below w0.heap.size w0 wr) (fun _ v7 _ => ((intOf v7) + 1).toNat)
  case atStart => exact ⟨m, _, n0, Nat.le_refl _, rfl, by go_num, rfl, HN0.out, ROW0.out, B1.out⟩
  case round =>
    obtain ⟨w1, rfl⟩ : ∃ q, q = wr := ⟨_, rfl⟩
    obtain ⟨j, z, n, hj, rfl, hzj, rfl, hn, hrow, hbr⟩ := hrel
    have HBR := Hid.mk hbr
    have HROW := Hid.mk hrow
    by_cases hlt : 0 < j
    · obtain ⟨k, rfl⟩ : ∃ k, j = k + 1 := ⟨j - 1, by omega⟩
      obtain rfl : z = (k : Int) := by omega
      clear hzj
      obtain ⟨g1, g2, g3, g4⟩ := numTo_digit HQ.out (show k < m by omega)
      rw [← hn, ← HF.out] at g1 g2
      rw [← HF.out] at g3
      obtain ⟨c, hc⟩ : ∃ c, c = q.getD k 0 := ⟨_, rfl⟩
      obtain ⟨R, hR⟩ : ∃ R, R = rankOf (frB cs) (q.getD k 0) := ⟨_, rfl⟩
      obtain ⟨n2, hn2⟩ : ∃ n2, n2 = numTo cs q k := ⟨_, rfl⟩
      have HN2 := Hid.mk hn2
      have hgfl : gf < w.heap.size := World.block_lt_of_cell? _ _ (HT.out.1 (rankOf (frB cs) (q.getD k 0)) (by rw [← HF.out]; exact g3))
      have hgf1 : gf ≠ w.heap.size + 1 := by omega
      have hgf2 : w.heap.size + 1 ≠ gf := by omega
      have d0 := cell_later HBR.out (cell_later B0.out (HT.out.1 (rankOf (frB cs) (q.getD k 0)) (by rw [← HF.out]; exact g3)))
      rw [g4, ← hR, ← hc] at d0
      rw [← hR] at g1 g3
      rw [← hn2] at g2
      have d5 := cell_later HBR.out T5.out
      have x1 := hrow.cell (i := k) (by omega)
      have x2 := hrow.frozen
      unfold backV at x1
      rw [if_pos (by omega)] at x1
      rw [hz] at x1 x2
      have hrem : ((n : Nat) : Int).tmod ((F : Nat) : Int) = (R : Int) := by
        rw [Int.tmod_eq_emod_of_nonneg (by omega), ← g1]; exact (Int.natCast_emod n F).symm
      have hquo : ((n : Nat) : Int).tdiv ((F : Nat) : Int) = (n2 : Int) := by
        rw [Int.tdiv_eq_ediv_of_nonneg (by omega), ← g2]; exact (Int.natCast_ediv n F).symm
      have hF0 : ¬ ((F : Nat) : Int) = 0 := by omega
      have hF1 : ¬ F = 0 := by omega
      have hRF : (R : Int) < (F : Int) := by omega
      have hkm : (k : Int) < (m : Int) := by omega
      have nb := numTo_lt HQ.out hm hs (k + 1) (by omega)
      have nb2 := numTo_lt HQ.out hm hs k (by omega)
      rw [← hn] at nb
      rw [← hn2] at nb2
      have NR : Hid ((w1.setCell ⟨w0.heap.size, k, none⟩ (.int .i64 (c : Int))).rowIs w0.heap.size 3 m (backV q k)) := by
        have h := back_set HROW.out
        rw [← hc] at h; exact h
      have NB : Hid (Below w0.heap.size w0 (w1.setCell ⟨w0.heap.size, k, none⟩ (.int .i64 (c : Int)))) := HBR.out.setCell (by exact Nat.le_refl _) _
      rw [hz] at NR NB
      have hne1 : w.heap.size + 1 ≠ w.heap.size := by omega
      have hne2 : w.heap.size ≠ w.heap.size + 1 := by omega
      clear hrow hbr hc hR hn hn2 g1 g2 g4
      go_upto_region 6 with fail
      go_region_held3 (fun w' => w'.cell? ⟨w.heap.size, 5, none⟩ = some (.slice (some ⟨gf, 0, none⟩) F cf) ∧ w'.cell? ⟨gf, R, none⟩ = some (.int .i64 (c : Int))) (go_keep) (fail)
      go_wp2
      go_roundw
      case rel =>
        refine ⟨k, _, n2, by omega, rfl, by omega, rfl, HN2.out, ?_, ?_⟩
        · have h := NR.out
          rw [← hz] at h ⊢
          exact h.drew
        · have h := NB.out
          rw [← hz] at h ⊢
          exact h.drew
      case measure => simp [intOf]
    · have e : j = 0 := by omega
      subst e
      have hneg : ¬ 0 ≤ z := by omega
      have hneg2 : z < 0 := by omega
      clear hzj
      have FIN : Hid (w1.rowIs (w.heap.size + 1) 3 m (fun k => .int .i64 (q.getD k 0 : Nat))) := by
        have h : w1.rowIs w0.heap.size 3 m (fun k => .int .i64 (q.getD k 0 : Nat)) := HROW.out.congr fun i hi => by unfold backV; rw [if_neg (Nat.not_lt_zero _)]
        rw [hz] at h; exact h
      clear hrow hbr
      go_wp2
      go_ret
      exact ⟨w.heap.size + 1, rfl, by omega, FIN.out, B0.out.trans (HBR.out.mono (by omega))⟩

end Go.Proofs.YtnkgpinadgacgaaDoor
