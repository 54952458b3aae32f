/- Walk of swap: two places of a heap's row change their spots. -/
import Derived.Test.YtaldfpoolajoiaaDoorHb
import Derived.Deep.DeepCutAuto
namespace Go.Proofs.YtaldfpoolajoiaaDoor
open Go.RowKit M

/-- The heap's own two cells. -/
def HeapAt (w : World) (H F : Nat) (v : Value) : Prop := w.heap[H]? = some (.cells #[lessV F, v] 134 (0, 0))

theorem HeapAt.block {w w' : World} {H F : Nat} {v : Value} (h : HeapAt w H F v) (e : w'.heap[H]? = w.heap[H]?) : HeapAt w' H F v := e.trans h
theorem HeapAt.lt {w : World} {H F : Nat} {v : Value} (h : HeapAt w H F v) : H < w.heap.size := (Array.getElem?_eq_some_iff.1 h).1
theorem HeapAt.c0 {w : World} {H F : Nat} {v : Value} (h : HeapAt w H F v) : w.cell? ⟨H, 0, none⟩ = some (lessV F) := by
  unfold HeapAt at h; simp [World.cell?, h]
theorem HeapAt.c1 {w : World} {H F : Nat} {v : Value} (h : HeapAt w H F v) : w.cell? ⟨H, 1, none⟩ = some v := by
  unfold HeapAt at h; simp [World.cell?, h]
theorem HeapAt.fz {w : World} {H F : Nat} {v : Value} (h : HeapAt w H F v) (o : Nat) : w.frozen? ⟨H, o, none⟩ = false := by
  unfold HeapAt at h; simp [World.frozen?, h]

theorem heap_apart {w : World} {H F G cap n : Nat} {v : Value} {it : Nat → Spot} (h : HeapAt w H F v) (h' : ItemsIn w G cap n it) : H ≠ G := by
  intro e; subst e
  unfold HeapAt at h
  obtain ⟨cur, h1, _⟩ := h'
  rw [h1] at h
  simp at h

set_option maxRecDepth 1000000 in
set_option maxHeartbeats 8000000 in
theorem swap_any (H F G cap n i j : Nat) (it : Nat → Spot) (w : World) (hh : HeapAt w H F (.slice (some ⟨G, 0, none⟩) n cap)) (hit : ItemsIn w G cap n it) (hi : i < n) (hj : j < n) (hij : i ≠ j) :
    Calls Tryd.prog 110 #[.pointer (some ⟨H, 0, none⟩), .int .i64 i, .int .i64 j] w fun e w' =>
      e = .returned (.tuple #[]) ∧ ItemsIn w' G cap n (swapIt it i j) ∧ Only (fun k => k = G) w w' := by
  have x1 := hh.c1
  have hHl := hh.lt
  have hGl := hit.lt
  have HG := heap_apart hh hit
  have a0 := hit.c0 hi
  have a1 := hit.c1 hi
  have b0 := hit.c0 hj
  have b1 := hit.c1 hj
  have fz := hit.fz
  have HIT := Hid.mk hit
  obtain ⟨ic, hic⟩ : ∃ x, x = (it i).1 := ⟨_, rfl⟩
  obtain ⟨ia, hia⟩ : ∃ x, x = (it i).2 := ⟨_, rfl⟩
  obtain ⟨jc, hjc⟩ : ∃ x, x = (it j).1 := ⟨_, rfl⟩
  obtain ⟨ja, hja⟩ : ∃ x, x = (it j).2 := ⟨_, rfl⟩
  rw [← hic] at a0
  rw [← hia] at a1
  rw [← hjc] at b0
  rw [← hja] at b1
  have FI : Hid (it i = (ic, ia)) := by unfold Hid; rw [hic, hia]
  have FJ : Hid (it j = (jc, ja)) := by unfold Hid; rw [hjc, hja]
  have i1 : (i : Int) < (n : Int) := by omega
  have j1 : (j : Int) < (n : Int) := by omega
  have e1 : ¬ i * 2 = j * 2 := by omega
  have e2 : ¬ i * 2 + 1 = j * 2 := by omega
  have e3 : ¬ i * 2 = j * 2 + 1 := by omega
  have e4 : ¬ i * 2 + 1 = j * 2 + 1 := by omega
  have e5 : ¬ j * 2 = i * 2 := by omega
  have e6 : ¬ j * 2 = i * 2 + 1 := by omega
  have e7 : ¬ j * 2 + 1 = i * 2 := by omega
  have W0 : ItemsIn ((((w.setCell ⟨G, i * 2, none⟩ (.int .i64 (jc : Int))).setCell ⟨G, i * 2 + 1, none⟩ (.int .i64 (ja : Int))).setCell ⟨G, j * 2, none⟩ (.int .i64 (ic : Int))).setCell ⟨G, j * 2 + 1, none⟩ (.int .i64 (ia : Int))) G cap n (fun k => if k = j then (ic, ia) else if k = i then (jc, ja) else it k) :=
    (hit.put i (jc, ja)).put j (ic, ia)
  have W1 : Hid (ItemsIn (((((w.setCell ⟨G, i * 2, none⟩ (.int .i64 (jc : Int))).setCell ⟨G, i * 2 + 1, none⟩ (.int .i64 (ja : Int))).setCell ⟨G, j * 2, none⟩ (.int .i64 (ic : Int))).setCell ⟨G, j * 2 + 1, none⟩ (.int .i64 (ia : Int))).drew) G cap n (swapIt it i j)) := by
    refine (W0.same fun k _ => ?_).drew
    unfold swapIt
    by_cases k1 : k = i
    · have k3 : ¬ k = j := by omega
      rw [if_neg k3, if_pos k1, if_pos k1, FJ.out]
    · rw [if_neg k1, if_neg k1]
      by_cases k2 : k = j
      · rw [if_pos k2, if_pos k2, FI.out]
      · rw [if_neg k2, if_neg k2]
  have W2 : Hid (Only (fun k => k = G) w (((((w.setCell ⟨G, i * 2, none⟩ (.int .i64 (jc : Int))).setCell ⟨G, i * 2 + 1, none⟩ (.int .i64 (ja : Int))).setCell ⟨G, j * 2, none⟩ (.int .i64 (ic : Int))).setCell ⟨G, j * 2 + 1, none⟩ (.int .i64 (ia : Int))).drew)) := by
    have O0 : Only (fun k => k = G) w w := Only.refl _ w
    exact ((((O0.setCell (p := ⟨G, i * 2, none⟩) (fun _ => rfl) _).setCell (p := ⟨G, i * 2 + 1, none⟩) (fun _ => rfl) _).setCell (p := ⟨G, j * 2, none⟩) (fun _ => rfl) _).setCell (p := ⟨G, j * 2 + 1, none⟩) (fun _ => rfl) _).drew
  clear W0
  clear hh hit hic hia hjc hja
  go_enter Tryd.func110, Tryd.ntmps110
  go_wp2
  go_region
  go_end0
  exact ⟨rfl, W1.out, W2.out⟩

end Go.Proofs.YtaldfpoolajoiaaDoor
