/- Walks of handed (the yard with its carts in a list of their own, with spare room) and of still. -/
import Derived.Test.YtaldfpoolajoiaaDoorWaWbWcWd
import Derived.Test.YtaldfpoolajoiaaDoorLa
namespace Go.Proofs.YtaldfpoolajoiaaDoor
open Go.RowKit M

theorem Tryd.infoCart : (Tryd.prog.info? 62).map (fun i => (i.zero, i.size, i.bytes)) = some (some (.agg #[.int .i64 0, .int .i64 0]), 2, 16) := by kernel_rfl
theorem Tryd.sizeCart : (Tryd.prog.info? 62).map (·.size) = some 2 := by kernel_rfl

/-- The cells of a list of n carts and its spare room. -/
def roomF (n : Nat) (fr to : Nat → Int) (j : Nat) : Int := if j < n * 2 then (if j % 2 = 0 then fr (j / 2) else to (j / 2)) else -5

def rowV (k : Nat) (f : Nat → Int) (j : Nat) : Value := .int .i64 (if j < k * 2 then f j else 0)

theorem CartsIn.src {w : World} {b off n : Nat} {fr to : Nat → Int} (h : CartsIn w b off n fr to) : ∀ j, j < n * 2 → w.cell? ⟨b, off + j, none⟩ = some (.int .i64 (roomF n fr to j)) := by
  intro j hj
  have h2 := h (j / 2) (by omega)
  unfold roomF
  rw [if_pos hj]
  by_cases e : j % 2 = 0
  · rw [if_pos e, show off + j = off + j / 2 * 2 by omega]; exact h2.1
  · rw [if_neg e, show off + j = off + j / 2 * 2 + 1 by omega]; exact h2.2

theorem rowV_zero (f : Nat → Int) (N : Nat) (w : World) (t : TypeId) : (w.alloc (.cells (madeCells #[.int .i64 0, .int .i64 0] N) t)).rowIs w.heap.size t N (rowV 0 f) := by
  refine rowIs_made _ _ _ _ fun i _ => ?_
  have : i % 2 = 0 ∨ i % 2 = 1 := by omega
  rcases this with e | e <;> simp [e, rowV]

theorem rowV_at (f : Nat → Int) (N : Nat) (w : World) (t : TypeId) (k : Nat) (hk : k = w.heap.size) : (w.alloc (.cells (madeCells #[.int .i64 0, .int .i64 0] N) t)).rowIs k t N (rowV 0 f) := by
  subst hk; exact rowV_zero f N w t

theorem rowV_copied {w : World} {g n N : Nat} {t : TypeId} {f : Nat → Int} (h : w.rowIs g t N (fun j => if j < n * 2 then .int .i64 (f j) else rowV 0 f j)) : w.rowIs g t N (rowV n f) := by
  refine h.congr fun i _ => ?_
  unfold rowV
  by_cases e : i < n * 2 <;> simp [e]

theorem row_fill {w : World} {g n k N : Nat} {t : TypeId} {fr to : Nat → Int} (h : w.rowIs g t N (rowV k (roomF n fr to))) (hk : n ≤ k) :
    ((w.setCell ⟨g, k * 2, none⟩ (.int .i64 (-5))).setCell ⟨g, k * 2 + 1, none⟩ (.int .i64 (-5))).rowIs g t N (rowV (k + 1) (roomF n fr to)) := by
  refine ((h.set (k * 2) _).set (k * 2 + 1) _).congr fun i _ => ?_
  unfold rowV roomF
  by_cases e1 : i = k * 2 + 1
  · subst e1
    rw [if_pos rfl, if_pos (by omega), if_neg (by omega)]
  · rw [if_neg e1]
    by_cases e2 : i = k * 2
    · subst e2
      rw [if_pos rfl, if_pos (by omega), if_neg (by omega)]
    · rw [if_neg e2]
      by_cases e3 : i < k * 2
      · rw [if_pos e3, if_pos (show i < (k + 1) * 2 by omega)]
      · rw [if_neg e3, if_neg (show ¬ i < (k + 1) * 2 by omega)]

set_option maxRecDepth 100000 in
set_option maxHeartbeats 400000 in
theorem handed_any (ro co bu : Int) (cs : ByteArray) (a : Option Addr) (n cap : Nat) (fr to : Nat → Int) (w : World) (hn : n * 16 ≤ 140737488351232)
    (ha : 0 < n → ∃ b off, a = some ⟨b, off, none⟩ ∧ CartsIn w b off n fr to) :
    Calls Tryd.prog 9 #[.agg #[.int .i64 ro, .int .i64 co, .string cs, .slice a n cap, .int .i64 bu]] w fun e w' =>
      ∃ g, e = .returned (.agg #[.int .i64 ro, .int .i64 co, .string cs, .slice (some ⟨g, 0, none⟩) n (n + 8), .int .i64 bu]) ∧ w.heap.size ≤ g ∧ w'.rowIs g 62 ((n + 8) * 2) (rowV (n + 8) (roomF n fr to)) ∧ Below w.heap.size w w' := by
  have hsrc : 0 < n * 2 → ∃ b off, a = some ⟨b, off, none⟩ ∧ b < w.heap.size ∧ ∀ j, j < n * 2 → w.cell? ⟨b, off + j, none⟩ = some (.int .i64 (roomF n fr to j)) := by
    intro h
    obtain ⟨b, off, hab, hc⟩ := ha (by omega)
    exact ⟨b, off, hab, World.block_lt_of_cell? _ _ (hc 0 (by omega)).1, hc.src⟩
  have Hsrc := Hid.mk hsrc
  clear hsrc ha
  go_enter Tryd.func9, Tryd.ntmps9
  go_wp2_with (first | (at_make; go_must (refine wpList_make_all _ rfl _ _ 22 rfl 62 _ _ _ Tryd.underlying22 Tryd.infoCart _ _ _ _ (n + 8) rfl rfl (by simp) (by simp) (by omega) (by omega) ?_)) | ((refine wpList_copy_rowsS rfl _ _ _ _ rfl 62 Tryd.underlying22 2 Tryd.sizeCart _ _ _ _ _ _ rfl rfl 62 ((n + 8) * 2) (rowV 0 (roomF n fr to)) (rowV_at _ _ _ _ _ (by simp)) (n * 2) ?hm ?hmN (fun j => .int .i64 (roomF n fr to j)) (fun _ => rfl) ?hsrc ?_)))
  case hm => show min n (n + 8) * 2 = n * 2; rw [Nat.min_eq_left (by omega)]
  case hmN => omega
  case hsrc =>
    intro h
    obtain ⟨b, off, hab, hbl, hc⟩ := Hsrc.out h
    exact ⟨b, off, hab, fun j hj => cell_later ((((Below.refl _ _).alloc (Nat.le_refl _) _).alloc (by simp) _).alloc (by simp; omega) _) (hc j hj)⟩
  intro w2 hrow0 hb2 hsz2
  have hrow := rowV_copied hrow0
  have hB := Hid.mk (((((Below.refl _ w).alloc (Nat.le_refl _) _).alloc (by simp) _).alloc (by simp; omega) _).trans (hb2.mono (by omega)) : Below w.heap.size w w2)
  have y0 : ∀ o, w2.cell? ⟨w.heap.size, o, none⟩ = #[Value.int .i64 ro, .int .i64 co, .string cs, .slice a n cap, .int .i64 bu][o]? := by
    intro o
    rw [hb2.cell (p := ⟨w.heap.size, o, none⟩) (by show w.heap.size < _; omega)]; go_simp
  have y00 := y0 0
  have y01 := y0 1
  have y02 := y0 2
  have y03 := y0 3
  have y04 := y0 4
  simp at y00 y01 y02 y03 y04
  have hg0 : ∀ o, w2.frozen? ⟨w.heap.size + 1, o, none⟩ = false := by
    intro o
    rw [hb2.frozen (p := ⟨w.heap.size + 1, o, none⟩) (by show w.heap.size + 1 < _; omega)]; go_simp
  have hgc : ∀ o, w2.cell? ⟨w.heap.size + 1, o, none⟩ = #[Value.int .i64 0, .int .i64 0, .string ⟨#[]⟩, .slice none 0 0, .int .i64 0][o]? := by
    intro o
    rw [hb2.cell (p := ⟨w.heap.size + 1, o, none⟩) (by show w.heap.size + 1 < _; omega)]; go_simp
  have Y0 := Hid.mk y0
  have HF := Hid.mk hg0
  have HC := Hid.mk hgc
  clear y0 y00 y01 y02 y03 y04 hg0 hgc hb2 hrow0 Hsrc
  have HR := Hid.mk hrow
  clear hrow
  go_wp2
  go_loopw [5] (fun s wr => ∃ k : Nat, n ≤ k ∧ k ≤ n + 8 ∧ s = .int .i64 k ∧ wr.rowIs (w.heap.size + 1 + 1) 62 ((n + 8) * 2) (rowV k (roomF n fr to)) ∧ Below (w.heap.size + 1 + 1) w2 wr) (fun s _ => n + 8 - (intOf s).toNat)
  case atStart => exact ⟨n, Nat.le_refl _, by omega, rfl, HR.out, Below.refl _ _⟩
  case round =>
    obtain ⟨k, hkn, hk, rfl, hrw, hbr⟩ := hrel
    have HW := Hid.mk hrw
    have hsz := hrw.lt
    by_cases hlt : k < n + 8
    · have x1 := hrw.cell (i := k * 2) (by omega)
      have x2 := hrw.cell (i := k * 2 + 1) (by omega)
      have x3 := hrw.frozen
      clear hrw
      go_wp2
      go_roundw
      case rel => exact ⟨k + 1, by omega, by omega, by go_num, row_fill HW.out hkn, (hbr.setCell (by simp) _).setCell (by simp) _⟩
      case measure => simp [intOf]; omega
    · have hd : k = n + 8 := by omega
      have x1 : ∀ o, wr.cell? ⟨w.heap.size, o, none⟩ = #[Value.int .i64 ro, .int .i64 co, .string cs, .slice a n cap, .int .i64 bu][o]? := fun o => (hbr.cell (p := ⟨w.heap.size, o, none⟩) (by show w.heap.size < _; omega)).trans (Y0.out o)
      have x2 : ∀ o, wr.cell? ⟨w.heap.size + 1, o, none⟩ = #[Value.int .i64 0, .int .i64 0, .string ⟨#[]⟩, .slice none 0 0, .int .i64 0][o]? := fun o => (hbr.cell (p := ⟨w.heap.size + 1, o, none⟩) (by show w.heap.size + 1 < _; omega)).trans (HC.out o)
      have x3 : ∀ o, wr.frozen? ⟨w.heap.size + 1, o, none⟩ = false := fun o => (hbr.frozen (p := ⟨w.heap.size + 1, o, none⟩) (by show w.heap.size + 1 < _; omega)).trans (HF.out o)
      have hz1 : w.heap.size + 1 < wr.heap.size := by omega
      have hz0 : w.heap.size < wr.heap.size := by omega
      clear hrw
      go_wp2
      refine bodyPost_ret (v := .agg #[.int .i64 ro, .int .i64 co, .string cs, .slice (some ⟨w.heap.size + 1 + 1, 0, none⟩) n (n + 8), .int .i64 bu]) (by simp [results, Tryd.results9]; go_simp) rfl ⟨w.heap.size + 1 + 1, rfl, by omega, ?_, ?_⟩
      · subst hd
        refine World.rowIs.alloc ?_ _
        iterate 5 refine World.rowIs.setOther ?_ (by show w.heap.size + 1 + 1 ≠ w.heap.size + 1; omega) _
        exact HW.out
      · have h0 := hB.out.trans (hbr.mono (by omega))
        refine Below.alloc ?_ (by simp [World.setCell]; omega) _
        iterate 5 refine Below.setCell ?_ (by show w.heap.size ≤ w.heap.size + 1; omega) _
        exact h0

end Go.Proofs.YtaldfpoolajoiaaDoor
