/- Walk of still: the yard that was handed in reads as it did. -/
import Derived.Test.YtaldfpoolajoiaaDoorWe
namespace Go.Proofs.YtaldfpoolajoiaaDoor
open Go.RowKit M

theorem row_cart0 {n k : Nat} {fr to : Nat → Int} (h : k < n) : rowV (n + 8) (roomF n fr to) (k * 2) = .int .i64 (fr k) := by
  unfold rowV roomF
  rw [if_pos (show k * 2 < (n + 8) * 2 by omega), if_pos (show k * 2 < n * 2 by omega), if_pos (show k * 2 % 2 = 0 by omega), show k * 2 / 2 = k by omega]

theorem row_cart1 {n k : Nat} {fr to : Nat → Int} (h : k < n) : rowV (n + 8) (roomF n fr to) (k * 2 + 1) = .int .i64 (to k) := by
  unfold rowV roomF
  rw [if_pos (show k * 2 + 1 < (n + 8) * 2 by omega), if_pos (show k * 2 + 1 < n * 2 by omega), if_neg (show ¬ (k * 2 + 1) % 2 = 0 by omega), show (k * 2 + 1) / 2 = k by omega]

theorem row_room0 {n k : Nat} {fr to : Nat → Int} (h : k < n + 8) (h2 : ¬ k < n) : rowV (n + 8) (roomF n fr to) (k * 2) = .int .i64 (-5) := by
  unfold rowV roomF
  rw [if_pos (show k * 2 < (n + 8) * 2 by omega), if_neg (show ¬ k * 2 < n * 2 by omega)]

theorem row_room1 {n k : Nat} {fr to : Nat → Int} (h : k < n + 8) (h2 : ¬ k < n) : rowV (n + 8) (roomF n fr to) (k * 2 + 1) = .int .i64 (-5) := by
  unfold rowV roomF
  rw [if_pos (show k * 2 + 1 < (n + 8) * 2 by omega), if_neg (show ¬ k * 2 + 1 < n * 2 by omega)]

set_option maxRecDepth 100000 in
set_option maxHeartbeats 400000 in
theorem still_any (ro co bu : Int) (cs : ByteArray) (a : Option Addr) (g n cap : Nat) (fr to : Nat → Int) (w : World) (hn : n * 16 ≤ 140737488351232)
    (ha : 0 < n → ∃ b off, a = some ⟨b, off, none⟩ ∧ CartsIn w b off n fr to) (hrow : w.rowIs g 62 ((n + 8) * 2) (rowV (n + 8) (roomF n fr to))) :
    Calls Tryd.prog 11 #[.agg #[.int .i64 ro, .int .i64 co, .string cs, .slice (some ⟨g, 0, none⟩) n (n + 8), .int .i64 bu], .agg #[.int .i64 ro, .int .i64 co, .string cs, .slice a n cap, .int .i64 bu]] w fun e w' =>
      e = .returned (.bool true) ∧ Below w.heap.size w w' := by
  have hgl := hrow.lt
  have HR := Hid.mk hrow
  have HA := Hid.mk ha
  clear hrow ha
  go_enter Tryd.func11, Tryd.ntmps11
  go_wp2
  go_loopw [7] (fun s wr => ∃ k : Nat, k ≤ n + 8 ∧ s = .int .i64 k ∧ Below (w.heap.size + 2) ((w.alloc (Obj.cells #[.int .i64 ro, .int .i64 co, .string cs, .slice (some ⟨g, 0, none⟩) n (n + 8), .int .i64 bu] 24)).alloc (Obj.cells #[.int .i64 ro, .int .i64 co, .string cs, .slice a n cap, .int .i64 bu] 24)) wr) (fun s _ => n + 8 - (intOf s).toNat)
  case atStart => exact ⟨0, Nat.zero_le _, rfl, Below.refl _ _⟩
  case round =>
    obtain ⟨k, hk, rfl, hbr⟩ := hrel
    have hB := Hid.mk ((((Below.refl _ w).alloc (Nat.le_refl _) _).alloc (by simp) _).trans (hbr.mono (by omega)) : Below w.heap.size w wr)
    have hz1 : w.heap.size + 1 < wr.heap.size := by have := hbr.size; simp at this; omega
    have hz0 : w.heap.size < wr.heap.size := by omega
    have hzg : g < wr.heap.size := by omega
    have HBR := Hid.mk hbr
    by_cases hlt : k < n + 8
    · have c1 := cell_later hB.out (HR.out.cell (i := k * 2) (by omega))
      have c2 := cell_later hB.out (HR.out.cell (i := k * 2 + 1) (by omega))
      by_cases hkn : k < n
      · obtain ⟨b, off, rfl, hcs⟩ := HA.out (by omega)
        have hcs2 := hcs.below hB.out
        have d1 := (hcs2 k hkn).1
        have d2 := (hcs2 k hkn).2
        have hzb : b < wr.heap.size := World.block_lt_of_cell? _ _ d1
        have z3 : wr.cell? ⟨w.heap.size + 1, 3, none⟩ = some (.slice (some ⟨b, off, none⟩) n cap) := by
          rw [hbr.cell (p := ⟨w.heap.size + 1, 3, none⟩) (by show w.heap.size + 1 < _; omega)]; go_simp
        rw [row_cart0 hkn] at c1
        rw [row_cart1 hkn] at c2
        clear hcs hcs2 hbr
        go_wp2
        go_quiet (fail)
        go_wp2
        go_roundw
        case rel => exact ⟨k + 1, by omega, by go_num, below_drewN (HBR.out.alloc (by omega) _) _⟩
        case measure => simp [intOf]; omega
      · rw [row_room0 hlt hkn] at c1
        rw [row_room1 hlt hkn] at c2
        clear hbr
        go_wp2
        go_quiet (fail)
        go_wp2
        go_roundw
        case rel => exact ⟨k + 1, by omega, by go_num, below_drewN (HBR.out.alloc (by omega) _) _⟩
        case measure => simp [intOf]; omega
    · go_wp2
      go_ret
      exact ⟨rfl, hB.out⟩

/-- The handed list's carts lie in memory as carts. -/
theorem row_carts {w : World} {g n : Nat} {t : TypeId} {fr to : Nat → Int} (h : w.rowIs g t ((n + 8) * 2) (rowV (n + 8) (roomF n fr to))) : CartsIn w g 0 n fr to := by
  intro i hi
  have h1 := h.cell (i := i * 2) (by omega)
  have h2 := h.cell (i := i * 2 + 1) (by omega)
  rw [row_cart0 hi] at h1
  rw [row_cart1 hi] at h2
  exact ⟨by simpa using h1, by simpa using h2⟩

theorem rowIs_below {w w' : World} {g : Nat} {t : TypeId} {N : Nat} {f : Nat → Value} (h : w.rowIs g t N f) (hb : Below w.heap.size w w') : w'.rowIs g t N f := h.of_block (hb.block _ h.lt)

theorem opt_below {w w' : World} {a : Option Addr} {n : Nat} {fr to : Nat → Int} (ha : 0 < n → ∃ b off, a = some ⟨b, off, none⟩ ∧ CartsIn w b off n fr to) (hb : Below w.heap.size w w') :
    0 < n → ∃ b off, a = some ⟨b, off, none⟩ ∧ CartsIn w' b off n fr to := by
  intro h
  obtain ⟨b, off, hab, hc⟩ := ha h
  exact ⟨b, off, hab, hc.below hb⟩

end Go.Proofs.YtaldfpoolajoiaaDoor
