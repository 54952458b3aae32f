/- Walks of handedRules (rules in a list of their own, with spare room) and of stillRules. -/
import Derived.Test.YtaldfpoolajoiaaDoorWf
import Derived.Test.YtaldfpoolajoiaaDoorRc
namespace Go.Proofs.YtaldfpoolajoiaaDoor
open Go.RowKit M

theorem Tryd.infoRule : (Tryd.prog.info? 77).map (fun i => (i.zero, i.size, i.bytes)) = some (some (.agg #[.int .i64 0, .int .i64 0, .int .i64 0, .int .i64 0]), 4, 32) := by kernel_rfl
theorem Tryd.sizeRule : (Tryd.prog.info? 77).map (·.size) = some 4 := by kernel_rfl

/-- A rule's cell of a number. -/
def ruleF (r : RuleM) (j : Nat) : Int := if j = 0 then r.kind else if j = 1 then r.cell else if j = 2 then r.next else r.at'

/-- What the spare room holds. -/
def spareR : RuleM := ⟨-5, 0, 0, -5⟩

/-- The cells of a list of n rules and its spare room. -/
def roomR (n : Nat) (R : Nat → RuleM) (j : Nat) : Int := if j < n * 4 then ruleF (R (j / 4)) (j % 4) else ruleF spareR (j % 4)

def rowR (k : Nat) (f : Nat → Int) (j : Nat) : Value := .int .i64 (if j < k * 4 then f j else 0)

theorem RulesIn.src {w : World} {b off n : Nat} {R : Nat → RuleM} (h : RulesIn w b off n R) : ∀ j, j < n * 4 → w.cell? ⟨b, off + j, none⟩ = some (.int .i64 (roomR n R j)) := by
  intro j hj
  obtain ⟨h0, h1, h2, h3⟩ := h (j / 4) (by omega)
  unfold roomR ruleF
  rw [if_pos hj]
  have hm : j % 4 = 0 ∨ j % 4 = 1 ∨ j % 4 = 2 ∨ j % 4 = 3 := by omega
  rcases hm with e | e | e | e
  · rw [if_pos e, show off + j = off + j / 4 * 4 by omega]; exact h0
  · rw [if_neg (by omega), if_pos e, show off + j = off + j / 4 * 4 + 1 by omega]; exact h1
  · rw [if_neg (by omega), if_neg (by omega), if_pos e, show off + j = off + j / 4 * 4 + 2 by omega]; exact h2
  · rw [if_neg (by omega), if_neg (by omega), if_neg (by omega), show off + j = off + j / 4 * 4 + 3 by omega]; exact h3

theorem rowR_at (f : Nat → Int) (N : Nat) (w : World) (t : TypeId) (k : Nat) (hk : k = w.heap.size) : (w.alloc (.cells (madeCells #[.int .i64 0, .int .i64 0, .int .i64 0, .int .i64 0] N) t)).rowIs k t N (rowR 0 f) := by
  subst hk
  refine rowIs_made _ _ _ _ fun i _ => ?_
  have : i % 4 = 0 ∨ i % 4 = 1 ∨ i % 4 = 2 ∨ i % 4 = 3 := by omega
  rcases this with e | e | e | e <;> simp [e, rowR]

theorem rowR_copied {w : World} {g n N : Nat} {t : TypeId} {f : Nat → Int} (h : w.rowIs g t N (fun j => if j < n * 4 then .int .i64 (f j) else rowR 0 f j)) : w.rowIs g t N (rowR n f) := by
  refine h.congr fun i _ => ?_
  unfold rowR
  by_cases e : i < n * 4 <;> simp [e]

theorem rowR_in {n k : Nat} {R : Nat → RuleM} (j : Nat) (hj : j < 4) (h : k < n) : rowR (n + 8) (roomR n R) (k * 4 + j) = .int .i64 (ruleF (R k) j) := by
  unfold rowR roomR
  rw [if_pos (show k * 4 + j < (n + 8) * 4 by omega), if_pos (show k * 4 + j < n * 4 by omega), show (k * 4 + j) / 4 = k by omega, show (k * 4 + j) % 4 = j by omega]

theorem rowR_room {n k : Nat} {R : Nat → RuleM} (j : Nat) (hj : j < 4) (h : k < n + 8) (h2 : ¬ k < n) : rowR (n + 8) (roomR n R) (k * 4 + j) = .int .i64 (ruleF spareR j) := by
  unfold rowR roomR
  rw [if_pos (show k * 4 + j < (n + 8) * 4 by omega), if_neg (show ¬ k * 4 + j < n * 4 by omega), show (k * 4 + j) % 4 = j by omega]

theorem rowR_fill {w : World} {g n k N : Nat} {t : TypeId} {R : Nat → RuleM} (h : w.rowIs g t N (rowR k (roomR n R))) (hk : n ≤ k) :
    ((((w.setCell ⟨g, k * 4, none⟩ (.int .i64 (-5))).setCell ⟨g, k * 4 + 1, none⟩ (.int .i64 0)).setCell ⟨g, k * 4 + 2, none⟩ (.int .i64 0)).setCell ⟨g, k * 4 + 3, none⟩ (.int .i64 (-5))).rowIs g t N (rowR (k + 1) (roomR n R)) := by
  refine ((((h.set (k * 4) _).set (k * 4 + 1) _).set (k * 4 + 2) _).set (k * 4 + 3) _).congr fun i _ => ?_
  have key : ∀ j, j < 4 → i = k * 4 + j → rowR (k + 1) (roomR n R) i = .int .i64 (ruleF spareR j) := by
    intro j hj e
    unfold rowR roomR
    rw [if_pos (show i < (k + 1) * 4 by omega), if_neg (show ¬ i < n * 4 by omega), show i % 4 = j by omega]
  by_cases e3 : i = k * 4 + 3
  · rw [if_pos e3, key 3 (by omega) e3]; rfl
  · rw [if_neg e3]
    by_cases e2 : i = k * 4 + 2
    · rw [if_pos e2, key 2 (by omega) e2]; rfl
    · rw [if_neg e2]
      by_cases e1 : i = k * 4 + 1
      · rw [if_pos e1, key 1 (by omega) e1]; rfl
      · rw [if_neg e1]
        by_cases e0 : i = k * 4
        · rw [if_pos e0, key 0 (by omega) e0]; rfl
        · rw [if_neg e0]
          unfold rowR
          by_cases e : i < k * 4
          · rw [if_pos e, if_pos (show i < (k + 1) * 4 by omega)]
          · rw [if_neg e, if_neg (show ¬ i < (k + 1) * 4 by omega)]

set_option maxRecDepth 100000 in
set_option maxHeartbeats 400000 in
theorem handedRules_any (a : Option Addr) (n cap : Nat) (R : Nat → RuleM) (w : World) (hn : n * 32 ≤ 140737488351232) (ha : RulesAt w a n R) :
    Calls Tryd.prog 16 #[.slice a n cap] w fun e w' =>
      ∃ g, e = .returned (.slice (some ⟨g, 0, none⟩) n (n + 8)) ∧ w.heap.size ≤ g ∧ w'.rowIs g 77 ((n + 8) * 4) (rowR (n + 8) (roomR n R)) ∧ Below w.heap.size w w' := by
  have hsrc : 0 < n * 4 → ∃ b off, a = some ⟨b, off, none⟩ ∧ b < w.heap.size ∧ ∀ j, j < n * 4 → w.cell? ⟨b, off + j, none⟩ = some (.int .i64 (roomR n R j)) := by
    intro h
    obtain ⟨b, off, hab, hc⟩ := ha (by omega)
    exact ⟨b, off, hab, World.block_lt_of_cell? _ _ (hc 0 (by omega)).1, hc.src⟩
  have Hsrc := Hid.mk hsrc
  clear hsrc ha
  go_enter Tryd.func16, Tryd.ntmps16
  go_wp2_with (first | (at_make; go_must (refine wpList_make_all _ rfl _ _ 38 rfl 77 _ _ _ Tryd.underlying38 Tryd.infoRule _ _ _ _ (n + 8) rfl rfl (by simp) (by simp) (by omega) (by omega) ?_)) | ((refine wpList_copy_rowsS rfl _ _ _ _ rfl 77 Tryd.underlying38 4 Tryd.sizeRule _ _ _ _ _ _ rfl rfl 77 ((n + 8) * 4) (rowR 0 (roomR n R)) (rowR_at _ _ _ _ _ (by simp)) (n * 4) ?hm ?hmN (fun j => .int .i64 (roomR n R j)) (fun _ => rfl) ?hsrc ?_)))
  case hm => show min n (n + 8) * 4 = n * 4; rw [Nat.min_eq_left (by omega)]
  case hmN => omega
  case hsrc =>
    intro h
    obtain ⟨b, off, hab, hbl, hc⟩ := Hsrc.out h
    exact ⟨b, off, hab, fun j hj => cell_later ((Below.refl _ _).alloc (Nat.le_refl _) _) (hc j hj)⟩
  intro w2 hrow0 hb2 hsz2
  have hrow := rowR_copied hrow0
  have hB := Hid.mk (((Below.refl _ w).alloc (Nat.le_refl _) _).trans (hb2.mono (by omega)) : Below w.heap.size w w2)
  clear hb2 hrow0 Hsrc
  have HR := Hid.mk hrow
  clear hrow
  go_wp2
  go_loopw [5] (fun s wr => ∃ k : Nat, n ≤ k ∧ k ≤ n + 8 ∧ s = .int .i64 k ∧ wr.rowIs w.heap.size 77 ((n + 8) * 4) (rowR k (roomR n R)) ∧ Below w.heap.size w2 wr) (fun s _ => n + 8 - (intOf s).toNat)
  case atStart => exact ⟨n, Nat.le_refl _, by omega, rfl, HR.out, Below.refl _ _⟩
  case round =>
    obtain ⟨k, hkn, hk, rfl, hrw, hbr⟩ := hrel
    have HW := Hid.mk hrw
    have hsz := hrw.lt
    by_cases hlt : k < n + 8
    · have x1 := hrw.cell (i := k * 4) (by omega)
      have x2 := hrw.cell (i := k * 4 + 1) (by omega)
      have x3 := hrw.cell (i := k * 4 + 2) (by omega)
      have x4 := hrw.cell (i := k * 4 + 3) (by omega)
      have x5 := hrw.frozen
      clear hrw
      go_wp2
      go_roundw
      case rel => exact ⟨k + 1, by omega, by omega, by go_num, rowR_fill HW.out hkn, (((hbr.setCell (by simp) _).setCell (by simp) _).setCell (by simp) _).setCell (by simp) _⟩
      case measure => simp [intOf]; omega
    · have hd : k = n + 8 := by omega
      subst hd
      clear hrw
      go_wp2
      go_ret
      exact ⟨w.heap.size, rfl, Nat.le_refl _, HW.out, hB.out.trans hbr⟩

set_option maxRecDepth 100000 in
set_option maxHeartbeats 1000000 in
theorem stillRules_any (a : Option Addr) (g n cap : Nat) (R : Nat → RuleM) (w : World) (hn : n * 32 ≤ 140737488351232) (ha : RulesAt w a n R) (hrow : w.rowIs g 77 ((n + 8) * 4) (rowR (n + 8) (roomR n R))) :
    Calls Tryd.prog 18 #[.slice (some ⟨g, 0, none⟩) n (n + 8), .slice a n cap] w fun e w' => e = .returned (.bool true) ∧ Below w.heap.size w w' := by
  have hgl := hrow.lt
  have HR := Hid.mk hrow
  have HA := Hid.mk ha
  clear hrow ha
  go_enter Tryd.func18, Tryd.ntmps18
  go_wp2
  go_loopw [7] (fun s wr => ∃ k : Nat, k ≤ n + 8 ∧ s = .int .i64 k ∧ Below w.heap.size w wr) (fun s _ => n + 8 - (intOf s).toNat)
  case atStart => exact ⟨0, Nat.zero_le _, rfl, Below.refl _ _⟩
  case round =>
    obtain ⟨k, hk, rfl, hbr⟩ := hrel
    have hzg : g < wr.heap.size := Nat.lt_of_lt_of_le hgl hbr.size
    have HBR := Hid.mk hbr
    by_cases hlt : k < n + 8
    · have c0 := cell_later hbr (HR.out.cell (i := k * 4) (by omega))
      have c1 := cell_later hbr (HR.out.cell (i := k * 4 + 1) (by omega))
      have c2 := cell_later hbr (HR.out.cell (i := k * 4 + 2) (by omega))
      have c3 := cell_later hbr (HR.out.cell (i := k * 4 + 3) (by omega))
      by_cases hkn : k < n
      · obtain ⟨b, off, rfl, hcs⟩ := HA.out (by omega)
        obtain ⟨d0, d1, d2, d3⟩ := hcs k hkn
        have d0 := cell_later hbr d0
        have d1 := cell_later hbr d1
        have d2 := cell_later hbr d2
        have d3 := cell_later hbr d3
        have hzb : b < wr.heap.size := World.block_lt_of_cell? _ _ d0
        rw [show k * 4 = k * 4 + 0 from rfl, rowR_in 0 (by omega) hkn] at c0
        rw [rowR_in 1 (by omega) hkn] at c1
        rw [rowR_in 2 (by omega) hkn] at c2
        rw [rowR_in 3 (by omega) hkn] at c3
        simp only [ruleF, if_false, Nat.add_zero, Nat.reduceEqDiff, if_pos] at c0 c1 c2 c3
        clear hcs hbr
        go_wp2
        go_quiet (fail)
        go_wp2
        go_roundw
        case rel => exact ⟨k + 1, by omega, by go_num, below_drewN (HBR.out.alloc HBR.out.size _) _⟩
        case measure => simp [intOf]; omega
      · rw [show k * 4 = k * 4 + 0 from rfl, rowR_room 0 (by omega) hlt hkn] at c0
        rw [rowR_room 1 (by omega) hlt hkn] at c1
        rw [rowR_room 2 (by omega) hlt hkn] at c2
        rw [rowR_room 3 (by omega) hlt hkn] at c3
        simp only [ruleF, spareR, if_false, Nat.add_zero, Nat.reduceEqDiff, if_pos] at c0 c1 c2 c3
        clear hbr
        go_wp2
        go_quiet (fail)
        go_wp2
        go_roundw
        case rel => exact ⟨k + 1, by omega, by go_num, below_drewN (HBR.out.alloc HBR.out.size _) _⟩
        case measure => simp [intOf]; omega
    · go_wp2
      go_ret
      exact ⟨rfl, HBR.out⟩

/-- The handed list's rules lie in memory as rules. -/
theorem row_rules {w : World} {g n : Nat} {t : TypeId} {R : Nat → RuleM} (h : w.rowIs g t ((n + 8) * 4) (rowR (n + 8) (roomR n R))) : RulesIn w g 0 n R := by
  intro i hi
  have c0 := h.cell (i := i * 4 + 0) (by omega)
  have c1 := h.cell (i := i * 4 + 1) (by omega)
  have c2 := h.cell (i := i * 4 + 2) (by omega)
  have c3 := h.cell (i := i * 4 + 3) (by omega)
  rw [rowR_in 0 (by omega) hi] at c0
  rw [rowR_in 1 (by omega) hi] at c1
  rw [rowR_in 2 (by omega) hi] at c2
  rw [rowR_in 3 (by omega) hi] at c3
  exact ⟨by simpa [ruleF] using c0, by simpa [ruleF] using c1, by simpa [ruleF] using c2, by simpa [ruleF] using c3⟩

end Go.Proofs.YtaldfpoolajoiaaDoor
