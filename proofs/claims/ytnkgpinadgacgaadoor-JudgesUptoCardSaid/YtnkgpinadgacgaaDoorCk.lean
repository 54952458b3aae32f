/- Walks of ints, same, handedPlan, stillPlan: a list of lists in a list of its own, with spare room; does it read as it did? -/
import Derived.Test.YtnkgpinadgacgaaDoorCb
import Derived.Deep.QuietTactic
import Derived.BigQuiet
namespace Go.Proofs.YtnkgpinadgacgaaDoor
open Go.RowKit M

theorem Tryd.sizeInt : (Tryd.prog.info? 3).map (·.size) = some 1 := by kernel_rfl
theorem Tryd.infoIntList : (Tryd.prog.info? 26).map (fun i => (i.zero, i.size, i.bytes)) = some (some (.slice none 0 0), 1, 24) := by kernel_rfl

def roomI (n : Nat) (x : Nat → Int) (j : Nat) : Int := if j < n then x j else -5

/-- The cells of a list of n numbers and its spare room, as far as k were laid. -/
def rowN (k n : Nat) (x : Nat → Int) (j : Nat) : Value := .int .i64 (if j < k then roomI n x j else 0)

theorem rowN_zero (n : Nat) (x : Nat → Int) (N : Nat) (w : World) (t : TypeId) : (w.alloc (.cells (madeCells #[.int .i64 0] N) t)).rowIs w.heap.size t N (rowN 0 n x) := by
  refine rowIs_made _ _ _ _ fun i _ => ?_
  have : i % 1 = 0 := Nat.mod_one i
  simp [rowN, this]

theorem rowN_at {n k : Nat} {x : Nat → Int} (h : k < n) : rowN (n + 8) n x k = .int .i64 (x k) := by
  unfold rowN roomI
  rw [if_pos (show k < n + 8 by omega), if_pos h]

theorem rowN_room {n k : Nat} {x : Nat → Int} (h : k < n + 8) (h2 : ¬ k < n) : rowN (n + 8) n x k = .int .i64 (-5) := by
  unfold rowN roomI
  rw [if_pos h, if_neg h2]

theorem rowN_copied {w : World} {g n N : Nat} {t : TypeId} {x : Nat → Int} (h : w.rowIs g t N (fun j => if j < n then .int .i64 (x j) else rowN 0 n x j)) : w.rowIs g t N (rowN n n x) := by
  refine h.congr fun i _ => ?_
  unfold rowN roomI
  by_cases e : i < n <;> simp [e]

theorem rowN_fill {w : World} {g n k N : Nat} {t : TypeId} {x : Nat → Int} (h : w.rowIs g t N (rowN k n x)) (hk : n ≤ k) : (w.setCell ⟨g, k, none⟩ (.int .i64 (-5))).rowIs g t N (rowN (k + 1) n x) := by
  refine (h.set k _).congr fun i _ => ?_
  unfold rowN roomI
  by_cases e : i = k
  · subst e
    rw [if_pos rfl, if_pos (by omega), if_neg (by omega)]
  · rw [if_neg e]
    by_cases e3 : i < k
    · rw [if_pos e3, if_pos (show i < k + 1 by omega)]
    · rw [if_neg e3, if_neg (show ¬ i < k + 1 by omega)]

set_option maxRecDepth 100000 in
set_option maxHeartbeats 1000000 in
theorem ints_any (a : Option Addr) (n cap : Nat) (x : Nat → Int) (w : World) (hn : n ≤ 1048576) (ha : NumsAt w a n x) :
    Calls Tryd.prog 78 #[.slice a n cap] w fun e w' => ∃ g, e = .returned (.slice (some ⟨g, 0, none⟩) n (n + 8)) ∧ w.heap.size ≤ g ∧ w'.rowIs g 3 (n + 8) (rowN (n + 8) n x) ∧ Below w.heap.size w w' := by
  have hsrc : 0 < n * 1 → ∃ b off, a = some ⟨b, off, none⟩ ∧ b < w.heap.size ∧ ∀ j, j < n * 1 → w.cell? ⟨b, off + j, none⟩ = some (.int .i64 (x j)) := by
    intro h
    obtain ⟨b, off, hab, hc⟩ := ha (by omega)
    exact ⟨b, off, hab, World.block_lt_of_cell? _ _ (hc 0 (by omega)), fun j hj => hc j (by omega)⟩
  have Hsrc := Hid.mk hsrc
  have hB := Hid.mk ((Below.refl _ w).alloc (Nat.le_refl _) (.cells (madeCells #[Value.int .i64 0] (n + 8)) 3))
  clear hsrc ha
  go_enter Tryd.func78, Tryd.ntmps78
  go_wp2_with (first | (at_make; go_must (refine wpList_make_all _ rfl _ _ 26 rfl 3 _ _ _ Tryd.underlying26 Tryd.infoInt _ _ _ _ (n + 8) rfl rfl (by simp) (by simp) (by omega) (by omega) ?_)) | ((refine wpList_copy_rowsS rfl _ _ _ _ rfl 3 Tryd.underlying26 1 Tryd.sizeInt _ _ _ _ _ _ rfl rfl 3 (n + 8) (rowN 0 n x) (rowN_zero _ _ _ _ _) (n * 1) ?hm ?hmN (fun j => .int .i64 (x j)) (fun _ => rfl) ?hsrc ?_)))
  case hm => show min n (n + 8) * 1 = n * 1; rw [Nat.min_eq_left (by omega)]
  case hmN => omega
  case hsrc =>
    intro h
    obtain ⟨b, off, hab, hbl, hc⟩ := Hsrc.out h
    exact ⟨b, off, hab, fun j hj => cell_later hB.out (hc j hj)⟩
  intro w2 hrow0 hb2 hsz2
  have hrow := rowN_copied hrow0
  have hB2 := Hid.mk (hB.out.trans (hb2.mono (by omega)) : Below w.heap.size w w2)
  clear hb2 hrow0 Hsrc
  have HR := Hid.mk hrow
  clear hrow
  go_wp2
  go_loopw [5] (fun s wr => ∃ k : Nat, n ≤ k ∧ k ≤ n + 8 ∧ s = .int .i64 k ∧ wr.rowIs w.heap.size 3 (n + 8) (rowN k n x) ∧ Below w.heap.size w wr) (fun s _ => n + 8 - (intOf s).toNat)
  case atStart => exact ⟨n, Nat.le_refl _, by omega, rfl, HR.out, hB2.out⟩
  case round =>
    obtain ⟨k, hkn, hk, rfl, hrw, hbr⟩ := hrel
    have HW := Hid.mk hrw
    have HBR := Hid.mk hbr
    have hsz := hrw.lt
    by_cases hlt : k < n + 8
    · have x1 := hrw.cell (i := k) (by omega)
      have x3 := hrw.frozen
      clear hrw hbr
      go_wp2
      go_roundw
      case rel => exact ⟨k + 1, by omega, by omega, by go_num, rowN_fill HW.out hkn, HBR.out.setCell (Nat.le_refl _) _⟩
      case measure => simp [intOf]; omega
    · have hd : k = n + 8 := by omega
      have HW2 : Hid (wr.rowIs w.heap.size 3 (n + 8) (rowN (n + 8) n x)) := by have := HW.out; rw [hd] at this; exact this
      clear hrw hbr hd
      go_wp2
      go_ret
      exact ⟨w.heap.size, rfl, Nat.le_refl _, HW2.out, HBR.out⟩

set_option maxRecDepth 100000 in
set_option maxHeartbeats 1000000 in
theorem same_any (g n : Nat) (a : Option Addr) (cap : Nat) (x : Nat → Int) (w : World) (hn : n ≤ 1048576) (ha : NumsAt w a n x) (hrow : w.rowIs g 3 (n + 8) (rowN (n + 8) n x)) :
    Calls Tryd.prog 80 #[.slice (some ⟨g, 0, none⟩) n (n + 8), .slice a n cap] w fun e w' => e = .returned (.bool true) ∧ w' = w := by
  have HR := Hid.mk hrow
  have HA := Hid.mk ha
  clear hrow ha
  go_enter Tryd.func80, Tryd.ntmps80
  go_wp2
  go_loop [7] (fun s => ∃ k : Nat, k ≤ n + 8 ∧ s = .int .i64 k) (fun s => n + 8 - (intOf s).toNat)
  case atStart => exact ⟨0, Nat.zero_le _, rfl⟩
  case round =>
    obtain ⟨k, hk, rfl⟩ := hrel
    by_cases hlt : k < n + 8
    · have c1 := HR.out.cell (i := k) hlt
      by_cases hkn : k < n
      · obtain ⟨b, off, rfl, hc⟩ := HA.out (by omega)
        have d1 := hc k hkn
        rw [rowN_at hkn] at c1
        clear hc
        go_wp2
        go_round
        case rel => exact ⟨k + 1, by omega, by go_num⟩
        case measure => simp [intOf]; omega
      · rw [rowN_room hlt hkn] at c1
        go_wp2
        go_round
        case rel => exact ⟨k + 1, by omega, by go_num⟩
        case measure => simp [intOf]; omega
    · go_wp2
      go_ret
      exact ⟨rfl, rfl⟩

/-- The cells of the list of lists, as far as k were laid. -/
def planV (k n : Nat) (p : PlanM) (G : Nat → Nat) (j : Nat) : Value := if j < k then (if j < n then .slice (some ⟨G j, 0, none⟩) (p.len j) (p.len j + 8) else .slice (some ⟨G j, 0, none⟩) 1 1) else .slice none 0 0

/-- What stands of a handed plan in memory. -/
structure Handed (wr : World) (g k n : Nat) (p : PlanM) (G : Nat → Nat) : Prop where
  row : wr.rowIs g 26 (n + 8) (planV k n p G)
  lists : ∀ j, j < k → j < n → wr.rowIs (G j) 3 (p.len j + 8) (rowN (p.len j + 8) (p.len j) (p.num j))
  rooms : ∀ j, j < k → ¬ j < n → wr.cell? ⟨G j, 0, none⟩ = some (.int .i64 (-5))
  low : ∀ j, j < k → g < G j

theorem Handed.below {w w' : World} {g k n : Nat} {p : PlanM} {G : Nat → Nat} (h : Handed w g k n p G) (hb : Below w.heap.size w w') : Handed w' g k n p G :=
  ⟨rowIs_below h.row hb, fun j h1 h2 => rowIs_below (h.lists j h1 h2) hb, fun j h1 h2 => cell_later hb (h.rooms j h1 h2), h.low⟩

theorem planV_zero (n : Nat) (p : PlanM) (G : Nat → Nat) (N : Nat) (w : World) (t : TypeId) : (w.alloc (.cells (madeCells #[.slice none 0 0] N) t)).rowIs w.heap.size t N (planV 0 n p G) := by
  refine rowIs_made _ _ _ _ fun i _ => ?_
  have : i % 1 = 0 := Nat.mod_one i
  simp [planV, this]

def extG (G : Nat → Nat) (k g : Nat) (j : Nat) : Nat := if j = k then g else G j

theorem extG_at (G : Nat → Nat) (k g : Nat) : extG G k g k = g := by unfold extG; rw [if_pos rfl]
theorem extG_old {G : Nat → Nat} {k g j : Nat} (h : j ≠ k) : extG G k g j = G j := by unfold extG; rw [if_neg h]

/-- One more place is laid. -/
theorem planV_set {w : World} {g k n : Nat} {p : PlanM} {G : Nat → Nat} {g4 : Nat} {v : Value} (h : w.rowIs g 26 (n + 8) (planV k n p G)) (hv : v = if k < n then .slice (some ⟨g4, 0, none⟩) (p.len k) (p.len k + 8) else .slice (some ⟨g4, 0, none⟩) 1 1) :
    (w.setCell ⟨g, k, none⟩ v).rowIs g 26 (n + 8) (planV (k + 1) n p (extG G k g4)) := by
  refine (h.set k _).congr fun i _ => ?_
  unfold planV
  by_cases e : i = k
  · subst e
    rw [if_pos rfl, if_pos (by omega), extG_at, hv]
  · rw [if_neg e, extG_old e]
    by_cases e3 : i < k
    · rw [if_pos e3, if_pos (show i < k + 1 by omega)]
    · rw [if_neg e3, if_neg (show ¬ i < k + 1 by omega)]

theorem Handed.list {wr w4 : World} {g k n : Nat} {p : PlanM} {G : Nat → Nat} {g4 : Nat} (h : Handed wr g k n p G) (hk : k < n) (hb : Below wr.heap.size wr w4) (hg4 : wr.heap.size ≤ g4) (hrow : w4.rowIs g4 3 (p.len k + 8) (rowN (p.len k + 8) (p.len k) (p.num k))) :
    Handed (w4.setCell ⟨g, k, none⟩ (.slice (some ⟨g4, 0, none⟩) (p.len k) (p.len k + 8))) g (k + 1) n p (extG G k g4) := by
  have hgl := h.row.lt
  have h4 := h.below hb
  refine ⟨planV_set h4.row (by rw [if_pos hk]), fun j h1 h2 => ?_, fun j h1 h2 => by omega, fun j h1 => ?_⟩
  · by_cases e : j = k
    · subst e
      rw [extG_at]
      exact hrow.setOther (by show g4 ≠ g; omega) _
    · rw [extG_old e]
      have hl := h.low j (by omega)
      exact (h4.lists j (by omega) h2).setOther (by show G j ≠ g; omega) _
  · by_cases e : j = k
    · subst e
      rw [extG_at]; omega
    · rw [extG_old e]; exact h.low j (by omega)

theorem Handed.room {wr : World} {g k n : Nat} {p : PlanM} {G : Nat → Nat} (h : Handed wr g k n p G) (hk : ¬ k < n) :
    Handed ((wr.setCell ⟨g, k, none⟩ (.slice (some ⟨wr.heap.size, 0, none⟩) 1 1)).alloc (.cells #[.int .i64 (-5)] 3)) g (k + 1) n p (extG G k wr.heap.size) := by
  have hgl := h.row.lt
  have hsz : (wr.setCell ⟨g, k, none⟩ (.slice (some ⟨wr.heap.size, 0, none⟩) 1 1)).heap.size = wr.heap.size := by simp [World.setCell]
  refine ⟨(planV_set h.row (by rw [if_neg hk])).alloc _, fun j h1 h2 => ?_, fun j h1 h2 => ?_, fun j h1 => ?_⟩
  · have e : j ≠ k := by omega
    rw [extG_old e]
    have hl := h.low j (by omega)
    exact ((h.lists j (by omega) h2).setOther (by show G j ≠ g; omega) _).alloc _
  · by_cases e : j = k
    · subst e
      rw [extG_at, World.cell?_alloc_at _ _ _ _ hsz.symm]; rfl
    · rw [extG_old e]
      have hl := h.low j (by omega)
      have hc := h.rooms j (by omega) h2
      refine cell_later ((Below.refl _ _).alloc (Nat.le_refl _) _) ?_
      rw [World.cell?_setCell_other _ _ _ _ (by intro hh; cases hh; omega)]
      exact hc
  · by_cases e : j = k
    · subst e
      rw [extG_at]; omega
    · rw [extG_old e]; exact h.low j (by omega)

set_option maxRecDepth 100000 in
set_option maxHeartbeats 1000000 in
theorem handedPlan_any (a : Option Addr) (n cap : Nat) (p : PlanM) (w : World) (hn : n ≤ 1048576) (hB : ∀ i, i < n → p.len i ≤ 1048576) (hp : PlanAt w a n p) :
    Calls Tryd.prog 29 #[.slice a n cap] w fun e w' => ∃ g G, e = .returned (.slice (some ⟨g, 0, none⟩) n (n + 8)) ∧ w.heap.size ≤ g ∧ Handed w' g (n + 8) n p G ∧ Below w.heap.size w w' := by
  have HP := Hid.mk hp
  have HB := Hid.mk hB
  have hB0 := Hid.mk ((Below.refl _ w).alloc (Nat.le_refl _) (.cells (madeCells #[Value.slice none 0 0] (n + 8)) 26))
  have ROW0 : Hid ((w.alloc (.cells (madeCells #[Value.slice none 0 0] (n + 8)) 26)).rowIs w.heap.size 26 (n + 8) (planV 0 n p (fun _ => 0))) := by
    exact planV_zero n p (fun _ => 0) (n + 8) w 26
  clear hp hB
  go_enter Tryd.func29, Tryd.ntmps29
  go_wp2_with (at_make; go_must (refine wpList_make_all _ rfl _ _ 35 rfl 26 _ _ _ Tryd.underlying35 Tryd.infoIntList _ _ _ _ (n + 8) rfl rfl (by simp) (by simp) (by omega) (by omega) ?_))
  go_loopw [5] (fun s wr => ∃ (k : Nat) (G : Nat → Nat), k ≤ n ∧ s = .int .i64 k ∧ Handed wr w.heap.size k n p G ∧ Below w.heap.size w wr) (fun s _ => n - (intOf s).toNat)
  case atStart => exact ⟨0, fun _ => 0, Nat.zero_le _, rfl, ⟨ROW0.out, fun j hj => absurd hj (Nat.not_lt_zero j), fun j hj => absurd hj (Nat.not_lt_zero j), fun j hj => absurd hj (Nat.not_lt_zero j)⟩, hB0.out⟩
  case round =>
    obtain ⟨k, G, hk, rfl, hh, hbr⟩ := hrel
    have HH := Hid.mk hh
    have HBR := Hid.mk hbr
    by_cases hlt : k < n
    · obtain ⟨b, off, rfl, hpi⟩ := HP.out (by omega)
      have c1 := cell_later hbr (hpi k hlt).1
      have NI := Hid.mk ((hpi k hlt).2.below hbr)
      have BI := HB.out k hlt
      clear hh hbr hpi
      go_wp2_with fail
      refine (ints_any (p.ad k) (p.len k) (p.cap k) (p.num k) _ BI NI.out).mono ?_
      rintro e w4 ⟨g4, rfl, hg4, hrow4, hb4⟩
      have HH4 := Hid.mk (HH.out.below hb4)
      have HL := Hid.mk (HH.out.list hlt hb4 hg4 hrow4)
      have BR4 : Hid (Below w.heap.size w w4) := HBR.out.trans (hb4.mono HBR.out.size)
      have x1 := HH4.out.row.cell (i := k) (by omega)
      have x3 := HH4.out.row.frozen
      rw [show planV k n p G k = .slice none 0 0 by unfold planV; rw [if_neg (Nat.lt_irrefl k)]] at x1
      clear hb4 hrow4 c1 hg4
      go_wp2
      go_roundw
      case rel => exact ⟨k + 1, extG G k g4, by omega, by go_num, HL.out, BR4.out.setCell (Nat.le_refl _) _⟩
      case measure => simp [intOf]; omega
    · have hd : k = n := by omega
      have HH2 : Hid (Handed wr w.heap.size n n p G) := by have := HH.out; rw [hd] at this; exact this
      clear hh hbr hd HH
      obtain ⟨wm, rfl⟩ : ∃ q, q = wr := ⟨_, rfl⟩
      go_wp2
      go_loopw [6] (fun s wr => ∃ (k : Nat) (G : Nat → Nat), n ≤ k ∧ k ≤ n + 8 ∧ s = .int .i64 k ∧ Handed wr w.heap.size k n p G ∧ Below w.heap.size w wr) (fun s _ => n + 8 - (intOf s).toNat)
      case atStart => exact ⟨n, G, Nat.le_refl _, by omega, rfl, HH2.out, HBR.out⟩
      case round =>
        obtain ⟨k2, G2, hk2n, hk2, rfl, hh, hbr⟩ := hrel
        have HH := Hid.mk hh
        have HBR := Hid.mk hbr
        by_cases hlt2 : k2 < n + 8
        · have hz : w.heap.size < wr.heap.size := hh.row.lt
          have x1 := hh.row.cell (i := k2) (by omega)
          have x3 := hh.row.frozen
          rw [show planV k2 n p G2 k2 = .slice none 0 0 by unfold planV; rw [if_neg (Nat.lt_irrefl k2)]] at x1
          have HR := Hid.mk (HH.out.room (by omega))
          clear hh hbr
          go_wp2
          go_roundw
          case rel => exact ⟨k2 + 1, extG G2 k2 wr.heap.size, by omega, by omega, by go_num, HR.out, (HBR.out.setCell (by show w.heap.size ≤ w.heap.size; omega) _).alloc (by simp [World.setCell]; omega) _⟩
          case measure => simp [intOf]; omega
        · have hd : k2 = n + 8 := by omega
          have HH3 : Hid (Handed wr w.heap.size (n + 8) n p G2) := by have := HH.out; rw [hd] at this; exact this
          clear hh hbr hd
          go_wp2
          go_ret
          exact ⟨w.heap.size, G2, rfl, Nat.le_refl _, HH3.out, HBR.out⟩

set_option maxRecDepth 100000 in
set_option maxHeartbeats 1000000 in
theorem stillPlan_any (g n : Nat) (a : Option Addr) (cap : Nat) (p : PlanM) (G : Nat → Nat) (w : World) (hn : n ≤ 1048576) (hB : ∀ i, i < n → p.len i ≤ 1048576) (hp : PlanAt w a n p) (hh : Handed w g (n + 8) n p G) :
    Calls Tryd.prog 31 #[.slice (some ⟨g, 0, none⟩) n (n + 8), .slice a n cap] w fun e w' => e = .returned (.bool true) ∧ Below w.heap.size w w' := by
  have HP := Hid.mk hp
  have HB := Hid.mk hB
  have HH := Hid.mk hh
  clear hp hB hh
  go_enter Tryd.func31, Tryd.ntmps31
  go_wp2
  go_loopw [7] (fun s wr => ∃ k : Nat, k ≤ n + 8 ∧ s = .int .i64 k ∧ Below w.heap.size w wr) (fun s _ => n + 8 - (intOf s).toNat)
  case atStart => exact ⟨0, Nat.zero_le _, rfl, Below.refl _ _⟩
  case round =>
    obtain ⟨k, hk, rfl, hbr⟩ := hrel
    have HBR := Hid.mk hbr
    clear hbr
    by_cases hlt : k < n + 8
    · have H2 := Hid.mk (HH.out.below HBR.out)
      have c1 := H2.out.row.cell (i := k) hlt
      by_cases hkn : k < n
      · obtain ⟨b, off, rfl, hpi⟩ := HP.out (by omega)
        have d1 := cell_later HBR.out (hpi k hkn).1
        have BI := HB.out k hkn
        have NI := Hid.mk ((hpi k hkn).2.below HBR.out)
        have LI := Hid.mk (H2.out.lists k hlt hkn)
        rw [show planV (n + 8) n p G k = .slice (some ⟨G k, 0, none⟩) (p.len k) (p.len k + 8) by unfold planV; rw [if_pos hlt, if_pos hkn]] at c1
        have CT : Hid (∀ m, Calls Tryd.prog 80 #[.slice (some ⟨G k, 0, none⟩) (p.len k) (p.len k + 8), .slice (p.ad k) (p.len k) (p.cap k)] (wr.drewN m) fun e w' => e = .returned (.bool true) ∧ w' = wr.drewN m) := fun m => same_any (G k) (p.len k) (p.ad k) (p.cap k) (p.num k) _ BI NI.out LI.out
        have CT1 : Hid (Calls Tryd.prog 80 #[.slice (some ⟨G k, 0, none⟩) (p.len k) (p.len k + 8), .slice (p.ad k) (p.len k) (p.cap k)] wr fun e w' => e = .returned (.bool true) ∧ w' = wr) := same_any (G k) (p.len k) (p.ad k) (p.cap k) (p.num k) _ BI NI.out LI.out
        clear hpi
        go_wp2_with fail
        go_quiet ((go_at_call 80; exact Calls.quiet_of_same (by first | exact CT1.out | exact CT.out _)))
        go_wp2
        go_roundw
        case rel => exact ⟨k + 1, by omega, by go_num, below_drewN HBR.out _⟩
        case measure => simp [intOf]; omega
      · have c2 := H2.out.rooms k hlt hkn
        rw [show planV (n + 8) n p G k = .slice (some ⟨G k, 0, none⟩) 1 1 by unfold planV; rw [if_pos hlt, if_neg hkn]] at c1
        go_wp2
        go_roundw
        case rel => exact ⟨k + 1, by omega, by go_num, HBR.out⟩
        case measure => simp [intOf]; omega
    · go_wp2
      go_ret
      exact ⟨rfl, HBR.out⟩

end Go.Proofs.YtnkgpinadgacgaaDoor
