/- Several texts in one: Pa. -/
import Derived.Test.YtnkgpinadgacgabDoorMjl
import Derived.Test.YtnkgpinadgacgabDoorMjn
import Derived.Deep.QuietTactic
import Derived.BigQuiet
import Derived.Deep.RegionHeld3
namespace Go.Proofs.YtnkgpinadgacgabDoor
open Go.RowKit M
namespace M
theorem timesF_mem {lvl i k : Nat} {X Y : Nat → Int} {x : FaultM} : ∀ {T : Nat}, x ∈ timesF lvl i k X Y T ↔ ∃ t, t < T ∧ pairB lvl (X t) (Y t) (X (t + 1)) (Y (t + 1)) = true ∧ x = ⟨lvl, i, k, t⟩
  | 0 => by simp [timesF]
  | T + 1 => by
    simp only [timesF, List.mem_append]
    rw [timesF_mem (T := T)]
    constructor
    · rintro (⟨t, h1, h2, h3⟩ | h)
      · exact ⟨t, by omega, h2, h3⟩
      · by_cases e : pairB lvl (X T) (Y T) (X (T + 1)) (Y (T + 1)) = true
        · rw [if_pos e, List.mem_singleton] at h
          exact ⟨T, Nat.lt_succ_self T, e, h⟩
        · rw [if_neg e] at h; cases h
    · rintro ⟨t, h1, h2, h3⟩
      by_cases e : t = T
      · subst e
        right
        rw [if_pos h2, List.mem_singleton]; exact h3
      · exact .inl ⟨t, by omega, h2, h3⟩

theorem othersF_mem {lvl i : Nat} {len : Nat → Nat} {num : Nat → Nat → Int} {x : FaultM} : ∀ {n : Nat}, x ∈ othersF lvl i len num n ↔ ∃ k, k < n ∧ i < k ∧ x ∈ timesF lvl i k (posM (len i) (num i)) (posM (len k) (num k)) (spanM (len i) (len k))
  | 0 => by simp [othersF]
  | n + 1 => by
    simp only [othersF, List.mem_append]
    rw [othersF_mem (n := n)]
    constructor
    · rintro (⟨k, h1, h2, h3⟩ | h)
      · exact ⟨k, by omega, h2, h3⟩
      · by_cases e : i < n
        · rw [if_pos e] at h
          exact ⟨n, Nat.lt_succ_self n, e, h⟩
        · rw [if_neg e] at h; cases h
    · rintro ⟨k, h1, h2, h3⟩
      by_cases e : k = n
      · subst e
        right
        rw [if_pos h2]; exact h3
      · exact .inl ⟨k, by omega, h2, h3⟩

theorem pairsF_mem {lvl n : Nat} {len : Nat → Nat} {num : Nat → Nat → Int} {x : FaultM} : ∀ {m : Nat}, x ∈ pairsF lvl n len num m ↔ ∃ i, i < m ∧ x ∈ othersF lvl i len num n
  | 0 => by simp [pairsF]
  | m + 1 => by
    simp only [pairsF, List.mem_append]
    rw [pairsF_mem (m := m)]
    constructor
    · rintro (⟨i, h1, h2⟩ | h)
      · exact ⟨i, by omega, h2⟩
      · exact ⟨m, Nat.lt_succ_self m, h⟩
    · rintro ⟨i, h1, h2⟩
      by_cases e : i = m
      · subst e; exact .inr h2
      · exact .inl ⟨i, by omega, h2⟩

/-- Do carts i and k have a fault of a level at an instant? -/
def faultB (lvl : Nat) (len : Nat → Nat) (num : Nat → Nat → Int) (i k t : Nat) : Bool :=
  decide (i < k) && (decide (t < spanM (len i) (len k)) && pairB lvl (posM (len i) (num i) t) (posM (len k) (num k) t) (posM (len i) (num i) (t + 1)) (posM (len k) (num k) (t + 1)))

theorem pairs_fault {lvl n i k t : Nat} {len : Nat → Nat} {num : Nat → Nat → Int} (hk : k < n) : faultB lvl len num i k t = true ↔ (⟨lvl, i, k, t⟩ : FaultM) ∈ pairsF lvl n len num n := by
  unfold faultB
  simp only [Bool.and_eq_true, decide_eq_true_eq]
  rw [pairsF_mem]
  constructor
  · rintro ⟨h1, h2, h3⟩
    exact ⟨i, by omega, othersF_mem.2 ⟨k, hk, h1, timesF_mem.2 ⟨t, h2, h3, rfl⟩⟩⟩
  · rintro ⟨i', h1, h2⟩
    obtain ⟨k', h3, h4, h5⟩ := othersF_mem.1 h2
    obtain ⟨t', h6, h7, h8⟩ := timesF_mem.1 h5
    simp only [FaultM.mk.injEq] at h8
    obtain ⟨_, e1, e2, e3⟩ := h8
    have e1 : i = i' := by omega
    have e2 : k = k' := by omega
    have e3 : t = t' := by omega
    subst e1 e2 e3
    exact ⟨h4, h6, h7⟩

theorem pairs_form {lvl n : Nat} {len : Nat → Nat} {num : Nat → Nat → Int} {x : FaultM} (h : x ∈ pairsF lvl n len num n) : ∃ i k t : Nat, i < k ∧ k < n ∧ x = ⟨lvl, i, k, t⟩ ∧ faultB lvl len num i k t = true := by
  obtain ⟨i, h1, h2⟩ := pairsF_mem.1 h
  obtain ⟨k, h3, h4, h5⟩ := othersF_mem.1 h2
  obtain ⟨t, h6, h7, h8⟩ := timesF_mem.1 h5
  exact ⟨i, k, t, h4, h3, h8, (pairs_fault h3).2 (by rw [← h8]; exact h)⟩

theorem cells_level {co : Int} {cs : ByteArray} {i n : Nat} {x : Nat → Int} {y : FaultM} : ∀ {t : Nat}, y ∈ cellsF co cs i n x t → y.level = 1
  | 0, h => by simp [cellsF] at h
  | t + 1, h => by
    simp only [cellsF, List.mem_append] at h
    rcases h with h | h
    · exact cells_level h
    · by_cases e : M.stepB co cs n x t = true
      · rw [if_pos e, List.mem_singleton] at h
        subst h; rfl
      · rw [if_neg e] at h; cases h

theorem steps_level {co : Int} {cs : ByteArray} {len : Nat → Nat} {num : Nat → Nat → Int} {y : FaultM} : ∀ {n : Nat}, y ∈ stepsF co cs len num n → y.level = 1
  | 0, h => by simp [stepsF] at h
  | n + 1, h => by
    simp only [stepsF, List.mem_append] at h
    rcases h with h | h
    · exact steps_level h
    · exact cells_level h

theorem spanZ {n m : Nat} (h : n = 0 ∨ m = 0) : spanM n m = 0 := by unfold spanM; rw [if_pos h]

theorem spanX {n m : Nat} (h : ¬ (n = 0 ∨ m = 0)) : spanM n m = max n m := by unfold spanM; rw [if_neg h]

/-- The faults of a level that are its own. -/
def ownL (l : Nat) (co : Int) (cs : ByteArray) (n : Nat) (len : Nat → Nat) (num : Nat → Nat → Int) : List FaultM := if l = 1 then stepsF co cs len num n else pairsF l n len num n

theorem allF_split {l : Nat} {co : Int} {cs : ByteArray} {fr tt : Nat → Int} {n : Nat} {len : Nat → Nat} {num : Nat → Nat → Int} (h1 : 1 ≤ l) (h3 : l ≤ 3) : allF l co cs fr tt n len num = ownL l co cs n len num ++ allF (l - 1) co cs fr tt n len num := by
  have e : l = 1 ∨ l = 2 ∨ l = 3 := by omega
  rcases e with e | e | e <;> subst e <;> simp [allF, ownL]

end M
theorem whereI_any (a : Option Addr) (n cap t : Nat) (t' : Int) (x : Nat → Int) (w : World) (et : t' = (t : Int)) (hn : n ≤ 1048576) (h0 : 0 < n) (hx : NumsAt w a n x) :
    Calls Tryd.prog 44 #[.slice a n cap, .int .i64 t'] w fun e w' => e = .returned (.int .i64 (posM n x t)) ∧ w' = w := by
  subst et
  obtain ⟨b, off, rfl, hc⟩ := hx h0
  have HC := Hid.mk hc
  clear hc hx
  go_enter Tryd.func44, Tryd.ntmps44
  by_cases h : t < n
  · have c := HC.out t h
    have hw : Hid (posM n x t = x t) := by unfold Hid posM; rw [if_pos h]
    have hlt : (t : Int) < (n : Int) := by omega
    go_wp2
    go_ret
    exact ⟨ret_int (by rw [hw.out]), rfl⟩
  · obtain ⟨n1, hn1⟩ : ∃ n1, n1 = n - 1 := ⟨_, rfl⟩
    have c := HC.out (n - 1) (by omega)
    rw [← hn1] at c
    have hw : Hid (posM n x t = x n1) := by unfold Hid posM; rw [if_neg h, hn1]
    have hlt : ¬ (t : Int) < (n : Int) := by omega
    have hwr : IntKind.i64.wrap ((n : Int) - 1) = (n1 : Int) := by rw [IntKind.wrap_i64]; omega
    have hlt2 : (n1 : Int) < (n : Int) := by omega
    have hlt3 : n1 < n := by omega
    clear hn1
    go_wp2
    go_ret
    exact ⟨ret_int (by rw [hw.out]), rfl⟩

set_option maxRecDepth 100000 in
set_option maxHeartbeats 8000000 in
theorem faulty_any (l i k t n cap : Nat) (ap : Option Addr) (p : PlanM) (w : World) (hl : l = 2 ∨ l = 3) (hi : i < n) (hk : k < n) (ht : t ≤ 1048576) (hB : ∀ i, i < n → p.len i ≤ 1048576) (hp : PlanAt w ap n p) :
    Calls Tryd.prog 23 #[.slice ap n cap, .agg #[.int .i64 (l : Nat), .int .i64 (i : Nat), .int .i64 (k : Nat), .int .i64 (t : Nat)]] w fun e w' => e = .returned (.bool (faultB l p.len p.num i k t)) ∧ Below w.heap.size w w' := by
  obtain ⟨b, off, rfl, hpi⟩ := hp (by omega)
  have HPW := Hid.mk hpi
  have HB := Hid.mk hB
  have HL := Hid.mk hl
  clear hp hpi hB hl
  go_enter Tryd.func23, Tryd.ntmps23
  obtain ⟨w1, hw1⟩ : ∃ q, q = w.alloc (Obj.cells #[.int .i64 (l : Nat), .int .i64 (i : Nat), .int .i64 (k : Nat), .int .i64 (t : Nat)] 55) := ⟨_, rfl⟩
  have BW : Hid (Below w.heap.size w w1) := by unfold Hid; rw [hw1]; exact (Below.refl _ w).alloc (Nat.le_refl _) _
  have X1 : Hid (∀ o, w1.cell? ⟨w.heap.size, o, none⟩ = #[Value.int .i64 (l : Nat), .int .i64 (i : Nat), .int .i64 (k : Nat), .int .i64 (t : Nat)][o]?) := by
    unfold Hid; intro o; rw [hw1]; go_simp
  have hzH : w.heap.size < w1.heap.size := by rw [hw1]; simp
  have HP : Hid (PlanIn w1 b off n p) := HPW.out.below BW.out
  have hbl : b < w1.heap.size := World.block_lt_of_cell? (a := ⟨b, off + i, none⟩) w1 (HP.out i hi).1
  have B1 : Hid (Below w1.heap.size w1 w1) := Below.refl _ _
  go_upto_region 1 with fail
  rw [← hw1]
  clear hw1
  have x0 := X1.out 0
  have x1 := X1.out 1
  have x2 := X1.out 2
  have x3 := X1.out 3
  simp only [List.getElem?_toArray, List.getElem?_cons_zero, List.getElem?_cons_succ] at x0 x1 x2 x3
  have pci := (HP.out i hi).1
  have pck := (HP.out k hk).1
  have iI : ¬ (i : Int) < 0 := by omega
  have tI : ¬ (t : Int) < 0 := by omega
  have iN : (i : Int) < (n : Int) := by omega
  have kN : (k : Int) < (n : Int) := by omega
  have kN2 : ¬ (n : Int) ≤ (k : Int) := by omega
  by_cases hik : i < k
  · have hikI : ¬ (k : Int) ≤ (i : Int) := by omega
    by_cases hli0 : p.len i = 0
    · have e0 : ((p.len i : Int) == 0) = true := by simp [hli0]
      have RES : Hid (faultB l p.len p.num i k t = false) := by unfold Hid faultB; rw [spanZ (.inl hli0)]; simp
      have E := Hid.mk hli0
      clear hli0
      go_wp2_with fail
      go_ret
      exact ⟨ret_bool RES.out.symm, BW.out⟩
    · have e0 : ((p.len i : Int) == 0) = false := by simp; omega
      by_cases hlk0 : p.len k = 0
      · have e1 : ((p.len k : Int) == 0) = true := by simp [hlk0]
        have RES : Hid (faultB l p.len p.num i k t = false) := by unfold Hid faultB; rw [spanZ (.inr hlk0)]; simp
        have E := Hid.mk hlk0
        clear hlk0
        go_wp2_with fail
        go_ret
        exact ⟨ret_bool RES.out.symm, BW.out⟩
      · have e1 : ((p.len k : Int) == 0) = false := by simp; omega
        have hli : 0 < p.len i := by omega
        have hlk : 0 < p.len k := by omega
        have HLI := Hid.mk hli0
        have HLK := Hid.mk hlk0
        clear hli0 hlk0
        go_upto_region 3 with fail
        by_cases hsp : t < spanM (p.len i) (p.len k)
        · have hsp2 : t < p.len i ∨ t < p.len k := by
            rw [spanX (by have := HLI.out; have := HLK.out; omega)] at hsp
            omega
          have HSP := Hid.mk hsp
          go_cut [68] (fun v wx => v = .bool false ∧ Below w1.heap.size w1 wx)
          case first =>
            by_cases h1 : t < p.len i
            · have h1I : ¬ (p.len i : Int) ≤ (t : Int) := by omega
              have h1b : decide ((p.len i : Int) ≤ (t : Int)) = false := by simp; omega
              have h1n : decide (p.len i ≤ t) = false := by simp; omega
              clear hsp2 hsp
              go_quiet (fail)
              all_goals (try go_wp2_with fail)
              all_goals go_meet
              all_goals (case rel => exact ⟨rfl, below_drewN B1.out _⟩)
            · have h1I : (p.len i : Int) ≤ (t : Int) := by omega
              have h1b : decide ((p.len i : Int) ≤ (t : Int)) = true := by simp; omega
              have h1n : decide (p.len i ≤ t) = true := by simp; omega
              have h2I : ¬ (p.len k : Int) ≤ (t : Int) := by omega
              have h2b : decide ((p.len k : Int) ≤ (t : Int)) = false := by simp; omega
              have h2n : decide (p.len k ≤ t) = false := by simp; omega
              clear hsp2 hsp
              go_quiet (fail)
              all_goals (try go_wp2_with fail)
              all_goals go_meet
              all_goals (case rel => exact ⟨rfl, below_drewN B1.out _⟩)
          case rest =>
            obtain ⟨w2, rfl⟩ : ∃ q, q = wc := ⟨_, rfl⟩
            obtain ⟨rfl, hb2⟩ := hcut
            have B2 := Hid.mk hb2
            clear hb2 x0 x1 x2 x3 pci pck hsp hsp2
            obtain ⟨A, hA⟩ : ∃ q, q = posM (p.len i) (p.num i) t := ⟨_, rfl⟩
            obtain ⟨B, hB⟩ : ∃ q, q = posM (p.len k) (p.num k) t := ⟨_, rfl⟩
            obtain ⟨C, hC⟩ : ∃ q, q = posM (p.len i) (p.num i) (t + 1) := ⟨_, rfl⟩
            obtain ⟨D, hD⟩ : ∃ q, q = posM (p.len k) (p.num k) (t + 1) := ⟨_, rfl⟩
            have RES : Hid (faultB l p.len p.num i k t = pairB l A B C D) := by
              unfold Hid faultB
              rw [decide_eq_true hik, decide_eq_true HSP.out, hA, hB, hC, hD]; rfl
            have HA := Hid.mk hA
            have HBB := Hid.mk hB
            have HC := Hid.mk hC
            have HD := Hid.mk hD
            have hwt : IntKind.i64.wrap ((t : Int) + 1) = (t : Int) + 1 := by rw [IntKind.wrap_i64]; omega
            clear hA hB hC hD
            have WI5 : Hid (Calls Tryd.prog 44 #[.slice (p.ad i) (p.len i) (p.cap i), .int .i64 (t : Int)] w2.drew fun e w' => e = .returned (.int .i64 A) ∧ w' = w2.drew) := by
              unfold Hid
              rw [HA.out]
              exact whereI_any (p.ad i) (p.len i) (p.cap i) t (t : Int) (p.num i) w2.drew rfl (HB.out i hi) hli ((HP.out i hi).2.below ((B2.out).drew))
            have x1 := (B2.out.cell (p := ⟨w.heap.size, 1, none⟩) hzH).trans (X1.out 1)
            have x3 := (B2.out.cell (p := ⟨w.heap.size, 3, none⟩) hzH).trans (X1.out 3)
            simp only [List.getElem?_toArray, List.getElem?_cons_zero, List.getElem?_cons_succ] at x1 x3
            have pc := (B2.out.cell (p := ⟨b, off + i, none⟩) hbl).trans (HP.out i hi).1
            go_upto_region 5 with fail
            go_cut [5] (fun v wx => v = .int .i64 A ∧ Below w1.heap.size w1 wx)
            case first =>
              go_region_held3 (fun w' => w'.cell? ⟨w.heap.size, 1, none⟩ = some (.int .i64 (i : Nat)) ∧ w'.cell? ⟨w.heap.size, 3, none⟩ = some (.int .i64 (t : Nat)) ∧ w'.cell? ⟨b, off + i, none⟩ = some (.slice (p.ad i) (p.len i) (p.cap i))) (go_keep)
                (first
                  | (go_at_call 44; refine (WI5.out).mono ?_; rintro e w9 ⟨rfl, hw9⟩; have hw9 := hw9.symm; subst hw9; have y1 : (w2.drew).cell? ⟨w.heap.size, 1, none⟩ = some (.int .i64 (i : Nat)) := x1; have y2 : (w2.drew).cell? ⟨w.heap.size, 3, none⟩ = some (.int .i64 (t : Nat)) := x3; have y3 : (w2.drew).cell? ⟨b, off + i, none⟩ = some (.slice (p.ad i) (p.len i) (p.cap i)) := pc))
              all_goals (try go_wp2_with fail)
              all_goals go_meet
              all_goals (case rel => exact ⟨rfl, B2.out.drew⟩)
            case rest =>
              obtain ⟨w3, rfl⟩ : ∃ q, q = wc := ⟨_, rfl⟩
              obtain ⟨rfl, hb3⟩ := hcut
              have B3 := Hid.mk hb3
              clear hb3 x1 x3 pc WI5
              have WI6 : Hid (Calls Tryd.prog 44 #[.slice (p.ad k) (p.len k) (p.cap k), .int .i64 (t : Int)] w3.drew fun e w' => e = .returned (.int .i64 B) ∧ w' = w3.drew) := by
                unfold Hid
                rw [HBB.out]
                exact whereI_any (p.ad k) (p.len k) (p.cap k) t (t : Int) (p.num k) w3.drew rfl (HB.out k hk) hlk ((HP.out k hk).2.below ((B3.out).drew))
              have x2 := (B3.out.cell (p := ⟨w.heap.size, 2, none⟩) hzH).trans (X1.out 2)
              have x3 := (B3.out.cell (p := ⟨w.heap.size, 3, none⟩) hzH).trans (X1.out 3)
              simp only [List.getElem?_toArray, List.getElem?_cons_zero, List.getElem?_cons_succ] at x2 x3
              have pc := (B3.out.cell (p := ⟨b, off + k, none⟩) hbl).trans (HP.out k hk).1
              go_upto_region 6 with fail
              go_cut [6] (fun v wx => v = .int .i64 B ∧ Below w1.heap.size w1 wx)
              case first =>
                go_region_held3 (fun w' => w'.cell? ⟨w.heap.size, 2, none⟩ = some (.int .i64 (k : Nat)) ∧ w'.cell? ⟨w.heap.size, 3, none⟩ = some (.int .i64 (t : Nat)) ∧ w'.cell? ⟨b, off + k, none⟩ = some (.slice (p.ad k) (p.len k) (p.cap k))) (go_keep)
                  (first
                    | (go_at_call 44; refine (WI6.out).mono ?_; rintro e w9 ⟨rfl, hw9⟩; have hw9 := hw9.symm; subst hw9; have y1 : (w3.drew).cell? ⟨w.heap.size, 2, none⟩ = some (.int .i64 (k : Nat)) := x2; have y2 : (w3.drew).cell? ⟨w.heap.size, 3, none⟩ = some (.int .i64 (t : Nat)) := x3; have y3 : (w3.drew).cell? ⟨b, off + k, none⟩ = some (.slice (p.ad k) (p.len k) (p.cap k)) := pc))
                all_goals (try go_wp2_with fail)
                all_goals go_meet
                all_goals (case rel => exact ⟨rfl, B3.out.drew⟩)
              case rest =>
                obtain ⟨w4, rfl⟩ : ∃ q, q = wc := ⟨_, rfl⟩
                obtain ⟨rfl, hb4⟩ := hcut
                have B4 := Hid.mk hb4
                clear hb4 x2 x3 pc WI6
                have WI7 : Hid (Calls Tryd.prog 44 #[.slice (p.ad i) (p.len i) (p.cap i), .int .i64 ((t : Int) + 1)] w4.drew fun e w' => e = .returned (.int .i64 C) ∧ w' = w4.drew) := by
                  unfold Hid
                  rw [HC.out]
                  exact whereI_any (p.ad i) (p.len i) (p.cap i) (t + 1) ((t : Int) + 1) (p.num i) w4.drew (by omega) (HB.out i hi) hli ((HP.out i hi).2.below ((B4.out).drew))
                have x1 := (B4.out.cell (p := ⟨w.heap.size, 1, none⟩) hzH).trans (X1.out 1)
                have x3 := (B4.out.cell (p := ⟨w.heap.size, 3, none⟩) hzH).trans (X1.out 3)
                simp only [List.getElem?_toArray, List.getElem?_cons_zero, List.getElem?_cons_succ] at x1 x3
                have pc := (B4.out.cell (p := ⟨b, off + i, none⟩) hbl).trans (HP.out i hi).1
                go_upto_region 7 with fail
                go_cut [7] (fun v wx => v = .int .i64 C ∧ Below w1.heap.size w1 wx)
                case first =>
                  go_region_held3 (fun w' => w'.cell? ⟨w.heap.size, 1, none⟩ = some (.int .i64 (i : Nat)) ∧ w'.cell? ⟨w.heap.size, 3, none⟩ = some (.int .i64 (t : Nat)) ∧ w'.cell? ⟨b, off + i, none⟩ = some (.slice (p.ad i) (p.len i) (p.cap i))) (go_keep)
                    (first
                      | (go_at_call 44; refine (WI7.out).mono ?_; rintro e w9 ⟨rfl, hw9⟩; have hw9 := hw9.symm; subst hw9; have y1 : (w4.drew).cell? ⟨w.heap.size, 1, none⟩ = some (.int .i64 (i : Nat)) := x1; have y2 : (w4.drew).cell? ⟨w.heap.size, 3, none⟩ = some (.int .i64 (t : Nat)) := x3; have y3 : (w4.drew).cell? ⟨b, off + i, none⟩ = some (.slice (p.ad i) (p.len i) (p.cap i)) := pc))
                  all_goals (try go_wp2_with fail)
                  all_goals go_meet
                  all_goals (case rel => exact ⟨rfl, B4.out.drew⟩)
                case rest =>
                  obtain ⟨w5, rfl⟩ : ∃ q, q = wc := ⟨_, rfl⟩
                  obtain ⟨rfl, hb5⟩ := hcut
                  have B5 := Hid.mk hb5
                  clear hb5 x1 x3 pc WI7
                  have WI8 : Hid (Calls Tryd.prog 44 #[.slice (p.ad k) (p.len k) (p.cap k), .int .i64 ((t : Int) + 1)] w5.drew fun e w' => e = .returned (.int .i64 D) ∧ w' = w5.drew) := by
                    unfold Hid
                    rw [HD.out]
                    exact whereI_any (p.ad k) (p.len k) (p.cap k) (t + 1) ((t : Int) + 1) (p.num k) w5.drew (by omega) (HB.out k hk) hlk ((HP.out k hk).2.below ((B5.out).drew))
                  have x2 := (B5.out.cell (p := ⟨w.heap.size, 2, none⟩) hzH).trans (X1.out 2)
                  have x3 := (B5.out.cell (p := ⟨w.heap.size, 3, none⟩) hzH).trans (X1.out 3)
                  simp only [List.getElem?_toArray, List.getElem?_cons_zero, List.getElem?_cons_succ] at x2 x3
                  have pc := (B5.out.cell (p := ⟨b, off + k, none⟩) hbl).trans (HP.out k hk).1
                  go_upto_region 8 with fail
                  go_cut [8] (fun v wx => v = .int .i64 D ∧ Below w1.heap.size w1 wx)
                  case first =>
                    go_region_held3 (fun w' => w'.cell? ⟨w.heap.size, 2, none⟩ = some (.int .i64 (k : Nat)) ∧ w'.cell? ⟨w.heap.size, 3, none⟩ = some (.int .i64 (t : Nat)) ∧ w'.cell? ⟨b, off + k, none⟩ = some (.slice (p.ad k) (p.len k) (p.cap k))) (go_keep)
                      (first
                        | (go_at_call 44; refine (WI8.out).mono ?_; rintro e w9 ⟨rfl, hw9⟩; have hw9 := hw9.symm; subst hw9; have y1 : (w5.drew).cell? ⟨w.heap.size, 2, none⟩ = some (.int .i64 (k : Nat)) := x2; have y2 : (w5.drew).cell? ⟨w.heap.size, 3, none⟩ = some (.int .i64 (t : Nat)) := x3; have y3 : (w5.drew).cell? ⟨b, off + k, none⟩ = some (.slice (p.ad k) (p.len k) (p.cap k)) := pc))
                    all_goals (try go_wp2_with fail)
                    all_goals go_meet
                    all_goals (case rel => exact ⟨rfl, B5.out.drew⟩)
                  case rest =>
                    obtain ⟨w6, rfl⟩ : ∃ q, q = wc := ⟨_, rfl⟩
                    obtain ⟨rfl, hb6⟩ := hcut
                    have B6 := Hid.mk hb6
                    clear hb6 x2 x3 pc WI8
                    have x0 := (B6.out.cell (p := ⟨w.heap.size, 0, none⟩) hzH).trans (X1.out 0)
                    simp only [List.getElem?_toArray, List.getElem?_cons_zero] at x0
                    rcases HL.out with e2 | e2
                    · have l2 : ((l : Int) == 2) = true := by simp [e2]
                      have RES2 : Hid (pairB l A B C D = (A == B)) := by unfold Hid pairB; rw [if_pos e2]
                      clear e2
                      go_wp2_with fail
                      go_ret
                      exact ⟨ret_bool (by rw [RES.out, RES2.out]), BW.out.trans (B6.out.mono (by omega))⟩
                    · have l2 : ((l : Int) == 2) = false := by simp; omega
                      have l3 : ((l : Int) == 3) = true := by simp [e2]
                      have RES2 : Hid (pairB l A B C D = (A == D && B == C && !(A == B))) := by unfold Hid pairB; rw [if_neg (by omega)]
                      clear e2
                      cases ab : (A == B) with
                      | true =>
                        have abn : (A != B) = false := by simp only [bne, ab]; rfl
                        go_wp2_with fail
                        go_ret
                        exact ⟨ret_bool (by rw [RES.out, RES2.out, ab]; simp), BW.out.trans (B6.out.mono (by omega))⟩
                      | false =>
                        have abn : (A != B) = true := by simp only [bne, ab]; rfl
                        cases ad : (A == D) with
                        | false =>
                          go_wp2_with fail
                          go_ret
                          exact ⟨ret_bool (by rw [RES.out, RES2.out, ad]; simp), BW.out.trans (B6.out.mono (by omega))⟩
                        | true =>
                          cases bc : (B == C) with
                          | false =>
                            go_wp2_with fail
                            go_ret
                            exact ⟨ret_bool (by rw [RES.out, RES2.out, bc]; simp), BW.out.trans (B6.out.mono (by omega))⟩
                          | true =>
                            go_wp2_with fail
                            go_ret
                            exact ⟨ret_bool (by rw [RES.out, RES2.out, ab, ad, bc]; simp), BW.out.trans (B6.out.mono (by omega))⟩
        · have hsp2 : ¬ t < p.len i ∧ ¬ t < p.len k := by
            rw [spanX (by have := HLI.out; have := HLK.out; omega)] at hsp
            omega
          obtain ⟨g1, g2⟩ := hsp2
          have h1I : (p.len i : Int) ≤ (t : Int) := by omega
          have h1b : decide ((p.len i : Int) ≤ (t : Int)) = true := by simp; omega
          have h1n : decide (p.len i ≤ t) = true := by simp; omega
          have h2I : (p.len k : Int) ≤ (t : Int) := by omega
          have h2b : decide ((p.len k : Int) ≤ (t : Int)) = true := by simp; omega
          have h2n : decide (p.len k ≤ t) = true := by simp; omega
          have RES : Hid (faultB l p.len p.num i k t = false) := by unfold Hid faultB; rw [decide_eq_false hsp]; simp
          clear hsp g1 g2
          go_quiet (fail)
          go_wp2_with fail
          go_ret
          exact ⟨ret_bool RES.out.symm, below_drewN BW.out _⟩
  · have hikI : (k : Int) ≤ (i : Int) := by omega
    have RES : Hid (faultB l p.len p.num i k t = false) := by unfold Hid faultB; rw [decide_eq_false hik]; simp
    clear hik
    go_wp2_with fail
    go_ret
    exact ⟨ret_bool RES.out.symm, BW.out⟩

end Go.Proofs.YtnkgpinadgacgabDoor
