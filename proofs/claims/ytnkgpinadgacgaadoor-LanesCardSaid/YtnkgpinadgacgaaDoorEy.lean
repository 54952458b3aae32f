/- Walk of linked: the layers rise and hang together. -/
import Derived.Test.YtnkgpinadgacgaaDoorEx
import Derived.Deep.DeepCutAuto
namespace Go.Proofs.YtnkgpinadgacgaaDoor
open Go.RowKit M

set_option maxRecDepth 100000 in
set_option maxHeartbeats 16000000 in
theorem linked_any (ro co bu : Int) (cs : ByteArray) (ac : Option Addr) (mc cc g cg K : Nat) (B nn C : Nat → Nat) (X : Nat → Nat → Nat) (w : World) (hs : cs.size ≤ 36) (h1 : 1 ≤ co) (h2 : co ≤ 6) (hK : K ≤ 100) (hG : Grid w g K B nn C X) (hnn : ∀ t, t < K → nn t ≤ 100)
    (hX : ∀ t i, t < K → i < nn t → X t i < cs.size) (hri : ∀ t, t < K → ∀ i, i + 1 < nn t → X t i < X t (i + 1)) (hnx : ∀ t, t + 1 < K → ∀ i, i < nn t → ∃ k, k < nn (t + 1) ∧ kmay co cs (X t i) (X (t + 1) k) = true) (hpv : ∀ t, t + 1 < K → ∀ i, i < nn (t + 1) → ∃ k, k < nn t ∧ kmay co cs (X t k) (X (t + 1) i) = true) :
    Calls Tryd.prog 59 #[.agg #[.int .i64 ro, .int .i64 co, .string cs, .slice ac mc cc, .int .i64 bu], .slice (some ⟨g, 0, none⟩) K cg] w fun e w' => e = .returned (.bool true) ∧ Below w.heap.size w w' := by
  have HG := Hid.mk hG
  have HNN := Hid.mk hnn
  have HX := Hid.mk hX
  have HRI := Hid.mk hri
  have HNX := Hid.mk hnx
  have HPV := Hid.mk hpv
  clear hG hnn hX hri hnx hpv
  go_enter Tryd.func59, Tryd.ntmps59
  go_wp2
  have y0 : ∀ o, (w.alloc (Obj.cells #[Value.int .i64 ro, .int .i64 co, .string cs, .slice ac mc cc, .int .i64 bu] 24)).cell? ⟨w.heap.size, o, none⟩ = #[Value.int .i64 ro, .int .i64 co, .string cs, .slice ac mc cc, .int .i64 bu][o]? := by
    intro o; go_simp
  have B0 : Hid (Below w.heap.size w (w.alloc (Obj.cells #[Value.int .i64 ro, .int .i64 co, .string cs, .slice ac mc cc, .int .i64 bu] 24))) := (Below.refl _ _).alloc (Nat.le_refl _) _
  have hw1 : w.heap.size < (w.alloc (Obj.cells #[Value.int .i64 ro, .int .i64 co, .string cs, .slice ac mc cc, .int .i64 bu] 24)).heap.size := by simp
  generalize w.alloc (Obj.cells #[Value.int .i64 ro, .int .i64 co, .string cs, .slice ac mc cc, .int .i64 bu] 24) = w1 at *
  have YW : Hid (∀ wr, Below w1.heap.size w1 wr → ∀ o, wr.cell? ⟨w.heap.size, o, none⟩ = #[Value.int .i64 ro, .int .i64 co, .string cs, .slice ac mc cc, .int .i64 bu][o]?) := fun wr hb o => (hb.cell (p := ⟨w.heap.size, o, none⟩) hw1).trans (y0 o)
  have GW : Hid (∀ wr, Below w1.heap.size w1 wr → Grid wr g K B nn C X) := fun wr hb => (HG.out.below B0.out).below hb
  clear y0
  go_loopw [5, 6, 7, 8, 9, 10, 11, 12] (fun v5 _ _ _ _ _ _ _ wr => ∃ t : Nat, v5 = .int .i64 t ∧ t ≤ K ∧ Below w1.heap.size w1 wr) (fun v5 _ _ _ _ _ _ _ _ => K - (intOf v5).toNat)
  case atStart => exact ⟨0, rfl, Nat.zero_le _, Below.refl _ _⟩
  case round =>
    obtain ⟨t, rfl, ht, hbr⟩ := hrel
    have HW0 := Hid.mk hbr
    clear hbr
    by_cases htK : t < K
    · have htI : (t : Int) < (K : Int) := by omega
      have hnt := HNN.out t htK
      go_wp2
      go_loopw [6, 7, 8, 9, 10, 11, 12] (fun v6 _ _ _ _ _ _ wr => ∃ i : Nat, v6 = .int .i64 i ∧ i ≤ nn t ∧ Below w1.heap.size w1 wr) (fun v6 _ _ _ _ _ _ _ => nn t - (intOf v6).toNat)
      case atStart => exact ⟨0, rfl, Nat.zero_le _, HW0.out⟩
      case round =>
        obtain ⟨i, rfl, hi, hbr⟩ := hrel
        have HWI := Hid.mk hbr
        have a0 := (GW.out wr hbr).row t htK
        clear hbr
        by_cases hin : i < nn t
        · have hiI : (i : Int) < (nn t : Int) := by omega
          have a1 := (GW.out wr HWI.out).cell t i htK hin
          go_upto_region 7 with fail
          go_cut [47] (fun v wx => v = .bool false ∧ Below w1.heap.size w1 wx)
          case first =>
            by_cases hi0 : i = 0
            · have hd : decide ((0 : Int) < (i : Int)) = false := by simp; omega
              go_quiet (fail)
              go_wp2
              go_meet
              case rel => exact ⟨by first | rfl | trivial, below_drewN HWI.out _⟩
            · have hd : (0 : Int) < (i : Int) := by omega
              have hd' : decide ((0 : Int) < (i : Int)) = true := by simp; omega
              obtain ⟨i1, hi1⟩ : ∃ i1, i = i1 + 1 := ⟨i - 1, by omega⟩
              have v2 : IntKind.i64.wrap ((i : Int) - 1) = (i1 : Int) := by rw [show (i : Int) - 1 = (i1 : Int) by omega]; exact wrap_mid (by omega) (by omega)
              have a2 := (GW.out wr HWI.out).cell t i1 htK (by omega)
              have hi1I : (i1 : Int) < (nn t : Int) := by omega
              have hi1n : (0 : Int) ≤ (i1 : Int) := by omega
              have hle := HRI.out t htK i1 (by omega)
              rw [← hi1] at hle
              have hq : decide ((X t i : Int) ≤ (X t i1 : Int)) = false := by simp; omega
              have hdn : decide (0 < i) = true := by simp; omega
              have hqn : decide (X t i ≤ X t i1) = false := by simp; omega
              clear hi1 hle hi0
              go_quiet (fail)
              go_wp2
              go_meet
              case rel => exact ⟨by first | rfl | trivial, below_drewN HWI.out _⟩
          case rest =>
            obtain ⟨rfl, hbc⟩ := hcut
            have HWC := Hid.mk hbc
            clear hbc a0 a1
            by_cases ht1 : t + 1 < K
            · have hb1 : ((t : Int) + 1 == (K : Int)) = false := by simp; omega
              have hlt1 : decide ((t : Int) + 1 < (K : Int)) = true := by simp; omega
              have hltn : (t : Int) + 1 < (K : Int) := by omega
              have hw9 : IntKind.i64.wrap ((t : Int) + 1) = (t : Int) + 1 := wrap_mid (by omega) (by omega)
              have hw8 : ((t : Int) + 1).toNat = t + 1 := by omega
              have hw7 : (0 : Int) ≤ (t : Int) + 1 := by omega
              have hnt9 := HNN.out (t + 1) ht1
              go_wp2
              go_loopw [7, 8, 9] (fun v7 v8 _ wr => ∃ (k : Nat) (tb : Bool), v7 = .bool tb ∧ v8 = .int .i64 k ∧ k ≤ nn (t + 1) ∧ Below w1.heap.size w1 wr ∧ (tb = true ∨ ∀ j, j < k → kmay co cs (X t i) (X (t + 1) j) = false)) (fun _ v8 _ _ => nn (t + 1) - (intOf v8).toNat)
              case atStart => exact ⟨0, _, rfl, rfl, Nat.zero_le _, HWC.out, .inr (fun j hj => absurd hj (Nat.not_lt_zero j))⟩
              case round =>
                obtain ⟨k, tb, rfl, rfl, hk, hbr, hinv⟩ := hrel
                have HWR := Hid.mk hbr
                have INV := Hid.mk hinv
                clear hbr hinv
                have a0 := (GW.out wr HWR.out).row (t + 1) ht1
                by_cases hkl : k < nn (t + 1)
                · have a1 := (GW.out wr HWR.out).cell (t + 1) k ht1 hkl
                  have a2 := (GW.out wr HWR.out).row t htK
                  have a3 := (GW.out wr HWR.out).cell t i htK hin
                  have hkI : (k : Int) < (nn (t + 1) : Int) := by omega
                  have hx1 := HX.out (t + 1) k ht1 hkl
                  have hx2 := HX.out t i htK hin
                  have l0 := World.block_lt_of_cell? (a := ⟨g, t + 1, none⟩) _ a0
                  have l1 := World.block_lt_of_cell? (a := ⟨B (t + 1), k, none⟩) _ a1
                  have l2 := World.block_lt_of_cell? (a := ⟨g, t, none⟩) _ a2
                  have l3 := World.block_lt_of_cell? (a := ⟨B t, i, none⟩) _ a3
                  have z0 := YW.out wr HWR.out 0
                  have z1 := YW.out wr HWR.out 1
                  have z2 := YW.out wr HWR.out 2
                  have z3 := YW.out wr HWR.out 3
                  have z4 := YW.out wr HWR.out 4
                  simp only [List.getElem?_toArray, List.getElem?_cons_zero, List.getElem?_cons_succ] at z0 z1 z2 z3 z4
                  have hzw : w.heap.size < wr.heap.size := Nat.lt_of_lt_of_le hw1 HWR.out.size
                  go_upto_region 13 with fail
                  go_region_held3 (fun w' => w'.cell? ⟨w.heap.size, 0, none⟩ = some (.int .i64 ro) ∧ w'.cell? ⟨w.heap.size, 1, none⟩ = some (.int .i64 co) ∧ w'.cell? ⟨w.heap.size, 2, none⟩ = some (.string cs) ∧ w'.cell? ⟨w.heap.size, 3, none⟩ = some (.slice ac mc cc) ∧ w'.cell? ⟨w.heap.size, 4, none⟩ = some (.int .i64 bu) ∧ w'.cell? ⟨g, t + 1, none⟩ = some (.slice (some ⟨B (t + 1), 0, none⟩) (nn (t + 1)) (C (t + 1))) ∧ w'.cell? ⟨B (t + 1), k, none⟩ = some (.int .i64 (X (t + 1) k : Nat)) ∧ w'.cell? ⟨g, t, none⟩ = some (.slice (some ⟨B t, 0, none⟩) (nn t) (C t)) ∧ w'.cell? ⟨B t, i, none⟩ = some (.int .i64 (X t i : Nat))) (go_keep)
                    (first
                      | (go_at_call_of 51 (Value.int IntKind.i64 ro); refine (kmay_any ro co bu (X t i) (X (t + 1) k) cs _ _ hs h1 h2 hx2 hx1).mono ?_; rintro e w4 ⟨he4, hb4⟩; obtain ⟨kb, hkb⟩ : ∃ kb, kb = kmay co cs (X t i) (X (t + 1) k) := ⟨_, rfl⟩; rw [← hkb] at he4; subst he4; have KB := Hid.mk hkb; clear hkb; have q0 : w4.cell? ⟨w.heap.size, 0, none⟩ = some (.int .i64 ro) := (hb4.cell (p := ⟨w.heap.size, 0, none⟩) hzw).trans z0; have q1 : w4.cell? ⟨w.heap.size, 1, none⟩ = some (.int .i64 co) := (hb4.cell (p := ⟨w.heap.size, 1, none⟩) hzw).trans z1; have q2 : w4.cell? ⟨w.heap.size, 2, none⟩ = some (.string cs) := (hb4.cell (p := ⟨w.heap.size, 2, none⟩) hzw).trans z2; have q3 : w4.cell? ⟨w.heap.size, 3, none⟩ = some (.slice ac mc cc) := (hb4.cell (p := ⟨w.heap.size, 3, none⟩) hzw).trans z3; have q4 : w4.cell? ⟨w.heap.size, 4, none⟩ = some (.int .i64 bu) := (hb4.cell (p := ⟨w.heap.size, 4, none⟩) hzw).trans z4; have q5 : w4.cell? ⟨g, t + 1, none⟩ = some (.slice (some ⟨B (t + 1), 0, none⟩) (nn (t + 1)) (C (t + 1))) := (hb4.cell (p := ⟨g, t + 1, none⟩) l0).trans a0; have q6 : w4.cell? ⟨B (t + 1), k, none⟩ = some (.int .i64 (X (t + 1) k : Nat)) := (hb4.cell (p := ⟨B (t + 1), k, none⟩) l1).trans a1; have q7 : w4.cell? ⟨g, t, none⟩ = some (.slice (some ⟨B t, 0, none⟩) (nn t) (C t)) := (hb4.cell (p := ⟨g, t, none⟩) l2).trans a2; have q8 : w4.cell? ⟨B t, i, none⟩ = some (.int .i64 (X t i : Nat)) := (hb4.cell (p := ⟨B t, i, none⟩) l3).trans a3))
                  have HB4 : Hid (Below w1.heap.size w1 w4) := HWR.out.drew.trans (hb4.mono HWR.out.size)
                  clear hb4 q0 q1 q2 q3 q4 q5 q6 q7 q8 z0 z1 z2 z3 z4 a0 a1 a2 a3
                  have NI : Hid ((tb || kb) = true ∨ ∀ j, j < k + 1 → kmay co cs (X t i) (X (t + 1) j) = false) := by
                    rcases INV.out with e | e
                    · exact .inl (by rw [e]; rfl)
                    · cases kb
                      · exact .inr fun j hj => by
                          by_cases ej : j = k
                          · subst ej; exact KB.out.symm
                          · exact e j (by omega)
                      · exact .inl (by simp)
                  cases tb
                  · cases kb
                    · go_wp2
                      go_roundw
                      case rel => exact ⟨k + 1, false, by first | rfl | trivial, by go_num, by omega, HB4.out, NI.out⟩
                      case measure => simp [intOf]; omega
                    · go_wp2
                      go_roundw
                      case rel => exact ⟨k + 1, true, by first | rfl | trivial, by go_num, by omega, HB4.out, NI.out⟩
                      case measure => simp [intOf]; omega
                  · go_wp2
                    go_roundw
                    case rel => exact ⟨k + 1, true, by first | rfl | trivial, by go_num, by omega, HB4.out, NI.out⟩
                    case measure => simp [intOf]; omega
                · have htb : tb = true := by
                    rcases INV.out with e | e
                    · exact e
                    · exfalso
                      obtain ⟨j, hj, hj2⟩ := HNX.out t ht1 i hin
                      rw [e j (by omega)] at hj2
                      cases hj2
                  subst htb
                  have HWX := HWR
                  have hkn : ¬ (k : Int) < (nn (t + 1) : Int) := by omega
                  by_cases h0 : t = 0
                  · have hb0 : ((t : Int) == 0) = true := by simp; omega
                    have hgt : decide ((0 : Int) < (t : Int)) = false := by simp; omega
                    have hgn : ¬ (0 : Int) < (t : Int) := by omega
                    have hb0n : (t == 0) = true := by simp [h0]
                    have hgtn : decide (0 < t) = false := by simp [h0]
                    clear h0
                    go_wp2
                    go_loopw [10, 11, 12] (fun v10 v11 _ wr => v10 = .bool true ∧ v11 = .int .i64 0 ∧ Below w1.heap.size w1 wr) (fun _ _ _ _ => 0)
                    case atStart => exact ⟨rfl, rfl, HWX.out⟩
                    case round =>
                      obtain ⟨rfl, rfl, hbr⟩ := hrel
                      have HWE := Hid.mk hbr
                      clear hbr
                      go_wp2
                      go_roundw
                      case rel => exact ⟨i + 1, by go_num, by omega, HWE.out⟩
                      case measure => simp [intOf]; omega
                  · have hb0 : ((t : Int) == 0) = false := by simp; omega
                    have hgt : decide ((0 : Int) < (t : Int)) = true := by simp; omega
                    have hgn : (0 : Int) < (t : Int) := by omega
                    have hb0n : (t == 0) = false := by simp [h0]
                    have hgtn : decide (0 < t) = true := by simp; omega
                    obtain ⟨t1, ht1e⟩ : ∃ t1, t = t1 + 1 := ⟨t - 1, by omega⟩
                    have T1E := Hid.mk ht1e
                    have v2 : IntKind.i64.wrap ((t : Int) - 1) = (t1 : Int) := by rw [show (t : Int) - 1 = (t1 : Int) by omega]; exact wrap_mid (by omega) (by omega)
                    have ht1K : t1 < K := by omega
                    have ht1I : (t1 : Int) < (K : Int) := by omega
                    have ht1n : (0 : Int) ≤ (t1 : Int) := by omega
                    have hnt1 := HNN.out t1 ht1K
                    clear ht1e h0
                    go_wp2
                    go_loopw [10, 11, 12] (fun v10 v11 _ wr => ∃ (k : Nat) (fb : Bool), v10 = .bool fb ∧ v11 = .int .i64 k ∧ k ≤ nn t1 ∧ Below w1.heap.size w1 wr ∧ (fb = true ∨ ∀ j, j < k → kmay co cs (X t1 j) (X t i) = false)) (fun _ v11 _ _ => nn t1 - (intOf v11).toNat)
                    case atStart => exact ⟨0, _, rfl, rfl, Nat.zero_le _, HWX.out, .inr (fun j hj => absurd hj (Nat.not_lt_zero j))⟩
                    case round =>
                      obtain ⟨k, fb, rfl, rfl, hk, hbr, hinv⟩ := hrel
                      have HWR := Hid.mk hbr
                      have INV := Hid.mk hinv
                      clear hbr hinv
                      have a0 := (GW.out wr HWR.out).row t1 ht1K
                      by_cases hkl : k < nn t1
                      · have a1 := (GW.out wr HWR.out).cell t1 k ht1K hkl
                        have a2 := (GW.out wr HWR.out).row t htK
                        have a3 := (GW.out wr HWR.out).cell t i htK hin
                        have hkI : (k : Int) < (nn t1 : Int) := by omega
                        have hx1 := HX.out t1 k ht1K hkl
                        have hx2 := HX.out t i htK hin
                        have l0 := World.block_lt_of_cell? (a := ⟨g, t1, none⟩) _ a0
                        have l1 := World.block_lt_of_cell? (a := ⟨B t1, k, none⟩) _ a1
                        have l2 := World.block_lt_of_cell? (a := ⟨g, t, none⟩) _ a2
                        have l3 := World.block_lt_of_cell? (a := ⟨B t, i, none⟩) _ a3
                        have z0 := YW.out wr HWR.out 0
                        have z1 := YW.out wr HWR.out 1
                        have z2 := YW.out wr HWR.out 2
                        have z3 := YW.out wr HWR.out 3
                        have z4 := YW.out wr HWR.out 4
                        simp only [List.getElem?_toArray, List.getElem?_cons_zero, List.getElem?_cons_succ] at z0 z1 z2 z3 z4
                        have hzw : w.heap.size < wr.heap.size := Nat.lt_of_lt_of_le hw1 HWR.out.size
                        go_upto_region 19 with fail
                        go_region_held3 (fun w' => w'.cell? ⟨w.heap.size, 0, none⟩ = some (.int .i64 ro) ∧ w'.cell? ⟨w.heap.size, 1, none⟩ = some (.int .i64 co) ∧ w'.cell? ⟨w.heap.size, 2, none⟩ = some (.string cs) ∧ w'.cell? ⟨w.heap.size, 3, none⟩ = some (.slice ac mc cc) ∧ w'.cell? ⟨w.heap.size, 4, none⟩ = some (.int .i64 bu) ∧ w'.cell? ⟨g, t1, none⟩ = some (.slice (some ⟨B t1, 0, none⟩) (nn t1) (C t1)) ∧ w'.cell? ⟨B t1, k, none⟩ = some (.int .i64 (X t1 k : Nat)) ∧ w'.cell? ⟨g, t, none⟩ = some (.slice (some ⟨B t, 0, none⟩) (nn t) (C t)) ∧ w'.cell? ⟨B t, i, none⟩ = some (.int .i64 (X t i : Nat))) (go_keep)
                          (first
                            | (go_at_call_of 51 (Value.int IntKind.i64 ro); refine (kmay_any ro co bu (X t1 k) (X t i) cs _ _ hs h1 h2 hx1 hx2).mono ?_; rintro e w4 ⟨he4, hb4⟩; obtain ⟨kb, hkb⟩ : ∃ kb, kb = kmay co cs (X t1 k) (X t i) := ⟨_, rfl⟩; rw [← hkb] at he4; subst he4; have KB := Hid.mk hkb; clear hkb; have q0 : w4.cell? ⟨w.heap.size, 0, none⟩ = some (.int .i64 ro) := (hb4.cell (p := ⟨w.heap.size, 0, none⟩) hzw).trans z0; have q1 : w4.cell? ⟨w.heap.size, 1, none⟩ = some (.int .i64 co) := (hb4.cell (p := ⟨w.heap.size, 1, none⟩) hzw).trans z1; have q2 : w4.cell? ⟨w.heap.size, 2, none⟩ = some (.string cs) := (hb4.cell (p := ⟨w.heap.size, 2, none⟩) hzw).trans z2; have q3 : w4.cell? ⟨w.heap.size, 3, none⟩ = some (.slice ac mc cc) := (hb4.cell (p := ⟨w.heap.size, 3, none⟩) hzw).trans z3; have q4 : w4.cell? ⟨w.heap.size, 4, none⟩ = some (.int .i64 bu) := (hb4.cell (p := ⟨w.heap.size, 4, none⟩) hzw).trans z4; have q5 : w4.cell? ⟨g, t1, none⟩ = some (.slice (some ⟨B t1, 0, none⟩) (nn t1) (C t1)) := (hb4.cell (p := ⟨g, t1, none⟩) l0).trans a0; have q6 : w4.cell? ⟨B t1, k, none⟩ = some (.int .i64 (X t1 k : Nat)) := (hb4.cell (p := ⟨B t1, k, none⟩) l1).trans a1; have q7 : w4.cell? ⟨g, t, none⟩ = some (.slice (some ⟨B t, 0, none⟩) (nn t) (C t)) := (hb4.cell (p := ⟨g, t, none⟩) l2).trans a2; have q8 : w4.cell? ⟨B t, i, none⟩ = some (.int .i64 (X t i : Nat)) := (hb4.cell (p := ⟨B t, i, none⟩) l3).trans a3))
                        have HB4 : Hid (Below w1.heap.size w1 w4) := HWR.out.drew.trans (hb4.mono HWR.out.size)
                        clear hb4 q0 q1 q2 q3 q4 q5 q6 q7 q8 z0 z1 z2 z3 z4 a0 a1 a2 a3
                        have NI : Hid ((fb || kb) = true ∨ ∀ j, j < k + 1 → kmay co cs (X t1 j) (X t i) = false) := by
                          rcases INV.out with e | e
                          · exact .inl (by rw [e]; rfl)
                          · cases kb
                            · exact .inr fun j hj => by
                                by_cases ej : j = k
                                · subst ej; exact KB.out.symm
                                · exact e j (by omega)
                            · exact .inl (by simp)
                        cases fb
                        · cases kb
                          · go_wp2
                            go_roundw
                            case rel => exact ⟨k + 1, false, by first | rfl | trivial, by go_num, by omega, HB4.out, NI.out⟩
                            case measure => simp [intOf]; omega
                          · go_wp2
                            go_roundw
                            case rel => exact ⟨k + 1, true, by first | rfl | trivial, by go_num, by omega, HB4.out, NI.out⟩
                            case measure => simp [intOf]; omega
                        · go_wp2
                          go_roundw
                          case rel => exact ⟨k + 1, true, by first | rfl | trivial, by go_num, by omega, HB4.out, NI.out⟩
                          case measure => simp [intOf]; omega
                      · have hfb : fb = true := by
                          rcases INV.out with e | e
                          · exact e
                          · exfalso
                            have hpv := HPV.out t1 (by have := T1E.out; omega) i (by rw [← T1E.out]; exact hin)
                            rw [← T1E.out] at hpv
                            obtain ⟨j, hj, hj2⟩ := hpv
                            rw [e j (by omega)] at hj2
                            cases hj2
                        subst hfb
                        have HWE := HWR
                        go_wp2
                        go_roundw
                        case rel => exact ⟨i + 1, by go_num, by omega, HWE.out⟩
                        case measure => simp [intOf]; omega
            · have hb1 : ((t : Int) + 1 == (K : Int)) = true := by simp; omega
              have hlt1 : decide ((t : Int) + 1 < (K : Int)) = false := by simp; omega
              have hltn : ¬ (t : Int) + 1 < (K : Int) := by omega
              have hw9 : IntKind.i64.wrap ((t : Int) + 1) = (t : Int) + 1 := wrap_mid (by omega) (by omega)
              go_wp2
              go_loopw [7, 8, 9] (fun v7 v8 _ wr => v7 = .bool true ∧ v8 = .int .i64 0 ∧ Below w1.heap.size w1 wr) (fun _ _ _ _ => 0)
              case atStart => exact ⟨by first | rfl | trivial, rfl, HWC.out⟩
              case round =>
                obtain ⟨rfl, rfl, hbr⟩ := hrel
                have HWX := Hid.mk hbr
                clear hbr
                by_cases h0 : t = 0
                · have hb0 : ((t : Int) == 0) = true := by simp; omega
                  have hgt : decide ((0 : Int) < (t : Int)) = false := by simp; omega
                  have hgn : ¬ (0 : Int) < (t : Int) := by omega
                  have hb0n : (t == 0) = true := by simp [h0]
                  have hgtn : decide (0 < t) = false := by simp [h0]
                  clear h0
                  go_wp2
                  go_loopw [10, 11, 12] (fun v10 v11 _ wr => v10 = .bool true ∧ v11 = .int .i64 0 ∧ Below w1.heap.size w1 wr) (fun _ _ _ _ => 0)
                  case atStart => exact ⟨rfl, rfl, HWX.out⟩
                  case round =>
                    obtain ⟨rfl, rfl, hbr⟩ := hrel
                    have HWE := Hid.mk hbr
                    clear hbr
                    go_wp2
                    go_roundw
                    case rel => exact ⟨i + 1, by go_num, by omega, HWE.out⟩
                    case measure => simp [intOf]; omega
                · have hb0 : ((t : Int) == 0) = false := by simp; omega
                  have hgt : decide ((0 : Int) < (t : Int)) = true := by simp; omega
                  have hgn : (0 : Int) < (t : Int) := by omega
                  have hb0n : (t == 0) = false := by simp [h0]
                  have hgtn : decide (0 < t) = true := by simp; omega
                  obtain ⟨t1, ht1e⟩ : ∃ t1, t = t1 + 1 := ⟨t - 1, by omega⟩
                  have T1E := Hid.mk ht1e
                  have v2 : IntKind.i64.wrap ((t : Int) - 1) = (t1 : Int) := by rw [show (t : Int) - 1 = (t1 : Int) by omega]; exact wrap_mid (by omega) (by omega)
                  have ht1K : t1 < K := by omega
                  have ht1I : (t1 : Int) < (K : Int) := by omega
                  have ht1n : (0 : Int) ≤ (t1 : Int) := by omega
                  have hnt1 := HNN.out t1 ht1K
                  clear ht1e h0
                  go_wp2
                  go_loopw [10, 11, 12] (fun v10 v11 _ wr => ∃ (k : Nat) (fb : Bool), v10 = .bool fb ∧ v11 = .int .i64 k ∧ k ≤ nn t1 ∧ Below w1.heap.size w1 wr ∧ (fb = true ∨ ∀ j, j < k → kmay co cs (X t1 j) (X t i) = false)) (fun _ v11 _ _ => nn t1 - (intOf v11).toNat)
                  case atStart => exact ⟨0, _, rfl, rfl, Nat.zero_le _, HWX.out, .inr (fun j hj => absurd hj (Nat.not_lt_zero j))⟩
                  case round =>
                    obtain ⟨k, fb, rfl, rfl, hk, hbr, hinv⟩ := hrel
                    have HWR := Hid.mk hbr
                    have INV := Hid.mk hinv
                    clear hbr hinv
                    have a0 := (GW.out wr HWR.out).row t1 ht1K
                    by_cases hkl : k < nn t1
                    · have a1 := (GW.out wr HWR.out).cell t1 k ht1K hkl
                      have a2 := (GW.out wr HWR.out).row t htK
                      have a3 := (GW.out wr HWR.out).cell t i htK hin
                      have hkI : (k : Int) < (nn t1 : Int) := by omega
                      have hx1 := HX.out t1 k ht1K hkl
                      have hx2 := HX.out t i htK hin
                      have l0 := World.block_lt_of_cell? (a := ⟨g, t1, none⟩) _ a0
                      have l1 := World.block_lt_of_cell? (a := ⟨B t1, k, none⟩) _ a1
                      have l2 := World.block_lt_of_cell? (a := ⟨g, t, none⟩) _ a2
                      have l3 := World.block_lt_of_cell? (a := ⟨B t, i, none⟩) _ a3
                      have z0 := YW.out wr HWR.out 0
                      have z1 := YW.out wr HWR.out 1
                      have z2 := YW.out wr HWR.out 2
                      have z3 := YW.out wr HWR.out 3
                      have z4 := YW.out wr HWR.out 4
                      simp only [List.getElem?_toArray, List.getElem?_cons_zero, List.getElem?_cons_succ] at z0 z1 z2 z3 z4
                      have hzw : w.heap.size < wr.heap.size := Nat.lt_of_lt_of_le hw1 HWR.out.size
                      go_upto_region 19 with fail
                      go_region_held3 (fun w' => w'.cell? ⟨w.heap.size, 0, none⟩ = some (.int .i64 ro) ∧ w'.cell? ⟨w.heap.size, 1, none⟩ = some (.int .i64 co) ∧ w'.cell? ⟨w.heap.size, 2, none⟩ = some (.string cs) ∧ w'.cell? ⟨w.heap.size, 3, none⟩ = some (.slice ac mc cc) ∧ w'.cell? ⟨w.heap.size, 4, none⟩ = some (.int .i64 bu) ∧ w'.cell? ⟨g, t1, none⟩ = some (.slice (some ⟨B t1, 0, none⟩) (nn t1) (C t1)) ∧ w'.cell? ⟨B t1, k, none⟩ = some (.int .i64 (X t1 k : Nat)) ∧ w'.cell? ⟨g, t, none⟩ = some (.slice (some ⟨B t, 0, none⟩) (nn t) (C t)) ∧ w'.cell? ⟨B t, i, none⟩ = some (.int .i64 (X t i : Nat))) (go_keep)
                        (first
                          | (go_at_call_of 51 (Value.int IntKind.i64 ro); refine (kmay_any ro co bu (X t1 k) (X t i) cs _ _ hs h1 h2 hx1 hx2).mono ?_; rintro e w4 ⟨he4, hb4⟩; obtain ⟨kb, hkb⟩ : ∃ kb, kb = kmay co cs (X t1 k) (X t i) := ⟨_, rfl⟩; rw [← hkb] at he4; subst he4; have KB := Hid.mk hkb; clear hkb; have q0 : w4.cell? ⟨w.heap.size, 0, none⟩ = some (.int .i64 ro) := (hb4.cell (p := ⟨w.heap.size, 0, none⟩) hzw).trans z0; have q1 : w4.cell? ⟨w.heap.size, 1, none⟩ = some (.int .i64 co) := (hb4.cell (p := ⟨w.heap.size, 1, none⟩) hzw).trans z1; have q2 : w4.cell? ⟨w.heap.size, 2, none⟩ = some (.string cs) := (hb4.cell (p := ⟨w.heap.size, 2, none⟩) hzw).trans z2; have q3 : w4.cell? ⟨w.heap.size, 3, none⟩ = some (.slice ac mc cc) := (hb4.cell (p := ⟨w.heap.size, 3, none⟩) hzw).trans z3; have q4 : w4.cell? ⟨w.heap.size, 4, none⟩ = some (.int .i64 bu) := (hb4.cell (p := ⟨w.heap.size, 4, none⟩) hzw).trans z4; have q5 : w4.cell? ⟨g, t1, none⟩ = some (.slice (some ⟨B t1, 0, none⟩) (nn t1) (C t1)) := (hb4.cell (p := ⟨g, t1, none⟩) l0).trans a0; have q6 : w4.cell? ⟨B t1, k, none⟩ = some (.int .i64 (X t1 k : Nat)) := (hb4.cell (p := ⟨B t1, k, none⟩) l1).trans a1; have q7 : w4.cell? ⟨g, t, none⟩ = some (.slice (some ⟨B t, 0, none⟩) (nn t) (C t)) := (hb4.cell (p := ⟨g, t, none⟩) l2).trans a2; have q8 : w4.cell? ⟨B t, i, none⟩ = some (.int .i64 (X t i : Nat)) := (hb4.cell (p := ⟨B t, i, none⟩) l3).trans a3))
                      have HB4 : Hid (Below w1.heap.size w1 w4) := HWR.out.drew.trans (hb4.mono HWR.out.size)
                      clear hb4 q0 q1 q2 q3 q4 q5 q6 q7 q8 z0 z1 z2 z3 z4 a0 a1 a2 a3
                      have NI : Hid ((fb || kb) = true ∨ ∀ j, j < k + 1 → kmay co cs (X t1 j) (X t i) = false) := by
                        rcases INV.out with e | e
                        · exact .inl (by rw [e]; rfl)
                        · cases kb
                          · exact .inr fun j hj => by
                              by_cases ej : j = k
                              · subst ej; exact KB.out.symm
                              · exact e j (by omega)
                          · exact .inl (by simp)
                      cases fb
                      · cases kb
                        · go_wp2
                          go_roundw
                          case rel => exact ⟨k + 1, false, by first | rfl | trivial, by go_num, by omega, HB4.out, NI.out⟩
                          case measure => simp [intOf]; omega
                        · go_wp2
                          go_roundw
                          case rel => exact ⟨k + 1, true, by first | rfl | trivial, by go_num, by omega, HB4.out, NI.out⟩
                          case measure => simp [intOf]; omega
                      · go_wp2
                        go_roundw
                        case rel => exact ⟨k + 1, true, by first | rfl | trivial, by go_num, by omega, HB4.out, NI.out⟩
                        case measure => simp [intOf]; omega
                    · have hfb : fb = true := by
                        rcases INV.out with e | e
                        · exact e
                        · exfalso
                          have hpv := HPV.out t1 (by have := T1E.out; omega) i (by rw [← T1E.out]; exact hin)
                          rw [← T1E.out] at hpv
                          obtain ⟨j, hj, hj2⟩ := hpv
                          rw [e j (by omega)] at hj2
                          cases hj2
                      subst hfb
                      have HWE := HWR
                      go_wp2
                      go_roundw
                      case rel => exact ⟨i + 1, by go_num, by omega, HWE.out⟩
                      case measure => simp [intOf]; omega
        · go_wp2
          go_roundw
          case rel => exact ⟨t + 1, by go_num, by omega, HWI.out⟩
          case measure => simp [intOf]; omega
    · go_wp2
      go_ret
      exact ⟨rfl, B0.out.trans (HW0.out.mono (by omega))⟩

end Go.Proofs.YtnkgpinadgacgaaDoor
