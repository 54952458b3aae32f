/- Several texts in one: Tr, Ts. -/
import Derived.Test.YtnkgpinadgacgabDoorMks
import Derived.Test.YtnkgpinadgacgabDoorMkr
namespace Go.Proofs.YtnkgpinadgacgabDoor
open Go.RowKit Go.Shelf Go.Deep M

def headP : List UInt8 := [112, 108, 97, 110, 32]
def headPA : ByteArray := ⟨#[112, 108, 97, 110, 32]⟩

/-- The letters of a path's steps, n of them. -/
def lettersN (C : Nat) (p : List Nat) (n : Nat) : List UInt8 := (List.range n).map fun s => letB C (p.getD s 0) (p.getD (s + 1) 0)

def pathT (C : Nat) (p : List Nat) : List UInt8 := lettersN C p (p.length - 1) ++ [10]

def planT (C : Nat) (Ls : List (List Nat)) (cost : Nat) : List UInt8 := headP ++ (TX.lineT [cost] ++ Ls.flatMap (pathT C))

theorem letters_snoc (C : Nat) (p : List Nat) (n : Nat) : lettersN C p (n + 1) = lettersN C p n ++ [letB C (p.getD n 0) (p.getD (n + 1) 0)] := by
  unfold lettersN
  rw [List.range_succ, List.map_append]
  rfl

theorem flat_take {C : Nat} {Ls : List (List Nat)} {i : Nat} (hi : i < Ls.length) : (Ls.take (i + 1)).flatMap (pathT C) = (Ls.take i).flatMap (pathT C) ++ pathT C (Ls.getD i []) := by
  rw [List.take_add_one, List.getElem?_eq_getElem hi, List.getD_eq_getElem?_getD, List.getElem?_eq_getElem hi]
  show ((Ls.take i) ++ [Ls[i]]).flatMap (pathT C) = _
  rw [List.flatMap_append]
  simp only [List.flatMap_cons, List.flatMap_nil, List.append_nil]
  rfl

set_option maxRecDepth 100000 in
set_option maxHeartbeats 1000000 in
theorem tplan_any (R C U cost g : Nat) (cs : ByteArray) (sv : Value) (Ls : List (List Nat)) (h c : Nat → Nat) (w : World) (hT : Lib.TabBelow Tryd.prog w.heap.size w "internal/strconv.uint64pow10" .u64 Lib.pow10Tab)
    (hC : 1 ≤ C) (hn : Ls.length ≤ 4) (hcost : cost ≤ 9223372036854775807) (hlen : ∀ i, i < Ls.length → 0 < (Ls.getD i []).length ∧ (Ls.getD i []).length ≤ 1000001) (hval : ∀ i, i < Ls.length → ∀ s, s < (Ls.getD i []).length → (Ls.getD i []).getD s 0 ≤ 900)
    (hrow : ∀ i, i < Ls.length → w.cell? ⟨g, i, none⟩ = some (.slice (some ⟨h i, 0, none⟩) (Ls.getD i []).length (c i))) (hcell : ∀ i, i < Ls.length → ∀ s, s < (Ls.getD i []).length → w.cell? ⟨h i, s, none⟩ = some (.int .i64 ((Ls.getD i []).getD s 0 : Nat))) :
    Calls Tryd.prog 49 #[.agg #[.int .i64 (R : Int), .int .i64 (C : Int), .string cs, sv, .int .i64 (U : Int)], .slice (some ⟨g, 0, none⟩) Ls.length Ls.length, .int .i64 (cost : Int)] w fun e w' =>
      ∃ F : ByteArray, e = .returned (.string F) ∧ F.data.toList = planT C Ls cost ∧ Below w.heap.size w w' := by
  have HT := Hid.mk hT
  have HL := Hid.mk hlen
  have HV := Hid.mk hval
  have HR := Hid.mk hrow
  have HCL := Hid.mk hcell
  have hln1 : (TX.lineT [cost]).length ≤ 20 := by
    have := dec_len19 hcost
    simp [TX.lineT, TX.sep]; omega
  obtain ⟨N, hN⟩ : ∃ N, N = Ls.length := ⟨_, rfl⟩
  have HN := Hid.mk hN
  rw [← hN] at hn
  rw [← hN]
  clear hT hlen hval hrow hcell hN
  go_enter Tryd.func49, Tryd.ntmps49
  have V1 : Hid (Wr w ((w.alloc (.cells #[.int .i64 (R : Int), .int .i64 (C : Int), .string cs, sv, .int .i64 (U : Int)] 28)).alloc (.cells #[.pointer none, .slice none 0 0] 128)) #[.int .i64 (R : Int), .int .i64 (C : Int), .string cs, sv, .int .i64 (U : Int)] []) := by
    have h1 := Lib.IsBuilderF.of (Lib.fresh_isBuilder 128 5 (w.alloc (.cells #[.int .i64 (R : Int), .int .i64 (C : Int), .string cs, sv, .int .i64 (U : Int)] 28)))
    rw [show (w.alloc (.cells #[.int .i64 (R : Int), .int .i64 (C : Int), .string cs, sv, .int .i64 (U : Int)] 28)).heap.size = w.heap.size + 1 by simp] at h1
    exact ⟨h1, box_alloc (box_new _ _) _, ((Below.refl _ w).alloc (Nat.le_refl _) _).alloc (by simp) _, by simp⟩
  have TB : Hid (∀ u, Below w.heap.size w u → Lib.TabBelow Tryd.prog (w.heap.size + 1) u "internal/strconv.uint64pow10" .u64 Lib.pow10Tab) := fun u hu v hv => HT.out v (hu.trans (hv.mono (Nat.le_succ _)))
  go_wp2_with fail
  generalize ((w.alloc (.cells #[.int .i64 (R : Int), .int .i64 (C : Int), .string cs, sv, .int .i64 (U : Int)] 28)).alloc (.cells #[.pointer none, .slice none 0 0] 128)) = w1 at *
  refine (wstring_any (w.heap.size + 1) (w.heap.size + 1) _ headPA w1 V1.out.i (by simp [Lib.byteCells, headPA]; decide) (by have := V1.out.z; omega)).mono ?_
  rintro e w2 ⟨rfl, hi2, hb2, _⟩
  rw [bytes_app] at hi2
  have V2 : Hid (Wr w w2 #[.int .i64 (R : Int), .int .i64 (C : Int), .string cs, sv, .int .i64 (U : Int)] headP) := V1.out.step hi2 hb2
  clear hi2 hb2
  go_wp2_with fail
  have V3 : Hid (Wr w (w2.alloc (.cells #[.int .i64 (cost : Int)] 3)) #[.int .i64 (R : Int), .int .i64 (C : Int), .string cs, sv, .int .i64 (U : Int)] headP) := V2.out.below ((Below.refl _ w2).alloc (Nat.le_refl _) _)
  refine (wline_any (w.heap.size + 1) (w.heap.size + 1) w2.heap.size [cost] headP #[.int .i64 (cost : Int)] (0, 0) _ (TB.out _ V3.out.b) V3.out.i (by have := V3.out.z; omega) (by simp [headP]) (fun x hx => by rw [List.mem_singleton.1 hx]; omega) (heap_alloc_new w2 _) (by have := V2.out.z; omega) (fun j hj => by
    have : j = 0 := by simp at hj; omega
    subst this; rfl)).mono ?_
  rintro e w4 ⟨rfl, hi4, hb4, _⟩
  have V4 : Hid (Wr w w4 #[.int .i64 (R : Int), .int .i64 (C : Int), .string cs, sv, .int .i64 (U : Int)] (headP ++ TX.lineT [cost])) := V3.out.step hi4 hb4
  clear hi4 hb4
  go_wp2
  go_loopw [17] (fun si wr => ∃ i : Nat, si = .int .i64 (i : Int) ∧ i ≤ N ∧ Wr w wr #[.int .i64 (R : Int), .int .i64 (C : Int), .string cs, sv, .int .i64 (U : Int)] (headP ++ TX.lineT [cost] ++ (Ls.take i).flatMap (pathT C)) ∧ ((Ls.take i).flatMap (pathT C)).length ≤ 1000002 * i) (fun si _ => N - (intOf si).toNat)
  case atStart => exact ⟨0, rfl, Nat.zero_le _, by simpa using V4.out, by simp⟩
  case round =>
    obtain ⟨i, rfl, hi, hv, hlc⟩ := hrel
    obtain ⟨wo, rfl⟩ : ∃ x, x = wr := ⟨_, rfl⟩
    have VO := Hid.mk hv
    clear hv
    by_cases hlt : i < N
    · have e1 : decide (((i : Nat) : Int) < (N : Int)) = true := by simp; omega
      have hiI : (i : Int) < (N : Int) := by omega
      have hiL : i < Ls.length := by rw [← HN.out]; exact hlt
      obtain ⟨p, hp⟩ : ∃ p, p = Ls.getD i [] := ⟨_, rfl⟩
      have h1 := HL.out i hiL
      have h2 := HV.out i hiL
      have h3 := cell_later VO.out.b (HR.out i hiL)
      have h4 := HCL.out i hiL
      rw [← hp] at h1 h2 h3 h4
      obtain ⟨hh, hhh⟩ : ∃ x, x = h i := ⟨_, rfl⟩
      obtain ⟨cp, hcp⟩ : ∃ x, x = c i := ⟨_, rfl⟩
      obtain ⟨ln, hln⟩ : ∃ x, x = p.length := ⟨_, rfl⟩
      rw [← hhh] at h3 h4
      rw [← hcp, ← hln] at h3
      rw [← hln] at h1 h2 h4
      obtain ⟨l1, l2⟩ := h1
      have HP := Hid.mk hp
      have HLN := Hid.mk hln
      have HV2 := Hid.mk h2
      have HC4 := Hid.mk h4
      have hsub : (ln : Int) - 1 = ((ln - 1 : Nat) : Int) := by omega
      clear hp hhh hcp hln h2 h4
      go_wp2
      clear h3
      obtain ⟨m1, hm1⟩ : ∃ x, x = ln - 1 := ⟨_, rfl⟩
      have hm1I : (ln : Int) - 1 = (m1 : Int) := by omega
      have HM1 := Hid.mk hm1
      go_loopw [24] (fun ss wr => ∃ s : Nat, ss = .int .i64 (s : Int) ∧ s ≤ ln - 1 ∧ Wr w wr #[.int .i64 (R : Int), .int .i64 (C : Int), .string cs, sv, .int .i64 (U : Int)] (headP ++ TX.lineT [cost] ++ (Ls.take i).flatMap (pathT C) ++ lettersN C p s)) (fun ss _ => ln - 1 - (intOf ss).toNat)
      case atStart => exact ⟨0, rfl, Nat.zero_le _, by simpa [lettersN] using VO.out⟩
      case round =>
        obtain ⟨s, rfl, hs, hv⟩ := hrel
        obtain ⟨wq, rfl⟩ : ∃ x, x = wr := ⟨_, rfl⟩
        have VQ := Hid.mk hv
        clear hv
        by_cases hsl : s < ln - 1
        · have e2 : decide (((s : Nat) : Int) < ((ln - 1 : Nat) : Int)) = true := by simp; omega
          have e2' : decide (((s : Nat) : Int) < (m1 : Int)) = true := by simp; omega
          have e2i : (s : Int) < (m1 : Int) := by omega
          have hs1 : (s : Int) < (ln : Int) := by omega
          have hs2 : (s : Int) + 1 < (ln : Int) := by omega
          have hs3 : ¬ ((s : Int) + 1 < 0) := by omega
          have hs4 : (0 : Int) ≤ (s : Int) + 1 := by omega
          have hw1 : IntKind.i64.wrap ((s : Int) + 1) = (s : Int) + 1 := by rw [IntKind.wrap_i64]; omega
          obtain ⟨a, ha⟩ : ∃ x, x = p.getD s 0 := ⟨_, rfl⟩
          obtain ⟨b, hb⟩ : ∃ x, x = p.getD (s + 1) 0 := ⟨_, rfl⟩
          have ca := HC4.out s (by omega)
          have cb := HC4.out (s + 1) (by omega)
          have a9 := HV2.out s (by omega)
          have b9 := HV2.out (s + 1) (by omega)
          rw [← ha] at ca a9
          rw [← hb] at cb b9
          have hlw : hh < w.heap.size := World.block_lt_of_cell? _ _ ca
          have HA := Hid.mk ha
          have HBB := Hid.mk hb
          have CA := Hid.mk ca
          have CB := Hid.mk cb
          clear ha hb ca cb
          have SALL : Hid (∀ u : World, Below w.heap.size w u → Box u w.heap.size #[.int .i64 (R : Int), .int .i64 (C : Int), .string cs, sv, .int .i64 (U : Int)] → (fun u : World => (∀ o, u.cell? ⟨w.heap.size, o, none⟩ = (#[.int .i64 (R : Int), .int .i64 (C : Int), .string cs, sv, .int .i64 (U : Int)] : Array Value)[o]?) ∧ u.cell? ⟨hh, s, none⟩ = some (.int .i64 (a : Int)) ∧ u.cell? ⟨hh, s + 1, none⟩ = some (.int .i64 (b : Int))) u) := fun u hu hy => ⟨hy.c, (hu.cell (p := ⟨hh, s, none⟩) hlw).trans CA.out, (hu.cell (p := ⟨hh, s + 1, none⟩) hlw).trans CB.out⟩
          go_upto_region 10 with fail
          · have HS := SALL.out wq.drew (VQ.out.b.trans ((Below.refl _ wq).drew.mono VQ.out.b.size)) ⟨VQ.out.y.c, VQ.out.y.fz, VQ.out.y.lt⟩
            refine wp_region_any (by kernel_rfl) ?_
            change wpAny _ _ _ _ _ _ _ (World.drew _)
            refine wpAny_take (i := 1) (v := (.slice (some ⟨hh, 0, none⟩) ln cp)) rfl (by kernel_rfl) (by kernel_rfl) (by kernel_rfl) (fun _ _ _ h => h) (Or.inl ⟨by rfl, fun u => by go_simp⟩) ?_
            refine wpAny_take (i := 2) (v := (.int .i64 (s : Int))) rfl (by kernel_rfl) (by kernel_rfl) (by kernel_rfl) (fun _ _ _ h => h) (Or.inl ⟨by rfl, fun u => by go_simp⟩) ?_
            refine wpAny_take (i := 3) (v := (.pointer (some ⟨hh, s, none⟩))) rfl (by kernel_rfl) (by kernel_rfl) (by kernel_rfl) (fun _ _ _ h => h) (Or.inl ⟨by rfl, fun u => by go_simp⟩) ?_
            refine wpAny_take (i := 5) (v := (.slice (some ⟨hh, 0, none⟩) ln cp)) rfl (by kernel_rfl) (by kernel_rfl) (by kernel_rfl) (fun _ _ _ h => h) (Or.inl ⟨by rfl, fun u => by go_simp⟩) ?_
            refine wpAny_take (i := 6) (v := (.int .i64 (s : Int))) rfl (by kernel_rfl) (by kernel_rfl) (by kernel_rfl) (fun _ _ _ h => h) (Or.inl ⟨by rfl, fun u => by go_simp⟩) ?_
            refine wpAny_take (i := 7) (v := (.int .i64 ((s : Int) + 1))) rfl (by kernel_rfl) (by kernel_rfl) (by kernel_rfl) (fun _ _ _ h => h) (Or.inl ⟨by rfl, fun u => by go_simp⟩) ?_
            refine wpAny_take (i := 8) (v := (.pointer (some ⟨hh, s + 1, none⟩))) rfl (by kernel_rfl) (by kernel_rfl) (by kernel_rfl) (fun _ _ _ h => h) (Or.inl ⟨by rfl, fun u => by go_simp⟩) ?_
            refine LM.any_of_L (late := LM.lateOf [11]) (S := (fun u : World => (∀ o, u.cell? ⟨w.heap.size, o, none⟩ = (#[.int .i64 (R : Int), .int .i64 (C : Int), .string cs, sv, .int .i64 (U : Int)] : Array Value)[o]?) ∧ u.cell? ⟨hh, s, none⟩ = some (.int .i64 (a : Int)) ∧ u.cell? ⟨hh, s + 1, none⟩ = some (.int .i64 (b : Int)))) _ _ _ _ ?_
            refine LM.L_take (i := 0) (v := (.agg #[.int .i64 (R : Int), .int .i64 (C : Int), .string cs, sv, .int .i64 (U : Int)])) rfl (by kernel_rfl) (by kernel_rfl) (by kernel_rfl) (by kernel_rfl) (fun _ _ _ h => h) (Or.inl ⟨by rfl, fun u hu => by have a0 := hu.1 0; have a1 := hu.1 1; have a2 := hu.1 2; have a3 := hu.1 3; have a4 := hu.1 4; simp only [List.getElem?_toArray, List.getElem?_cons_zero, List.getElem?_cons_succ] at a0 a1 a2 a3 a4; clear hu; go_simp⟩) HS ?_
            refine LM.L_take (i := 4) (v := (.int .i64 (a : Int))) rfl (by kernel_rfl) (by kernel_rfl) (by kernel_rfl) (by kernel_rfl) (fun _ _ _ h => h) (Or.inl ⟨by rfl, fun u hu => by have a0 := hu.2.1; clear hu; go_simp⟩) HS ?_
            refine LM.L_take (i := 9) (v := (.int .i64 (b : Int))) rfl (by kernel_rfl) (by kernel_rfl) (by kernel_rfl) (by kernel_rfl) (fun _ _ _ h => h) (Or.inl ⟨by rfl, fun u hu => by have a0 := hu.2.2; clear hu; go_simp⟩) HS ?_
            refine LM.L_one (i := 10) rfl (by kernel_rfl) rfl (fun K hK => ?_)
            go_simp
            refine (letter_any R C U a b cs sv _ hC a9 b9).mono ?_
            rintro e w7 ⟨rfl, hb7⟩
            have V7 : Hid (Wr w w7 #[.int .i64 (R : Int), .int .i64 (C : Int), .string cs, sv, .int .i64 (U : Int)] (headP ++ TX.lineT [cost] ++ (Ls.take i).flatMap (pathT C) ++ lettersN C p s)) := VQ.out.below ((Below.refl _ wq).drew.trans hb7)
            have HS : (fun u : World => (∀ o, u.cell? ⟨w.heap.size, o, none⟩ = (#[.int .i64 (R : Int), .int .i64 (C : Int), .string cs, sv, .int .i64 (U : Int)] : Array Value)[o]?) ∧ u.cell? ⟨hh, s, none⟩ = some (.int .i64 (a : Int)) ∧ u.cell? ⟨hh, s + 1, none⟩ = some (.int .i64 (b : Int))) w7 := SALL.out w7 V7.out.b V7.out.y
            clear hb7
            refine hK _ _ HS ?_
            clear hK K
            refine LM.L_rest (by kernel_rfl) ?_
            refine LM.any_one (i := 11) rfl (by kernel_rfl) rfl (fun K hK => ?_)
            go_simp
            have hq : (lettersN C p s).length = s := by simp [lettersN]
            refine (wbyte_any (w.heap.size + 1) (w.heap.size + 1) _ _ w7 V7.out.i (by rw [Lib.byteCells_length]; simp only [List.length_append]; have : headP.length = 5 := rfl; omega) (by have := V7.out.z; omega)).mono ?_
            rintro e w8 ⟨rfl, hi8, hb8, _⟩
            rw [byte_app] at hi8
            have V8 : Hid (Wr w w8 #[.int .i64 (R : Int), .int .i64 (C : Int), .string cs, sv, .int .i64 (U : Int)] (headP ++ TX.lineT [cost] ++ (Ls.take i).flatMap (pathT C) ++ lettersN C p (s + 1))) := by
              have h := V7.out.step hi8 hb8
              unfold Hid
              rw [letters_snoc, ← HA.out, ← HBB.out]
              simpa [List.append_assoc] using h
            clear hi8 hb8
            refine hK _ _ ?_
            clear hK K
            refine wpAny_done (by kernel_rfl) ?_ _
            go_wp2
            go_round
            case rel => exact ⟨s + 1, by go_num, by omega, V8.out⟩
            case measure => simp [intOf]; omega
        · have e2 : decide (((s : Nat) : Int) < ((ln - 1 : Nat) : Int)) = false := by simp; omega
          have e2' : decide (((s : Nat) : Int) < (m1 : Int)) = false := by simp; omega
          have e2i : ¬ (s : Int) < (m1 : Int) := by omega
          have hsm : s = p.length - 1 := by rw [← HLN.out]; omega
          have HSM := Hid.mk hsm
          have hq : (lettersN C p s).length = s := by simp [lettersN]
          clear hsm
          go_wp2_with fail
          refine (wbyte_any (w.heap.size + 1) (w.heap.size + 1) _ 10 wq VQ.out.i (by rw [Lib.byteCells_length]; simp only [List.length_append]; have : headP.length = 5 := rfl; omega) (by have := VQ.out.z; omega)).mono ?_
          rintro e w6 ⟨rfl, hi6, hb6, _⟩
          rw [show (Value.int .u8 10) = Value.int .u8 (((10 : UInt8).toNat : Nat) : Int) from rfl, byte_app] at hi6
          have V6 : Hid (Wr w w6 #[.int .i64 (R : Int), .int .i64 (C : Int), .string cs, sv, .int .i64 (U : Int)] (headP ++ TX.lineT [cost] ++ (Ls.take (i + 1)).flatMap (pathT C))) := by
            have h := VQ.out.step hi6 hb6
            have ep : pathT C p = lettersN C p s ++ [10] := by unfold pathT; rw [← HSM.out]
            unfold Hid
            rw [flat_take hiL, ← HP.out, ep]
            simpa [List.append_assoc] using h
          have hl6 : ((Ls.take (i + 1)).flatMap (pathT C)).length ≤ 1000002 * (i + 1) := by
            rw [flat_take hiL, ← HP.out, List.length_append]
            have : (pathT C p).length = (p.length - 1) + 1 := by simp [pathT, lettersN]
            rw [this, ← HLN.out]
            omega
          clear hi6 hb6
          go_wp2
          go_round
          case rel => exact ⟨i + 1, by go_num, by omega, V6.out, hl6⟩
          case measure => simp [intOf]; omega
    · have e1 : decide (((i : Nat) : Int) < (N : Int)) = false := by simp; omega
      have e1i : ¬ (i : Int) < (N : Int) := by omega
      have VL : Hid (Wr w wo #[.int .i64 (R : Int), .int .i64 (C : Int), .string cs, sv, .int .i64 (U : Int)] (planT C Ls cost)) := by
        have h := VO.out
        rw [List.take_of_length_le (by rw [← HN.out]; omega)] at h
        unfold Hid planT
        simpa [List.append_assoc] using h
      go_wp2_with fail
      refine (bstring_any (w.heap.size + 1) (w.heap.size + 1) _ wo VL.out.i (by have := VL.out.z; omega)).mono ?_
      rintro e w7 ⟨rfl, _, hb7, _⟩
      have B7 : Hid (Below w.heap.size w w7) := VL.out.b.trans (hb7.mono (Nat.le_succ _))
      clear hb7
      go_wp2
      go_ret
      exact ⟨_, rfl, rfl, B7.out⟩

end Go.Proofs.YtnkgpinadgacgabDoor

namespace Go.Proofs.YtnkgpinadgacgabDoor
open Go.RowKit Go.Shelf Go.Deep M

def headE : List UInt8 := [101, 114, 114, 111, 114, 32]
def headEA : ByteArray := ⟨#[101, 114, 114, 111, 114, 32]⟩

def errT (e k : Nat) : List UInt8 := headE ++ TX.lineT [e, k]

set_option maxRecDepth 100000 in
set_option maxHeartbeats 1000000 in
theorem error_any (e k : Nat) (w : World) (hT : Lib.TabBelow Tryd.prog w.heap.size w "internal/strconv.uint64pow10" .u64 Lib.pow10Tab) (he : e ≤ 1000000000) (hk : k ≤ 1000000000) :
    Calls Tryd.prog 48 #[.int .i64 (e : Int), .int .i64 (k : Int)] w fun e' w' => ∃ F : ByteArray, e' = .returned (.string F) ∧ F.data.toList = errT e k ∧ Below w.heap.size w w' := by
  have HT := Hid.mk hT
  clear hT
  go_enter Tryd.func48, Tryd.ntmps48
  have I1 : Hid (IsB w.heap.size w.heap.size (Lib.byteCells []) (w.alloc (.cells #[.pointer none, .slice none 0 0] 128))) := Lib.IsBuilderF.of (Lib.fresh_isBuilder 128 5 w)
  have B1 : Hid (Below w.heap.size w (w.alloc (.cells #[.pointer none, .slice none 0 0] 128))) := (Below.refl _ w).alloc (Nat.le_refl _) _
  have hz1 : (w.alloc (.cells #[.pointer none, .slice none 0 0] 128)).heap.size = w.heap.size + 1 := by simp
  go_wp2_with fail
  generalize (w.alloc (.cells #[.pointer none, .slice none 0 0] 128)) = w1 at *
  refine (wstring_any w.heap.size w.heap.size _ headEA w1 I1.out (by simp [Lib.byteCells, headEA]; decide) (by omega)).mono ?_
  rintro e' w2 ⟨rfl, hi2, hb2, _⟩
  rw [bytes_app] at hi2
  have I2 : Hid (IsB w.heap.size w.heap.size (Lib.byteCells headE) w2) := .inr hi2
  have B2 : Hid (Below w.heap.size w w2) := B1.out.trans hb2
  have hz2 : w.heap.size + 1 ≤ w2.heap.size := by have := hb2.size; omega
  clear hi2 hb2
  go_wp2_with fail
  refine (wline_any w.heap.size w.heap.size w2.heap.size [e, k] headE #[.int .i64 (e : Int), .int .i64 (k : Int)] (0, 0) _ (fun u hu => HT.out u ((B2.out.alloc B2.out.size _).trans hu)) (isB_below I2.out ((Below.refl _ w2).alloc (Nat.le_refl _) _)) (by simp; omega) (by simp [headE]) (fun x hx => by
      simp only [List.mem_cons, List.not_mem_nil, or_false] at hx
      omega) (heap_alloc_new w2 _) (by omega) (fun j hj => by
    match j, hj with
    | 0, _ => rfl
    | 1, _ => rfl)).mono ?_
  rintro e' w4 ⟨rfl, hi4, hb4, _⟩
  have I4 : Hid (IsB w.heap.size w.heap.size (Lib.byteCells (errT e k)) w4) := .inr hi4
  have B4 : Hid (Below w.heap.size w w4) := (B2.out.alloc B2.out.size _).trans hb4
  clear hi4 hb4
  go_wp2_with fail
  refine (bstring_any w.heap.size w.heap.size _ w4 I4.out B4.out.size).mono ?_
  rintro e' w7 ⟨rfl, _, hb7, _⟩
  have B7 : Hid (Below w.heap.size w w7) := B4.out.trans hb7
  clear hb7
  go_wp2
  go_ret
  exact ⟨_, rfl, rfl, B7.out⟩

end Go.Proofs.YtnkgpinadgacgabDoor
