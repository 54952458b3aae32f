/- Tp, Tr, Ts, Gw. -/
import Derived.Test.YtnkgpinadgacgaaGreatDoorQzl
import Derived.Laws.StructEq
set_option maxRecDepth 1000000
set_option maxHeartbeats 1000000
namespace Go.Proofs.YtnkgpinadgacgaaGreatDoor
section
open Go.RowKit Go.Shelf Go.Deep M
theorem chk_place {l r : List UInt8} {t : TX.Told} (h : TX.readT l = (r, some t)) (hn : t.carts.length <= l.length) : 0 <= (chkT t).2 ∧ (chkT t).2 <= (l.length : Int) := by
 have hb := (readT_bound h).1; have hsz : ((⟨t.cs.toArray⟩ : ByteArray).size : Int) <= (l.length : Int) := by
  show ((t.cs.toArray.size : Nat) : Int) <= _; rw [List.size_toArray]; omega
 unfold chkT checkM; by_cases h1 : (sideB (t.R : Int) && sideB (t.C : Int)) = false
 . rw [if_pos h1]; exact ⟨by simp, by simp⟩
 . rw [if_neg h1]; by_cases h2 : 0 <= cellsM (t.R : Int) (t.C : Int) ⟨t.cs.toArray⟩
   . rw [if_pos h2]; refine ⟨h2, Int.le_trans ?_ hsz⟩; show cellsM (t.R : Int) (t.C : Int) ⟨t.cs.toArray⟩ <= _; unfold cellsM; split
     . omega
     . split <;> omega
   . rw [if_neg h2]; by_cases h3 : t.carts.length < 1 ∨ 4 < t.carts.length
     . rw [if_pos h3]; exact ⟨by simp, by simp⟩
     . rw [if_neg h3]; by_cases h4 : firstOf (fun i => !(cartM ⟨t.cs.toArray⟩ (frL t.carts) (ttL t.carts) i == 0)) t.carts.length < t.carts.length
       . rw [if_pos h4]; refine ⟨?_, ?_⟩
         . show (0 : Int) <= ((firstOf _ _ : Nat) : Int)
           omega
         . show ((firstOf (fun i => !(cartM ⟨t.cs.toArray⟩ (frL t.carts) (ttL t.carts) i == 0)) t.carts.length : Nat) : Int) <= _; omega
       . rw [if_neg h4]; split <;> exact ⟨by simp, by simp⟩
theorem readT_carts {l r : List UInt8} {t : TX.Told} (h : TX.readT l = (r, some t)) : t.carts.length <= l.length := by
 unfold TX.readT at h; obtain ⟨u, l1, h1, h⟩ := TX.andP_some h; obtain ⟨q, l2, h2, h⟩ := TX.andP_some h; obtain ⟨cs, l3, h3, h⟩ := TX.andP_some h; obtain ⟨qc, qn, qC⟩ := q; cases h; show cs.length <= l.length; have key : ∀ (R C f : Nat) (l r : List UInt8) (acc acc' : List (Int × Int)), TX.cartsP R C f l acc = (r, some acc') -> acc'.length <= acc.length + l.length := by
  intro R C f; induction f with
  | zero => intro l r acc acc' h; cases h; omega
  | succ f ih =>
    intro l r acc acc' h; have h' : (if acc ≠ [] ∧ l = [] then (l, some acc) else TX.andP (TX.cartP R C l) fun c l1 => TX.cartsP R C f l1 (acc ++ [c])) = (r, some acc') := h; by_cases hd : acc ≠ [] ∧ l = []
    . rw [if_pos hd] at h'; cases h'; omega
    . rw [if_neg hd] at h'; obtain ⟨v, l1, g1, g2⟩ := TX.andP_some h'; have := ih _ _ _ _ g2; have := cartP_lt g1; rw [List.length_append] at *; simp at *; omega
 have e1 := key _ _ _ _ _ _ _ h3; have e2 : l2.length <= l1.length := by
  unfold TX.rowsP at h2; obtain ⟨c1, _⟩ := TX.cellsP_form l1.length l1; by_cases he : (TX.cellsP l1.length l1).1 = []
  . rw [if_pos he] at h2; cases h2
  . rw [if_neg he] at h2; obtain ⟨m1, d1, h2⟩ := TX.okP_some h2; obtain ⟨a, m2, d2, h2⟩ := TX.andP_some h2; obtain ⟨acs, an⟩ := a; cases h2; obtain ⟨rows, f1, _⟩ := TX.rows_form _ _ _ _ _ d2; have hlen := congrArg List.length c1; rw [TX.take_form d1, f1] at hlen; simp only [List.length_append, List.length_cons] at hlen; omega
 have e3 : l1.length <= l.length := by
  unfold TX.budgetP at h1; obtain ⟨k1, b1, h1⟩ := TX.okP_some h1; obtain ⟨n, k2, b2, h1⟩ := TX.andP_some h1; obtain ⟨k3, b3, h1⟩ := TX.okP_some h1; cases h1; rw [TX.takes_form b1, (TX.number_form b2).1, TX.take_form b3]; simp only [List.length_append, List.length_cons]; omega
 simp at e1; omega
end
section
open Go.RowKit Go.Shelf Go.Deep M
def headP : List UInt8 := [112, 108, 97, 110, 32]
def headPA : ByteArray := ⟨#[112, 108, 97, 110, 32]⟩
def lettersN (C : Nat) (p : List Nat) (n : Nat) : List UInt8 := (List.range n).map fun s => letB C (p.getD s 0) (p.getD (s + 1) 0)
def pathT (C : Nat) (p : List Nat) : List UInt8 := lettersN C p (p.length - 1) ++ [10]
def planT (C : Nat) (Ls : List (List Nat)) (cost : Nat) : List UInt8 := headP ++ (TX.lineT [cost] ++ Ls.flatMap (pathT C))
theorem letters_snoc (C : Nat) (p : List Nat) (n : Nat) : lettersN C p (n + 1) = lettersN C p n ++ [letB C (p.getD n 0) (p.getD (n + 1) 0)] := by
 unfold lettersN; rw [List.range_succ, List.map_append]; rfl
theorem flat_take {C : Nat} {Ls : List (List Nat)} {i : Nat} (hi : i < Ls.length) : (Ls.take (i + 1)).flatMap (pathT C) = (Ls.take i).flatMap (pathT C) ++ pathT C (Ls.getD i []) := by
 rw [List.take_add_one, List.getElem?_eq_getElem hi, zg, List.getElem?_eq_getElem hi]; show ((Ls.take i) ++ [Ls[i]]).flatMap (pathT C) = _; rw [List.flatMap_append]; simp only [List.flatMap_cons, List.flatMap_nil, List.append_nil]; rfl
theorem tplan_any (R C U cost g : Nat) (cs : ByteArray) (sv : Value) (Ls : List (List Nat)) (h c : Nat -> Nat) (w : World) (hT : Lib.TabBelow Tryz.prog w.heap.size w "internal/strconv.uint64pow10" .u64 Lib.pow10Tab)
 (hC : 1 <= C) (hn : Ls.length <= 4) (hcost : cost <= 9223372036854775807) (hlen : ∀ i, i < Ls.length -> 0 < (Ls.getD i []).length ∧ (Ls.getD i []).length <= 1000001) (hval : ∀ i, i < Ls.length -> ∀ s, s < (Ls.getD i []).length -> (Ls.getD i []).getD s 0 <= 900)
 (hrow : ∀ i, i < Ls.length -> w.cell? ⟨g, i, none⟩ = some (.slice (some ⟨h i, 0, none⟩) (Ls.getD i []).length (c i))) (hcell : ∀ i, i < Ls.length -> ∀ s, s < (Ls.getD i []).length -> w.cell? ⟨h i, s, none⟩ = some (.int .i64 ((Ls.getD i []).getD s 0 : Nat))) :
 Calls Tryz.prog 10 #[.agg #[.int .i64 R, .int .i64 C, .string cs, sv, .int .i64 U], .slice (some ⟨g, 0, none⟩) Ls.length Ls.length, .int .i64 cost] w fun e w' =>
  ∃ F : ByteArray, e = .returned (.string F) ∧ F.data.toList = planT C Ls cost ∧ Below w.heap.size w w' := by
 have HT := zx hT; have HL := zx hlen; have HV := zx hval; have HR := zx hrow; have HCL := zx hcell; have hln1 : (TX.lineT [cost]).length <= 20 := by
  have := dec_len19 hcost; simp [TX.lineT, TX.sep]; omega
 obtain ⟨N, hN⟩ : ∃ N, N = Ls.length := ⟨_, rfl⟩
 have HN := zx hN; rw [<- hN] at hn; rw [<- hN]; clear hT hlen hval hrow hcell hN; go_enter Tryz.func10, Tryz.ntmps10; have V1 : Hid (Wr w ((w.alloc (.cells #[.int .i64 R, .int .i64 C, .string cs, sv, .int .i64 U] 34)).alloc (.cells #[.pointer none, .slice none 0 0] 56)) #[.int .i64 R, .int .i64 C, .string cs, sv, .int .i64 U] []) := by
  have h1 := Lib.IsBuilderF.of (Lib.fresh_isBuilder 56 5 (w.alloc (.cells #[.int .i64 R, .int .i64 C, .string cs, sv, .int .i64 U] 34))); rw [show (w.alloc (.cells #[.int .i64 R, .int .i64 C, .string cs, sv, .int .i64 U] 34)).heap.size = w.heap.size + 1 by simp] at h1; exact ⟨h1, box_alloc (box_new _ _) _, ((Below.refl _ w).alloc zl _).alloc (by simp) _, by simp⟩
 have TB : Hid (∀ u, Below w.heap.size w u -> Lib.TabBelow Tryz.prog (w.heap.size + 1) u "internal/strconv.uint64pow10" .u64 Lib.pow10Tab) := fun u hu v hv => HT.out v (hu.trans (hv.mono (Nat.le_succ _)))
 go_wp2_with fail; generalize ((w.alloc (.cells #[.int .i64 R, .int .i64 C, .string cs, sv, .int .i64 U] 34)).alloc (.cells #[.pointer none, .slice none 0 0] 56)) = w1 at *; refine (wstring_any (w.heap.size + 1) (w.heap.size + 1) _ headPA w1 V1.out.i (by simp [Lib.byteCells, headPA]; decide) (by have := V1.out.z; omega)).mono ?_; rintro e w2 ⟨rfl, hi2, hb2, _⟩; rw [bytes_app] at hi2; have V2 : Hid (Wr w w2 #[.int .i64 R, .int .i64 C, .string cs, sv, .int .i64 U] headP) := V1.out.step hi2 hb2; clear hi2 hb2; go_wp2_with fail
 have V3 : Hid (Wr w (w2.alloc (.cells #[.int .i64 cost] 3)) #[.int .i64 R, .int .i64 C, .string cs, sv, .int .i64 U] headP) := V2.out.below ((Below.refl _ w2).alloc zl _); refine (wline_any (w.heap.size + 1) (w.heap.size + 1) w2.heap.size [cost] headP #[.int .i64 cost] (0, 0) _ (TB.out _ V3.out.b) V3.out.i (by have := V3.out.z; omega) (by simp [headP]) (fun x hx => by rw [List.mem_singleton.1 hx]; omega) (heap_alloc_new w2 _) (by have := V2.out.z; omega) (fun j hj => by
  have : j = 0 := by simp at hj; omega
  subst this; rfl)).mono ?_
 rintro e w4 ⟨rfl, hi4, hb4, _⟩; have V4 : Hid (Wr w w4 #[.int .i64 R, .int .i64 C, .string cs, sv, .int .i64 U] (headP ++ TX.lineT [cost])) := V3.out.step hi4 hb4; clear hi4 hb4; go_wp2; go_loopw [17] (fun si wr => ∃ i : Nat, si = .int .i64 i ∧ i <= N ∧ Wr w wr #[.int .i64 R, .int .i64 C, .string cs, sv, .int .i64 U] (headP ++ TX.lineT [cost] ++ (Ls.take i).flatMap (pathT C)) ∧ ((Ls.take i).flatMap (pathT C)).length <= 1000002 * i) (fun si _ => N - (intOf si).toNat)
 case atStart => exact ⟨0, rfl, Nat.zero_le _, by simpa using V4.out, by simp⟩
 case round =>
  obtain ⟨i, rfl, hi, hv, hlc⟩ := hrel; obtain ⟨wo, rfl⟩ : ∃ x, x = wr := ⟨_, rfl⟩
  have VO := zx hv; clear hv; by_cases hlt : i < N
  . have e1 : decide (((i : Nat) : Int) < (N : Int)) = true := by simp; omega
    have hiI : (i : Int) < (N : Int) := by omega
    have hiL : i < Ls.length := by rw [<- HN.out]; exact hlt
    obtain ⟨p, hp⟩ : ∃ p, p = Ls.getD i [] := ⟨_, rfl⟩
    have h1 := HL.out i hiL; have h2 := HV.out i hiL; have h3 := zj VO.out.b (HR.out i hiL); have h4 := HCL.out i hiL; rw [<- hp] at h1 h2 h3 h4; obtain ⟨hh, hhh⟩ : ∃ x, x = h i := ⟨_, rfl⟩
    obtain ⟨cp, hcp⟩ : ∃ x, x = c i := ⟨_, rfl⟩
    obtain ⟨ln, hln⟩ : ∃ x, x = p.length := ⟨_, rfl⟩
    rw [<- hhh] at h3 h4; rw [<- hcp, <- hln] at h3; rw [<- hln] at h1 h2 h4; obtain ⟨l1, l2⟩ := h1; have HP := zx hp; have HLN := zx hln; have HV2 := zx h2; have HC4 := zx h4; have hsub : (ln : Int) - 1 = ((ln - 1 : Nat) : Int) := by omega
    clear hp hhh hcp hln h2 h4; go_wp2; clear h3; obtain ⟨m1, hm1⟩ : ∃ x, x = ln - 1 := ⟨_, rfl⟩
    have hm1I : (ln : Int) - 1 = (m1 : Int) := by omega
    have HM1 := zx hm1; go_loopw [24] (fun ss wr => ∃ s : Nat, ss = .int .i64 s ∧ s <= ln - 1 ∧ Wr w wr #[.int .i64 R, .int .i64 C, .string cs, sv, .int .i64 U] (headP ++ TX.lineT [cost] ++ (Ls.take i).flatMap (pathT C) ++ lettersN C p s)) (fun ss _ => ln - 1 - (intOf ss).toNat)
    case atStart => exact ⟨0, rfl, Nat.zero_le _, by simpa [lettersN] using VO.out⟩
    case round =>
     obtain ⟨s, rfl, hs, hv⟩ := hrel; obtain ⟨wq, rfl⟩ : ∃ x, x = wr := ⟨_, rfl⟩
     have VQ := zx hv; clear hv; by_cases hsl : s < ln - 1
     . have e2 : decide (((s : Nat) : Int) < ((ln - 1 : Nat) : Int)) = true := by simp; omega
       have e2' : decide (((s : Nat) : Int) < (m1 : Int)) = true := by simp; omega
       have e2i : (s : Int) < (m1 : Int) := by omega
       have hs1 : (s : Int) < (ln : Int) := by omega
       have hs2 : (s : Int) + 1 < (ln : Int) := by omega
       have hs3 : ¬ ((s : Int) + 1 < 0) := by omega
       have hs4 : (0 : Int) <= (s : Int) + 1 := by omega
       have hw1 : IntKind.i64.wrap ((s : Int) + 1) = (s : Int) + 1 := by rw [IntKind.wrap_i64]; omega
       obtain ⟨a, ha⟩ : ∃ x, x = p.getD s 0 := ⟨_, rfl⟩
       obtain ⟨b, hb⟩ : ∃ x, x = p.getD (s + 1) 0 := ⟨_, rfl⟩
       have ca := HC4.out s (by omega); have cb := HC4.out (s + 1) (by omega); have a9 := HV2.out s (by omega); have b9 := HV2.out (s + 1) (by omega); rw [<- ha] at ca a9; rw [<- hb] at cb b9; have hlw : hh < w.heap.size := World.block_lt_of_cell? _ _ ca; have HA := zx ha; have HBB := zx hb; have CA := zx ca; have CB := zx cb; clear ha hb ca cb
       have SALL : Hid (∀ u : World, Below w.heap.size w u -> Box u w.heap.size #[.int .i64 R, .int .i64 C, .string cs, sv, .int .i64 U] -> (fun u : World => (∀ o, u.cell? ⟨w.heap.size, o, none⟩ = (#[.int .i64 R, .int .i64 C, .string cs, sv, .int .i64 U] : Array Value)[o]?) ∧ u.cell? ⟨hh, s, none⟩ = some (.int .i64 a) ∧ u.cell? ⟨hh, s + 1, none⟩ = some (.int .i64 b)) u) := fun u hu hy => ⟨hy.c, (hu.cell (p := ⟨hh, s, none⟩) hlw).trans CA.out, (hu.cell (p := ⟨hh, s + 1, none⟩) hlw).trans CB.out⟩
       go_upto_region 10 with fail
       . have HS := SALL.out wq.drew (VQ.out.b.trans ((Below.refl _ wq).drew.mono VQ.out.b.size)) ⟨VQ.out.y.c, VQ.out.y.fz, VQ.out.y.lt⟩; refine wp_region_any (by kernel_rfl) ?_; change wpAny _ _ _ _ _ _ _ (World.drew _); refine LM.T 1 (.slice (some ⟨hh, 0, none⟩) ln cp) rfl ?_; refine LM.T 2 (.int .i64 s) rfl ?_; refine LM.T 3 (.pointer (some ⟨hh, s, none⟩)) rfl ?_; refine LM.T 5 (.slice (some ⟨hh, 0, none⟩) ln cp) rfl ?_; refine LM.T 6 (.int .i64 s) rfl ?_; refine LM.T 7 (.int .i64 ((s : Int) + 1)) rfl ?_; refine LM.T 8 (.pointer (some ⟨hh, s + 1, none⟩)) rfl ?_
         refine LM.any_of_L (late := LM.lateOf [11]) (S := (fun u : World => (∀ o, u.cell? ⟨w.heap.size, o, none⟩ = (#[.int .i64 R, .int .i64 C, .string cs, sv, .int .i64 U] : Array Value)[o]?) ∧ u.cell? ⟨hh, s, none⟩ = some (.int .i64 a) ∧ u.cell? ⟨hh, s + 1, none⟩ = some (.int .i64 b))) _ _ _ _ ?_
         refine LM.TL 0 (.agg #[.int .i64 R, .int .i64 C, .string cs, sv, .int .i64 U]) rfl (Or.inl ⟨by rfl, fun u hu => by have a0 := hu.1 0; have a1 := hu.1 1; have a2 := hu.1 2; have a3 := hu.1 3; have a4 := hu.1 4; simp only [zA, zB, zC] at a0 a1 a2 a3 a4; clear hu; go_simp⟩) HS ?_; refine LM.TL 4 (.int .i64 a) rfl (Or.inl ⟨by rfl, fun u hu => by have a0 := hu.2.1; clear hu; go_simp⟩) HS ?_; refine LM.TL 9 (.int .i64 b) rfl (Or.inl ⟨by rfl, fun u hu => by have a0 := hu.2.2; clear hu; go_simp⟩) HS ?_
         refine LM.L_one (i := 10) rfl (by kernel_rfl) rfl (fun K hK => ?_); go_simp; refine (letter_any R C U a b cs sv _ hC a9 b9).mono ?_; rintro e w7 ⟨rfl, hb7⟩; have V7 : Hid (Wr w w7 #[.int .i64 R, .int .i64 C, .string cs, sv, .int .i64 U] (headP ++ TX.lineT [cost] ++ (Ls.take i).flatMap (pathT C) ++ lettersN C p s)) := VQ.out.below ((Below.refl _ wq).drew.trans hb7)
         have HS : (fun u : World => (∀ o, u.cell? ⟨w.heap.size, o, none⟩ = (#[.int .i64 R, .int .i64 C, .string cs, sv, .int .i64 U] : Array Value)[o]?) ∧ u.cell? ⟨hh, s, none⟩ = some (.int .i64 a) ∧ u.cell? ⟨hh, s + 1, none⟩ = some (.int .i64 b)) w7 := SALL.out w7 V7.out.b V7.out.y; clear hb7; refine hK _ _ HS ?_; clear hK K; refine LM.L_rest (by kernel_rfl) ?_; refine LM.any_one (i := 11) rfl (by kernel_rfl) rfl (fun K hK => ?_); go_simp; have hq : (lettersN C p s).length = s := by simp [lettersN]
         refine (wbyte_any (w.heap.size + 1) (w.heap.size + 1) _ _ w7 V7.out.i (by rw [Lib.byteCells_length]; simp only [List.length_append]; have : headP.length = 5 := rfl; omega) (by have := V7.out.z; omega)).mono ?_; rintro e w8 ⟨rfl, hi8, hb8, _⟩; rw [byte_app] at hi8; have V8 : Hid (Wr w w8 #[.int .i64 R, .int .i64 C, .string cs, sv, .int .i64 U] (headP ++ TX.lineT [cost] ++ (Ls.take i).flatMap (pathT C) ++ lettersN C p (s + 1))) := by
          have h := V7.out.step hi8 hb8; unfold Hid; rw [letters_snoc, <- HA.out, <- HBB.out]; simpa [List.append_assoc] using h
         clear hi8 hb8; refine hK _ _ ?_; clear hK K; refine wpAny_done (by kernel_rfl) ?_ _; go_wp2; go_round
         case rel => exact ⟨s + 1, by go_num, by omega, V8.out⟩
         case measure => simp [intOf]; omega
     . have e2 : decide (((s : Nat) : Int) < ((ln - 1 : Nat) : Int)) = false := by simp; omega
       have e2' : decide (((s : Nat) : Int) < (m1 : Int)) = false := by simp; omega
       have e2i : ¬ (s : Int) < (m1 : Int) := by omega
       have hsm : s = p.length - 1 := by rw [<- HLN.out]; omega
       have HSM := zx hsm; have hq : (lettersN C p s).length = s := by simp [lettersN]
       clear hsm; go_wp2_with fail; refine (wbyte_any (w.heap.size + 1) (w.heap.size + 1) _ 10 wq VQ.out.i (by rw [Lib.byteCells_length]; simp only [List.length_append]; have : headP.length = 5 := rfl; omega) (by have := VQ.out.z; omega)).mono ?_; rintro e w6 ⟨rfl, hi6, hb6, _⟩; rw [show (Value.int .u8 10) = Value.int .u8 (((10 : UInt8).toNat : Nat) : Int) from rfl, byte_app] at hi6; have V6 : Hid (Wr w w6 #[.int .i64 R, .int .i64 C, .string cs, sv, .int .i64 U] (headP ++ TX.lineT [cost] ++ (Ls.take (i + 1)).flatMap (pathT C))) := by
        have h := VQ.out.step hi6 hb6; have ep : pathT C p = lettersN C p s ++ [10] := by unfold pathT; rw [<- HSM.out]
        unfold Hid; rw [flat_take hiL, <- HP.out, ep]; simpa [List.append_assoc] using h
       have hl6 : ((Ls.take (i + 1)).flatMap (pathT C)).length <= 1000002 * (i + 1) := by
        rw [flat_take hiL, <- HP.out, List.length_append]; have : (pathT C p).length = (p.length - 1) + 1 := by simp [pathT, lettersN]
        rw [this, <- HLN.out]; omega
       clear hi6 hb6; go_wp2; go_round
       case rel => exact ⟨i + 1, by go_num, by omega, V6.out, hl6⟩
       case measure => simp [intOf]; omega
  . have e1 : decide (((i : Nat) : Int) < (N : Int)) = false := by simp; omega
    have e1i : ¬ (i : Int) < (N : Int) := by omega
    have VL : Hid (Wr w wo #[.int .i64 R, .int .i64 C, .string cs, sv, .int .i64 U] (planT C Ls cost)) := by
     have h := VO.out; rw [List.take_of_length_le (by rw [<- HN.out]; omega)] at h; unfold Hid planT; simpa [List.append_assoc] using h
    go_wp2_with fail; refine (bstring_any (w.heap.size + 1) (w.heap.size + 1) _ wo VL.out.i (by have := VL.out.z; omega)).mono ?_; rintro e w7 ⟨rfl, _, hb7, _⟩; have B7 : Hid (Below w.heap.size w w7) := VL.out.b.trans (hb7.mono (Nat.le_succ _)); clear hb7; go_wp2; go_ret; exact ⟨_, rfl, rfl, B7.out⟩
end
section
open Go.RowKit Go.Shelf Go.Deep M
def headE : List UInt8 := [101, 114, 114, 111, 114, 32]
def headEA : ByteArray := ⟨#[101, 114, 114, 111, 114, 32]⟩
def errT (e k : Nat) : List UInt8 := headE ++ TX.lineT [e, k]
theorem error_any (e k : Nat) (w : World) (hT : Lib.TabBelow Tryz.prog w.heap.size w "internal/strconv.uint64pow10" .u64 Lib.pow10Tab) (he : e <= 1000000000) (hk : k <= 1000000000) :
 Calls Tryz.prog 8 #[.int .i64 e, .int .i64 k] w fun e' w' => ∃ F : ByteArray, e' = .returned (.string F) ∧ F.data.toList = errT e k ∧ Below w.heap.size w w' := by
 have HT := zx hT; clear hT; go_enter Tryz.func8, Tryz.ntmps8; have I1 : Hid (IsB w.heap.size w.heap.size (Lib.byteCells []) (w.alloc (.cells #[.pointer none, .slice none 0 0] 56))) := Lib.IsBuilderF.of (Lib.fresh_isBuilder 56 5 w); have B1 : Hid (Below w.heap.size w (w.alloc (.cells #[.pointer none, .slice none 0 0] 56))) := (Below.refl _ w).alloc zl _; have hz1 : (w.alloc (.cells #[.pointer none, .slice none 0 0] 56)).heap.size = w.heap.size + 1 := by simp
 go_wp2_with fail; generalize (w.alloc (.cells #[.pointer none, .slice none 0 0] 56)) = w1 at *; refine (wstring_any w.heap.size w.heap.size _ headEA w1 I1.out (by simp [Lib.byteCells, headEA]; decide) (by omega)).mono ?_; rintro e' w2 ⟨rfl, hi2, hb2, _⟩; rw [bytes_app] at hi2; have I2 : Hid (IsB w.heap.size w.heap.size (Lib.byteCells headE) w2) := .inr hi2; have B2 := zx (B1.out.trans hb2); have hz2 : w.heap.size + 1 <= w2.heap.size := by have := hb2.size; omega
 clear hi2 hb2; go_wp2_with fail; refine (wline_any w.heap.size w.heap.size w2.heap.size [e, k] headE #[.int .i64 e, .int .i64 k] (0, 0) _ (fun u hu => HT.out u ((B2.out.alloc B2.out.size _).trans hu)) (isB_below I2.out ((Below.refl _ w2).alloc zl _)) (by simp; omega) (by simp [headE]) (fun x hx => by
  simp only [List.mem_cons, List.not_mem_nil, or_false] at hx; omega) (heap_alloc_new w2 _) (by omega) (fun j hj => by
  match j, hj with
  | 0, _ => rfl
  | 1, _ => rfl)).mono ?_
 rintro e' w4 ⟨rfl, hi4, hb4, _⟩; have I4 : Hid (IsB w.heap.size w.heap.size (Lib.byteCells (errT e k)) w4) := .inr hi4; have B4 : Hid (Below w.heap.size w w4) := (B2.out.alloc B2.out.size _).trans hb4; clear hi4 hb4; go_wp2_with fail; refine (bstring_any w.heap.size w.heap.size _ w4 I4.out B4.out.size).mono ?_; rintro e' w7 ⟨rfl, _, hb7, _⟩; have B7 := zx (B4.out.trans hb7); clear hb7; go_wp2; go_ret; exact ⟨_, rfl, rfl, B7.out⟩
end
section
open Go.RowKit M SM
theorem eq_pos (a0 a1 a2 a3 b0 b1 b2 b3 : Nat) (w : World) : (Op.equalIn 10000 103 (.agg #[.int .u8 a0, .int .u8 a1, .int .u8 a2, .int .u8 a3]) (.agg #[.int .u8 b0, .int .u8 b1, .int .u8 b2, .int .u8 b3])).run Tryz.prog w = .ok (((a0 : Int) == b0) && ((a1 : Int) == b1) && ((a2 : Int) == b2) && ((a3 : Int) == b3)) w := by
 have un := Tryz.underlying5; have ag := Tryz.isAgg5; have sz := Tryz.sizeOf5; rw [show (10000 : Nat) = 9999 + 1 from rfl, Op.equalIn]; simp only [Sem.run_bind, run_underlying Tryz.underlying103, Result.andThen_ok]; simp only [Std.Legacy.Range.forIn_eq_forIn_range', Std.Legacy.Range.size, Nat.sub_zero, Nat.add_sub_cancel, Nat.div_one, List.range'_succ, List.range'_zero, List.forIn_cons, List.forIn_nil]; go_simp; by_cases h1 : (a0 : Int) = b0 <;> by_cases h2 : (a1 : Int) = b1 <;> by_cases h3 : (a2 : Int) = b2 <;> by_cases h4 : (a3 : Int) = b3 <;> simp [h1, h2, h3, h4]
theorem run_eq_pos {m : Nat} {p q : List Nat} (hm : m <= 4) (hp : p.length = m) (hq : q.length = m) (w : World) : (binOp .eql 103 (.agg (psL p).toArray) (.agg (psL q).toArray)).run Tryz.prog w = .ok (.bool (decide (p = q))) w := by
 rw [run_eql_struct]; have h := eq_pos (p.getD 0 0) (p.getD 1 0) (p.getD 2 0) (p.getD 3 0) (q.getD 0 0) (q.getD 1 0) (q.getD 2 0) (q.getD 3 0) w; have e : ((((p.getD 0 0 : Nat) : Int) == ((q.getD 0 0 : Nat) : Int)) && (((p.getD 1 0 : Nat) : Int) == ((q.getD 1 0 : Nat) : Int)) && (((p.getD 2 0 : Nat) : Int) == ((q.getD 2 0 : Nat) : Int)) && (((p.getD 3 0 : Nat) : Int) == ((q.getD 3 0 : Nat) : Int))) = decide (p = q) := by
  rw [Bool.eq_iff_iff]; simp only [Bool.and_eq_true, beq_iff_eq, decide_eq_true_eq]; constructor
  . rintro ⟨⟨⟨e0, e1⟩, e2⟩, e3⟩; refine list_ext (d := 0) (n := m) hp hq fun i hi => ?_
    have hc : i = 0 ∨ i = 1 ∨ i = 2 ∨ i = 3 := by omega
    rcases hc with rfl | rfl | rfl | rfl <;> omega
  . rintro rfl; exact ⟨⟨⟨rfl, rfl⟩, rfl⟩, rfl⟩
 rw [e] at h; show ((Op.equalIn 10000 103 (.agg (psL p).toArray) (.agg (psL q).toArray)).run Tryz.prog w).andThen _ = _; unfold psL; rw [h]; rfl
theorem popS_any (S mb m B n : Nat) (c0 c1 c2 v : Value) (s : Srch) (w : World) (hI : SIn w S mb m B n c0 c1 c2 v s) (hn0 : 0 < s.n) (hn : s.n < 900000000) :
 Calls Tryz.prog 80 #[.pointer (some ⟨S, 4, none⟩)] w fun e w' =>
  e = .returned (.tuple #[.agg (ldL (s.it 0)).toArray, .bool true]) ∧ ∃ v', SIn w' S mb m B n c0 c1 c2 v' (popF s) ∧ (∀ g, v'.ownBlock = some g -> v.ownBlock = some g) ∧ Only (TnV S mb v) w w' := by
 rcases hI.list with ⟨_, h0⟩ | ⟨G, cap, rfl, h2⟩
 . omega
 . refine (popL_some S G cap s.n c0 c1 c2 (.map (some mb)) s.it w hI.src h2 hn0 hn).mono ?_; rintro e w' ⟨rfl, h3, h4, h5⟩; have hmb : ¬ (mb = S ∨ mb = G) := fun e => by
    rcases e with e | e
    . exact hI.low.2.2.1 e.symm
    . have := hI.own G rfl; have := hI.low.2.1; omega
   refine ⟨rfl, _, ⟨h3, .inr ⟨G, cap, rfl, h4⟩, fun g hg => hI.own g (by rw [<- Option.some.inj hg]; rfl), hI.seen.block (h5.block mb hI.seen.lt hmb), hI.low.1, hI.low.2.1, hI.low.2.2.1, Nat.le_trans hI.low.2.2.2 h5.size⟩, fun g hg => by rw [<- Option.some.inj hg]; rfl, h5.mono (fun i _ e => ?_)⟩; rcases e with e | e
   . exact .inl e
   . exact .inr (.inr (by rw [e]; rfl))
theorem GroundIn.only {w w' : World} {gm k : Nat} {G C : Nat -> Nat} {ro co : Int} {cs : ByteArray} {T : Nat -> Prop} (h : GroundIn w gm k G C ro co cs) (ho : Only T w w') (h1 : ¬ T gm) (h2 : ∀ j, j < k -> freeB cs j = true -> ¬ T (G j)) : GroundIn w' gm k G C ro co cs := by
 refine ⟨h.row.of_block (ho.block gm h.row.lt h1), fun j hj hf i hi => ?_, h.low⟩; have hl := h.lists j hj hf i hi; have hs : (ints (mvL ro co cs j))[i]? = some ((ints (mvL ro co cs j))[i]'(by simpa [ints] using hi)) := List.getElem?_eq_getElem _; rw [hs] at hl ⊢; exact (ho.cell (p := ⟨G j, i, none⟩) (World.block_lt_of_cell? _ _ hl) (h2 j hj hf)).trans hl
end
end Go.Proofs.YtnkgpinadgacgaaGreatDoor
