/- Several texts in one: Cp, Hq. -/
import Derived.Test.YtnkgpinadgacgaaDoorQv
import Derived.Test.YtnkgpinadgacgaaDoorQw
namespace Go.Proofs.YtnkgpinadgacgaaDoor
open Go.RowKit M
set_option maxRecDepth 100000 in
set_option maxHeartbeats 4000000 in
theorem rjudge_any (ro co bu : Int) (cs : ByteArray) (a : Option Addr) (m cc : Nat) (fr tt : Nat → Int) (ap : Option Addr) (n cap : Nat) (p : PlanM) (lvl : Int) (w : World) (hs : cs.size ≤ maxLen) (hm : m ≤ maxLen) (hsd : SidesIn w)
    (ha : 0 < m → ∃ b off, a = some ⟨b, off, none⟩ ∧ CartsIn w b off m fr tt) (hB : ∀ i, i < n → p.len i ≤ 1048576) (hp : PlanAt w ap n p) :
    Calls Tryd.prog 32 #[.agg #[.int .i64 ro, .int .i64 co, .string cs, .slice a m cc, .int .i64 bu], .slice ap n cap, .int .i64 lvl] w fun e w' =>
      ∃ v, e = .returned (.tuple #[v, .int .i64 (judgeE ro co bu cs m fr tt lvl)]) ∧ OwnF w' w.heap.size v (ansF ro co bu cs m fr tt n p lvl) ∧ Below w.heap.size w w' := by
  have HA := Hid.mk ha
  have HB := Hid.mk hB
  have HP := Hid.mk hp
  have HSD := Hid.mk hsd
  have B0 : Hid (Below w.heap.size w (w.alloc (Obj.cells #[Value.int IntKind.i64 ro, Value.int IntKind.i64 co, Value.string cs, .slice a m cc, Value.int IntKind.i64 bu] 24))) := (Below.refl _ w).alloc (Nat.le_refl _) _
  obtain ⟨E, hE⟩ : ∃ E, E = (checkM ro co cs m fr tt bu).1 := ⟨_, rfl⟩
  obtain ⟨E2, hE2⟩ : ∃ E, E = (checkM ro co cs m fr tt bu).2 := ⟨_, rfl⟩
  have HE := Hid.mk hE
  have HE2 := Hid.mk hE2
  clear ha hB hp hsd hE hE2
  go_enter Tryd.func32, Tryd.ntmps32
  go_wp2_with fail
  refine (rcheck_any ro co bu cs a m cc fr tt _ hs hm (by exact opt_below HA.out B0.out)).mono ?_
  rintro e w1 ⟨he, hb1⟩
  rw [← HE.out, ← HE2.out] at he
  subst he
  have y1 : ∀ o, w1.cell? ⟨w.heap.size, o, none⟩ = #[Value.int .i64 ro, .int .i64 co, .string cs, .slice a m cc, .int .i64 bu][o]? := by
    intro o
    rw [hb1.cell (p := ⟨w.heap.size, o, none⟩) (by show w.heap.size < _; simp)]; go_simp
  have B1 : Hid (Below w.heap.size w w1) := B0.out.trans (hb1.mono (by simp))
  have hz1 : w.heap.size + 1 ≤ w1.heap.size := by have := hb1.size; simp at this; omega
  clear hb1 B0
  by_cases h0 : E = 0
  · have hE0 : (E != 0) = false := by simp [h0]
    have CK : Hid ((checkM ro co cs m fr tt bu).1 = 0) := HE.out.symm.trans h0
    clear h0
    by_cases hl : lvl < 0 ∨ 3 < lvl
    · have JE : Hid (judgeE ro co bu cs m fr tt lvl = 7) := by unfold Hid judgeE; rw [if_pos CK.out, if_pos hl]
      have AN : Hid (ansF ro co bu cs m fr tt n p lvl = []) := by unfold Hid ansF; rw [JE.out]; rfl
      rcases hl with hl | hl
      · go_wp2
        go_ret2
        exact ⟨_, ret_vi JE.out.symm, by rw [AN.out]; exact OwnF.nil _ _, B1.out⟩
      · have hl0 : ¬ lvl < 0 := by omega
        go_wp2
        go_ret2
        exact ⟨_, ret_vi JE.out.symm, by rw [AN.out]; exact OwnF.nil _ _, B1.out⟩
    · have JE : Hid (judgeE ro co bu cs m fr tt lvl = 0) := by unfold Hid judgeE; rw [if_pos CK.out, if_neg hl]
      obtain ⟨l, rfl⟩ := Int.eq_ofNat_of_zero_le (show 0 ≤ lvl by omega)
      have AN : Hid (ansF ro co bu cs m fr tt n p (l : Int) = if n = m then allF l co cs fr tt n p.len p.num else [⟨0, -1, -1, 0⟩]) := by unfold Hid ansF; rw [if_pos JE.out]; rfl
      obtain ⟨s1, s2, s3⟩ := checkM_good CK.out
      obtain ⟨q1, q2⟩ := side_bd s1
      obtain ⟨q3, q4⟩ := side_bd s2
      obtain ⟨m1, m2⟩ := mul_bd q1 q2 q3 q4
      have hs36 : cs.size ≤ 36 := by omega
      have hm4 := (carts_free CK.out).1
      obtain ⟨bc, oc, rfl, hcc⟩ := HA.out (good_pos CK.out)
      have HCC := Hid.mk hcc
      have hl0 : ¬ (l : Int) < 0 := by omega
      have hl3 : ¬ (3 : Int) < (l : Int) := by omega
      have hl3n : l ≤ 3 := by omega
      clear hl s1 s2 s3 m1 m2 hcc
      by_cases hmn : n = m
      · have hmnI : ((n : Int) != (m : Int)) = false := by simp [hmn]
        have HMN := Hid.mk hmn
        have hn4 : n ≤ 4 := by omega
        have Y1 := Hid.mk y1
        have YALL : Hid (∀ wx, Below (w.heap.size + 1) w1 wx → (∀ o, wx.cell? ⟨w.heap.size, o, none⟩ = #[Value.int .i64 ro, .int .i64 co, .string cs, .slice (some ⟨bc, oc, none⟩) m cc, .int .i64 bu][o]?) ∧ CartsIn wx bc oc m fr tt ∧ PlanAt wx ap n p ∧ Below w.heap.size w wx ∧ w.heap.size + 1 ≤ wx.heap.size ∧ w.heap.size < wx.heap.size) := by
          intro wx hb
          have hsz := hb.size
          have hw : Below w.heap.size w wx := B1.out.trans (hb.mono (by omega))
          exact ⟨fun o => (hb.cell (p := ⟨w.heap.size, o, none⟩) (by show w.heap.size < _; omega)).trans (Y1.out o), HCC.out.below hw, HP.out.below hw, hw, by omega, by omega⟩
        have ST := Hid.mk (steps_all (co := co) (cs := cs) (num := p.num) hn4 HB.out)
        have EN := Hid.mk (ends_all (fr := fr) (tt := tt) (len := p.len) (num := p.num) hn4)
        have PR : Hid (∀ j, (preF l j n p.len p.num).length ≤ 33554432) := fun j => preF_len hn4 HB.out
        have P3 := Hid.mk (pairs_all (lvl := 3) (num := p.num) hn4 HB.out)
        have P2 := Hid.mk (pairs_all (lvl := 2) (num := p.num) hn4 HB.out)
        clear hmn HP
        go_wp2
        clear y1
        go_loopw [10, 11] (fun v10 v11 wr => ∃ (j : Nat) (L : Value), L = v10 ∧ v11 = .int .i64 j ∧ j ≤ l ∧ OwnF wr (w.heap.size + 1) L (preF l j n p.len p.num) ∧ Below (w.heap.size + 1) w1 wr) (fun _ v11 _ => (intOf v11).toNat)
        case atStart => exact ⟨l, _, rfl, rfl, Nat.le_refl _, by rw [preF_start]; exact OwnF.nil _ _, Below.refl _ _⟩
        case round =>
          obtain ⟨wo, rfl⟩ : ∃ q, q = wr := ⟨_, rfl⟩
          obtain ⟨j, L, rfl, rfl, hj, hown, hbr⟩ := hrel
          have OWN := Hid.mk hown
          have BR := Hid.mk hbr
          clear hown hbr
          obtain ⟨yo, CA, PA, bw, zz, zw⟩ := YALL.out wo BR.out
          have PAH := Hid.mk PA
          have CAH := Hid.mk CA
          clear CA PA bw
          by_cases h3 : j = 3
          · subst h3
            have PRj := Hid.mk (PR.out 3)
            go_wp2_with fail
            refine (rpairs_3 ap n cap p _ hn4 HB.out PAH.out).mono ?_
            rintro e w2 ⟨v2, rfl, hown2, hb2⟩
            have G2 := Hid.mk hown2
            have OWN2 := Hid.mk (OWN.out.below hb2)
            have BR2 : Hid (Below (w.heap.size + 1) w1 w2) := BR.out.trans (hb2.mono zz)
            have HBS2 : Hid (w.heap.size + 1 ≤ w2.heap.size) := (YALL.out _ BR2.out).2.2.2.2.1
            have HL2 : Hid ((preF l 3 n p.len p.num).length + (pairsF 3 n p.len p.num n).length ≤ 100000000) := by
              have a1 := PRj.out; have a2 := P3.out; unfold Hid; omega
            have E2 : Hid (preF l 2 n p.len p.num = preF l 3 n p.len p.num ++ pairsF 3 n p.len p.num n) := preF_3 hj
            clear hown2 hb2 yo
            go_wp2_with (at_builtin; go_must (refine wpList_catF rfl _ _ rfl (w.heap.size + 1) _ L v2 (preF l 3 n p.len p.num) (pairsF 3 n p.len p.num n) rfl OWN2.out rfl G2.out HBS2.out HL2.out ?_; intro v3 w3 hown3 hb3))
            have OWN3 := Hid.mk hown3
            have BR3 : Hid (Below (w.heap.size + 1) w1 w3) := BR2.out.trans hb3
            clear hown3 hb3
            go_wp2
            go_roundw
            case rel => exact ⟨2, v3, rfl, rfl, by omega, by rw [E2.out]; exact OWN3.out, BR3.out⟩
            case measure => simp [intOf]
          · by_cases h2 : j = 2
            · subst h2
              have PRj := Hid.mk (PR.out 2)
              clear h3
              go_wp2_with fail
              refine (rpairs_2 ap n cap p _ hn4 HB.out PAH.out).mono ?_
              rintro e w2 ⟨v2, rfl, hown2, hb2⟩
              have G2 := Hid.mk hown2
              have OWN2 := Hid.mk (OWN.out.below hb2)
              have BR2 : Hid (Below (w.heap.size + 1) w1 w2) := BR.out.trans (hb2.mono zz)
              have HBS2 : Hid (w.heap.size + 1 ≤ w2.heap.size) := (YALL.out _ BR2.out).2.2.2.2.1
              have HL2 : Hid ((preF l 2 n p.len p.num).length + (pairsF 2 n p.len p.num n).length ≤ 100000000) := by
                have a1 := PRj.out; have a2 := P2.out; unfold Hid; omega
              have E2 : Hid (preF l 1 n p.len p.num = preF l 2 n p.len p.num ++ pairsF 2 n p.len p.num n) := preF_2 hj
              clear hown2 hb2 yo
              go_wp2_with (at_builtin; go_must (refine wpList_catF rfl _ _ rfl (w.heap.size + 1) _ L v2 (preF l 2 n p.len p.num) (pairsF 2 n p.len p.num n) rfl OWN2.out rfl G2.out HBS2.out HL2.out ?_; intro v3 w3 hown3 hb3))
              have OWN3 := Hid.mk hown3
              have BR3 : Hid (Below (w.heap.size + 1) w1 w3) := BR2.out.trans hb3
              clear hown3 hb3
              go_wp2
              go_roundw
              case rel => exact ⟨1, v3, rfl, rfl, by omega, by rw [E2.out]; exact OWN3.out, BR3.out⟩
              case measure => simp [intOf]
            · have hj2 : j < 2 := by omega
              have hj2I : ¬ (2 : Int) ≤ (j : Int) := by omega
              have PRj := Hid.mk (PR.out j)
              have DONE := Hid.mk (preF_done (lvl := l) (n := n) (len := p.len) (num := p.num) hj2)
              clear h3 h2
              by_cases hl1 : 1 ≤ l
              · have hl1I : (1 : Int) ≤ (l : Int) := by omega
                go_wp2_with fail
                refine (rsteps_any ro co bu cs _ m cc ap n cap p _ hs36 q3 q4 hn4 HB.out PAH.out).mono ?_
                rintro e w2 ⟨v2, rfl, hown2, hb2⟩
                have G2 := Hid.mk hown2
                have OWN2 := Hid.mk (OWN.out.below hb2)
                have BR2 : Hid (Below (w.heap.size + 1) w1 w2) := BR.out.trans (hb2.mono zz)
                have HBS2 : Hid (w.heap.size + 1 ≤ w2.heap.size) := (YALL.out _ BR2.out).2.2.2.2.1
                have HL2 : Hid ((preF l j n p.len p.num).length + (stepsF co cs p.len p.num n).length ≤ 100000000) := by
                  have a1 := PRj.out; have a2 := ST.out; unfold Hid; omega
                clear hown2 hb2 yo
                go_wp2_with (at_builtin; go_must (refine wpList_catF rfl _ _ rfl (w.heap.size + 1) _ L v2 (preF l j n p.len p.num) (stepsF co cs p.len p.num n) rfl OWN2.out rfl G2.out HBS2.out HL2.out ?_; intro v3 w3 hown3 hb3; have OWN3 := Hid.mk hown3; have BR3 : Hid (Below (w.heap.size + 1) w1 w3) := BR2.out.trans hb3; clear hown3 hb3; obtain ⟨y3, CA3, PA3, bw3, zz3, zw3⟩ := YALL.out w3 BR3.out; have CAH3 := Hid.mk CA3; have PAH3 := Hid.mk PA3; clear CA3 PA3 bw3))
                refine (rends_any ro co bu cs bc oc m cc fr tt ap n cap p _ CAH3.out HMN.out hn4 HB.out PAH3.out).mono ?_
                rintro e w4 ⟨v4, rfl, hown4, hb4⟩
                have G4 := Hid.mk hown4
                have OWN4 := Hid.mk (OWN3.out.below hb4)
                have BR4 : Hid (Below (w.heap.size + 1) w1 w4) := BR3.out.trans (hb4.mono zz3)
                have HBS4 : Hid (w.heap.size + 1 ≤ w4.heap.size) := (YALL.out _ BR4.out).2.2.2.2.1
                have HL4 : Hid ((preF l j n p.len p.num ++ stepsF co cs p.len p.num n).length + (endsF fr tt p.len p.num n).length ≤ 100000000) := by
                  have a1 := PRj.out; have a2 := ST.out; have a3 := EN.out; unfold Hid; rw [List.length_append]; omega
                clear hown4 hb4 y3
                go_wp2_with (at_builtin; go_must (refine wpList_catF rfl _ _ rfl (w.heap.size + 1) _ v3 v4 (preF l j n p.len p.num ++ stepsF co cs p.len p.num n) (endsF fr tt p.len p.num n) rfl OWN4.out rfl G4.out HBS4.out HL4.out ?_; intro v5 w5 hown5 hb5))
                have OW : Hid (OwnF w5 w.heap.size v5 (ansF ro co bu cs m fr tt n p (l : Int))) := by
                  unfold Hid
                  rw [AN.out, if_pos HMN.out]
                  unfold allF
                  rw [if_pos hl1, ← DONE.out]
                  exact hown5.le (by omega)
                have BR5 : Hid (Below w.heap.size w w5) := (YALL.out _ (BR4.out.trans hb5)).2.2.2.1
                clear hown5 hb5
                go_ret2
                exact ⟨v5, ret_vi JE.out.symm, OW.out, BR5.out⟩
              · have hl1I : ¬ (1 : Int) ≤ (l : Int) := by omega
                go_wp2_with fail
                refine (rends_any ro co bu cs bc oc m cc fr tt ap n cap p _ CAH.out HMN.out hn4 HB.out PAH.out).mono ?_
                rintro e w4 ⟨v4, rfl, hown4, hb4⟩
                have G4 := Hid.mk hown4
                have OWN4 := Hid.mk (OWN.out.below hb4)
                have BR4 : Hid (Below (w.heap.size + 1) w1 w4) := BR.out.trans (hb4.mono zz)
                have HBS4 : Hid (w.heap.size + 1 ≤ w4.heap.size) := (YALL.out _ BR4.out).2.2.2.2.1
                have HL4 : Hid ((preF l j n p.len p.num).length + (endsF fr tt p.len p.num n).length ≤ 100000000) := by
                  have a1 := PRj.out; have a3 := EN.out; unfold Hid; omega
                clear hown4 hb4 yo
                go_wp2_with (at_builtin; go_must (refine wpList_catF rfl _ _ rfl (w.heap.size + 1) _ L v4 (preF l j n p.len p.num) (endsF fr tt p.len p.num n) rfl OWN4.out rfl G4.out HBS4.out HL4.out ?_; intro v5 w5 hown5 hb5))
                have OW : Hid (OwnF w5 w.heap.size v5 (ansF ro co bu cs m fr tt n p (l : Int))) := by
                  unfold Hid
                  rw [AN.out, if_pos HMN.out]
                  unfold allF
                  rw [if_neg hl1, ← DONE.out, List.append_nil]
                  exact hown5.le (by omega)
                have BR5 : Hid (Below w.heap.size w w5) := (YALL.out _ (BR4.out.trans hb5)).2.2.2.1
                clear hown5 hb5
                go_ret2
                exact ⟨v5, ret_vi JE.out.symm, OW.out, BR5.out⟩
      · have hmnI : ((n : Int) != (m : Int)) = true := by simp; omega
        have OW : Hid (OwnF (w1.alloc (.cells #[.int .i64 0, .int .i64 (-1), .int .i64 (-1), .int .i64 0] 116)) w1.heap.size (.slice (some ⟨w1.heap.size, 0, none⟩) 1 1) [⟨0, -1, -1, 0⟩]) := own_oneF _ ⟨0, -1, -1, 0⟩ _ rfl
        have BW : Hid (Below w.heap.size w (w1.alloc (.cells #[.int .i64 0, .int .i64 (-1), .int .i64 (-1), .int .i64 0] 116))) := B1.out.alloc (by omega) _
        have AN2 : Hid (ansF ro co bu cs m fr tt n p (l : Int) = [⟨0, -1, -1, 0⟩]) := by unfold Hid; rw [AN.out, if_neg hmn]
        clear hmn
        go_wp2
        go_ret2
        exact ⟨_, ret_vi JE.out.symm, by rw [AN2.out]; exact OW.out.le (by omega), BW.out⟩
  · have hE0 : (E != 0) = true := by simpa using h0
    have JE : Hid (judgeE ro co bu cs m fr tt lvl = E) := by unfold Hid judgeE; rw [← HE.out, if_neg h0]
    have AN : Hid (ansF ro co bu cs m fr tt n p lvl = []) := by unfold Hid ansF; rw [JE.out, if_neg h0]
    clear h0
    go_wp2
    go_ret2
    exact ⟨_, ret_vi JE.out.symm, by rw [AN.out]; exact OwnF.nil _ _, B1.out⟩

end Go.Proofs.YtnkgpinadgacgaaDoor

namespace Go.Proofs.YtnkgpinadgacgaaDoor
open Go.RowKit M SM
theorem sumN_le {f : Nat → Nat} {B : Nat} : ∀ {n : Nat}, (∀ i, i < n → f i ≤ B) → sumN f n ≤ B * n
  | 0, _ => by simp [sumN]
  | n + 1, h => by
    have h1 := sumN_le (n := n) (fun i hi => h i (by omega))
    have h2 := h n (by omega)
    simp only [sumN]
    rw [Nat.mul_succ]; omega

set_option maxRecDepth 100000 in
set_option maxHeartbeats 4000000 in
theorem wellgood_any (ro co bu : Int) (cs : ByteArray) (a : Option Addr) (m cc : Nat) (fr tt : Nat → Int) (Ls : List (List Nat)) (k : Nat) (lo hi g : Nat) (hh n c : Nat → Nat) (w : World) (hs : cs.size ≤ maxLen) (hsd : SidesIn w)
    (ha : 0 < m → ∃ b off, a = some ⟨b, off, none⟩ ∧ CartsIn w b off m fr tt) (R : Rows w lo hi g Ls.length hh n c (fun t => qi (Ls.getD t []))) (hn : ∀ t, t < Ls.length → n t = (Ls.getD t []).length) (hG : GoodA ro co bu cs m fr tt Ls k) :
    Calls Tryd.prog 39 #[.agg #[.int .i64 ro, .int .i64 co, .string cs, .slice a m cc, .int .i64 bu], .slice (some ⟨g, 0, none⟩) Ls.length Ls.length, .int .i64 (k : Nat)] w fun e w' => e = .returned (.bool true) ∧ Below w.heap.size w w' := by
  have hm4 := hG.four
  have hmm : m ≤ maxLen := by unfold maxLen; omega
  have HA := Hid.mk ha
  have HSD := Hid.mk hsd
  have HR := Hid.mk R
  have PA := Hid.mk (rows_plan R hn)
  have HN := Hid.mk hn
  have JE : Hid (judgeE ro co bu cs m fr tt 3 = 0) := by unfold Hid judgeE; rw [if_pos hG.check, if_neg (by omega)]
  have AN : Hid (ansF ro co bu cs m fr tt Ls.length (planM hh c Ls) 3 = []) := by
    unfold Hid ansF
    rw [if_pos JE.out, if_pos hG.num, hG.num]
    exact hG.none
  have LB : Hid (∀ i, i < Ls.length → (planM hh c Ls).len i ≤ 1048576) := fun i hi => by
    have h := (hG.pos i (by have := hG.num; omega)).2
    show (Ls.getD i []).length ≤ _
    omega
  have LP : Hid (∀ i, i < Ls.length → 0 < (Ls.getD i []).length ∧ (Ls.getD i []).length ≤ 320000) := fun i hi => by
    have h := hG.pos i (by have := hG.num; omega)
    exact ⟨List.length_pos_iff.2 h.1, h.2⟩
  have KE : Hid (k = sumN (fun i => (Ls.getD i []).length - 1) Ls.length) := by unfold Hid; rw [hG.num]; exact hG.cost
  obtain ⟨N, hN⟩ : ∃ N, N = Ls.length := ⟨_, rfl⟩
  have hN4 : N ≤ 4 := by have := hG.num; omega
  rw [← hN] at PA AN LB LP KE HR HN ⊢
  have SB : Hid (∀ i, i ≤ N → sumN (fun i => (Ls.getD i []).length - 1) i ≤ 1280000) := fun i hi => by
    have h := sumN_le (f := fun i => (Ls.getD i []).length - 1) (B := 320000) (n := i) (fun j hj => by have := LP.out j (by omega); omega)
    omega
  have hgl := R.row.lt
  clear ha hsd R hn hG hN
  go_enter Tryd.func39, Tryd.ntmps39
  go_wp2_with fail
  have B0 : Hid (Below w.heap.size w (w.alloc (Obj.cells #[Value.int IntKind.i64 ro, Value.int IntKind.i64 co, Value.string cs, .slice a m cc, Value.int IntKind.i64 bu] 24))) := (Below.refl _ w).alloc (Nat.le_refl _) _
  refine (rjudge_any ro co bu cs a m cc fr tt _ N N (planM hh c Ls) 3 _ hs hmm (HSD.out.below B0.out) (by exact opt_below HA.out B0.out) LB.out (PA.out.below B0.out)).mono ?_
  rintro e w1 ⟨v, rfl, hv, hb1⟩
  rw [AN.out] at hv
  rw [JE.out]
  have hv2 := hv.2 rfl
  subst hv2
  have B1 : Hid (Below w.heap.size w w1) := B0.out.trans (hb1.mono (by simp))
  have R1 : Hid (Rows w1 lo hi g N hh n c (fun t => qi (Ls.getD t []))) := HR.out.below B1.out
  clear hv hb1 B0 HR PA
  go_wp2
  go_loopw [9, 10] (fun v9 v10 wr => ∃ i : Nat, v10 = .int .i64 i ∧ v9 = .int .i64 (sumN (fun i => (Ls.getD i []).length - 1) i : Nat) ∧ i ≤ N ∧ wr = w1) (fun _ v10 _ => N - (intOf v10).toNat)
  case atStart => exact ⟨0, rfl, rfl, Nat.zero_le _, rfl⟩
  case round =>
    obtain ⟨i, rfl, rfl, hi, rfl⟩ := hrel
    by_cases hlt : i < N
    · have d0 := R1.out.row.cell hlt
      have hl1 := (LP.out i hlt).1
      have hl2 := (LP.out i hlt).2
      have hsb := SB.out i hi
      have hni := HN.out i hlt
      have hSI : Hid (sumN (fun i => (Ls.getD i []).length - 1) (i + 1) = sumN (fun i => (Ls.getD i []).length - 1) i + ((Ls.getD i []).length - 1)) := rfl
      rw [← hni] at hl1 hl2 hSI
      obtain ⟨S, hS⟩ : ∃ S, S = sumN (fun i => (Ls.getD i []).length - 1) i := ⟨_, rfl⟩
      rw [← hS] at hsb hSI ⊢
      have hiI : (i : Int) < (N : Int) := by omega
      clear hni hS
      go_wp2
      go_roundw
      case rel => exact ⟨i + 1, by go_num, by rw [hSI.out]; go_num, by omega, by first | rfl | trivial⟩
      case measure => simp [intOf]; omega
    · have hd : i = N := by omega
      subst hd
      rw [← KE.out]
      go_wp2
      go_ret
      exact ⟨rfl, B1.out⟩

end Go.Proofs.YtnkgpinadgacgaaDoor
