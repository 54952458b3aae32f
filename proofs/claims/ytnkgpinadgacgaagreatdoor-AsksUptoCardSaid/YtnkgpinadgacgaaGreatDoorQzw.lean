/- Hp, Cp, Hq, Wb. -/
import Derived.Test.YtnkgpinadgacgaaGreatDoorQzv
set_option maxRecDepth 1000000
set_option maxHeartbeats 4000000
namespace Go.Proofs.YtnkgpinadgacgaaGreatDoor
section
open Go.RowKit M SM
noncomputable def planOf (F0 : Nat) (ro co : Int) (cs : ByteArray) (m : Nat) (fr tt : Nat -> Int) : List (List Nat) :=
 match solY F0 ro co cs m fr tt with
 | some (b, s') => planL m (SM.wayF s'.seen (costO (s'.seen b)) b)
 | none => []
structure GoodA (ro co bu : Int) (cs : ByteArray) (m : Nat) (fr tt : Nat -> Int) (Ls : List (List Nat)) (k : Nat) : Prop where
 check : (checkM ro co cs m fr tt bu).1 = 0
 num : Ls.length = m
 some : 0 < m
 four : m <= 4
 pos : ∀ i, i < m -> Ls.getD i [] ≠ [] ∧ (Ls.getD i []).length <= 320000
 none : allF 3 co cs fr tt m (fun i => (Ls.getD i []).length) (fun i j => (((Ls.getD i []).getD j 0 : Nat) : Int)) = []
 cost : k = sumN (fun i => (Ls.getD i []).length - 1) m
theorem planL_at {m i : Nat} {W : List St} (h : i < m) : (planL m W).getD i [] = pathL i W := by
 unfold planL; rw [zg, List.getElem?_map, List.getElem?_range h]; rfl
theorem firstOf_at {p : Nat -> Bool} : ∀ {n : Nat}, firstOf p n < n -> p (firstOf p n) = true
 | n + 1, h => by
   simp only [firstOf] at h ⊢; by_cases e : firstOf p n < n
   . rw [if_pos e]; exact firstOf_at e
   . rw [if_neg e] at h ⊢; by_cases e2 : p n = true
     . rw [if_pos e2]; exact e2
     . rw [if_neg e2] at h; omega
theorem check_some {ro co bu : Int} {cs : ByteArray} {m : Nat} {fr tt : Nat -> Int} (h : (checkM ro co cs m fr tt bu).1 = 0) : 0 < m ∧ bu <= 20000 := by
 unfold checkM at h; split at h
 . cases h
 . split at h
   . cases h
   . split at h
     . cases h
     . next h3 =>
       split at h
       . next h4 =>
         exfalso; have h5 : cartM cs fr tt (firstOf (fun i => !(cartM cs fr tt i == 0)) m) = 0 := h; have h6 := firstOf_at h4; simp [h5] at h6
       . split at h
         . cases h
         . next h5 => omega
theorem cost_same {F0 : Nat} {ro co bu : Int} {cs : ByteArray} {m : Nat} {fr tt : Nat -> Int} {L : List (List Nat)} {b : St} {s' : SM.Srch} {k : Nat} (hF : 200400000 <= F0) (hck : (checkM ro co cs m fr tt bu).1 = 0) (hW : Work (stepP ro co cs m) (cellsOf fr m) L L.length) (hg : cellsOf tt m ∈ L) (hL : L.length <= 20000)
 (hsol : solY F0 ro co cs m fr tt = some (b, s'))
 (h3 : ∃ n z, BM.Way (RS (fun p => growL (mayN co cs) p m) m (cellsOf tt m)) n (cellsOf fr m, List.replicate m false) z k ∧ z.2 = List.replicate m true)
 (h4 : ∀ n z K, BM.Way (RS (fun p => growL (mayN co cs) p m) m (cellsOf tt m)) n (cellsOf fr m, List.replicate m false) z K -> z.2 = List.replicate m true -> k <= K) : costO (s'.seen b) = k := by
 obtain ⟨s1, s2, s3⟩ := checkM_good hck; obtain ⟨r1, r2⟩ := side_bd s1; obtain ⟨r3, r4⟩ := side_bd s2; obtain ⟨hp1, hp2⟩ := cells_pos hck; obtain ⟨G, hpos, _⟩ := sol_gnd hck hW hg hL; obtain ⟨hb1, ⟨j, hj⟩, hleast⟩ := sol_least hF hck hW hg hL hsol; exact least_same (ok := PosG cs m) (fun p hp => hp.1.1) G (fun p hp => (hpos p hp).1) (fun p q hq hp => step_both r3 r4 s3 (hpos q hq).1 hp) (fun p q hq => PosG.nextR hq) hp1 ⟨j, b, hj, hb1⟩ hleast h3 h4
def planM (hh c : Nat -> Nat) (Ls : List (List Nat)) : PlanM := ⟨fun t => some ⟨hh t, 0, none⟩, fun t => (Ls.getD t []).length, c, fun i j => (((Ls.getD i []).getD j 0 : Nat) : Int)⟩
end
section
open Go.RowKit M
theorem rjudge_any (ro co bu : Int) (cs : ByteArray) (a : Option Addr) (m cc : Nat) (fr tt : Nat -> Int) (ap : Option Addr) (n cap : Nat) (p : PlanM) (lvl : Int) (w : World) (hs : cs.size <= maxLen) (hm : m <= maxLen) (hsd : SidesIn w)
 (ha : 0 < m -> ∃ b off, a = some ⟨b, off, none⟩ ∧ CartsIn w b off m fr tt) (hB : ∀ i, i < n -> p.len i <= 1048576) (hp : PlanAt w ap n p) :
 Calls Tryz.prog 37 #[.agg #[.int .i64 ro, .int .i64 co, .string cs, .slice a m cc, .int .i64 bu], .slice ap n cap, .int .i64 lvl] w fun e w' =>
  ∃ v, e = .returned (.tuple #[v, .int .i64 (judgeE ro co bu cs m fr tt lvl)]) ∧ OwnF w' w.heap.size v (ansF ro co bu cs m fr tt n p lvl) ∧ Below w.heap.size w w' := by
 have HA := zx ha; have HB := zx hB; have HP := zx hp; have HSD := zx hsd; have B0 : Hid (Below w.heap.size w (w.alloc (.cells #[.int .i64 ro, .int .i64 co, .string cs, .slice a m cc, .int .i64 bu] 34))) := (Below.refl _ w).alloc zl _; obtain ⟨E, hE⟩ : ∃ E, E = (checkM ro co cs m fr tt bu).1 := ⟨_, rfl⟩
 obtain ⟨E2, hE2⟩ : ∃ E, E = (checkM ro co cs m fr tt bu).2 := ⟨_, rfl⟩
 have HE := zx hE; have HE2 := zx hE2; clear ha hB hp hsd hE hE2; go_enter Tryz.func37, Tryz.ntmps37; go_wp2_with fail; refine (rcheck_any ro co bu cs a m cc fr tt _ hs hm (by exact opt_below HA.out B0.out)).mono ?_; rintro e w1 ⟨he, hb1⟩; rw [<- HE.out, <- HE2.out] at he; subst he; have y1 : ∀ o, w1.cell? ⟨w.heap.size, o, none⟩ = #[Value.int .i64 ro, .int .i64 co, .string cs, .slice a m cc, .int .i64 bu][o]? := by
  intro o; rw [hb1.cell (p := ⟨w.heap.size, o, none⟩) (by show w.heap.size < _; simp)]; go_simp
 have B1 := zx (B0.out.trans (hb1.mono (by simp))); have hz1 : w.heap.size + 1 <= w1.heap.size := by have := hb1.size; simp at this; omega
 clear hb1 B0; by_cases h0 : E = 0
 . have hE0 : (E != 0) = false := by simp [h0]
   have CK : Hid ((checkM ro co cs m fr tt bu).1 = 0) := HE.out.symm.trans h0; clear h0; by_cases hl : lvl < 0 ∨ 3 < lvl
   . have JE : Hid (judgeE ro co bu cs m fr tt lvl = 7) := by unfold Hid judgeE; rw [if_pos CK.out, if_pos hl]
     have AN : Hid (ansF ro co bu cs m fr tt n p lvl = []) := by unfold Hid ansF; rw [JE.out]; rfl
     rcases hl with hl | hl
     . go_wp2; go_ret2; exact ⟨_, ret_vi JE.out.symm, by rw [AN.out]; exact OwnF.nil _ _, B1.out⟩
     . have hl0 : ¬ lvl < 0 := by omega
       go_wp2; go_ret2; exact ⟨_, ret_vi JE.out.symm, by rw [AN.out]; exact OwnF.nil _ _, B1.out⟩
   . have JE : Hid (judgeE ro co bu cs m fr tt lvl = 0) := by unfold Hid judgeE; rw [if_pos CK.out, if_neg hl]
     obtain ⟨l, rfl⟩ := Int.eq_ofNat_of_zero_le (show 0 <= lvl by omega); have AN : Hid (ansF ro co bu cs m fr tt n p (l : Int) = if n = m then allF l co cs fr tt n p.len p.num else [⟨0, -1, -1, 0⟩]) := by unfold Hid ansF; rw [if_pos JE.out]; rfl
     obtain ⟨s1, s2, s3⟩ := checkM_good CK.out; obtain ⟨q1, q2⟩ := side_bd s1; obtain ⟨q3, q4⟩ := side_bd s2; obtain ⟨m1, m2⟩ := mul_bd q1 q2 q3 q4; have hs36 : cs.size <= 36 := by omega
     have hm4 := (carts_free CK.out).1; obtain ⟨bc, oc, rfl, hcc⟩ := HA.out (good_pos CK.out); have HCC := zx hcc; have hl0 : ¬ (l : Int) < 0 := by omega
     have hl3 : ¬ (3 : Int) < (l : Int) := by omega
     have hl3n : l <= 3 := by omega
     clear hl s1 s2 s3 m1 m2 hcc; by_cases hmn : n = m
     . have hmnI : ((n : Int) != (m : Int)) = false := by simp [hmn]
       have HMN := zx hmn; have hn4 : n <= 4 := by omega
       have Y1 := zx y1; have YALL : Hid (∀ wx, Below (w.heap.size + 1) w1 wx -> (∀ o, wx.cell? ⟨w.heap.size, o, none⟩ = #[Value.int .i64 ro, .int .i64 co, .string cs, .slice (some ⟨bc, oc, none⟩) m cc, .int .i64 bu][o]?) ∧ CartsIn wx bc oc m fr tt ∧ PlanAt wx ap n p ∧ Below w.heap.size w wx ∧ w.heap.size + 1 <= wx.heap.size ∧ w.heap.size < wx.heap.size) := by
        intro wx hb; have hsz := hb.size; have hw : Below w.heap.size w wx := B1.out.trans (hb.mono (by omega)); exact ⟨fun o => (hb.cell (p := ⟨w.heap.size, o, none⟩) (by show w.heap.size < _; omega)).trans (Y1.out o), HCC.out.below hw, HP.out.below hw, hw, by omega, by omega⟩
       have ST := zx (steps_all (co := co) (cs := cs) (num := p.num) hn4 HB.out); have EN := zx (ends_all (fr := fr) (tt := tt) (len := p.len) (num := p.num) hn4); have PR : Hid (∀ j, (preF l j n p.len p.num).length <= 33554432) := fun j => preF_len hn4 HB.out
       have P3 := zx (pairs_all (lvl := 3) (num := p.num) hn4 HB.out); have P2 := zx (pairs_all (lvl := 2) (num := p.num) hn4 HB.out); clear hmn HP; go_wp2; clear y1; go_loopw [10, 11] (fun v10 v11 wr => ∃ (j : Nat) (L : Value), L = v10 ∧ v11 = .int .i64 j ∧ j <= l ∧ OwnF wr (w.heap.size + 1) L (preF l j n p.len p.num) ∧ Below (w.heap.size + 1) w1 wr) (fun _ v11 _ => (intOf v11).toNat)
       case atStart => exact ⟨l, _, rfl, rfl, zl, by rw [preF_start]; exact OwnF.nil _ _, Below.refl _ _⟩
       case round =>
        obtain ⟨wo, rfl⟩ : ∃ q, q = wr := ⟨_, rfl⟩
        obtain ⟨j, L, rfl, rfl, hj, hown, hbr⟩ := hrel; have OWN := zx hown; have BR := zx hbr; clear hown hbr; obtain ⟨yo, CA, PA, bw, zz, zw⟩ := YALL.out wo BR.out; have PAH := zx PA; have CAH := zx CA; clear CA PA bw; by_cases h3 : j = 3
        . subst h3; have PRj := zx (PR.out 3); go_wp2_with fail; refine (rpairs_3 ap n cap p _ hn4 HB.out PAH.out).mono ?_; rintro e w2 ⟨v2, rfl, hown2, hb2⟩; have G2 := zx hown2; have OWN2 := zx (OWN.out.below hb2); have BR2 := zx (BR.out.trans (hb2.mono zz)); have HBS2 : Hid (w.heap.size + 1 <= w2.heap.size) := (YALL.out _ BR2.out).2.2.2.2.1; have HL2 : Hid ((preF l 3 n p.len p.num).length + (pairsF 3 n p.len p.num n).length <= 100000000) := by
           have a1 := PRj.out; have a2 := P3.out; unfold Hid; omega
          have E2 : Hid (preF l 2 n p.len p.num = preF l 3 n p.len p.num ++ pairsF 3 n p.len p.num n) := preF_3 hj; clear hown2 hb2 yo; go_wp2_with (at_builtin; go_must (refine wpList_catF rfl _ _ rfl (w.heap.size + 1) _ L v2 (preF l 3 n p.len p.num) (pairsF 3 n p.len p.num n) rfl OWN2.out rfl G2.out HBS2.out HL2.out ?_; intro v3 w3 hown3 hb3))
          have OWN3 := zx hown3; have BR3 := zx (BR2.out.trans hb3); clear hown3 hb3; go_wp2; go_roundw; case rel => exact ⟨2, v3, rfl, rfl, by omega, by rw [E2.out]; exact OWN3.out, BR3.out⟩
          case measure => simp [intOf]
        . by_cases h2 : j = 2
          . subst h2; have PRj := zx (PR.out 2); clear h3; go_wp2_with fail; refine (rpairs_2 ap n cap p _ hn4 HB.out PAH.out).mono ?_; rintro e w2 ⟨v2, rfl, hown2, hb2⟩; have G2 := zx hown2; have OWN2 := zx (OWN.out.below hb2); have BR2 := zx (BR.out.trans (hb2.mono zz)); have HBS2 : Hid (w.heap.size + 1 <= w2.heap.size) := (YALL.out _ BR2.out).2.2.2.2.1; have HL2 : Hid ((preF l 2 n p.len p.num).length + (pairsF 2 n p.len p.num n).length <= 100000000) := by
             have a1 := PRj.out; have a2 := P2.out; unfold Hid; omega
            have E2 : Hid (preF l 1 n p.len p.num = preF l 2 n p.len p.num ++ pairsF 2 n p.len p.num n) := preF_2 hj; clear hown2 hb2 yo; go_wp2_with (at_builtin; go_must (refine wpList_catF rfl _ _ rfl (w.heap.size + 1) _ L v2 (preF l 2 n p.len p.num) (pairsF 2 n p.len p.num n) rfl OWN2.out rfl G2.out HBS2.out HL2.out ?_; intro v3 w3 hown3 hb3))
            have OWN3 := zx hown3; have BR3 := zx (BR2.out.trans hb3); clear hown3 hb3; go_wp2; go_roundw; case rel => exact ⟨1, v3, rfl, rfl, by omega, by rw [E2.out]; exact OWN3.out, BR3.out⟩
            case measure => simp [intOf]
          . have hj2 : j < 2 := by omega
            have hj2I : ¬ (2 : Int) <= (j : Int) := by omega
            have PRj := zx (PR.out j); have DONE := zx (preF_done (lvl := l) (n := n) (len := p.len) (num := p.num) hj2); clear h3 h2; by_cases hl1 : 1 <= l
            . have hl1I : (1 : Int) <= (l : Int) := by omega
              go_wp2_with fail; refine (rsteps_any ro co bu cs _ m cc ap n cap p _ hs36 q3 q4 hn4 HB.out PAH.out).mono ?_; rintro e w2 ⟨v2, rfl, hown2, hb2⟩; have G2 := zx hown2; have OWN2 := zx (OWN.out.below hb2); have BR2 := zx (BR.out.trans (hb2.mono zz)); have HBS2 : Hid (w.heap.size + 1 <= w2.heap.size) := (YALL.out _ BR2.out).2.2.2.2.1; have HL2 : Hid ((preF l j n p.len p.num).length + (stepsF co cs p.len p.num n).length <= 100000000) := by
               have a1 := PRj.out; have a2 := ST.out; unfold Hid; omega
              clear hown2 hb2 yo; go_wp2_with (at_builtin; go_must (refine wpList_catF rfl _ _ rfl (w.heap.size + 1) _ L v2 (preF l j n p.len p.num) (stepsF co cs p.len p.num n) rfl OWN2.out rfl G2.out HBS2.out HL2.out ?_; intro v3 w3 hown3 hb3; have OWN3 := zx hown3; have BR3 : Hid (Below (w.heap.size + 1) w1 w3) := BR2.out.trans hb3; clear hown3 hb3; obtain ⟨y3, CA3, PA3, bw3, zz3, zw3⟩ := YALL.out w3 BR3.out; have CAH3 := zx CA3; have PAH3 := zx PA3; clear CA3 PA3 bw3))
              refine (rends_any ro co bu cs bc oc m cc fr tt ap n cap p _ CAH3.out HMN.out hn4 HB.out PAH3.out).mono ?_; rintro e w4 ⟨v4, rfl, hown4, hb4⟩; have G4 := zx hown4; have OWN4 := zx (OWN3.out.below hb4); have BR4 := zx (BR3.out.trans (hb4.mono zz3)); have HBS4 : Hid (w.heap.size + 1 <= w4.heap.size) := (YALL.out _ BR4.out).2.2.2.2.1; have HL4 : Hid ((preF l j n p.len p.num ++ stepsF co cs p.len p.num n).length + (endsF fr tt p.len p.num n).length <= 100000000) := by
               have a1 := PRj.out; have a2 := ST.out; have a3 := EN.out; unfold Hid; rw [List.length_append]; omega
              clear hown4 hb4 y3; go_wp2_with (at_builtin; go_must (refine wpList_catF rfl _ _ rfl (w.heap.size + 1) _ v3 v4 (preF l j n p.len p.num ++ stepsF co cs p.len p.num n) (endsF fr tt p.len p.num n) rfl OWN4.out rfl G4.out HBS4.out HL4.out ?_; intro v5 w5 hown5 hb5))
              have OW : Hid (OwnF w5 w.heap.size v5 (ansF ro co bu cs m fr tt n p (l : Int))) := by
               unfold Hid; rw [AN.out, if_pos HMN.out]; unfold allF; rw [if_pos hl1, <- DONE.out]; exact hown5.le (by omega)
              have BR5 : Hid (Below w.heap.size w w5) := (YALL.out _ (BR4.out.trans hb5)).2.2.2.1; clear hown5 hb5; go_ret2; exact ⟨v5, ret_vi JE.out.symm, OW.out, BR5.out⟩
            . have hl1I : ¬ (1 : Int) <= (l : Int) := by omega
              go_wp2_with fail; refine (rends_any ro co bu cs bc oc m cc fr tt ap n cap p _ CAH.out HMN.out hn4 HB.out PAH.out).mono ?_; rintro e w4 ⟨v4, rfl, hown4, hb4⟩; have G4 := zx hown4; have OWN4 := zx (OWN.out.below hb4); have BR4 := zx (BR.out.trans (hb4.mono zz)); have HBS4 : Hid (w.heap.size + 1 <= w4.heap.size) := (YALL.out _ BR4.out).2.2.2.2.1; have HL4 : Hid ((preF l j n p.len p.num).length + (endsF fr tt p.len p.num n).length <= 100000000) := by
               have a1 := PRj.out; have a3 := EN.out; unfold Hid; omega
              clear hown4 hb4 yo; go_wp2_with (at_builtin; go_must (refine wpList_catF rfl _ _ rfl (w.heap.size + 1) _ L v4 (preF l j n p.len p.num) (endsF fr tt p.len p.num n) rfl OWN4.out rfl G4.out HBS4.out HL4.out ?_; intro v5 w5 hown5 hb5))
              have OW : Hid (OwnF w5 w.heap.size v5 (ansF ro co bu cs m fr tt n p (l : Int))) := by
               unfold Hid; rw [AN.out, if_pos HMN.out]; unfold allF; rw [if_neg hl1, <- DONE.out, List.append_nil]; exact hown5.le (by omega)
              have BR5 : Hid (Below w.heap.size w w5) := (YALL.out _ (BR4.out.trans hb5)).2.2.2.1; clear hown5 hb5; go_ret2; exact ⟨v5, ret_vi JE.out.symm, OW.out, BR5.out⟩
     . have hmnI : ((n : Int) != (m : Int)) = true := by simp; omega
       have OW : Hid (OwnF (w1.alloc (.cells #[.int .i64 0, .int .i64 (-1), .int .i64 (-1), .int .i64 0] 134)) w1.heap.size (.slice (some ⟨w1.heap.size, 0, none⟩) 1 1) [⟨0, -1, -1, 0⟩]) := own_oneF _ ⟨0, -1, -1, 0⟩ _ rfl; have BW : Hid (Below w.heap.size w (w1.alloc (.cells #[.int .i64 0, .int .i64 (-1), .int .i64 (-1), .int .i64 0] 134))) := B1.out.alloc (by omega) _; have AN2 : Hid (ansF ro co bu cs m fr tt n p (l : Int) = [⟨0, -1, -1, 0⟩]) := by unfold Hid; rw [AN.out, if_neg hmn]
       clear hmn; go_wp2; go_ret2; exact ⟨_, ret_vi JE.out.symm, by rw [AN2.out]; exact OW.out.le (by omega), BW.out⟩
 . have hE0 : (E != 0) = true := by simpa using h0
   have JE : Hid (judgeE ro co bu cs m fr tt lvl = E) := by unfold Hid judgeE; rw [<- HE.out, if_neg h0]
   have AN : Hid (ansF ro co bu cs m fr tt n p lvl = []) := by unfold Hid ansF; rw [JE.out, if_neg h0]
   clear h0; go_wp2; go_ret2; exact ⟨_, ret_vi JE.out.symm, by rw [AN.out]; exact OwnF.nil _ _, B1.out⟩
end
section
open Go.RowKit M SM
theorem sumN_le {f : Nat -> Nat} {B : Nat} : ∀ {n : Nat}, (∀ i, i < n -> f i <= B) -> sumN f n <= B * n
 | 0, _ => by simp [sumN]
 | n + 1, h => by
   have h1 := sumN_le (n := n) (fun i hi => h i (by omega)); have h2 := h n (by omega); simp only [sumN]; rw [Nat.mul_succ]; omega
end
section
open Go.RowKit Go.Shelf Go.Deep M SM
theorem plan_both (F0 : Nat) (ro co : Int) (cs : ByteArray) (m : Nat) (fr tt : Nat -> Int) : planK F0 ro co cs m fr tt = planOf F0 ro co cs m fr tt := rfl
theorem best_told {F0 : Nat} (hF : 200400000 <= F0) {ro co bu : Int} {cs : ByteArray} {m n k : Nat} {d : Bool} {fr tt : Nat -> Int} {e : Int} (hc : (checkM ro co cs m fr tt bu).1 = 0) (ht : M.Told (stepP ro co cs m) (cellsOf fr m) (cellsOf tt m) bu n d) (hb : bestR ro co bu cs m fr tt k e) :
 (bu < n ∧ k = 0 ∧ e = 10) ∨ (¬ bu < n ∧ d = false ∧ k = 0 ∧ e = 9) ∨
 (¬ bu < n ∧ d = true ∧ e = 0 ∧ ∀ b s', solY F0 ro co cs m fr tt = some (b, s') -> costY F0 ro co cs m fr tt = k ∧ GoodA ro co bu cs m fr tt (planOf F0 ro co cs m fr tt) k ∧
  GoodK co cs m fr tt (fun i => ((planOf F0 ro co cs m fr tt).getD i []).length - 1) (fun i j => ((planOf F0 ro co cs m fr tt).getD i []).getD j 0)) := by
 rcases hb with ⟨hc2, _⟩ | ⟨_, n2, d2, ht2, hr2⟩
 . exact absurd hc hc2
 . obtain ⟨s1, s2, s3⟩ := checkM_good hc; obtain ⟨r3, r4⟩ := side_bd s2; obtain ⟨hm4, hfree⟩ := carts_free hc; obtain ⟨hm0, hbu⟩ := check_some hc; have h3 := told_doc r3 r4 s3 (good_cellsOf fun k hk => (hfree k hk).1) ht; obtain ⟨e1, e3⟩ := h3.all ht2; rcases hr2 with ⟨hb2, hk, he⟩ | ⟨hb2, hd2, hk, he⟩ | ⟨hb2, hd2, he, h4, h5⟩
   . exact .inl ⟨e1.2 hb2, hk, he⟩
   . have hnb : ¬ bu < n := fun h => hb2 (e1.1 h)
     exact .inr (.inl ⟨hnb, (e3 hnb).2.trans hd2, hk, he⟩)
   . have hnb : ¬ bu < n := fun h => hb2 (e1.1 h)
     have hd1 := (e3 hnb).2.trans hd2; refine .inr (.inr ⟨hnb, hd1, he, fun b s' hsol => ?_⟩); rcases ht with ⟨L, hW, hn, hd⟩ | ⟨L, i, _, _, hlt⟩
     . have hg : cellsOf tt m ∈ L := of_decide_eq_true (hd.symm.trans hd1); have hL : L.length <= 20000 := by omega
       have hcs := cost_same hF hc hW hg hL hsol h4 h5; have hCY : costY F0 ro co cs m fr tt = k := by
        unfold costY; rw [hsol]; exact hcs
       have hPO : planOf F0 ro co cs m fr tt = planL m (SM.wayF s'.seen k b) := by
        unfold planOf; rw [hsol, <- hcs]
       obtain ⟨a1, a2, a3, a4, a5⟩ := sol_good hF hc hW hg hL hsol (W := SM.wayF s'.seen k b) (by rw [hcs]) (ln := fun i => ((planOf F0 ro co cs m fr tt).getD i []).length) (pt := fun i j => ((planOf F0 ro co cs m fr tt).getD i []).getD j 0) (fun i hi => by rw [hPO, planL_at hi]) (fun i hi j => by rw [hPO, planL_at hi]); have hGK := (sol_plan hF hc hW hg hL hsol).2.2.1; rw [plan_both] at hGK; refine ⟨hCY, ⟨hc, by rw [hPO]; simp [planL], hm0, hm4, fun i hi => ?_, a1, ?_⟩, hGK⟩
       . rw [hPO, planL_at hi]; exact ⟨List.length_pos_iff.1 (a3 i hi), Nat.le_trans (a4 i) a5⟩
       . rw [<- hcs, a2]; refine sumN_same fun i hi => ?_
         rw [hPO, planL_at hi]
     . exact absurd hlt hnb
theorem goodA_le {ro co bu : Int} {cs : ByteArray} {m k : Nat} {fr tt : Nat -> Int} {Ls : List (List Nat)} (h : GoodA ro co bu cs m fr tt Ls k) : k <= 1280000 := by
 have h1 := h.four; have h2 := sumN_le (f := fun i => (Ls.getD i []).length - 1) (B := 320000) (n := m) (fun j hj => by have := (h.pos j hj).2; omega); rw [h.cost]; omega
theorem ans_kb {F0 : Nat} (hF : 200400000 <= F0) {r : ByteArray} {A : List UInt8} (ha : ansW F0 r A) : ∀ t k e, TX.readT r.data.toList = ([], some t) -> (chkT t).1 = 0 -> bestR (t.R : Int) (t.C : Int) (t.U : Int) ⟨t.cs.toArray⟩ t.carts.length (frL t.carts) (ttL t.carts) k e -> k <= 2000000 := by
 intro t k e h1 h2 h3; rcases ha with ⟨k', g1, _⟩ | ⟨t', g1, g2, _⟩ | ⟨t', g1, g2, n, d, g3, g4⟩
 . rw [h1] at g1; have g2 := congrArg Prod.snd g1; cases g2
 . rw [h1] at g1; cases g1; exact absurd h2 g2
 . rw [h1] at g1; cases g1; rcases best_told hF g2 g3 h3 with ⟨_, hk, _⟩ | ⟨_, _, hk, _⟩ | ⟨hn, hd, _, hs⟩
   . omega
   . omega
   . rcases g4 with ⟨q1, _⟩ | ⟨_, q2, _⟩ | ⟨_, _, _, b, s', hsol⟩
     . exact absurd q1 hn
     . rw [hd] at q2; cases q2
     . have := goodA_le (hs b s' hsol).2.1; omega
noncomputable def planA (F0 : Nat) (t : TX.Told) : List (List Nat) := planOf F0 (t.R : Int) (t.C : Int) ⟨t.cs.toArray⟩ t.carts.length (frL t.carts) (ttL t.carts)
structure PlanT (F0 : Nat) (t : TX.Told) (k : Nat) : Prop where
 a : GoodA (t.R : Int) (t.C : Int) (t.U : Int) ⟨t.cs.toArray⟩ t.carts.length (frL t.carts) (ttL t.carts) (planA F0 t) k
 k : GoodK (t.C : Int) ⟨t.cs.toArray⟩ t.carts.length (frL t.carts) (ttL t.carts) (fun i => ((planA F0 t).getD i []).length - 1) (fun i j => ((planA F0 t).getD i []).getD j 0)
theorem ver_ans {F0 : Nat} (hF : 200400000 <= F0) {r : ByteArray} {A V : List UInt8} (ha : ansW F0 r A) (hv : verR r V) :
 (A = V ∧ ∃ b l, V = b :: l ∧ b ≠ 112) ∨
 (∃ t k, TX.readT r.data.toList = ([], some t) ∧ (chkT t).1 = 0 ∧ V = headP ++ TX.lineT [k] ∧ A = V ++ (planA F0 t).flatMap (pathT t.C) ∧
  (∀ k' e', bestR (t.R : Int) (t.C : Int) (t.U : Int) ⟨t.cs.toArray⟩ t.carts.length (frL t.carts) (ttL t.carts) k' e' -> PlanT F0 t k')) := by
 rcases ha with ⟨k', g1, g2, rfl⟩ | ⟨t', g1, g2, rfl⟩ | ⟨t', g1, g2, n, d, g3, g4⟩
 . rcases hv with ⟨h1, rfl⟩ | ⟨t, h1, _⟩ | ⟨t, h1, _⟩
   . refine .inl ⟨?_, 101, _, rfl, by decide⟩; rw [g1, rest_len, show r.size - (r.size - k') = k' by omega]
   . rw [h1] at g1; have g2 := congrArg Prod.snd g1; cases g2
   . rw [h1] at g1; have g2 := congrArg Prod.snd g1; cases g2
 . rcases hv with ⟨h1, _⟩ | ⟨t, h1, h2, rfl⟩ | ⟨t, h1, h2, _⟩
   . rw [g1] at h1; cases h1
   . rw [h1] at g1; cases g1; exact .inl ⟨rfl, 101, _, rfl, by decide⟩
   . rw [h1] at g1; cases g1; exact absurd h2 g2
 . rcases hv with ⟨h1, _⟩ | ⟨t, h1, h2, rfl⟩ | ⟨t, h1, h2, k, e, hb, hV⟩
   . rw [g1] at h1; cases h1
   . rw [h1] at g1; cases g1; exact absurd g2 h2
   . rw [h1] at g1; cases g1; rcases best_told hF g2 g3 hb with ⟨hn, _, he⟩ | ⟨hn, hd, _, he⟩ | ⟨hn, hd, he, hs⟩
     . rcases hV with ⟨_, rfl⟩ | ⟨he2, _⟩ | ⟨he2, _⟩
       . rcases g4 with ⟨_, rfl⟩ | ⟨q, _⟩ | ⟨q, _⟩
         . exact .inl ⟨rfl, 109, _, rfl, by decide⟩
         . exact absurd hn q
         . exact absurd hn q
       . rw [he] at he2; cases he2
       . rw [he] at he2; cases he2
     . rcases hV with ⟨he2, _⟩ | ⟨_, rfl⟩ | ⟨he2, _⟩
       . rw [he] at he2; cases he2
       . rcases g4 with ⟨q, _⟩ | ⟨_, _, rfl⟩ | ⟨_, q, _⟩
         . exact absurd q hn
         . exact .inl ⟨rfl, 110, _, rfl, by decide⟩
         . rw [hd] at q; cases q
       . rw [he] at he2; cases he2
     . rcases hV with ⟨he2, _⟩ | ⟨he2, _⟩ | ⟨_, rfl⟩
       . rw [he] at he2; cases he2
       . rw [he] at he2; cases he2
       . rcases g4 with ⟨q, _⟩ | ⟨_, q, _⟩ | ⟨_, _, rfl, b, s', hsol⟩
         . exact absurd q hn
         . rw [hd] at q; cases q
         . obtain ⟨hCY, _, _⟩ := hs b s' hsol; refine .inr ⟨t', k, h1, h2, rfl, ?_, fun k' e' hb' => ?_⟩
           . rw [hCY, plan_both]; unfold planT planA; rw [List.append_assoc]
           . rcases best_told hF g2 g3 hb' with ⟨q, _⟩ | ⟨_, q, _⟩ | ⟨_, _, _, hs'⟩
             . exact absurd q hn
             . rw [hd] at q; cases q
             . obtain ⟨_, a, b⟩ := hs' b s' hsol; exact ⟨a, b⟩
theorem plan_path {F0 : Nat} {t : TX.Told} {k : Nat} (h : PlanT F0 t k) {i : Nat} (hi : i < t.carts.length) :
 0 < ((planA F0 t).getD i []).length ∧ ((planA F0 t).getD i []).length <= 320000 ∧ frL t.carts i = ((((planA F0 t).getD i []).getD 0 0 : Nat) : Int) ∧
 (∀ j, j < ((planA F0 t).getD i []).length -> ((planA F0 t).getD i []).getD j 0 < t.cs.length) ∧
 (∀ j, j + 1 < ((planA F0 t).getD i []).length -> nearM (t.C : Int) ((((planA F0 t).getD i []).getD j 0 : Nat) : Int) ((((planA F0 t).getD i []).getD (j + 1) 0 : Nat) : Int) = true) := by
 obtain ⟨p1, p2⟩ := h.a.pos i hi; have p0 : 0 < ((planA F0 t).getD i []).length := List.length_pos_iff.2 p1; obtain ⟨f, c, h1, h2, h3, h4, _⟩ := h.k.path i hi; have hsz : (⟨t.cs.toArray⟩ : ByteArray).size = t.cs.length := by
  show t.cs.toArray.size = _; rw [List.size_toArray]
 unfold isPathM at h3; simp only [Bool.and_eq_true, beq_iff_eq] at h3; obtain ⟨⟨⟨q1, _⟩, _⟩, q4⟩ := h3; refine ⟨p0, p2, by rw [h1, q1], fun j hj => ?_, fun j hj => ?_⟩
 . have h5 := h4 j (by omega); rw [hsz] at h5; exact h5
 . cases hk : kmay (t.C : Int) ⟨t.cs.toArray⟩ (((planA F0 t).getD i []).getD j 0 : Nat) (((planA F0 t).getD i []).getD (j + 1) 0 : Nat) with
   | true => exact kmay_near hk
   | false =>
     have h6 := stepsM_no (co := (t.C : Int)) (cs := ⟨t.cs.toArray⟩) (T := ((planA F0 t).getD i []).length - 1) (t := j) (p := fun j => ((planA F0 t).getD i []).getD j 0) (by omega) hk; rw [h6] at q4; cases q4
end
end Go.Proofs.YtnkgpinadgacgaaGreatDoor
