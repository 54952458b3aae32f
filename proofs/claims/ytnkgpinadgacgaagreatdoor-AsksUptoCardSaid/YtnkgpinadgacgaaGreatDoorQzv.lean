/- La, Lc, Wt, Wa, Co, Eq. -/
import Derived.Test.YtnkgpinadgacgaaGreatDoorQzu
import Derived.Test.YtnkgpinadgacgaaGreatDoorQzm
import Derived.Maps.RangeWalk
import Derived.Shelf.LaySoft
import Derived.Shelf.SlIterI.Nil
import Derived.Shelf.SortM.Plain
import Derived.Shelf.SortM.SortNone
import Derived.Ground.GgzProg
import Derived.Ground.SlgmProg
set_option maxRecDepth 1000000
set_option maxHeartbeats 1000000
namespace Go.Proofs.YtnkgpinadgacgaaGreatDoor
section
open Go.RowKit M SM
noncomputable def planK (F0 : Nat) (ro co : Int) (cs : ByteArray) (m : Nat) (fr tt : Nat -> Int) : List (List Nat) :=
 match solY F0 ro co cs m fr tt with
 | some (b, s') => planL m (SM.wayF s'.seen (costO (s'.seen b)) b)
 | none => []
structure GoodK (co : Int) (cs : ByteArray) (m : Nat) (fr tt : Nat -> Int) (T : Nat -> Nat) (p : Nat -> Nat -> Nat) : Prop where
 path : ∀ i, i < m -> ∃ f c : Nat, fr i = (f : Int) ∧ tt i = (c : Int) ∧ isPathM co cs f c (T i) (p i) = true ∧ (∀ s, s <= T i -> p i s < cs.size) ∧ T i <= 1000000
 meet : ∀ i k, k < i -> i < m -> ∀ t, whM (T k) (p k) t ≠ whM (T i) (p i) t ∧ ¬ (whM (T k) (p k) t = whM (T i) (p i) (t + 1) ∧ whM (T i) (p i) t = whM (T k) (p k) (t + 1))
theorem wh_at {ln : Nat -> Nat} {pt : Nat -> Nat -> Nat} {i t : Nat} (h : 0 < ln i) : whM (ln i - 1) (pt i) t = atT ln pt i t := by
 unfold whM atT; by_cases e : t < ln i
 . rw [if_pos (by omega), if_pos e]
 . by_cases e2 : t <= ln i - 1
   . omega
   . rw [if_neg e2, if_neg e]
section
variable {ro co bu : Int} {cs : ByteArray} {m : Nat} {fr tt : Nat → Int} {L : List (List Nat)} {F0 : Nat}
theorem planK_at {m i : Nat} {W : List St} (h : i < m) : (planL m W).getD i [] = pathL i W := by
 unfold planL; rw [zg, List.getElem?_map, List.getElem?_range h]; rfl
theorem isPath_of {co : Int} {cs : ByteArray} {f c T : Nat} {p : Nat -> Nat} (h0 : p 0 = f) (hT : p T = c) (hw : 0 < T -> p (T - 1) ≠ p T) (hs : ∀ s, s < T -> p s < cs.size ∧ mayM co cs (p s) (p (s + 1)) = true) : isPathM co cs f c T p = true := by
 have h1 : stepsM co cs T p = true := stepsM_yes fun t ht => by
  rw [kmay_adj (hs t ht).1]; show (!mayM co cs (p t) (p (t + 1))) = false; rw [(hs t ht).2]; rfl
 unfold isPathM; rw [h1, h0, hT]; by_cases e : 0 < T
 . have := hw e; rw [hT] at this; simp [this]
 . simp [e]
theorem sol_plan (hF : 200400000 <= F0) (hck : (checkM ro co cs m fr tt bu).1 = 0) (hW : Work (stepP ro co cs m) (cellsOf fr m) L L.length) (hg : cellsOf tt m ∈ L) (hL : L.length <= 20000) {b : St} {s' : SM.Srch} (hsol : solY F0 ro co cs m fr tt = some (b, s')) :
 (planK F0 ro co cs m fr tt).length = m ∧ (∀ i, i < m -> 0 < ((planK F0 ro co cs m fr tt).getD i []).length) ∧ GoodK co cs m fr tt (fun i => ((planK F0 ro co cs m fr tt).getD i []).length - 1) (fun i j => ((planK F0 ro co cs m fr tt).getD i []).getD j 0) ∧
  costO (s'.seen b) = sumN (fun i => ((planK F0 ro co cs m fr tt).getD i []).length - 1) m := by
 obtain ⟨s1, s2, s3⟩ := checkM_good hck; obtain ⟨r1, r2⟩ := side_bd s1; obtain ⟨r3, r4⟩ := side_bd s2; obtain ⟨hm4, hfree⟩ := carts_free hck; obtain ⟨hp1, hp2⟩ := cells_pos hck; obtain ⟨G, hpos, hway⟩ := sol_gnd hck hW hg hL; obtain ⟨R, hn⟩ := run_begin G; obtain ⟨hb1, _, hleast⟩ := sol_least hF hck hW hg hL hsol; obtain ⟨x, s2', X2, hcome, hx, ⟨s3', hseen, hR3⟩, g, hgx, _⟩ := come_ok G hway F0 _ [] R (by unfold left; rw [hn]; simp only [List.length_nil]; omega); have e : some (x, s2') = some (b, s') := hcome.symm.trans hsol; injection e with e; injection e with e1 e2; subst e1 e2
 have hk : costO (s2'.seen x) = g := by
  cases e : s2'.seen x with
  | none => rw [e] at hgx; cases hgx
  | some v => rw [e] at hgx; simp at hgx; exact hgx
 obtain ⟨W, hWe⟩ : ∃ W, W = SM.wayF s2'.seen (costO (s2'.seen x)) x := ⟨_, rfl⟩
 have hPO : planK F0 ro co cs m fr tt = planL m W := by
  unfold planK; rw [hsol, hWe]
 obtain ⟨c1, c2, ⟨j, c3⟩, c4, _⟩ := way_chain G hR3 g x g (hseen ▸ hgx) (Nat.le_refl g); have hmem := way_mem hR3 g x g (hseen ▸ hgx); have hnd := (way_nodup hR3 g x g (hseen ▸ hgx)).1; rw [hseen, <- hk, <- hWe] at c1 c2 c3 c4 hmem hnd; have hfew := fine_few hm4 hnd hmem; have hcost : costO (s2'.seen x) = costW W := Nat.le_antisymm (hleast j x _ c3 hx) (by rw [hk]; rw [hk] at c2; exact c2); have hd : ∀ i k, i < m -> k < m -> i ≠ k -> (cellsOf tt m).getD i 0 ≠ (cellsOf tt m).getD k 0 := hp2.2; have P := chain_good (adj := fun a b => a ∈ mvN ro co cs b) c1 c4 hx hd (fun a b h => h)
 have hcell : ∀ i, i < m -> ∀ t, t < (pathL i W).length -> (pathL i W).getD t 0 < cs.size ∧ freeB cs ((pathL i W).getD t 0 : Nat) = true := fun i hi t ht => by
  have h1 := path_at c1 hi t; rw [if_pos ht] at h1; have h2 : t < W.length := Nat.lt_of_lt_of_le ht path_len; have h3 := (hpos _ (hmem _ (List.getElem_mem h2)).1).1.1.2 i hi; have h4 : W.getD t (s0 m (cellsOf tt m)) = W[t] := by rw [zg, List.getElem?_eq_getElem h2]; rfl
  rw [h1, h4]; exact h3
 have hat : ∀ i, i < m -> (planK F0 ro co cs m fr tt).getD i [] = pathL i W := fun i hi => by rw [hPO, planK_at hi]
 refine ⟨by rw [hPO]; simp [planL], fun i hi => by rw [hat i hi]; exact P.pos i hi, ⟨fun i hi => ?_, fun i k hki hi t => ?_⟩, ?_⟩
 . obtain ⟨f1, f2⟩ := hfree i hi; have e1 := free_pos f1; have e2 := free_pos f2; have hlen : (pathL i W).length <= W.length := path_len; have hps := P.pos i hi; refine ⟨(cellsOf fr m).getD i 0, (cellsOf tt m).getD i 0, by rw [cellsOf_at hi]; omega, by rw [cellsOf_at hi]; omega, ?_, ?_, ?_⟩
   . simp only [hat i hi]; refine isPath_of (P.first i hi) (P.last i hi) (fun h => ?_) (fun s hs => ?_)
     . have h1 := P.wait i hi (by omega); have h2 := P.last i hi; intro h3; apply h1
       show (pathL i W).getD ((pathL i W).length - 2) 0 = _; rw [<- h2]; exact h3
     . have h1 := P.step i hi s (by omega); obtain ⟨h2, h3⟩ := hcell i hi (s + 1) (by omega); obtain ⟨h4, h5⟩ := hcell i hi s (by omega); have h6 := (mvN_mem r3 r4 s3 h2 h3).1 h1; exact ⟨h4, (mayN_mem.1 (mayN_turn h2 h3 h6)).2⟩
   . simp only [hat i hi]; intro s hs; exact (hcell i hi s (by omega)).1
   . simp only [hat i hi]; omega
 . have hkm : k < m := by omega
   have q1 : ∀ t, whM ((pathL i W).length - 1) (fun j => (pathL i W).getD j 0) t = atT (fun i => (pathL i W).length) (fun i j => (pathL i W).getD j 0) i t := fun t => wh_at (ln := fun i => (pathL i W).length) (pt := fun i j => (pathL i W).getD j 0) (P.pos i hi)
   have q2 : ∀ t, whM ((pathL k W).length - 1) (fun j => (pathL k W).getD j 0) t = atT (fun i => (pathL i W).length) (fun i j => (pathL i W).getD j 0) k t := fun t => wh_at (ln := fun i => (pathL i W).length) (pt := fun i j => (pathL i W).getD j 0) (P.pos k hkm)
   simp only [hat i hi, hat k hkm]; rw [q1, q2, q1, q2]; exact ⟨P.meet k i hkm hi (by omega) t, P.swap k i hkm hi (by omega) t⟩
 . rw [hcost, path_cost (fun p q hq => (growL_mem.1 hq).1) (cellsOf_len _ _) c1]; exact sumN_same fun i hi => by rw [hat i hi]
end
end
section
open M SM BM
section
variable {ro co bu : Int} {cs : ByteArray} {m : Nat} {fr tt : Nat → Int} {T : Nat → Nat} {p : Nat → Nat → Nat} {F0 : Nat}
theorem kmay_near {co : Int} {cs : ByteArray} {a b : Int} (h : kmay co cs a b = true) : nearM co a b = true := by
 unfold kmay at h; simp only [Bool.and_eq_true] at h; exact h.2
end
end
section
open Go.RowKit Go.Shelf Go.Deep M SM
def manyT : List UInt8 := [109, 97, 110, 121, 10]
def noneT : List UInt8 := [110, 111, 110, 101, 10]
theorem cartM_range (cs : ByteArray) (fr tt : Nat -> Int) (i : Nat) : 0 <= cartM cs fr tt i ∧ cartM cs fr tt i <= 5 := by
 unfold cartM; by_cases h : (freeB cs (fr i) && freeB cs (tt i)) = true
 . rw [if_pos h]; split <;> exact ⟨by decide, by decide⟩
 . rw [if_neg h]; exact ⟨by decide, by decide⟩
theorem chk_range (t : TX.Told) : 0 <= (chkT t).1 ∧ (chkT t).1 <= 6 := by
 unfold chkT checkM; split
 . exact ⟨by simp, by simp⟩
 . split
   . exact ⟨by simp, by simp⟩
   . split
     . exact ⟨by simp, by simp⟩
     . split
       . have h := cartM_range ⟨t.cs.toArray⟩ (frL t.carts) (ttL t.carts) (firstOf (fun i => !(cartM ⟨t.cs.toArray⟩ (frL t.carts) (ttL t.carts) i == 0)) t.carts.length); exact ⟨h.1, by show cartM _ _ _ _ <= 6; omega⟩
       . split <;> exact ⟨by simp, by simp⟩
def toldT (t : TX.Told) (n : Nat) (d : Bool) : Prop := M.Told (stepP (t.R : Int) (t.C : Int) ⟨t.cs.toArray⟩ t.carts.length) (cellsOf (frL t.carts) t.carts.length) (cellsOf (ttL t.carts) t.carts.length) (t.U : Int) n d
def ansW (F0 : Nat) (r : ByteArray) (A : List UInt8) : Prop :=
 (∃ k, TX.readT r.data.toList = (restS r k, none) ∧ k <= r.size ∧ A = errT 11 k) ∨
 (∃ t, TX.readT r.data.toList = ([], some t) ∧ (chkT t).1 ≠ 0 ∧ A = errT (chkT t).1.toNat (chkT t).2.toNat) ∨
 (∃ t, TX.readT r.data.toList = ([], some t) ∧ (chkT t).1 = 0 ∧ ∃ (n : Nat) (d : Bool), toldT t n d ∧
  (((t.U : Int) < n ∧ A = manyT) ∨ (¬ (t.U : Int) < n ∧ d = false ∧ A = noneT) ∨ (¬ (t.U : Int) < n ∧ d = true ∧ A = planT t.C (planK F0 (t.R : Int) (t.C : Int) ⟨t.cs.toArray⟩ t.carts.length (frL t.carts) (ttL t.carts)) (costY F0 (t.R : Int) (t.C : Int) ⟨t.cs.toArray⟩ t.carts.length (frL t.carts) (ttL t.carts)) ∧ ∃ b s', solY F0 (t.R : Int) (t.C : Int) ⟨t.cs.toArray⟩ t.carts.length (frL t.carts) (ttL t.carts) = some (b, s'))))
theorem ansW_det {F0 : Nat} {r : ByteArray} {A B : List UInt8} (ha : ansW F0 r A) (hb : ansW F0 r B) : A = B := by
 rcases ha with ⟨k, h1, h2, rfl⟩ | ⟨t, h1, h2, rfl⟩ | ⟨t, h1, h2, n, d, h3, h4⟩
 . rcases hb with ⟨k', g1, g2, rfl⟩ | ⟨t', g1, _⟩ | ⟨t', g1, _⟩
   . rw [h1] at g1; have g3 := congrArg List.length (congrArg Prod.fst g1); rw [rest_len, rest_len] at g3; rw [show k = k' by omega]
   . rw [h1] at g1; have g2 := congrArg Prod.snd g1; cases g2
   . rw [h1] at g1; have g2 := congrArg Prod.snd g1; cases g2
 . rcases hb with ⟨k', g1, _⟩ | ⟨t', g1, g2, rfl⟩ | ⟨t', g1, g2, _⟩
   . rw [h1] at g1; have g2 := congrArg Prod.snd g1; cases g2
   . rw [h1] at g1; cases g1; rfl
   . rw [h1] at g1; cases g1; exact absurd g2 h2
 . rcases hb with ⟨k', g1, _⟩ | ⟨t', g1, g2, _⟩ | ⟨t', g1, g2, n', d', g3, g4⟩
   . rw [h1] at g1; have g2 := congrArg Prod.snd g1; cases g2
   . rw [h1] at g1; cases g1; exact absurd h2 g2
   . rw [h1] at g1; cases g1; obtain ⟨e1, e2⟩ := M.Told.all h3 g3; rcases h4 with ⟨p1, rfl⟩ | ⟨p1, p2, rfl⟩ | ⟨p1, p2, rfl, _⟩
     . rcases g4 with ⟨_, rfl⟩ | ⟨q1, _, _⟩ | ⟨q1, _, _⟩
       . rfl
       . exact absurd (e1.1 p1) q1
       . exact absurd (e1.1 p1) q1
     . rcases g4 with ⟨q1, _⟩ | ⟨_, _, rfl⟩ | ⟨q1, q2, _⟩
       . exact absurd (e1.2 q1) p1
       . rfl
       . have := (e2 p1).2; rw [p2, q2] at this; cases this
     . rcases g4 with ⟨q1, _⟩ | ⟨q1, q2, _⟩ | ⟨_, _, rfl, _⟩
       . exact absurd (e1.2 q1) p1
       . have := (e2 p1).2; rw [p2, q2] at this; cases this
       . rfl
theorem ask_any (F0 : Nat) (hF0 : 200400000 <= F0) (sp : Value) (r : ByteArray) (w : World) (hr : r.size <= 2000000) (hT : Lib.TabBelow Tryz.prog w.heap.size w "internal/strconv.uint64pow10" .u64 Lib.pow10Tab) (hsd : SidesIn w) :
 Calls Tryz.prog 5 #[sp, .string r] w fun e w' => ∃ F : ByteArray, e = .returned (.string F) ∧ ansW F0 r F.data.toList ∧ Below w.heap.size w w' := by
 have HT : Hid (∀ u, Below w.heap.size w u -> Lib.TabBelow Tryz.prog u.heap.size u "internal/strconv.uint64pow10" .u64 Lib.pow10Tab) := fun u hu v hv => hT v (hu.trans (hv.mono hu.size))
 have HSD := zx hsd; have hrl : r.data.toList.length = r.size := (Lib.size_eq r).symm; clear hT hsd; go_enter Tryz.func5, Tryz.ntmps5; go_wp2_with fail; refine (yread_any r w hr).mono ?_; rintro e w1 ⟨hb1, hway⟩; have B1 := zx hb1; have BF : Hid (∀ o, Below w.heap.size w (w1.alloc o)) := fun o => B1.out.alloc B1.out.size o
 clear hb1; rcases hway with ⟨t, g, cap, hf, hc, rfl, hci, hg, hcap, hal⟩ | ⟨t, hf, hc, rfl⟩ | ⟨k, hf, hk, rfl⟩
 . obtain ⟨E, hE⟩ : ∃ E : ByteArray, E = ⟨t.cs.toArray⟩ := ⟨_, rfl⟩
   obtain ⟨m, hm⟩ : ∃ m, m = t.carts.length := ⟨_, rfl⟩
   have hck : (checkM (t.R : Int) (t.C : Int) E m (frL t.carts) (ttL t.carts) (t.U : Int)).1 = 0 := by rw [hE, hm]; exact hc
   have GY := zx (chk_form hck); have CK := zx hck; have HF := zx hf; have HC := zx hc; have HE := zx hE; have HM := zx hm; have hle := Nat.mul_le_mul GY.out.r2 GY.out.c2; have hE36 : E.size <= 36 := by rw [GY.out.sz]; exact hle
   have hm4 := GY.out.m2; have hC1 := GY.out.c1; unfold yardV; rw [<- hE, <- hm]; rw [<- hm] at hci hcap; have Y2 : Hid (Box (w1.alloc (.cells #[.int .i64 (t.R : Int), .int .i64 (t.C : Int), .string E, .slice (some ⟨g, 0, none⟩) m cap, .int .i64 (t.U : Int)] 34)) w1.heap.size #[.int .i64 (t.R : Int), .int .i64 (t.C : Int), .string E, .slice (some ⟨g, 0, none⟩) m cap, .int .i64 (t.U : Int)]) := box_new _ _; have B2 : Hid (Below w.heap.size w (w1.alloc (.cells #[.int .i64 (t.R : Int), .int .i64 (t.C : Int), .string E, .slice (some ⟨g, 0, none⟩) m cap, .int .i64 (t.U : Int)] 34))) := BF.out _
   have C2 : Hid (CartsIn (w1.alloc (.cells #[.int .i64 (t.R : Int), .int .i64 (t.C : Int), .string E, .slice (some ⟨g, 0, none⟩) m cap, .int .i64 (t.U : Int)] 34)) g 0 m (frL t.carts) (ttL t.carts)) := hci.below ((Below.refl _ w1).alloc zl _); clear hck hf hc hE hm hci hle; go_wp2_with fail; generalize (w1.alloc (.cells #[.int .i64 (t.R : Int), .int .i64 (t.C : Int), .string E, .slice (some ⟨g, 0, none⟩) m cap, .int .i64 (t.U : Int)] 34)) = w2 at *
   refine (solve_any F0 hF0 _ _ _ E (some ⟨g, 0, none⟩) m cap (frL t.carts) (ttL t.carts) w2 (by unfold maxLen; omega) (by unfold maxLen; omega) hcap (HSD.out.below B2.out) (fun _ => ⟨g, 0, rfl, C2.out⟩)).mono ?_; rintro e w3 ⟨x, y, z, rfl, hsol, hb3⟩; have B3 := zx (B2.out.trans (hb3.mono B2.out.size)); have Y3 := zx (Y2.out.belowB hb3 Y2.out.lt); clear hb3; rcases hsol with ⟨hne, _⟩ | ⟨_, n, d, htold, hsol⟩
   . exact absurd CK.out hne
   . have TD : Hid (toldT t n d) := by
      unfold Hid toldT; rw [<- HE.out, <- HM.out]; exact htold
     clear htold; rcases hsol with ⟨hq, rfl, rfl, rfl⟩ | ⟨hq, hd, rfl, rfl, rfl⟩ | ⟨hq, hd, rfl, L, k, b, s', hW, hnL, hgL, hso, hk, rfl, hpl⟩
     . have AN : Hid (ansW F0 r manyT) := .inr (.inr ⟨t, HF.out, HC.out, n, d, TD.out, .inl ⟨hq, rfl⟩⟩); clear hq; go_wp2; go_ret; exact ⟨_, rfl, AN.out, B3.out⟩
     . have AN : Hid (ansW F0 r noneT) := .inr (.inr ⟨t, HF.out, HC.out, n, d, TD.out, .inr (.inl ⟨hq, hd, rfl⟩)⟩); clear hq hd; go_wp2; go_ret; exact ⟨_, rfl, AN.out, B3.out⟩
     . have hb20 := GY.out.u2; have eK : k = costY F0 (t.R : Int) (t.C : Int) E m (frL t.carts) (ttL t.carts) := by
        rw [hk]; unfold costY; rw [hso]
       have ePl : planL m (SM.wayF s'.seen k b) = planK F0 (t.R : Int) (t.C : Int) E m (frL t.carts) (ttL t.carts) := by
        unfold planK; rw [hso, hk]
       rw [ePl] at hpl; obtain ⟨l1, l2, hG, l4⟩ := sol_plan hF0 CK.out hW hgL (by omega) hso; have hsum : k <= 4000000 := by
        rw [hk, l4]; have key : ∀ j, j <= m -> sumN (fun i => ((planK F0 (t.R : Int) (t.C : Int) E m (frL t.carts) (ttL t.carts)).getD i []).length - 1) j <= 1000000 * j := by
         intro j; induction j with
         | zero => intro _; simp [sumN]
         | succ j ih =>
           intro hj; have h1 := ih (by omega); obtain ⟨_, _, _, _, _, _, h2⟩ := hG.path j (by omega); simp only [sumN]; omega
        have := key m zl; omega
       have AN : Hid (ansW F0 r (planT t.C (planK F0 (t.R : Int) (t.C : Int) E m (frL t.carts) (ttL t.carts)) k)) := .inr (.inr ⟨t, HF.out, HC.out, n, d, TD.out, .inr (.inr ⟨hq, hd, by rw [eK, <- HE.out, <- HM.out], b, s', by rw [<- HE.out, <- HM.out]; exact hso⟩)⟩); obtain ⟨Ls, hLs⟩ : ∃ Ls, Ls = planK F0 (t.R : Int) (t.C : Int) E m (frL t.carts) (ttL t.carts) := ⟨_, rfl⟩
       rw [<- hLs] at hpl l1 l2 hG AN; obtain ⟨gp, A, rfl, _, hrow, hown, _, _⟩ := hpl; have key : ∀ i, ∃ hh c, i < m -> A i = .slice (some ⟨hh, 0, none⟩) (Ls.getD i []).length c := by
        intro i; by_cases hi : i < m
        . obtain ⟨a, cp, e, ha, _⟩ := (hown i (by rw [l1]; exact hi)).form; obtain ⟨bb, rfl⟩ := ha (l2 i hi); exact ⟨bb, cp, fun _ => e⟩
        . exact ⟨0, 0, fun h => absurd h hi⟩
       obtain ⟨hh, k1⟩ := Classical.axiomOfChoice key; obtain ⟨c, k2⟩ := Classical.axiomOfChoice k1; have PL : Hid (∀ u, Below w3.heap.size w3 u -> Calls Tryz.prog 10 #[.agg #[.int .i64 (t.R : Int), .int .i64 (t.C : Int), .string E, .slice (some ⟨g, 0, none⟩) m cap, .int .i64 (t.U : Int)], .slice (some ⟨gp, 0, none⟩) Ls.length Ls.length, .int .i64 k] u fun e w' => ∃ F : ByteArray, e = .returned (.string F) ∧ F.data.toList = planT t.C Ls k ∧ Below u.heap.size u w') := fun u hu =>
        tplan_any t.R t.C t.U k gp E _ Ls hh c u (HT.out u (B3.out.trans (hu.mono B3.out.size))) hC1 (by omega) (by omega)
         (fun i hi => by
          obtain ⟨_, _, _, _, _, _, h2⟩ := hG.path i (by omega); have := l2 i (by omega); exact ⟨this, by omega⟩)
         (fun i hi s hs => by
          obtain ⟨_, _, _, _, _, h3, h2⟩ := hG.path i (by omega); have h4 := h3 s (by omega); have h5 : (Ls.getD i []).getD s 0 < E.size := h4; omega)
         (fun i hi => by
          refine zj hu ?_; rw [hrow.cell hi, k2 i (by omega)])
         (fun i hi s hs => by
          refine zj hu ?_; have h1 := hown i hi; rw [k2 i (by omega)] at h1; exact h1.cell hs)
       have y0 := Y3.out.c 0; have y1 := Y3.out.c 1; have y2 := Y3.out.c 2; have y3 := Y3.out.c 3; have y4 := Y3.out.c 4; simp only [zA, zB, zC] at y0 y1 y2 y3 y4; clear hq hd hW hnL hgL hso hk eK ePl l1 l2 hG l4 hLs hrow hown key k1 k2 hb20; go_wp2_with fail; refine (PL.out w3 (Below.refl _ _)).mono ?_; rintro e w5 ⟨F, rfl, hF, hb5⟩; have AN3 : Hid (ansW F0 r F.data.toList) := by rw [hF]; exact AN.out
       have B5 := zx (B3.out.trans (hb5.mono B3.out.size)); clear hF hb5; go_wp2; go_ret; exact ⟨F, rfl, AN3.out, B5.out⟩
 . have hpl := chk_place hf (readT_carts hf); have hrg := chk_range t; rw [hrl] at hpl; have hans : ansW F0 r (errT (chkT t).1.toNat (chkT t).2.toNat) := .inr (.inl ⟨t, hf, hc, rfl⟩); have AN := zx hans; obtain ⟨c1, hc1⟩ : ∃ c : Nat, c = (chkT t).1.toNat := ⟨_, rfl⟩
   obtain ⟨c2, hc2⟩ : ∃ c : Nat, c = (chkT t).2.toNat := ⟨_, rfl⟩
   have i1 : (chkT t).1 = (c1 : Int) := by omega
   have i2 : (chkT t).2 = (c2 : Int) := by omega
   have AN2 : Hid (ansW F0 r (errT c1 c2)) := by rw [hc1, hc2]; exact AN.out
   rw [i1, i2]; rw [i1] at hc hrg; rw [i2] at hpl; have e0 : ((c1 : Int) != 0) = true := by simp only [bne_iff_ne, ne_eq]; exact hc
   have l1 : c1 <= 1000000000 := by omega
   have l2 : c2 <= 1000000000 := by omega
   clear hf hc hans hc1 hc2 i1 i2 hpl hrg; unfold yard0; go_wp2_with fail; refine (error_any c1 c2 _ (HT.out _ (BF.out _)) l1 l2).mono ?_; rintro e w3 ⟨F, rfl, hF, hb3⟩; have AN3 : Hid (ansW F0 r F.data.toList) := by rw [hF]; exact AN2.out
   have B3 : Hid (Below w.heap.size w w3) := (BF.out _).trans (hb3.mono (BF.out _).size); clear hF hb3; go_wp2; go_ret; exact ⟨F, rfl, AN3.out, B3.out⟩
 . have AN2 : Hid (ansW F0 r (errT 11 k)) := .inl ⟨k, hf, hk, rfl⟩; clear hf; unfold yard0; go_wp2_with fail; refine (error_any 11 k _ (HT.out _ (BF.out _)) (by omega) (by omega)).mono ?_; rintro e w3 ⟨F, rfl, hF, hb3⟩; have AN3 : Hid (ansW F0 r F.data.toList) := by rw [hF]; exact AN2.out
   have B3 : Hid (Below w.heap.size w w3) := (BF.out _).trans (hb3.mono (BF.out _).size); clear hF hb3; go_wp2; go_ret; exact ⟨F, rfl, AN3.out, B3.out⟩
end
section
open Go.RowKit Go.Shelf Go.Deep M SM
def verR (r : ByteArray) (V : List UInt8) : Prop :=
 ((TX.readT r.data.toList).2 = none ∧ V = errT 11 (r.size - (TX.readT r.data.toList).1.length)) ∨
 (∃ t, TX.readT r.data.toList = ([], some t) ∧ (chkT t).1 ≠ 0 ∧ V = errT (chkT t).1.toNat (chkT t).2.toNat) ∨
 (∃ t, TX.readT r.data.toList = ([], some t) ∧ (chkT t).1 = 0 ∧ ∃ (k : Nat) (e : Int), bestR (t.R : Int) (t.C : Int) (t.U : Int) ⟨t.cs.toArray⟩ t.carts.length (frL t.carts) (ttL t.carts) k e ∧
  ((e = 10 ∧ V = manyT) ∨ (e = 9 ∧ V = noneT) ∨ (e = 0 ∧ V = headP ++ TX.lineT [k])))
theorem best_kind {ro co bu : Int} {cs : ByteArray} {m : Nat} {fr tt : Nat -> Int} {k : Nat} {e : Int} (h : bestR ro co bu cs m fr tt k e) (hc : (checkM ro co cs m fr tt bu).1 = 0) : e = 10 ∨ e = 9 ∨ e = 0 := by
 rcases h with ⟨h1, _⟩ | ⟨_, n, d, _, ⟨_, _, h⟩ | ⟨_, _, _, h⟩ | ⟨_, _, h, _⟩⟩
 . exact absurd hc h1
 . exact .inl h
 . exact .inr (.inl h)
 . exact .inr (.inr h)
theorem xver_any (r : ByteArray) (w : World) (hr : r.size <= 2000000) (hKB : ∀ t k e, TX.readT r.data.toList = ([], some t) -> (chkT t).1 = 0 -> bestR (t.R : Int) (t.C : Int) (t.U : Int) ⟨t.cs.toArray⟩ t.carts.length (frL t.carts) (ttL t.carts) k e -> k <= 2000000) :
 Calls Tryz.prog 11 #[.string r] w fun e w' => ∃ V : ByteArray, e = .returned (.string V) ∧ verR r V.data.toList ∧ Below w.heap.size w w' := by
 have hrl : r.data.toList.length = r.size := (Lib.size_eq r).symm; have HK := zx hKB; clear hKB; go_enter Tryz.func11, Tryz.ntmps11; go_wp2_with fail; refine (xread_any r w hr).mono ?_; rintro e w1 ⟨hb1, hway⟩; have B1 := zx hb1; have BF : Hid (∀ o, Below w.heap.size w (w1.alloc o)) := zx fun o => B1.out.alloc B1.out.size o
 clear hb1; have hways : (∃ (t : TX.Told) (g cap : Nat), TX.readT r.data.toList = ([], some t) ∧ (chkT t).1 = 0 ∧ e = .returned (.tuple #[yardV t g cap, .int .i64 0, .int .i64 0]) ∧ CartsIn w1 g 0 t.carts.length (frL t.carts) (ttL t.carts)) ∨
  (∃ c1 c2 : Nat, e = .returned (.tuple #[yard0, .int .i64 c1, .int .i64 c2]) ∧ c1 ≠ 0 ∧ c1 <= 2000000 ∧ c2 <= 2000000 ∧ verR r (errT c1 c2)) := by
  rcases hway with ⟨t, g, cap, h1, h2, h3, h4, _⟩ | ⟨t, h1, h2, h3⟩ | ⟨h1, h2⟩
  . exact .inl ⟨t, g, cap, h1, h2, h3, h4⟩
  . have hpl := chk_place h1 (readT_carts h1); have hrg := chk_range t; rw [hrl] at hpl; refine .inr ⟨(chkT t).1.toNat, (chkT t).2.toNat, ?_, by omega, by omega, by omega, .inr (.inl ⟨t, h1, h2, rfl⟩)⟩; rw [h3, Int.toNat_of_nonneg hrg.1, Int.toNat_of_nonneg hpl.1]
  . have hpl := place_read r; rw [h1] at hpl; have hk : placeI r = ((r.size - (TX.readT r.data.toList).1.length : Nat) : Int) := hpl; exact .inr ⟨11, _, by rw [h2, hk]; rfl, by omega, by omega, by omega, .inl ⟨h1, rfl⟩⟩
 clear hway; rcases hways with ⟨t, g, cap, hf, hc, rfl, hci⟩ | ⟨c1, c2, rfl, h1, h2, h3, hv⟩
 . obtain ⟨E, hE⟩ : ∃ E : ByteArray, E = ⟨t.cs.toArray⟩ := ⟨_, rfl⟩
   obtain ⟨m, hm⟩ : ∃ m, m = t.carts.length := ⟨_, rfl⟩
   have hck : (checkM (t.R : Int) (t.C : Int) E m (frL t.carts) (ttL t.carts) (t.U : Int)).1 = 0 := by rw [hE, hm]; exact hc
   have GY := zx (chk_form hck); have CK := zx hck; have HF := zx hf; have HC := zx hc; have HE := zx hE; have HM := zx hm; have hle := Nat.mul_le_mul GY.out.r2 GY.out.c2; have hE36 : E.size <= 36 := by rw [GY.out.sz]; exact hle
   have hm4 := GY.out.m2; unfold yardV; rw [<- hE, <- hm]; rw [<- hm] at hci; have B2 : Hid (Below w.heap.size w (w1.alloc (.cells #[.int .i64 (t.R : Int), .int .i64 (t.C : Int), .string E, .slice (some ⟨g, 0, none⟩) m cap, .int .i64 (t.U : Int)] 34))) := zx (BF.out _); have C2 : Hid (CartsIn (w1.alloc (.cells #[.int .i64 (t.R : Int), .int .i64 (t.C : Int), .string E, .slice (some ⟨g, 0, none⟩) m cap, .int .i64 (t.U : Int)] 34)) g 0 m (frL t.carts) (ttL t.carts)) := zx (hci.below ((Below.refl _ w1).alloc zl _)); clear hck hf hc hE hm hci hle; go_wp2_with fail
   generalize (w1.alloc (.cells #[.int .i64 (t.R : Int), .int .i64 (t.C : Int), .string E, .slice (some ⟨g, 0, none⟩) m cap, .int .i64 (t.U : Int)] 34)) = w2 at *; refine (rbest_any _ _ _ E (some ⟨g, 0, none⟩) m cap (frL t.carts) (ttL t.carts) w2 (by unfold maxLen; omega) (by unfold maxLen; omega) (fun _ => ⟨g, 0, rfl, C2.out⟩)).mono ?_; rintro e w3 ⟨k, e2, rfl, hbr, hb3⟩; have B3 := zx (B2.out.trans (hb3.mono B2.out.size)); have hk := HK.out t k e2 HF.out HC.out (by rw [<- HE.out, <- HM.out]; exact hbr)
   have VR : Hid (∀ V, ((e2 = 10 ∧ V = manyT) ∨ (e2 = 9 ∧ V = noneT) ∨ (e2 = 0 ∧ V = headP ++ TX.lineT [k])) -> verR r V) := zx fun V hV => .inr (.inr ⟨t, HF.out, HC.out, k, e2, by rw [<- HE.out, <- HM.out]; exact hbr, hV⟩)
   have hkd := best_kind hbr CK.out; clear hb3 hbr; rcases hkd with rfl | rfl | rfl
   . have AN := zx (VR.out manyT (.inl ⟨rfl, rfl⟩)); go_wp2; go_ret; exact ⟨_, rfl, AN.out, B3.out⟩
   . have AN := zx (VR.out noneT (.inr (.inl ⟨rfl, rfl⟩))); go_wp2; go_ret; exact ⟨_, rfl, AN.out, B3.out⟩
   . have AN := zx (VR.out _ (.inr (.inr ⟨rfl, rfl⟩))); have SH : Hid (∀ u, Calls Tryz.prog 25 #[.int .i64 k] u fun e w' => e = .returned (.string ⟨(Lib.decDigits k).toArray⟩) ∧ Below u.heap.size u w') := zx fun u => shown_any k u (by omega)
     go_wp2_with fail; refine (SH.out _).mono ?_; rintro e w4 ⟨rfl, hb4⟩; have B4 := zx (B3.out.trans (hb4.mono B3.out.size)); obtain ⟨S1, hS1⟩ : ∃ S : ByteArray, Hid (S = ⟨(Lib.decDigits k).toArray⟩) := ⟨_, zx rfl⟩
     rw [<- hS1.out]; have s1 := dec_size hS1.out; have s2 : S1.size <= 2000001 := by omega
     clear hb4; go_wp2; go_ret; refine ⟨_, rfl, ?_, B4.out⟩; have e : ((⟨#[112, 108, 97, 110, 32]⟩ : ByteArray) ++ S1 ++ ⟨#[10]⟩).data.toList = headP ++ TX.lineT [k] := by
      have e0 : (⟨#[112, 108, 97, 110, 32]⟩ : ByteArray) = ⟨headP.toArray⟩ := rfl; rw [e0, hS1.out, bytes_push, bytes_push]; simp [TX.lineT, TX.sep]
     rw [<- e] at AN; exact AN.out
 . have SH1 : Hid (∀ u, Calls Tryz.prog 25 #[.int .i64 c1] u fun e w' => e = .returned (.string ⟨(Lib.decDigits c1).toArray⟩) ∧ Below u.heap.size u w') := zx fun u => shown_any c1 u h2
   have SH2 : Hid (∀ u, Calls Tryz.prog 25 #[.int .i64 c2] u fun e w' => e = .returned (.string ⟨(Lib.decDigits c2).toArray⟩) ∧ Below u.heap.size u w') := zx fun u => shown_any c2 u h3
   have e0 : ((c1 : Int) != 0) = true := by simp only [bne_iff_ne, ne_eq]; omega
   have HV := zx hv; clear hv; unfold yard0; go_wp2_with fail; refine (SH1.out _).mono ?_; rintro e w3 ⟨rfl, hb3⟩; have B3 : Hid (Below w.heap.size w w3) := zx ((BF.out _).trans (hb3.mono (BF.out _).size)); obtain ⟨S1, hS1⟩ : ∃ S : ByteArray, Hid (S = ⟨(Lib.decDigits c1).toArray⟩) := ⟨_, zx rfl⟩
   rw [<- hS1.out]; clear hb3; go_wp2_with fail; refine (SH2.out _).mono ?_; rintro e w4 ⟨rfl, hb4⟩; have B4 := zx (B3.out.trans (hb4.mono B3.out.size)); obtain ⟨S2, hS2⟩ : ∃ S : ByteArray, Hid (S = ⟨(Lib.decDigits c2).toArray⟩) := ⟨_, zx rfl⟩
   rw [<- hS2.out]; have s1 := dec_size hS1.out; have s2 := dec_size hS2.out; have s3 : S1.size <= 2000001 := by omega
   have s4 : S2.size <= 2000001 := by omega
   clear hb4; go_wp2; go_ret; refine ⟨_, rfl, ?_, B4.out⟩; have e : ((⟨#[101, 114, 114, 111, 114, 32]⟩ : ByteArray) ++ S1 ++ ⟨#[32]⟩ ++ S2 ++ ⟨#[10]⟩).data.toList = errT c1 c2 := by
    have e0 : (⟨#[101, 114, 114, 111, 114, 32]⟩ : ByteArray) = ⟨headE.toArray⟩ := rfl; rw [e0, hS1.out, hS2.out, bytes_push, bytes_push, bytes_push, bytes_push]; simp [errT, TX.lineT, TX.sep]
   rw [<- e] at HV; exact HV.out
end
section
open Go.RowKit M
namespace M
def judgeE (ro co bu : Int) (cs : ByteArray) (m : Nat) (fr tt : Nat -> Int) (lvl : Int) : Int := if (checkM ro co cs m fr tt bu).1 = 0 then (if lvl < 0 ∨ 3 < lvl then 7 else 0) else (checkM ro co cs m fr tt bu).1
def ansF (ro co bu : Int) (cs : ByteArray) (m : Nat) (fr tt : Nat -> Int) (n : Nat) (p : PlanM) (lvl : Int) : List FaultM :=
 if judgeE ro co bu cs m fr tt lvl = 0 then (if n = m then allF lvl.toNat co cs fr tt n p.len p.num else [⟨0, -1, -1, 0⟩]) else []
def preF (lvl j n : Nat) (len : Nat -> Nat) (num : Nat -> Nat -> Int) : List FaultM :=
 (if 3 <= lvl ∧ j < 3 then pairsF 3 n len num n else []) ++ (if 2 <= lvl ∧ j < 2 then pairsF 2 n len num n else [])
theorem preF_start (lvl n : Nat) (len : Nat -> Nat) (num : Nat -> Nat -> Int) : preF lvl lvl n len num = [] := by
 unfold preF; rw [if_neg (by omega), if_neg (by omega)]; rfl
theorem preF_3 {lvl n : Nat} {len : Nat -> Nat} {num : Nat -> Nat -> Int} (h : 3 <= lvl) : preF lvl 2 n len num = preF lvl 3 n len num ++ pairsF 3 n len num n := by
 unfold preF; rw [if_pos ⟨h, by omega⟩, if_neg (by omega), if_neg (by omega), if_neg (by omega)]; simp
theorem preF_2 {lvl n : Nat} {len : Nat -> Nat} {num : Nat -> Nat -> Int} (h : 2 <= lvl) : preF lvl 1 n len num = preF lvl 2 n len num ++ pairsF 2 n len num n := by
 unfold preF; rw [if_pos (show 2 <= lvl ∧ 1 < 2 from ⟨h, by omega⟩), if_neg (show ¬ (2 <= lvl ∧ 2 < 2) by omega)]; by_cases e : 3 <= lvl
 . rw [if_pos ⟨e, by omega⟩, if_pos ⟨e, by omega⟩]; simp
 . rw [if_neg (by omega), if_neg (by omega)]; rfl
theorem preF_done {lvl j n : Nat} {len : Nat -> Nat} {num : Nat -> Nat -> Int} (hj : j < 2) : preF lvl j n len num = (if 3 <= lvl then pairsF 3 n len num n else []) ++ (if 2 <= lvl then pairsF 2 n len num n else []) := by
 unfold preF; congr 1
 . by_cases e : 3 <= lvl
   . rw [if_pos ⟨e, by omega⟩, if_pos e]
   . rw [if_neg (by omega), if_neg e]
 . by_cases e : 2 <= lvl
   . rw [if_pos ⟨e, by omega⟩, if_pos e]
   . rw [if_neg (by omega), if_neg e]
end M
theorem preF_len {lvl j n : Nat} {len : Nat -> Nat} {num : Nat -> Nat -> Int} (hn : n <= 4) (h : ∀ j, j < n -> len j <= 1048576) : (preF lvl j n len num).length <= 33554432 := by
 have h1 := pairs_all (lvl := 3) (num := num) hn h; have h2 := pairs_all (lvl := 2) (num := num) hn h; unfold preF; simp only [List.length_append]; split <;> split <;> simp <;> omega
theorem good_pos {ro co bu : Int} {cs : ByteArray} {m : Nat} {fr tt : Nat -> Int} (h : (checkM ro co cs m fr tt bu).1 = 0) : 0 < m := by
 by_cases e : 0 < m
 . exact e
 . exfalso; obtain ⟨s1, s2, s3⟩ := checkM_good h; unfold checkM at h; rw [s1, s2, if_neg (by decide)] at h; by_cases c : 0 <= cellsM ro co cs
   . rw [if_pos c] at h; cases h
   . rw [if_neg c, if_pos (by omega)] at h; cases h
theorem ret_vi {a : Value} {b c : Int} (h : b = c) : Ending.returned (.tuple #[a, .int .i64 b]) = .returned (.tuple #[a, .int .i64 c]) := by rw [h]
end
section
open Go.RowKit M
theorem wpList_pushV {w0 : World} {ops : Array Oper} {rest : List Oper} {o : Oper} {a : Act} {Q : Exit -> Act -> World -> Prop} (hgd : o.guard = none) (s x : Operand)
 (ho : o.op = .call { callee := .builtin .append, args := #[s, x], argTypes := #[39, 39] })
 (base : Nat) (v : Value) (K : Nat) (A : List Value) (ay : Option Addr) (ny cy : Nat) (hs : a.eval s = v) (hown : w0.ownsRow base 23 1 v K A) (hbase : base <= w0.heap.size) (c : Nat)
 (hx : a.eval x = .slice (some ⟨w0.heap.size, 0, none⟩) 1 c) (hL : K <= 100000000)
 (h : ∀ g cap w', w'.ownsRow base 23 1 (.slice (some ⟨g, 0, none⟩) (K + 1) cap) (K + 1) (A ++ [.slice ay ny cy]) -> Only (fun k => v.ownBlock = some k) w0 w' -> (v.ownBlock = some g ∨ w0.heap.size <= g) -> wpList Tryz.prog ops Q rest (a.put o.dst (.slice (some ⟨g, 0, none⟩) (K + 1) cap)) w') :
 wpList Tryz.prog ops Q (o :: rest) a (w0.alloc (.cells #[.slice ay ny cy] 23)) := by
 obtain ⟨i0, hi0, hi1, hi2, hi3⟩ := info_parts Tryz.infoSl; have hown1 := own_keep (w' := w0.alloc (.cells #[.slice ay ny cy] 23)) hown (fun g _ hg _ => Below.heap_alloc _ _ _ hg); refine wpList_append_lies _ hgd s x _ ho base 23 i0 _ 1 24 Tryz.underlying39 hi0 hi1 hi2 hi3 rfl (by omega) v K A hs hown1 _ 1 c [.slice ay ny cy] hx rfl (fun j u hj => ?_) (fun u hu => ?_) (by omega) (by unfold maxLen; omega) (by omega) (by simp; omega) (w0.heap.size + 1) (by simp) ?_
 . match j, hj with
   | 0, hj => simp at hj; subst hj; simp [Addr.add]
   | j + 1, hj => simp at hj
 . simp at hu; subst hu; rfl
 . intro g cap w' ho9 hg9 hl9 _; refine h g cap w' ho9 ⟨hg9.os, hg9.tape, hg9.output, Nat.le_trans (by simp) hg9.size, fun k hk hn => ?_⟩ (hl9.imp id (fun e => by omega)); rw [hg9.block k (by simp; omega) (fun e => hn e.symm)]; exact Below.heap_alloc _ _ _ hk
end
end Go.Proofs.YtnkgpinadgacgaaGreatDoor
