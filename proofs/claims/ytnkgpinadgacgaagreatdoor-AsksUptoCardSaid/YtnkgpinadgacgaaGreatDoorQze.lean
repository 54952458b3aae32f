/- Hc, Hj. -/
import Derived.Test.YtnkgpinadgacgaaGreatDoorQzc
import Derived.Test.YtnkgpinadgacgaaGreatDoorQzd
set_option maxRecDepth 1000000
set_option maxHeartbeats 8000000
namespace Go.Proofs.YtnkgpinadgacgaaGreatDoor
section
open M SM BM
def maskU : List Bool -> Nat
 | [] => 0
 | b :: u => (if b then 1 else 0) + 2 * maskU u
theorem maskU_lt : ∀ u : List Bool, maskU u < 2 ^ u.length
 | [] => by decide
 | b :: u => by
   have h := maskU_lt u; simp only [maskU, List.length_cons, Nat.pow_succ]; cases b <;> simp <;> omega
theorem maskU_inj : ∀ {u v : List Bool}, u.length = v.length -> maskU u = maskU v -> u = v
 | [], [], _, _ => rfl
 | [], _ :: _, h, _ => by simp at h
 | _ :: _, [], h, _ => by simp at h
 | b :: u, c :: v, h, e => by
   simp only [List.length_cons, Nat.add_right_cancel_iff] at h; simp only [maskU] at e; have e2 : b = c ∧ maskU u = maskU v := by
    cases b <;> cases c <;> simp at e ⊢ <;> omega
   rw [e2.1, maskU_inj h e2.2]
theorem maskU_all : ∀ {u : List Bool}, maskU u = 2 ^ u.length - 1 ↔ u = List.replicate u.length true
 | [] => by simp [maskU]
 | b :: u => by
   have h := maskU_lt u; have ih := maskU_all (u := u); simp only [maskU, List.length_cons, Nat.pow_succ, List.replicate_succ, List.cons.injEq]; rw [<- ih]; have h0 : 0 < 2 ^ u.length := Nat.pow_pos (by decide); cases b <;> simp <;> omega
theorem maskU_set : ∀ {u : List Bool} {i : Nat}, i < u.length -> u.getD i false = false -> maskU (u.set i true) = maskU u + 2 ^ i
 | [], i, h, _ => by simp at h
 | b :: u, 0, _, h => by
   have h : b = false := h; subst h; simp [maskU]; omega
 | b :: u, i + 1, h, h2 => by
   have h3 := maskU_set (u := u) (i := i) (by simpa using h) (by simpa using h2); simp only [List.set_cons_succ, maskU, h3, Nat.pow_succ]; omega
theorem maskU_bit : ∀ {u : List Bool} {i : Nat}, i < u.length -> maskU u / 2 ^ i % 2 = if u.getD i false then 1 else 0
 | [], i, h => by simp at h
 | b :: u, 0, _ => by
   simp only [maskU, Nat.pow_zero, Nat.div_one]; cases b <;> simp <;> omega
 | b :: u, i + 1, h => by
   have h3 := maskU_bit (u := u) (i := i) (by simpa using h); have e : maskU (b :: u) / 2 ^ (i + 1) = maskU u / 2 ^ i := by
    rw [Nat.pow_succ, Nat.mul_comm, <- Nat.div_div_eq_div_mul]; congr 1; simp only [maskU]; cases b <;> simp <;> omega
   rw [e, h3]; rfl
def encS (cs : ByteArray) (m : Nat) (a : St) : Nat := numOf (frB cs) cs.size a.1 * 2 ^ m + maskU a.2
def GoodS (cs : ByteArray) (m : Nat) (a : St) : Prop := Good cs m a.1 ∧ a.2.length = m
section
variable {co : Int} {cs : ByteArray} {m : Nat} {tt : List Nat}
theorem enc_mod {a : St} (h : a.2.length = m) : encS cs m a % 2 ^ m = maskU a.2 ∧ encS cs m a / 2 ^ m = numOf (frB cs) cs.size a.1 := by
 have h1 := maskU_lt a.2; rw [h] at h1; unfold encS; have h0 : 0 < 2 ^ m := Nat.pow_pos (by decide); refine ⟨?_, ?_⟩
 . rw [Nat.add_comm, Nat.add_mul_mod_self_right, Nat.mod_eq_of_lt h1]
 . rw [Nat.add_comm, Nat.add_mul_div_right _ _ h0, Nat.div_eq_of_lt h1, Nat.zero_add]
theorem enc_inj {a b : St} (ha : GoodS cs m a) (hb : GoodS cs m b) (h : encS cs m a = encS cs m b) : a = b := by
 obtain ⟨h1, h2⟩ := enc_mod (cs := cs) ha.2; obtain ⟨h3, h4⟩ := enc_mod (cs := cs) hb.2; rw [h] at h1 h2; have e1 : a.1 = b.1 := numOf_inj (ha.1.1.trans hb.1.1.symm) (good_mem ha.1) (good_mem hb.1) (h2.symm.trans h4); have e2 : a.2 = b.2 := maskU_inj (ha.2.trans hb.2.symm) (h1.symm.trans h3); exact Prod.ext e1 e2
theorem enc_lt {a : St} (ha : GoodS cs m a) : encS cs m a < (frees (frB cs) cs.size).length ^ m * 2 ^ m := by
 have h1 := maskU_lt a.2; rw [ha.2] at h1; have h2 := good_lt ha.1; unfold encS; have h3 : (numOf (frB cs) cs.size a.1 + 1) * 2 ^ m <= (frees (frB cs) cs.size).length ^ m * 2 ^ m := Nat.mul_le_mul h2 zl; rw [Nat.add_mul, Nat.one_mul] at h3; omega
def RN (co : Int) (cs : ByteArray) (m : Nat) (tt : List Nat) (x y d : Nat) : Prop := ∃ a b, GoodS cs m a ∧ x = encS cs m a ∧ y = encS cs m b ∧ RS (fun p => growL (mayN co cs) p m) m tt a b d
theorem rs_good {a b : St} {d : Nat} (ha : GoodS cs m a) (h : RS (fun p => growL (mayN co cs) p m) m tt a b d) : GoodS cs m b := by
 rcases h with ⟨h1, h2, _, _⟩ | ⟨h1, _, i, _, _, _, h3⟩
 . exact ⟨good_step (co := co) h2, by rw [h1]; exact ha.2⟩
 . exact ⟨by rw [h1]; exact ha.1, by rw [h3, List.length_set]; exact ha.2⟩
theorem wayN_of : ∀ {n : Nat} {a z : St} {K : Nat}, GoodS cs m a -> BM.Way (RS (fun p => growL (mayN co cs) p m) m tt) n a z K -> GoodS cs m z ∧ BM.Way (RN co cs m tt) n (encS cs m a) (encS cs m z) K
 | 0, a, z, K, ha, W => by
   obtain ⟨e1, e2⟩ := W; subst e1 e2; exact ⟨ha, rfl, rfl⟩
 | n + 1, a, z, K, ha, W => by
   obtain ⟨c, k1, d, W1, h, e⟩ := W; obtain ⟨h1, h2⟩ := wayN_of ha W1; exact ⟨rs_good h1 h, encS cs m c, k1, d, h2, ⟨c, z, h1, rfl, rfl, h⟩, e⟩
theorem wayN_to : ∀ {n : Nat} {a : St} {y K : Nat}, GoodS cs m a -> BM.Way (RN co cs m tt) n (encS cs m a) y K -> ∃ z, GoodS cs m z ∧ y = encS cs m z ∧ BM.Way (RS (fun p => growL (mayN co cs) p m) m tt) n a z K
 | 0, a, y, K, ha, W => by
   obtain ⟨e1, e2⟩ := W; exact ⟨a, ha, e1.symm, rfl, e2⟩
 | n + 1, a, y, K, ha, W => by
   obtain ⟨c, k1, d, W1, ⟨a1, b, h1, h2, h3, h4⟩, e⟩ := W; obtain ⟨z, g1, g2, g3⟩ := wayN_to ha W1; have e1 : z = a1 := enc_inj g1 h1 (g2.symm.trans h2); subst e1; exact ⟨b, rs_good h1 h4, h3, z, k1, d, g3, h4, e⟩
def fromL (co : Int) (cs : ByteArray) (m : Nat) (a : St) : List Nat := (growX (mayX co cs (fun i => a.2.getD i false) a.1) a.1 m).map fun q => encS cs m (q, a.2)
def stayL (cs : ByteArray) (m : Nat) (tt : List Nat) (a : St) (k : Nat) : List Nat := ((List.range k).filter fun i => !a.2.getD i false && a.1.getD i 0 == tt.getD i 0).map fun i => encS cs m a + 2 ^ i
theorem rn_iff {a : St} (ha : GoodS cs m a) (y d : Nat) : RN co cs m tt (encS cs m a) y d ↔ (d = m - cntU a.2 ∧ y ∈ fromL co cs m a) ∨ (d = 0 ∧ y ∈ stayL cs m tt a m) := by
 constructor
 . rintro ⟨a1, b, h1, h2, rfl, h4⟩; have e := enc_inj ha h1 h2; subst e; rcases h4 with ⟨g1, g2, g3, g4⟩ | ⟨g1, g2, i, g3, g4, g5, g6⟩
   . refine .inl ⟨g4, List.mem_map.2 ⟨b.1, growX_is.2 ⟨g2, g3⟩, by rw [<- g1]⟩⟩
   . refine .inr ⟨g2, List.mem_map.2 ⟨i, List.mem_filter.2 ⟨List.mem_range.2 g3, by rw [g4, g5]; simp⟩, ?_⟩⟩; show encS cs m a + 2 ^ i = encS cs m b; unfold encS; rw [g1, g6, maskU_set (by rw [ha.2]; exact g3) g4, Nat.add_assoc]
 . rintro (⟨rfl, h⟩ | ⟨rfl, h⟩)
   . obtain ⟨q, hq, rfl⟩ := List.mem_map.1 h; obtain ⟨h1, h2⟩ := growX_is.1 hq; exact ⟨a, (q, a.2), ha, rfl, rfl, .inl ⟨rfl, h1, h2, rfl⟩⟩
   . obtain ⟨i, hi, rfl⟩ := List.mem_map.1 h; obtain ⟨h1, h2⟩ := List.mem_filter.1 hi; have h1 := List.mem_range.1 h1; simp only [Bool.and_eq_true, Bool.not_eq_true', beq_iff_eq] at h2; refine ⟨a, (a.1, a.2.set i true), ha, rfl, ?_, .inr ⟨rfl, rfl, i, h1, h2.1, h2.2, rfl⟩⟩; unfold encS; rw [maskU_set (by rw [ha.2]; exact h1) h2.1, Nat.add_assoc]
theorem fromL_good {a : St} (ha : GoodS cs m a) {y : Nat} (h : y ∈ fromL co cs m a) : ∃ b, GoodS cs m b ∧ y = encS cs m b := by
 obtain ⟨q, hq, rfl⟩ := List.mem_map.1 h; exact ⟨(q, a.2), ⟨good_step (co := co) (growX_is.1 hq).1, ha.2⟩, rfl⟩
theorem stayL_good {a : St} (ha : GoodS cs m a) {y : Nat} (h : y ∈ stayL cs m tt a m) : ∃ b, GoodS cs m b ∧ y = encS cs m b := by
 obtain ⟨a1, b, h1, h2, h3, h4⟩ := (rn_iff (co := (1 : Int)) ha y 0).2 (.inr ⟨rfl, h⟩); exact ⟨b, rs_good h1 h4, h3⟩
theorem stayL_le (a : St) (k : Nat) : (stayL cs m tt a k).length <= k := by
 unfold stayL; rw [List.length_map]; exact Nat.le_trans (List.length_filter_le _ _) (by simp)
theorem stayL_next (a : St) (k : Nat) : stayL cs m tt a (k + 1) = stayL cs m tt a k ++ (if (!a.2.getD k false && a.1.getD k 0 == tt.getD k 0) = true then [encS cs m a + 2 ^ k] else []) := by
 unfold stayL; rw [List.range_succ, List.filter_append, List.map_append]; congr 1; by_cases h : (!a.2.getD k false && a.1.getD k 0 == tt.getD k 0) = true
 . rw [if_pos h, List.filter_cons, List.filter_nil]; simp only [h, if_pos, List.map_cons, List.map_nil]
 . rw [if_neg h, List.filter_cons, List.filter_nil]; simp only [h]; rfl
end
end
section
open Go.RowKit M SM
def moreU (u : List Bool) (k : Nat) : Nat := ((List.range k).filter fun i => !u.getD i false).length
theorem moreU_next (u : List Bool) (k : Nat) : moreU u (k + 1) = moreU u k + if u.getD k false then 0 else 1 := by
 unfold moreU; rw [List.range_succ, List.filter_append, List.length_append]; cases h : u.getD k false
 . simp only [List.filter_cons, List.filter_nil, h, Bool.not_false, if_true]; rfl
 . simp only [List.filter_cons, List.filter_nil, h, Bool.not_true]; rfl
theorem moreU_le (u : List Bool) (k : Nat) : moreU u k <= k := by
 unfold moreU; exact Nat.le_trans (List.length_filter_le _ _) (by simp)
theorem moreU_all : ∀ u : List Bool, moreU u u.length = u.length - cntU u
 | u => by
   have key : ∀ k, k <= u.length -> moreU u k = k - sumN (fun i => if u.getD i false = true then 1 else 0) k ∧ sumN (fun i => if u.getD i false = true then 1 else 0) k <= k := by
    intro k; induction k with
    | zero => intro _; exact ⟨rfl, zl⟩
    | succ k ih =>
      intro hk; obtain ⟨h1, h2⟩ := ih (by omega); rw [moreU_next, h1]; simp only [sumN]; by_cases e : u.getD k false = true
      . rw [if_pos e, if_pos e]; omega
      . rw [if_neg e, if_neg e]; omega
   rw [(key u.length zl).1, cntU_sum rfl]
theorem rfrom_any (ro co bu : Int) (cs : ByteArray) (ac : Option Addr) (m cc gf cf gr cr cnt al : Nat) (a : St) (w : World) (hs : cs.size <= 36) (h1 : 1 <= co) (h2 : co <= 6) (hm1 : 1 <= m) (hm : m <= 4) (hal : al + 1 = 2 ^ m) (ha : GoodS cs m a) (ht : TabIn w cs gf gr) :
 Calls Tryz.prog 34 #[tabV ro co bu cs ac m cc gf cf gr cr cnt, .int .i64 (encS cs m a : Nat), .int .i64 (al : Nat)] w fun e w' =>
  ∃ v, e = .returned (.tuple #[v, .int .i64 ((m - cntU a.2 : Nat) : Int)]) ∧ OwnN w' w.heap.size v (fromL co cs m a) ∧ (fromL co cs m a = [] -> v = .slice none 0 0) ∧ Below w.heap.size w w' := by
 have HT := zx ht; have HA := zx ha; obtain ⟨F, hF⟩ : ∃ F, F = (frees (frB cs) cs.size).length := ⟨_, rfl⟩
 obtain ⟨p, hp⟩ : ∃ p, p = a.1 := ⟨_, rfl⟩
 obtain ⟨fx, hfx⟩ : ∃ fx, fx = maskU a.2 := ⟨_, rfl⟩
 obtain ⟨np, hnp⟩ : ∃ np, np = numOf (frB cs) cs.size p := ⟨_, rfl⟩
 obtain ⟨X, hX⟩ : ∃ X, X = encS cs m a := ⟨_, rfl⟩
 have hal16 : al + 1 <= 16 := by
  rw [hal]; exact Nat.pow_le_pow_right (n := 2) (by omega) hm
 have hal0 : 0 < al + 1 := by omega
 obtain ⟨hmod, hdiv⟩ := enc_mod (cs := cs) ha.2; rw [<- hX, <- hfx, <- hal] at hmod; rw [<- hX, <- hp, <- hnp, <- hal] at hdiv; have hfx16 : fx < 16 := by
  have := Nat.mod_lt X hal0; omega
 have hnpb : np < 1679616 := by
  have h7 := good_lt ha.1; rw [<- hp, <- hnp] at h7; have h8 := Nat.pow_le_pow_left (show (frees (frB cs) cs.size).length <= 36 by have := frees_le cs; omega) m; have h9 : 36 ^ m <= 36 ^ 4 := Nat.pow_le_pow_right (by omega) hm; omega
 have hXb : X < 27000000 := by
  have h7 := Nat.div_add_mod X (al + 1); rw [hdiv, hmod] at h7; have h8 : (al + 1) * np <= 16 * np := Nat.mul_le_mul hal16 zl; omega
 have hrem : (X : Int) % ((al : Int) + 1) = (fx : Int) := by
  rw [show (al : Int) + 1 = ((al + 1 : Nat) : Int) from rfl, <- Int.natCast_emod, hmod]
 have hquo : (X : Int) / ((al : Int) + 1) = (np : Int) := by
  rw [show (al : Int) + 1 = ((al + 1 : Nat) : Int) from rfl, <- Int.natCast_ediv, hdiv]
 have FIX : Hid (FixB (fun i => a.2.getD i false) fx) := ⟨hfx16, fun i hi => by
  rw [hfx]; by_cases e : i < m
  . exact maskU_bit (by rw [ha.2]; exact e)
  . have hl := maskU_lt a.2; rw [ha.2] at hl; have h7 : 2 ^ m <= 2 ^ i := Nat.pow_le_pow_right (by omega) (by omega); show _ = if a.2.getD i false = true then 1 else 0
    rw [Nat.div_eq_of_lt (by omega), zg, List.getElem?_eq_none (by rw [ha.2]; omega)]; rfl⟩
 have POS : Hid (∀ u : World, TabIn u cs gf gr -> Calls Tryz.prog 58 #[.agg #[Value.int .i64 ro, .int .i64 co, .string cs, .slice ac m cc, .int .i64 bu, .slice (some ⟨gf, 0, none⟩) F cf, .slice (some ⟨gr, 0, none⟩) cs.size cr, .int .i64 (cnt : Nat)], .int .i64 (np : Nat)] u fun e w' => ∃ g, e = .returned (.slice (some ⟨g, 0, none⟩) m m) ∧ u.heap.size <= g ∧ w'.rowIs g 3 m (fun k => .int .i64 (p.getD k 0 : Nat)) ∧ Below u.heap.size u w') := fun u h => by
  have h7 := position_any ro co bu cs ac m cc gf cf gr cr cnt p u hs hm (by rw [hp]; exact HA.out.1) h; unfold tabV at h7; rw [<- hF, <- hnp] at h7; exact h7
 have NXT : Hid (∀ (g : Nat) (u : World), (∀ k, k < m -> u.cell? ⟨g, 0 + k, none⟩ = some (.int .i64 (p.getD k 0 : Nat))) -> Calls Tryz.prog 59 #[.agg #[Value.int .i64 ro, .int .i64 co, .string cs, .slice ac m cc, .int .i64 bu, .slice (some ⟨gf, 0, none⟩) F cf, .slice (some ⟨gr, 0, none⟩) cs.size cr, .int .i64 (cnt : Nat)], .slice (some ⟨g, 0, none⟩) m m, .int .i64 (fx : Nat)] u fun e w' => ∃ v, e = .returned v ∧ OwnQ w' u.heap.size v (growX (mayX co cs (fun i => a.2.getD i false) p) p m) ∧ Below u.heap.size u w') := fun g u h => by
  have h7 := rnextF_any (fun i => a.2.getD i false) fx FIX.out ro co bu cs ac m cc gf cf gr cr cnt g 0 m p u hs h1 h2 hm h; unfold tabV at h7; rw [<- hF] at h7; exact h7
 have NUM : Hid (∀ (b2 c2 : Nat) (q : List Nat) (u : World), Good cs m q -> TabIn u cs gf gr -> (∀ k, k < m -> u.cell? ⟨b2, 0 + k, none⟩ = some (.int .i64 (q.getD k 0 : Nat))) ->
  Calls Tryz.prog 60 #[.agg #[Value.int .i64 ro, .int .i64 co, .string cs, .slice ac m cc, .int .i64 bu, .slice (some ⟨gf, 0, none⟩) F cf, .slice (some ⟨gr, 0, none⟩) cs.size cr, .int .i64 (cnt : Nat)], .slice (some ⟨b2, 0, none⟩) m c2] u fun e w' => e = .returned (.int .i64 (numOf (frB cs) cs.size q : Nat)) ∧ Below u.heap.size u w') := fun b2 c2 q u q1 q2 q3 => by
  have h7 := number_any ro co bu cs ac m cc gf cf gr cr cnt m b2 0 c2 q u hs hm q1 q2 q3; unfold tabV at h7; rw [<- hF] at h7; exact h7
 unfold tabV; rw [<- hF, <- hX]; have HP := zx hp; have HFX := zx hfx; clear ht ha hF hp hfx hnp hX hmod hdiv; go_enter Tryz.func34, Tryz.ntmps34; go_upto_region 2 with fail; rw [hrem]; have B1 : Hid (Below w.heap.size w (w.alloc (.cells #[.int .i64 ro, .int .i64 co, .string cs, .slice ac m cc, .int .i64 bu, .slice (some ⟨gf, 0, none⟩) F cf, .slice (some ⟨gr, 0, none⟩) cs.size cr, .int .i64 (cnt : Nat)] 79))) := (Below.refl _ w).alloc zl _
 have x1 : ∀ o, (w.alloc (.cells #[.int .i64 ro, .int .i64 co, .string cs, .slice ac m cc, .int .i64 bu, .slice (some ⟨gf, 0, none⟩) F cf, .slice (some ⟨gr, 0, none⟩) cs.size cr, .int .i64 (cnt : Nat)] 79)).cell? ⟨w.heap.size, o, none⟩ = #[Value.int .i64 ro, .int .i64 co, .string cs, .slice ac m cc, .int .i64 bu, .slice (some ⟨gf, 0, none⟩) F cf, .slice (some ⟨gr, 0, none⟩) cs.size cr, .int .i64 (cnt : Nat)][o]? := by
  intro o; go_simp
 have hz1 : (w.alloc (.cells #[.int .i64 ro, .int .i64 co, .string cs, .slice ac m cc, .int .i64 bu, .slice (some ⟨gf, 0, none⟩) F cf, .slice (some ⟨gr, 0, none⟩) cs.size cr, .int .i64 (cnt : Nat)] 79)).heap.size = w.heap.size + 1 := by simp
 generalize (w.alloc (.cells #[.int .i64 ro, .int .i64 co, .string cs, .slice ac m cc, .int .i64 bu, .slice (some ⟨gf, 0, none⟩) F cf, .slice (some ⟨gr, 0, none⟩) cs.size cr, .int .i64 (cnt : Nat)] 79)) = w1 at *; have q0 := x1 0; have q1 := x1 1; have q2 := x1 2; have q3 := x1 3; have q4 := x1 4; have q5 := x1 5; have q6 := x1 6; have q7 := x1 7; have X1 := zx x1; have hw1 : IntKind.i64.wrap ((al : Int) + 1) = (al : Int) + 1 := by rw [IntKind.wrap_i64]; omega
 have hwq : IntKind.i64.wrap (np : Int) = (np : Int) := by rw [IntKind.wrap_i64]; omega
 have hal1 : ¬ (al : Int) + 1 = 0 := by omega
 clear x1; go_region_held3 (fun w' => w'.cell? ⟨w.heap.size, 0, none⟩ = some (Value.int .i64 ro) ∧ w'.cell? ⟨w.heap.size, 1, none⟩ = some (.int .i64 co) ∧ w'.cell? ⟨w.heap.size, 2, none⟩ = some (.string cs) ∧ w'.cell? ⟨w.heap.size, 3, none⟩ = some (.slice ac m cc) ∧ w'.cell? ⟨w.heap.size, 4, none⟩ = some (.int .i64 bu) ∧ w'.cell? ⟨w.heap.size, 5, none⟩ = some (.slice (some ⟨gf, 0, none⟩) F cf) ∧ w'.cell? ⟨w.heap.size, 6, none⟩ = some (.slice (some ⟨gr, 0, none⟩) cs.size cr) ∧ w'.cell? ⟨w.heap.size, 7, none⟩ = some (.int .i64 (cnt : Nat))) (go_keep)
  (first
   | (go_at_call 58; refine (POS.out _ (HT.out.below (by exact B1.out.drew))).mono ?_; rintro e w5 ⟨gp, rfl, hgp, hrp, hb5⟩; have HB5 := zx hb5; have HRP := zx hrp; have p0 : w5.cell? ⟨w.heap.size, 0, none⟩ = some (Value.int .i64 ro) := zj hb5 q0; have p1 : w5.cell? ⟨w.heap.size, 1, none⟩ = some (.int .i64 co) := zj hb5 q1; have p2 : w5.cell? ⟨w.heap.size, 2, none⟩ = some (.string cs) := zj hb5 q2; have p3 : w5.cell? ⟨w.heap.size, 3, none⟩ = some (.slice ac m cc) := zj hb5 q3; have p4 : w5.cell? ⟨w.heap.size, 4, none⟩ = some (.int .i64 bu) := zj hb5 q4; have p5 : w5.cell? ⟨w.heap.size, 5, none⟩ = some (.slice (some ⟨gf, 0, none⟩) F cf) := zj hb5 q5; have p6 : w5.cell? ⟨w.heap.size, 6, none⟩ = some (.slice (some ⟨gr, 0, none⟩) cs.size cr) := zj hb5 q6; have p7 : w5.cell? ⟨w.heap.size, 7, none⟩ = some (.int .i64 (cnt : Nat)) := zj hb5 q7; clear hb5 hrp)
   | (fail "none"))
 have B5 : Hid (Below w.heap.size w w5) := B1.out.drew.trans (HB5.out.mono (by show w.heap.size <= w1.heap.size; omega)); have hz5 := B5.out.size; have hz5' : w.heap.size < w5.heap.size := World.block_lt_of_cell? (a := ⟨w.heap.size, 0, none⟩) w5 p0; clear q0 q1 q2 q3 q4 q5 q6 q7 hquo hwq; go_wp2_with fail; go_loopw [10, 11] (fun v10 v11 wr => ∃ i : Nat, i <= m ∧ v11 = .int .i64 i ∧ v10 = .int .i64 (moreU a.2 i : Nat) ∧ w5 = wr) (fun _ v11 _ => m - (intOf v11).toNat)
 case atStart => exact ⟨0, Nat.zero_le _, rfl, rfl, rfl⟩
 case round =>
  obtain ⟨i, hi, rfl, rfl, rfl⟩ := hrel; have hml := moreU_le a.2 i; by_cases hlt : i < m
  . have hB0 := run_bits hfx16 (show i < 4 by omega); have hfb := FIX.out.2 i (by omega); rw [hfb] at hB0; obtain ⟨x, hx⟩ : ∃ x, x = moreU a.2 i := ⟨_, rfl⟩
    have hnx := moreU_next a.2 i; rw [<- hx] at hml hnx ⊢; have HX := zx hx; clear hx hfb; obtain ⟨ui, hui⟩ : ∃ ui, ui = a.2.getD i false := ⟨_, rfl⟩
    have hB1 : bits BinOp.and IntKind.i64 ((fx : Int) / 2 ^ i) 1 = ((if ui = true then 1 else 0 : Nat) : Int) := by rw [hui]; exact hB0
    rw [<- hui] at hnx; clear hui hB0; cases ui with
    | false =>
      have hB : bits BinOp.and IntKind.i64 ((fx : Int) / 2 ^ i) 1 = 0 := hB1; clear hB1; have HNX : Hid (moreU a.2 (i + 1) = x + 1) := hnx; clear hnx; go_wp2; go_roundw; case rel => exact ⟨i + 1, by omega, by go_num, by rw [HNX.out]; go_num, trivial⟩
      case measure => simp [intOf]; omega
    | true =>
      have hB : bits BinOp.and IntKind.i64 ((fx : Int) / 2 ^ i) 1 = 1 := hB1; clear hB1; have HNX : Hid (moreU a.2 (i + 1) = x) := hnx; clear hnx; go_wp2; go_roundw; case rel => exact ⟨i + 1, by omega, by go_num, by rw [HNX.out], trivial⟩
      case measure => simp [intOf]; omega
  . have hd : i = m := by omega
    have HMO : Hid (moreU a.2 i = m - cntU a.2) := by
     have h7 := moreU_all a.2; rw [HA.out.2] at h7; rw [hd]; exact h7
    obtain ⟨mo, hmo⟩ : ∃ mo, mo = moreU a.2 i := ⟨_, rfl⟩
    rw [<- hmo] at hml HMO ⊢; clear hmo hd; go_wp2_with fail; refine (NXT.out gp _ (fun k hk => by rw [Nat.zero_add]; exact HRP.out.cell hk)).mono ?_; rintro e w8 ⟨v, rfl, hov, hb8⟩; have hz8 := hb8.size; obtain ⟨N, hN⟩ : ∃ N, N = growX (mayX co cs (fun i => a.2.getD i false) p) p m := ⟨_, rfl⟩
    rw [<- hN] at hov; obtain ⟨an, capn, rfl, han, _⟩ := hov.form; have HN := zx hN; have HOV := zx hov; have HAN := zx han; have B8 := zx (B5.out.trans (hb8.mono hz5)); have hz8' := B8.out.size; have NLE : N.length <= 1679616 := by
     rw [hN]; exact Nat.le_trans (growX_len (p := p) (fun c => mayX_le hs c) m) (Nat.le_trans (Nat.pow_le_pow_right (by omega) hm) (by decide))
    have X8 : Hid (∀ o, w8.cell? ⟨w.heap.size, o, none⟩ = #[Value.int .i64 ro, .int .i64 co, .string cs, .slice ac m cc, .int .i64 bu, .slice (some ⟨gf, 0, none⟩) F cf, .slice (some ⟨gr, 0, none⟩) cs.size cr, .int .i64 (cnt : Nat)][o]?) := fun o => (hb8.cell (p := ⟨w.heap.size, o, none⟩) (by show w.heap.size < w5.heap.size; omega)).trans ((HB5.out.cell (p := ⟨w.heap.size, o, none⟩) (by show w.heap.size < w1.heap.size; omega)).trans (X1.out o))
    clear hov han hb8 hN p0 p1 p2 p3 p4 p5 p6 p7; go_wp2_with fail; go_loopw [12, 14] (fun v12 v14 wr => ∃ (t : Nat) (V : Value), V = v12 ∧ v14 = .int .i64 t ∧ t <= N.length ∧ OwnN wr w8.heap.size V ((N.take t).map fun q => encS cs m (q, a.2)) ∧ (t = 0 -> V = .slice none 0 0) ∧ Below w8.heap.size w8 wr) (fun _ v14 _ => N.length - (intOf v14).toNat)
    case atStart => exact ⟨0, _, rfl, rfl, Nat.zero_le _, OwnN.nil _ _, fun _ => rfl, Below.refl _ _⟩
    case round =>
     obtain ⟨wa, rfl⟩ : ∃ q, q = wr := ⟨_, rfl⟩
     obtain ⟨t, V, rfl, rfl, htn, hown, hnil, hba⟩ := hrel; have NIL := zx hnil; have OWNA := zx hown; have BA := zx hba; have hza := hba.size; clear hown hba hnil; by_cases htl : t < N.length
     . obtain ⟨gn, rfl⟩ := HAN.out (by omega); obtain ⟨q, hq⟩ : ∃ q, q = N.getD t [] := ⟨_, rfl⟩
       have hqN : q ∈ N := by rw [hq, zg, List.getElem?_eq_getElem htl]; exact List.getElem_mem htl
       have GQ : Hid (Good cs m q) := good_step (co := co) (growX_is.1 (by rw [<- HN.out]; exact hqN)).1; have hql : q.length = m := GQ.out.1; obtain ⟨sa, sc, hcell, hrq, hlo⟩ := HOV.out.cell htl; rw [<- hq, hql] at hcell hrq hlo; obtain ⟨h, hsa, hcells⟩ : ∃ h, sa = some ⟨h, 0, none⟩ ∧ ∀ j, j < m -> w8.cell? ⟨h, j, none⟩ = some (.int .i64 (q.getD j 0 : Nat)) := by
        obtain ⟨a2, c2, e2, h2⟩ := hrq.form; obtain ⟨h, ha2, hc⟩ := h2 (by omega); refine ⟨h, ?_, fun j hj => hc j (by omega)⟩; injection e2 with e3 _ _; rw [e3, ha2]
       subst hsa; have hh2 := hrq.lt h rfl; have hg12 := HOV.out.lt gn rfl; have d0 : wa.cell? ⟨gn, t, none⟩ = some (.slice (some ⟨h, 0, none⟩) m sc) := zj BA.out hcell; have dk : Hid (∀ k, k < m -> wa.cell? ⟨h, 0 + k, none⟩ = some (.int .i64 (q.getD k 0 : Nat))) := fun k hk => by
        rw [Nat.zero_add]; exact zj BA.out (hcells k hk)
       obtain ⟨nq, hnq⟩ : ∃ n, n = numOf (frB cs) cs.size q := ⟨_, rfl⟩
       have hnqb : nq < 1679616 := by
        have h7 := good_lt GQ.out; rw [<- hnq] at h7; have h8 := Nat.pow_le_pow_left (show (frees (frB cs) cs.size).length <= 36 by have := frees_le cs; omega) m; have h9 : 36 ^ m <= 36 ^ 4 := Nat.pow_le_pow_right (by omega) hm; omega
       have NUMQ : Hid (∀ u : World, TabIn u cs gf gr -> (∀ k, k < m -> u.cell? ⟨h, 0 + k, none⟩ = some (.int .i64 (q.getD k 0 : Nat))) -> Calls Tryz.prog 60 #[.agg #[Value.int .i64 ro, .int .i64 co, .string cs, .slice ac m cc, .int .i64 bu, .slice (some ⟨gf, 0, none⟩) F cf, .slice (some ⟨gr, 0, none⟩) cs.size cr, .int .i64 (cnt : Nat)], .slice (some ⟨h, 0, none⟩) m sc] u fun e w' => e = .returned (.int .i64 (nq : Nat)) ∧ Below u.heap.size u w') := fun u q1 q2 => by
        rw [hnq]; exact NUM.out h sc q u GQ.out q1 q2
       obtain ⟨z, hz⟩ : ∃ z, z = encS cs m (q, a.2) := ⟨_, rfl⟩
       have hzv : z = nq * (al + 1) + fx := by
        rw [hz, hal, hnq, HFX.out]; rfl
       have hmul : (nq : Int) * ((al : Int) + 1) + (fx : Int) = (z : Int) := by
        rw [hzv, Int.natCast_add, Int.natCast_mul]; rfl
       have hzb : nq * (al + 1) <= 26873856 := Nat.le_trans (Nat.mul_le_mul (Nat.le_of_lt_succ (Nat.lt_succ_of_lt hnqb)) hal16) (by decide); obtain ⟨mq, hmq⟩ : ∃ mq, mq = nq * (al + 1) := ⟨_, rfl⟩
       have hmqI : (nq : Int) * ((al : Int) + 1) = (mq : Int) := by rw [hmq, Int.natCast_mul]; rfl
       rw [<- hmq] at hzb hzv; have hwm : IntKind.i64.wrap ((nq : Int) * ((al : Int) + 1)) = (mq : Int) := by rw [hmqI, IntKind.wrap_i64]; omega
       have HZ := zx hz; have HZV := zx hzv; have HQ := zx hq; have TABA : Hid (TabIn wa cs gf gr) := HT.out.below (B8.out.trans (BA.out.mono (by omega))); have q0 := zj BA.out (X8.out 0); have q1 := zj BA.out (X8.out 1); have q2 := zj BA.out (X8.out 2); have q3 := zj BA.out (X8.out 3); have q4 := zj BA.out (X8.out 4); have q5 := zj BA.out (X8.out 5); have q6 := zj BA.out (X8.out 6); have q7 := zj BA.out (X8.out 7); have HMQ := zx hmqI; clear hnq hq hqN hcell hrq hlo hcells hql hz hzv hmul hmq hmqI hwm
       go_upto_region 14 with fail
       go_region_held3 (fun w' => w'.cell? ⟨w.heap.size, 0, none⟩ = some (Value.int .i64 ro) ∧ w'.cell? ⟨w.heap.size, 1, none⟩ = some (.int .i64 co) ∧ w'.cell? ⟨w.heap.size, 2, none⟩ = some (.string cs) ∧ w'.cell? ⟨w.heap.size, 3, none⟩ = some (.slice ac m cc) ∧ w'.cell? ⟨w.heap.size, 4, none⟩ = some (.int .i64 bu) ∧ w'.cell? ⟨w.heap.size, 5, none⟩ = some (.slice (some ⟨gf, 0, none⟩) F cf) ∧ w'.cell? ⟨w.heap.size, 6, none⟩ = some (.slice (some ⟨gr, 0, none⟩) cs.size cr) ∧ w'.cell? ⟨w.heap.size, 7, none⟩ = some (.int .i64 (cnt : Nat)) ∧ w'.cell? ⟨gn, t, none⟩ = some (.slice (some ⟨h, 0, none⟩) m sc)) (go_keep)
        (first
         | (go_at_call 60; refine (NUMQ.out _ (TABA.out.below (by exact (Below.refl _ _).drew)) (fun k hk => (by exact dk.out k hk))).mono ?_; rintro e w9 ⟨rfl, hb9⟩; have HB9 := zx hb9; have p0 : w9.cell? ⟨w.heap.size, 0, none⟩ = some (Value.int .i64 ro) := zj hb9 q0; have p1 : w9.cell? ⟨w.heap.size, 1, none⟩ = some (.int .i64 co) := zj hb9 q1; have p2 : w9.cell? ⟨w.heap.size, 2, none⟩ = some (.string cs) := zj hb9 q2; have p3 : w9.cell? ⟨w.heap.size, 3, none⟩ = some (.slice ac m cc) := zj hb9 q3; have p4 : w9.cell? ⟨w.heap.size, 4, none⟩ = some (.int .i64 bu) := zj hb9 q4; have p5 : w9.cell? ⟨w.heap.size, 5, none⟩ = some (.slice (some ⟨gf, 0, none⟩) F cf) := zj hb9 q5; have p6 : w9.cell? ⟨w.heap.size, 6, none⟩ = some (.slice (some ⟨gr, 0, none⟩) cs.size cr) := zj hb9 q6; have p7 : w9.cell? ⟨w.heap.size, 7, none⟩ = some (.int .i64 (cnt : Nat)) := zj hb9 q7; have pd : w9.cell? ⟨gn, t, none⟩ = some (.slice (some ⟨h, 0, none⟩) m sc) := zj hb9 d0; clear hb9)
         | (fail "none"))
       have b9 : Below wa.heap.size wa w9 := (Below.refl _ wa).drew.trans (by exact HB9.out); have hz9 := b9.size; have OWN9 : Hid (OwnN w9 w8.heap.size V ((N.take t).map fun q => encS cs m (q, a.2))) := OWNA.out.below b9; have B9 := zx (BA.out.trans (b9.mono (by omega))); have hz9' : w8.heap.size <= w9.heap.size := by omega
       have LN : Hid (((N.take t).map fun q => encS cs m (q, a.2)).length <= 100000000) := by unfold Hid; rw [List.length_map, List.length_take]; omega
       have hsum : (mq : Int) + (fx : Int) = (z : Int) := by rw [HZV.out]; rfl
       have hwz : IntKind.i64.wrap ((mq : Int) + (fx : Int)) = (z : Int) := by rw [hsum, IntKind.wrap_i64]; have := HZV.out; omega
       have hmqI := HMQ.out; clear b9 q0 q1 q2 q3 q4 q5 q6 q7 p0 p1 p2 p3 p4 p5 p6 p7 d0 pd; go_upto_region 13 with (at_builtin; go_must (refine wpList_pushN rfl _ _ rfl w8.heap.size V ((N.take t).map fun q => encS cs m (q, a.2)) z rfl OWN9.out (by exact hz9') _ rfl LN.out ?_; intro g5 c5 w11 ho5 hon5 hat5))
       have HO5 : Hid (OwnN w11 w8.heap.size (.slice (some ⟨g5, 0, none⟩) (t + 1) c5) ((N.take (t + 1)).map fun q => encS cs m (q, a.2))) := by
        have e : (N.take (t + 1)).map (fun q => encS cs m (q, a.2)) = ((N.take t).map fun q => encS cs m (q, a.2)) ++ [z] := by
         rw [List.take_succ_eq_append_getElem htl, List.map_append, HZ.out, HQ.out, zg, List.getElem?_eq_getElem htl]; rfl
        have el : (((N.take t).map fun q => encS cs m (q, a.2)) ++ [z]).length = t + 1 := by rw [List.length_append, List.length_map, List.length_take, Nat.min_eq_left (by omega)]; rfl
        rw [el] at ho5; rw [e]; exact ho5
       have B11 := zx (B9.out.trans ⟨hon5.os, hon5.tape, hon5.output, hon5.size, fun k hk => hon5.block k (by omega) fun hh => by have := (OWN9.out.lt _ hh).1; omega⟩); clear ho5 hon5 hat5; go_wp2_with fail; go_roundw; case rel => exact ⟨t + 1, _, rfl, by go_num, by omega, HO5.out, fun e => absurd e (Nat.succ_ne_zero t), B11.out⟩
       case measure => simp [intOf]; omega
     . have hd : t = N.length := by omega
       have HFIN : Hid (OwnN wa w8.heap.size V (fromL co cs m a)) := by
        have h7 := OWNA.out; rw [hd, List.take_length, HN.out, HP.out] at h7; exact h7
       have HBF := zx (B8.out.trans (BA.out.mono (by omega))); have HNF : Hid (fromL co cs m a = [] -> V = .slice none 0 0) := fun e => NIL.out (by
        unfold fromL at e; rw [<- HP.out, <- HN.out] at e; have h7 := congrArg List.length e; rw [List.length_map, List.length_nil] at h7; omega)
       obtain ⟨av, cv, rfl, _, _⟩ := OWNA.out.form; rw [HMO.out]; go_wp2_with fail; go_ret2; exact ⟨_, rfl, HFIN.out.le (by omega), HNF.out, HBF.out⟩
end
end Go.Proofs.YtnkgpinadgacgaaGreatDoor
