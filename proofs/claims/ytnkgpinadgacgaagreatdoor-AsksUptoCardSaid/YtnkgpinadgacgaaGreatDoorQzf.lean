/- Hl, Hm. -/
import Derived.Test.YtnkgpinadgacgaaGreatDoorQze
set_option maxRecDepth 1000000
set_option maxHeartbeats 8000000
namespace Go.Proofs.YtnkgpinadgacgaaGreatDoor
section
open Go.RowKit M SM
theorem run_shl {i : Nat} (hi : i < 4) : wrap64 (2 ^ i) = ((2 ^ i : Nat) : Int) := by
 have h1 : i = 0 ∨ i = 1 ∨ i = 2 ∨ i = 3 := by omega
 rcases h1 with rfl | rfl | rfl | rfl <;> simp [wrap64]
theorem wrap_add {x y : Nat} (h : x + y < 1000000000) : wrap64 ((x : Int) + (y : Int)) = ((x + y : Nat) : Int) := by
 unfold wrap64; omega
theorem rstays_any (ro co bu : Int) (cs : ByteArray) (b off m cc gf cf gr cr cnt al : Nat) (fr tt : Nat -> Int) (a : St) (w : World) (hs : cs.size <= 36) (hm1 : 1 <= m) (hm : m <= 4) (hal : al + 1 = 2 ^ m) (ha : GoodS cs m a) (ht : TabIn w cs gf gr) (hcs : CartsIn w b off m fr tt) (htp : ∀ k, k < m -> 0 <= tt k) :
 Calls Tryz.prog 35 #[tabV ro co bu cs (some ⟨b, off, none⟩) m cc gf cf gr cr cnt, .int .i64 (encS cs m a : Nat), .int .i64 (al : Nat)] w fun e w' =>
  ∃ v, e = .returned v ∧ OwnN w' w.heap.size v (stayL cs m (cellsOf tt m) a m) ∧ (stayL cs m (cellsOf tt m) a m = [] -> v = .slice none 0 0) ∧ Below w.heap.size w w' := by
 have HCS := zx hcs; have HTP := zx htp; have HT := zx ht; have HA := zx ha; obtain ⟨F, hF⟩ : ∃ F, F = (frees (frB cs) cs.size).length := ⟨_, rfl⟩
 obtain ⟨p, hp⟩ : ∃ p, p = a.1 := ⟨_, rfl⟩
 obtain ⟨fx, hfx⟩ : ∃ fx, fx = maskU a.2 := ⟨_, rfl⟩
 obtain ⟨np, hnp⟩ : ∃ np, np = numOf (frB cs) cs.size p := ⟨_, rfl⟩
 obtain ⟨X, hX⟩ : ∃ X, X = encS cs m a := ⟨_, rfl⟩
 have hal16 : al + 1 <= 16 := by
  rw [hal]; exact Nat.pow_le_pow_right (n := 2) (by omega) hm
 have hal0 : 0 < al + 1 := by omega
 obtain ⟨hmod, hdiv⟩ := enc_mod (cs := cs) ha.2; rw [<- hX, <- hfx, <- hal] at hmod; rw [<- hX, <- hp, <- hnp, <- hal] at hdiv; have hfx16 : fx < 16 := by
  have := Nat.mod_lt X hal0; omega
 have hnpb : np < 1679616 := by
  have h7 := good_lt ha.1; rw [<- hp, <- hnp] at h7; have h8 := Nat.pow_le_pow_left (show (frees (frB cs) cs.size).length <= 36 by have := frees_le cs; omega) m; have h9 : 36 ^ m <= 36 ^ 4 := Nat.pow_le_pow_right (by omega) hm; omega
 have hXb : X < 27000000 := by
  have h7 := Nat.div_add_mod X (al + 1); rw [hdiv, hmod] at h7; have h8 : (al + 1) * np <= 16 * np := Nat.mul_le_mul hal16 zl; omega
 have hrem : (X : Int) % ((al : Int) + 1) = (fx : Int) := by
  rw [show (al : Int) + 1 = ((al + 1 : Nat) : Int) from rfl, <- Int.natCast_emod, hmod]
 have hquo : (X : Int) / ((al : Int) + 1) = (np : Int) := by
  rw [show (al : Int) + 1 = ((al + 1 : Nat) : Int) from rfl, <- Int.natCast_ediv, hdiv]
 have FIX : Hid (FixB (fun i => a.2.getD i false) fx) := ⟨hfx16, fun i hi => by
  rw [hfx]; by_cases e : i < m
  . exact maskU_bit (by rw [ha.2]; exact e)
  . have hl := maskU_lt a.2; rw [ha.2] at hl; have h7 : 2 ^ m <= 2 ^ i := Nat.pow_le_pow_right (by omega) (by omega); show _ = if a.2.getD i false = true then 1 else 0
    rw [Nat.div_eq_of_lt (by omega), zg, List.getElem?_eq_none (by rw [ha.2]; omega)]; rfl⟩
 have POS : Hid (∀ u : World, TabIn u cs gf gr -> Calls Tryz.prog 58 #[.agg #[Value.int .i64 ro, .int .i64 co, .string cs, .slice (some ⟨b, off, none⟩) m cc, .int .i64 bu, .slice (some ⟨gf, 0, none⟩) F cf, .slice (some ⟨gr, 0, none⟩) cs.size cr, .int .i64 (cnt : Nat)], .int .i64 (np : Nat)] u fun e w' => ∃ g, e = .returned (.slice (some ⟨g, 0, none⟩) m m) ∧ u.heap.size <= g ∧ w'.rowIs g 3 m (fun k => .int .i64 (p.getD k 0 : Nat)) ∧ Below u.heap.size u w') := fun u h => by
  have h7 := position_any ro co bu cs (some ⟨b, off, none⟩) m cc gf cf gr cr cnt p u hs hm (by rw [hp]; exact HA.out.1) h; unfold tabV at h7; rw [<- hF, <- hnp] at h7; exact h7
 unfold tabV; rw [<- hF, <- hX]; have HP := zx hp; have HFX := zx hfx; have HX := zx hX; clear ht ha hF hp hfx hnp hX hmod hdiv hcs htp; go_enter Tryz.func35, Tryz.ntmps35; go_upto_region 2 with fail; rw [hrem]; have B1 : Hid (Below w.heap.size w (w.alloc (.cells #[.int .i64 ro, .int .i64 co, .string cs, .slice (some ⟨b, off, none⟩) m cc, .int .i64 bu, .slice (some ⟨gf, 0, none⟩) F cf, .slice (some ⟨gr, 0, none⟩) cs.size cr, .int .i64 (cnt : Nat)] 79))) := (Below.refl _ w).alloc zl _
 have x1 : ∀ o, (w.alloc (.cells #[.int .i64 ro, .int .i64 co, .string cs, .slice (some ⟨b, off, none⟩) m cc, .int .i64 bu, .slice (some ⟨gf, 0, none⟩) F cf, .slice (some ⟨gr, 0, none⟩) cs.size cr, .int .i64 (cnt : Nat)] 79)).cell? ⟨w.heap.size, o, none⟩ = #[Value.int .i64 ro, .int .i64 co, .string cs, .slice (some ⟨b, off, none⟩) m cc, .int .i64 bu, .slice (some ⟨gf, 0, none⟩) F cf, .slice (some ⟨gr, 0, none⟩) cs.size cr, .int .i64 (cnt : Nat)][o]? := by
  intro o; go_simp
 have hz1 : (w.alloc (.cells #[.int .i64 ro, .int .i64 co, .string cs, .slice (some ⟨b, off, none⟩) m cc, .int .i64 bu, .slice (some ⟨gf, 0, none⟩) F cf, .slice (some ⟨gr, 0, none⟩) cs.size cr, .int .i64 (cnt : Nat)] 79)).heap.size = w.heap.size + 1 := by simp
 generalize (w.alloc (.cells #[.int .i64 ro, .int .i64 co, .string cs, .slice (some ⟨b, off, none⟩) m cc, .int .i64 bu, .slice (some ⟨gf, 0, none⟩) F cf, .slice (some ⟨gr, 0, none⟩) cs.size cr, .int .i64 (cnt : Nat)] 79)) = w1 at *; have q0 := x1 0; have q1 := x1 1; have q2 := x1 2; have q3 := x1 3; have q4 := x1 4; have q5 := x1 5; have q6 := x1 6; have q7 := x1 7; have X1 := zx x1; have hw1 : IntKind.i64.wrap ((al : Int) + 1) = (al : Int) + 1 := by rw [IntKind.wrap_i64]; omega
 have hwq : IntKind.i64.wrap (np : Int) = (np : Int) := by rw [IntKind.wrap_i64]; omega
 have hal1 : ¬ (al : Int) + 1 = 0 := by omega
 clear x1; go_region_held3 (fun w' => w'.cell? ⟨w.heap.size, 0, none⟩ = some (Value.int .i64 ro) ∧ w'.cell? ⟨w.heap.size, 1, none⟩ = some (.int .i64 co) ∧ w'.cell? ⟨w.heap.size, 2, none⟩ = some (.string cs) ∧ w'.cell? ⟨w.heap.size, 3, none⟩ = some (.slice (some ⟨b, off, none⟩) m cc) ∧ w'.cell? ⟨w.heap.size, 4, none⟩ = some (.int .i64 bu) ∧ w'.cell? ⟨w.heap.size, 5, none⟩ = some (.slice (some ⟨gf, 0, none⟩) F cf) ∧ w'.cell? ⟨w.heap.size, 6, none⟩ = some (.slice (some ⟨gr, 0, none⟩) cs.size cr) ∧ w'.cell? ⟨w.heap.size, 7, none⟩ = some (.int .i64 (cnt : Nat))) (go_keep)
  (first
   | (go_at_call 58; refine (POS.out _ (HT.out.below (by exact B1.out.drew))).mono ?_; rintro e w5 ⟨gp, rfl, hgp, hrp, hb5⟩; have HB5 := zx hb5; have HRP := zx hrp; have p0 : w5.cell? ⟨w.heap.size, 0, none⟩ = some (Value.int .i64 ro) := zj hb5 q0; have p1 : w5.cell? ⟨w.heap.size, 1, none⟩ = some (.int .i64 co) := zj hb5 q1; have p2 : w5.cell? ⟨w.heap.size, 2, none⟩ = some (.string cs) := zj hb5 q2; have p3 : w5.cell? ⟨w.heap.size, 3, none⟩ = some (.slice (some ⟨b, off, none⟩) m cc) := zj hb5 q3; have p4 : w5.cell? ⟨w.heap.size, 4, none⟩ = some (.int .i64 bu) := zj hb5 q4; have p5 : w5.cell? ⟨w.heap.size, 5, none⟩ = some (.slice (some ⟨gf, 0, none⟩) F cf) := zj hb5 q5; have p6 : w5.cell? ⟨w.heap.size, 6, none⟩ = some (.slice (some ⟨gr, 0, none⟩) cs.size cr) := zj hb5 q6; have p7 : w5.cell? ⟨w.heap.size, 7, none⟩ = some (.int .i64 (cnt : Nat)) := zj hb5 q7; clear hb5 hrp)
   | (fail "none"))
 have B5 : Hid (Below w.heap.size w w5) := B1.out.drew.trans (HB5.out.mono (by show w.heap.size <= w1.heap.size; omega)); have hz5 := B5.out.size; have hz5' : w.heap.size < w5.heap.size := World.block_lt_of_cell? (a := ⟨w.heap.size, 0, none⟩) w5 p0; have P3 := zx p3; clear q0 q1 q2 q3 q4 q5 q6 q7 hquo hwq p0 p1 p2 p3 p4 p5 p6 p7; go_wp2_with fail
 go_loopw [9, 10] (fun v9 v10 wr => ∃ (i : Nat) (V : Value), V = v9 ∧ i <= m ∧ v10 = .int .i64 i ∧ OwnN wr w5.heap.size V (stayL cs m (cellsOf tt m) a i) ∧ (stayL cs m (cellsOf tt m) a i = [] -> V = .slice none 0 0) ∧ Below w5.heap.size w5 wr) (fun _ v10 _ => m - (intOf v10).toNat)
 case atStart => exact ⟨0, _, rfl, Nat.zero_le _, rfl, OwnN.nil _ _, fun _ => rfl, Below.refl _ _⟩
 case round =>
  obtain ⟨wa, rfl⟩ : ∃ q, q = wr := ⟨_, rfl⟩
  obtain ⟨i, V, rfl, hi, rfl, hown, hnil, hba⟩ := hrel; have NIL := zx hnil; have OWNA := zx hown; have BA := zx hba; have hza := hba.size; clear hown hba hnil; by_cases hlt : i < m
  . have hB0 := run_bits hfx16 (show i < 4 by omega); have hfb := FIX.out.2 i (by omega); rw [hfb] at hB0; obtain ⟨ui, hui⟩ : ∃ ui, ui = a.2.getD i false := ⟨_, rfl⟩
    have hB1 : bits BinOp.and IntKind.i64 ((fx : Int) / 2 ^ i) 1 = ((if ui = true then 1 else 0 : Nat) : Int) := by rw [hui]; exact hB0
    have HUI := zx hui; have p3 : wa.cell? ⟨w.heap.size, 3, none⟩ = some (.slice (some ⟨b, off, none⟩) m cc) := zj BA.out P3.out; have hpc : wa.cell? ⟨gp, i, none⟩ = some (.int .i64 (p.getD i 0 : Nat)) := zj BA.out (HRP.out.cell hlt); have htc : wa.cell? ⟨b, off + i * 2 + 1, none⟩ = some (.int .i64 (tt i)) := zj (B5.out.trans (BA.out.mono hz5)) (HCS.out i hlt).2; obtain ⟨tn, htn⟩ := Int.eq_ofNat_of_zero_le (HTP.out i hlt); rw [htn] at htc; have HTN : Hid ((cellsOf tt m).getD i 0 = tn) := by unfold Hid; rw [cellsOf_at hlt, htn]; rfl
    obtain ⟨x, hx⟩ : ∃ x, x = p.getD i 0 := ⟨_, rfl⟩
    rw [<- hx] at hpc; have HXE := zx hx; clear hui hB0 hfb htn hx; cases ui with
    | true =>
      have hB : bits BinOp.and IntKind.i64 ((fx : Int) / 2 ^ i) 1 = 1 := hB1; clear hB1; have HNX : Hid (stayL cs m (cellsOf tt m) a (i + 1) = stayL cs m (cellsOf tt m) a i) := by
       unfold Hid; rw [stayL_next, <- HUI.out]; simp
      go_upto_region 7 with fail; go_quiet (fail); go_wp2_with fail; go_roundw; case rel => exact ⟨i + 1, _, rfl, by omega, by go_num, by rw [HNX.out]; exact OWNA.out.below (below_drewN (Below.refl _ wa) _), by rw [HNX.out]; exact NIL.out, below_drewN BA.out _⟩
      case measure => simp [intOf]; omega
    | false =>
      have hB : bits BinOp.and IntKind.i64 ((fx : Int) / 2 ^ i) 1 = 0 := hB1; clear hB1; by_cases hxt : x = tn
      . subst hxt; have HNX : Hid (stayL cs m (cellsOf tt m) a (i + 1) = stayL cs m (cellsOf tt m) a i ++ [X + 2 ^ i]) := by
         unfold Hid; rw [stayL_next, <- HUI.out, <- HP.out, <- HXE.out, HTN.out, HX.out]; simp
        have htI : ((x : Int) == (x : Int)) = true := by simp
        go_upto_region 7 with fail; go_quiet (fail); have hpw := run_shl (show i < 4 by omega); have hpb : 2 ^ i <= 2 ^ 4 := Nat.pow_le_pow_right (by omega) (by omega); obtain ⟨pw, hpe⟩ : ∃ pw, pw = 2 ^ i := ⟨_, rfl⟩
        rw [<- hpe] at hpw hpb HNX; obtain ⟨z, hz⟩ : ∃ z, z = X + pw := ⟨_, rfl⟩
        rw [<- hz] at HNX; have hzw : wrap64 ((X : Int) + (pw : Int)) = (z : Int) := by
         rw [hz]; exact wrap_add (Nat.lt_of_lt_of_le (Nat.add_lt_add_of_lt_of_le hXb hpb) (by decide))
        have OWND : Hid (OwnN (wa.drewN nq) w5.heap.size V (stayL cs m (cellsOf tt m) a i)) := OWNA.out.below (below_drewN (Below.refl _ wa) _); have hzd : w5.heap.size <= (wa.drewN nq).heap.size := hza; have LN : Hid ((stayL cs m (cellsOf tt m) a i).length <= 100000000) := by unfold Hid; have := stayL_le (cs := cs) (m := m) (tt := cellsOf tt m) a i; omega
        have HPW := zx hpw; have HZW := zx hzw; clear hpe hz hpw hzw hpb; go_upto_region 6 with (at_builtin; rw [HPW.out, HZW.out]; go_must (refine wpList_pushN rfl _ _ rfl w5.heap.size V (stayL cs m (cellsOf tt m) a i) z rfl OWND.out (by exact hzd) _ rfl LN.out ?_; intro g5 c5 w11 ho5 hon5 hat5))
        have HO5 : Hid (OwnN w11 w5.heap.size (.slice (some ⟨g5, 0, none⟩) (stayL cs m (cellsOf tt m) a i ++ [z]).length c5) (stayL cs m (cellsOf tt m) a (i + 1))) := by
         rw [HNX.out]; exact ho5
        have B11 : Hid (Below w5.heap.size w5 w11) := (below_drewN BA.out nq).trans ⟨hon5.os, hon5.tape, hon5.output, hon5.size, fun k hk => hon5.block k (by show k < wa.heap.size; omega) fun hh => by have := (OWND.out.lt _ hh).1; omega⟩; have el : (stayL cs m (cellsOf tt m) a i ++ [z]).length = (stayL cs m (cellsOf tt m) a i).length + 1 := by simp
        rw [el] at HO5; clear ho5 hon5 hat5 el; go_wp2_with fail; go_roundw; case rel => exact ⟨i + 1, _, rfl, by omega, by go_num, HO5.out, fun e => by rw [HNX.out] at e; simp at e, B11.out⟩
        case measure => simp [intOf]; omega
      . have hxI : ((x : Int) == (tn : Int)) = false := by simp; omega
        have HNX : Hid (stayL cs m (cellsOf tt m) a (i + 1) = stayL cs m (cellsOf tt m) a i) := by
         unfold Hid; rw [stayL_next, <- HUI.out, <- HP.out, <- HXE.out, HTN.out]; simp [hxt]
        go_upto_region 7 with fail; go_quiet (fail); go_wp2_with fail; go_roundw; case rel => exact ⟨i + 1, _, rfl, by omega, by go_num, by rw [HNX.out]; exact OWNA.out.below (below_drewN (Below.refl _ wa) _), by rw [HNX.out]; exact NIL.out, below_drewN BA.out _⟩
        case measure => simp [intOf]; omega
  . have hd : i = m := by omega
    have HFIN : Hid (OwnN wa w5.heap.size V (stayL cs m (cellsOf tt m) a m)) := by
     have h7 := OWNA.out; rw [hd] at h7; exact h7
    have HNF : Hid (stayL cs m (cellsOf tt m) a m = [] -> V = .slice none 0 0) := fun e => NIL.out (by rw [hd]; exact e)
    obtain ⟨av, cv, rfl, _, _⟩ := OWNA.out.form; have hni : ¬ (i : Int) < (m : Int) := by omega
    clear hd; go_wp2_with fail; go_ret; exact ⟨_, rfl, HFIN.out.le (by omega), HNF.out, B5.out.trans (BA.out.mono hz5)⟩
end
section
open Go.RowKit M SM SV
theorem own_put {w : World} {base g n cap c : Nat} {e : TypeId} {xs : List Value} {v : Value} (h : w.ownsRow base e 1 (.slice (some ⟨g, 0, none⟩) n cap) n xs) (_hc : c < n) : (w.setCell ⟨g, c, none⟩ v).ownsRow base e 1 (.slice (some ⟨g, 0, none⟩) n cap) n (xs.set c v) := by
 refine ⟨by rw [List.length_set]; exact h.1, ?_⟩; rcases h.2 with ⟨h0, _⟩ | ⟨g', cap', cur, hv, hb, hh, h4, h5, h6, h7⟩
 . cases h0
 . cases hv; refine .inr ⟨g, cap, cur.setIfInBounds c v, rfl, hb, ?_, h4, h5, by rw [Array.size_setIfInBounds]; exact h6, ?_⟩
   . simp [World.setCell, Array.getElem?_modify, hh]
   . rw [<- h7, Array.toList_setIfInBounds, List.take_set]
structure ShIn (w : World) (base : Nat) (V : Value) (len : Nat) (A : Nat -> Value) (sh : Nat -> List Nat) : Prop where
 own : w.ownsRow base 23 1 V len ((List.range len).map A)
 rows : ∀ c, c < len -> OwnN w base (A c) (sh c)
 ne : ∀ c g, c < len -> V.ownBlock = some g -> (A c).ownBlock ≠ some g
 inj : ∀ c d h, c < len -> d < len -> c ≠ d -> (A c).ownBlock = some h -> (A d).ownBlock ≠ some h
section
variable {w w' : World} {base : Nat} {V : Value} {len : Nat} {A : Nat → Value} {sh : Nat → List Nat}
theorem ShIn.below (h : ShIn w base V len A sh) (hb : Below w.heap.size w w') : ShIn w' base V len A sh :=
 ⟨own_later h.own hb, fun c hc => (h.rows c hc).below hb, h.ne, h.inj⟩
theorem ShIn.form (h : ShIn w base V len A sh) : ∃ a cap, V = .slice a len cap ∧ (0 < len -> ∃ g, a = some ⟨g, 0, none⟩) ∧ len <= cap := own_form h.own
theorem ShIn.cell {g n cap c : Nat} (h : ShIn w base (.slice (some ⟨g, 0, none⟩) n cap) len A sh) (hc : c < len) : w.cell? ⟨g, c, none⟩ = some (A c) := by
 obtain ⟨a, cap2, hv, _, _⟩ := h.form; have e : n = len := by cases hv; rfl
 subst e; rw [own_cell h.own hc, List.getElem?_map, List.getElem?_range hc]; rfl
theorem ShIn.lt (h : ShIn w base V len A sh) : ∀ g, V.ownBlock = some g -> base <= g ∧ g < w.heap.size := fun g hg => h.own.lt g hg
theorem map_same {n : Nat} {f g : Nat -> Value} (h : ∀ i, i < n -> f i = g i) : (List.range n).map f = (List.range n).map g := List.map_congr_left fun i hi => h i (List.mem_range.1 hi)
theorem ShIn.more {g9 c9 : Nat} (h : ShIn w base V len A sh) (hs : sh len = []) (ho : w'.ownsRow base 23 1 (.slice (some ⟨g9, 0, none⟩) (len + 1) c9) (len + 1) ((List.range len).map A ++ [.slice none 0 0])) (hon : Only (fun k => V.ownBlock = some k) w w') (hl : V.ownBlock = some g9 ∨ w.heap.size <= g9) :
 ShIn w' base (.slice (some ⟨g9, 0, none⟩) (len + 1) c9) (len + 1) (fun c => if c = len then .slice none 0 0 else A c) sh := by
 have hne : ∀ c, c < len -> (A c).ownBlock ≠ some g9 := fun c hc hh => by
  rcases hl with h1 | h1
  . exact h.ne c g9 hc h1 hh
  . have := ((h.rows c hc).lt g9 hh).2; omega
 refine ⟨?_, fun c hc => ?_, fun c g hc hg => ?_, fun c d k hc hd hcd => ?_⟩
 . have e : (List.range (len + 1)).map (fun c => if c = len then Value.slice none 0 0 else A c) = (List.range len).map A ++ [.slice none 0 0] := by
    rw [List.range_succ, List.map_append]; congr 1
    . exact map_same fun i hi => if_neg (by omega)
    . simp
   rw [e]; exact ho
 . by_cases e : c = len
   . rw [if_pos e, e, hs]; exact OwnN.nil _ _
   . rw [if_neg e]; exact own_keep (h.rows c (by omega)) fun g _ hg hv => hon.block g hg (fun hh => h.ne c g (by omega) hh hv)
 . have hg : g9 = g := Option.some.inj hg; by_cases e : c = len
   . rw [if_pos e]; intro hh; cases hh
   . rw [if_neg e, <- hg]; exact hne c (by omega)
 . by_cases e : c = len
   . rw [if_pos e]; intro hh; cases hh
   . rw [if_neg e]; by_cases e2 : d = len
     . rw [if_pos e2]; intro _ hh; cases hh
     . rw [if_neg e2]; exact h.inj c d k (by omega) (by omega) hcd
theorem ShIn.put {g cap c : Nat} {v : Value} {l : List Nat} (h : ShIn w base (.slice (some ⟨g, 0, none⟩) len cap) len A sh) (hc : c < len) (hv : OwnN w' base v (sh c ++ l)) (hon : Only (fun k => (A c).ownBlock = some k) w w') (hl : ∀ k, v.ownBlock = some k -> (A c).ownBlock = some k ∨ w.heap.size <= k) :
 ShIn (w'.setCell ⟨g, c, none⟩ v) base (.slice (some ⟨g, 0, none⟩) len cap) len (fun d => if d = c then v else A d) (addS sh c l) := by
 have hgl := (h.lt g rfl)
 have hvg : v.ownBlock ≠ some g := fun hh => by
  rcases hl g hh with h1 | h1
  . exact h.ne c g hc rfl h1
  . omega
 have hown : w'.ownsRow base 23 1 (.slice (some ⟨g, 0, none⟩) len cap) len ((List.range len).map A) := own_keep h.own fun k _ hk hv2 => hon.block k hk (fun hh => by
  have e : g = k := Option.some.inj hv2; rw [<- e] at hh; exact h.ne c g hc rfl hh)
 have keep : ∀ x L, OwnN w' base x L -> x.ownBlock ≠ some g -> OwnN (w'.setCell ⟨g, c, none⟩ v) base x L := fun x L hx hn => own_keep hx fun k _ hk hv2 => Below.heap_setCell _ _ _ _ (fun e => hn (by rw [hv2, e]))
 refine ⟨?_, fun d hd => ?_, fun d k hd hk => ?_, fun d d2 k hd hd2 hne => ?_⟩
 . have e : (List.range len).map (fun d => if d = c then v else A d) = ((List.range len).map A).set c v := by
    refine List.ext_getElem? fun i => ?_
    rw [List.getElem?_map, List.getElem?_set]; by_cases e1 : c = i
    . subst e1; rw [if_pos rfl, List.getElem?_range hc, if_pos (by simpa using hc)]; simp
    . rw [if_neg e1, List.getElem?_map]; by_cases e2 : i < len
      . rw [List.getElem?_range e2]; simp only [Option.map_some]; rw [if_neg (fun e => e1 e.symm)]
      . rw [List.getElem?_eq_none (by simp; omega)]; rfl
   rw [e]; exact own_put hown hc
 . unfold addS; by_cases e : d = c
   . rw [if_pos e, if_pos e, e]; exact keep _ _ hv hvg
   . rw [if_neg e, if_neg e]; refine keep _ _ (own_keep (h.rows d hd) fun k _ hk hv2 => hon.block k hk (fun hh => h.inj c d k hc hd (fun e2 => e e2.symm) hh hv2)) (h.ne d g hd rfl)
 . have hk : g = k := Option.some.inj hk; by_cases e : d = c
   . rw [if_pos e, <- hk]; exact hvg
   . rw [if_neg e, <- hk]; exact h.ne d g hd rfl
 . by_cases e : d = c
   . rw [if_pos e]; have e2 : ¬ d2 = c := fun e2 => hne (by rw [e, e2])
     rw [if_neg e2]; intro h1 h2; rcases hl k h1 with h3 | h3
     . exact h.inj c d2 k hc hd2 (fun x => e2 x.symm) h3 h2
     . have := ((h.rows d2 hd2).lt k h2).2; omega
   . rw [if_neg e]; by_cases e2 : d2 = c
     . rw [if_pos e2]; intro h1 h2; rcases hl k h2 with h3 | h3
       . exact h.inj c d k hc hd (fun x => e x.symm) h3 h1
       . have := ((h.rows d hd).lt k h1).2; omega
     . rw [if_neg e2]; exact h.inj d d2 k hd hd2 hne
end
theorem wpList_catN {w : World} {ops : Array Oper} {rest : List Oper} {o : Oper} {a : Act} {Q : Exit -> Act -> World -> Prop} (hgd : o.guard = none) (s x : Operand)
 (ho : o.op = .call { callee := .builtin .append, args := #[s, x], argTypes := #[23, 23] })
 (base b2 : Nat) (v y : Value) (L K : List Nat) (hs : a.eval s = v) (hown : OwnN w base v L) (hbase : base <= w.heap.size) (hx : a.eval x = y) (hy : OwnN w b2 y K) (hnil : K = [] -> y = .slice none 0 0) (hL : L.length + K.length <= 17592186044415)
 (h : ∀ a' c' w', OwnN w' base (.slice a' (L.length + K.length) c') (L ++ K) -> Only (fun k => v.ownBlock = some k) w w' -> (∀ g, (Value.slice a' (L.length + K.length) c').ownBlock = some g -> v.ownBlock = some g ∨ w.heap.size <= g) -> wpList Tryz.prog ops Q rest (a.put o.dst (.slice a' (L.length + K.length) c')) w') :
 wpList Tryz.prog ops Q (o :: rest) a w := by
 obtain ⟨i0, hi0, hi1, hi2, hi3⟩ := info_parts Tryz.infoInt2; by_cases hK : K = []
 . have e2 := hnil hK; obtain ⟨av, cv, hv, _, _⟩ := hown.form; subst hK; refine wpList_append_own_none hgd s x _ ho base 3 i0 1 Tryz.underlying23 hi0 v L.length (ints (qi L)) hs hown (by rw [hx, e2]) ?_; have h2 := h av cv w (by simpa [hv] using hown) (Only.refl _ _) (fun g hg => .inl (by rw [hv]; exact hg)); rw [hv]; exact h2
 . obtain ⟨ay, cy, hyv, hay, _⟩ := hy.form; have hp : 0 < K.length := List.length_pos_iff.2 hK; obtain ⟨gy, rfl⟩ := hay hp; subst hyv; refine wpList_append_lies _ hgd s x _ ho base 3 i0 _ 1 8 Tryz.underlying23 hi0 hi1 hi2 hi3 rfl (by omega) v L.length (ints (qi L)) hs hown _ K.length cy (ints (qi K)) hx (by simp [ints, qi]) (fun j u hj => ?_) (fun u hu => ?_) hp (by unfold maxLen; omega) (by omega) hbase _ rfl ?_
   . have hjK : j < K.length := by
      have := (List.getElem?_eq_some_iff.1 hj).1; simpa [ints, qi] using this
     have ea : (⟨gy, 0, none⟩ : Addr).add j = ⟨gy, j, none⟩ := by simp [Addr.add]; try omega
     rw [ea, hy.cell hjK, <- hj]; unfold ints qi; rw [List.getElem?_map, List.getElem?_map, List.getElem?_eq_getElem hjK, zg, List.getElem?_eq_getElem hjK]; rfl
   . unfold ints at hu; obtain ⟨z, _, rfl⟩ := List.mem_map.1 hu; rfl
   . intro g' cap w' ho9 hg9 hl9 _; have e1 : (L ++ K).length = L.length + K.length := by simp
     refine h _ _ w' ?_ ⟨hg9.os, hg9.tape, hg9.output, hg9.size, fun k hk hn => hg9.block k hk (fun e => hn e.symm)⟩ (fun g hg => ?_)
     . unfold OwnN; rw [e1, show ints (qi (L ++ K)) = ints (qi L) ++ ints (qi K) by simp [ints, qi]]; exact ho9
     . have hg : g' = g := Option.some.inj hg; exact hl9.imp (fun e => by rw [e, hg]) (fun e => by omega)
end
end Go.Proofs.YtnkgpinadgacgaaGreatDoor
