/- Gu. -/
import Derived.Test.YtnkgpinadgacgaaGreatDoorQzj
set_option maxRecDepth 1000000
set_option maxHeartbeats 8000000
namespace Go.Proofs.YtnkgpinadgacgaaGreatDoor
section
open Go.RowKit M SM
def psL (p : List Nat) : List Value := [.int .u8 (p.getD 0 0 : Nat), .int .u8 (p.getD 1 0 : Nat), .int .u8 (p.getD 2 0 : Nat), .int .u8 (p.getD 3 0 : Nat)]
theorem psL_len (p : List Nat) : (psL p).length = 4 := rfl
theorem Tryz.sizePos : (Tryz.prog.info? 103).map (·.size) = some 4 := by kernel_rfl
theorem range_pos {w : World} {b o : Nat} {x : St} (h : w.rangeAt b o (stL x)) : w.rangeAt b o (psL x.1) := fun j v hv => by
 have hj : j < 4 := by have := (List.getElem?_eq_some_iff.1 hv).1; rw [psL_len] at this; exact this
 refine h j v ?_; have hc : j = 0 ∨ j = 1 ∨ j = 2 ∨ j = 3 := by omega
 rcases hc with rfl | rfl | rfl | rfl <;> exact hv
def Ap (S mb B k : Nat) : Prop := k ≠ S ∧ k ≠ mb ∧ k < B
structure FarL (w : World) (gf K N : Nat) (H c : Nat -> Nat) (st : Nat -> Nat -> Int) : Prop where
 rows : ∀ t, t < K -> w.cell? ⟨gf, t, none⟩ = some (.slice (some ⟨H t, 0, none⟩) N (c t))
 cells : ∀ t i, t < K -> i < N -> w.cell? ⟨H t, i, none⟩ = some (.int .i64 (st t i))
theorem FarL.only {w w' : World} {gf K N : Nat} {H c : Nat -> Nat} {st : Nat -> Nat -> Int} {T : Nat -> Prop} (h : FarL w gf K N H c st) (ho : Only T w w') (h1 : ¬ T gf) (h2 : ∀ t, t < K -> ¬ T (H t)) : FarL w' gf K N H c st := by
 refine ⟨fun t ht => ?_, fun t i ht hi => ?_⟩
 . have := h.rows t ht; rw [ho.cell (p := ⟨gf, t, none⟩) (World.block_lt_of_cell? _ _ this) h1]; exact this
 . have := h.cells t i ht hi; rw [ho.cell (p := ⟨H t, i, none⟩) (World.block_lt_of_cell? _ _ this) (h2 t ht)]; exact this
def restF (st : Nat -> Nat -> Int) (m : Nat) (p : List Nat) : Nat := (sumTo (fun t => st t (p.getD t 0)) m).toNat
theorem restF_is {st : Nat -> Nat -> Int} {m : Nat} {p : List Nat} (hb : ∀ t, t < m -> 0 <= st t (p.getD t 0) ∧ st t (p.getD t 0) <= 36) : sumTo (fun t => st t (p.getD t 0)) m = ((restF st m p : Nat) : Int) := by
 have := (sumTo_bd (f := fun t => st t (p.getD t 0)) hb).1; unfold restF; omega
theorem restF_le {st : Nat -> Nat -> Int} {m : Nat} {p : List Nat} (hm : m <= 4) (hb : ∀ t, t < m -> 0 <= st t (p.getD t 0) ∧ st t (p.getD t 0) <= 36) : restF st m p <= 144 := by
 have := (sumTo_bd (f := fun t => st t (p.getD t 0)) hb).2; unfold restF; omega
theorem restL_any (S gf cf K N : Nat) (H c : Nat -> Nat) (st : Nat -> Nat -> Int) (p : List Nat) (w : World) (hK : K <= 4) (hN : N <= 36) (hf : w.cell? ⟨S, 2, none⟩ = some (.slice (some ⟨gf, 0, none⟩) K cf)) (hF : FarL w gf K N H c st) (hq : ∀ t, t < K -> p.getD t 0 < N) (hb : ∀ t, t < K -> 0 <= st t (p.getD t 0) ∧ st t (p.getD t 0) <= 36) :
 Calls Tryz.prog 79 #[.pointer (some ⟨S, 0, none⟩), .agg (psL p).toArray] w fun e w' => e = .returned (.int .i64 (restF st K p : Nat)) ∧ Below w.heap.size w w' := by
 rw [<- restF_is hb]; exact rest_any S gf cf K N H c st (fun k => p.getD k 0) w hK hN hf hF.rows hF.cells hq hb
structure SIn (w : World) (S mb m B n : Nat) (c0 c1 c2 v : Value) (s : Srch) : Prop where
 src : SrcAt w S c0 c1 c2 (.map (some mb)) v
 list : ListL w v s.n s.it
 own : ∀ g, v.ownBlock = some g -> B <= g
 seen : SeenMap w mb m n s.seen
 low : S < B ∧ mb < B ∧ S ≠ mb ∧ B <= w.heap.size
def TnV (S mb : Nat) (v : Value) (k : Nat) : Prop := k = S ∨ k = mb ∨ v.ownBlock = some k
theorem listL_only {w w' : World} {T : Nat -> Prop} {v : Value} {n : Nat} {it : Nat -> LeadM} (h : ListL w v n it) (ho : Only T w w') (hT : ∀ g, v.ownBlock = some g -> ¬ T g) : ListL w' v n it := by
 rcases h with h | ⟨G, cap, h1, h2⟩
 . exact .inl h
 . refine .inr ⟨G, cap, h1, h2.block (ho.block G h2.lt (hT G (by rw [h1]; rfl)))⟩
theorem SIn.only {w w' : World} {S mb m B n : Nat} {c0 c1 c2 v : Value} {s : Srch} (h : SIn w S mb m B n c0 c1 c2 v s) (hb : Below w.heap.size w w') : SIn w' S mb m B n c0 c1 c2 v s :=
 ⟨h.src.block (hb.block S h.src.lt), listL_only h.list (Only.of_below hb : Only (fun _ => False) w w') (fun _ _ e => e), h.own, h.seen.block (hb.block mb h.seen.lt), h.low.1, h.low.2.1, h.low.2.2.1, Nat.le_trans h.low.2.2.2 hb.size⟩
theorem SIn.own_lt {w : World} {S mb m B n : Nat} {c0 c1 c2 v : Value} {s : Srch} (h : SIn w S mb m B n c0 c1 c2 v s) : ∀ g, v.ownBlock = some g -> g < w.heap.size := fun g hg => by
 rcases h.list with ⟨h1, _⟩ | ⟨G, cap, h1, h2⟩
 . subst h1; cases hg
 . subst h1; have e : G = g := Option.some.inj hg; rw [<- e]; exact h2.lt
theorem Ap.notV {S mb B k : Nat} {v : Value} (h : Ap S mb B k) (hv : ∀ g, v.ownBlock = some g -> B <= g) : ¬ TnV S mb v k := fun hh => by
 obtain ⟨h1, h2, h3⟩ := h; rcases hh with e | e | e
 . exact h1 e
 . exact h2 e
 . have := hv k e; omega
theorem range_cells (w : World) (L : List Value) (t : TypeId) (b : Nat) (hb : b = w.heap.size) : (w.alloc (.cells L.toArray t)).rangeAt b 0 L := by
 subst hb; intro j v hv; have h := World.rangeAt_of_block (w := w.alloc (.cells L.toArray t)) (b := w.heap.size) (C := L.toArray) (t := t) (fr := (0, 0)) (by show (w.heap.push _)[w.heap.size]? = _; simp) 0 L.length j v (by simpa using hv); exact h
theorem range_below {w w' : World} {b o : Nat} {L : List Value} (h : w.rangeAt b o L) (hb : Below w.heap.size w w') : w'.rangeAt b o L := fun j v hv => zj hb (h j v hv)
theorem range_only {w w' : World} {b o : Nat} {L : List Value} {T : Nat -> Prop} (h : w.rangeAt b o L) (ho : Only T w w') (hT : ¬ T b) : w'.rangeAt b o L := fun j v hv => by
 have h1 := h j v hv; rw [ho.cell (p := ⟨b, o + j, none⟩) (World.block_lt_of_cell? _ _ h1) hT]; exact h1
theorem see_any (S mb m B n gf cf N : Nat) (H c : Nat -> Nat) (st : Nat -> Nat -> Int) (c0 c1 v : Value) (s : Srch) (x y : St) (cost : Nat) (w : World) (hI : SIn w S mb m B n c0 c1 (.slice (some ⟨gf, 0, none⟩) m cf) v s) (hF : FarL w gf m N H c st) (hA : Ap S mb B gf ∧ ∀ t, t < m -> Ap S mb B (H t))
 (hm : m <= 4) (hN : N <= 36) (hx : Lens m x) (hs : Small x.1) (hq : ∀ t, t < m -> x.1.getD t 0 < N) (hb : ∀ t, t < m -> 0 <= st t (x.1.getD t 0) ∧ st t (x.1.getD t 0) <= 36) (hc : cost <= 1000000000) (hn : n <= 800000000) (hsn : s.n <= 800000000) :
 Calls Tryz.prog 50 #[.pointer (some ⟨S, 0, none⟩), .agg (stL x).toArray, .agg (fdL (cost, y)).toArray] w fun e w' =>
  e = .returned (.tuple #[]) ∧ ∃ v', SIn w' S mb m B (n + 1) c0 c1 (.slice (some ⟨gf, 0, none⟩) m cf) v' (seeF (restF st m) s x cost y) ∧ (∀ g, v'.ownBlock = some g -> v.ownBlock = some g ∨ w.heap.size <= g) ∧ Only (TnV S mb v) w w' := by
 obtain ⟨h1, h2, h3, h4, h5, h6, h7, h8⟩ := hI; have HSR := zx h1; have HLL := zx h2; have HVB := zx h3; have HSM := zx h4; have HFA := zx hF; have HAP := zx hA; have HQ := zx hq; have HBD := zx hb; have HX := zx hx; have HSX := zx hs; have hSl := h1.lt; have hml := h4.lt; obtain ⟨w1, hw1⟩ : ∃ w1, w1 = (w.alloc (.cells (stL x).toArray 107)).alloc (.cells (fdL (cost, y)).toArray 110) := ⟨_, rfl⟩
 have B1 : Below w.heap.size w w1 := by rw [hw1]; exact ((Below.refl _ w).alloc zl _).alloc (by simp) _
 have hz1 : w1.heap.size = w.heap.size + 2 := by rw [hw1]; simp
 have R1 : w1.rangeAt w.heap.size 0 (stL x) := by rw [hw1]; exact World.rangeAt_alloc (range_cells w (stL x) 107 _ rfl) _
 have R2 : w1.rangeAt (w.heap.size + 1) 0 (fdL (cost, y)) := by rw [hw1]; exact range_cells _ (fdL (cost, y)) 110 _ (by simp)
 have HR1 := zx R1; have HR2 := zx R2; have HB1 := zx B1; obtain ⟨fx, hfx⟩ : ∃ fx, fx = s.seen x := ⟨_, rfl⟩
 have HFX := zx hfx; -- what holds all the while that it is looked up
 have HS : (fun u : World => u.cell? ⟨S, 3, none⟩ = some (.map (some mb)) ∧ u.rangeAt w.heap.size 0 (stL x) ∧ SeenMap u mb m n s.seen) w1.drew := ⟨(zj B1 h1.cells.2.2.2.1 : w1.cell? _ = _), by simpa using R1, h4.block (B1.block mb hml)⟩
 clear h1 h2 h3 h4 hF hA hq hb hx hs R1 R2 B1 hfx; go_enter Tryz.func50, Tryz.ntmps50; go_upto_region 1 with fail; rw [<- hw1]; have HW1 := zx hw1; clear hw1; refine wp_region_any (by kernel_rfl) ?_; change wpAny _ _ _ _ _ _ _ (World.drew _); refine LM.any_of_L (late := LM.lateOf []) (S := fun u : World => u.cell? ⟨S, 3, none⟩ = some (.map (some mb)) ∧ u.rangeAt w.heap.size 0 (stL x) ∧ SeenMap u mb m n s.seen) _ _ _ _ ?_; refine LM.TL 0 (.pointer (some ⟨S, 0, none⟩)) rfl (Or.inl ⟨by rfl, fun u _ => by go_simp⟩) HS ?_
 refine LM.TL 1 (.pointer (some ⟨S, 0, none⟩)) rfl (Or.inl ⟨by rfl, fun u _ => by go_simp⟩) HS ?_; refine LM.TL 2 (.pointer (some ⟨S, 3, none⟩)) rfl (Or.inl ⟨by rfl, fun u _ => by go_simp⟩) HS ?_; refine LM.TL 3 (.map (some mb)) rfl (Or.inl ⟨by rfl, fun u hu => by have h5 := hu.1; go_simp⟩) HS ?_; refine LM.TL 4 (.agg (stL x).toArray) rfl (yieldsIf_load_mid (by rfl) 107 (.tmp 4) rfl w.heap.size 0 (by go_simp) (stL x) _ (fun u hu => hu.2.1) Tryz.underlying107 rfl ((congrArg some (stL_len _)).symm ▸ Tryz.sizeState)) HS ?_
 refine LM.TL 5 (.tuple #[.agg (fdL (fx.getD (0, ([], [])))).toArray, .bool fx.isSome]) rfl (by rw [HFX.out]; exact yields_look_seen (x := x) (f := s.seen) (b := mb) (m := m) (n := n) (by rfl) (.tmp 12) (.tmp 13) true rfl (by go_simp) (by go_simp) (fun u hu => hu.2.2) HX.out HSX.out) HS ?_; refine LM.TL 6 (.tuple #[.agg (fdL (fx.getD (0, ([], [])))).toArray, .bool fx.isSome]) rfl (Or.inl ⟨by rfl, fun u _ => by go_simp⟩) HS ?_; refine LM.TL 7 (.agg (fdL (fx.getD (0, ([], [])))).toArray) rfl (Or.inl ⟨by rfl, fun u _ => by go_simp⟩) HS ?_
 refine LM.TL 8 (.bool fx.isSome) rfl (Or.inl ⟨by rfl, fun u _ => by go_simp⟩) HS ?_; refine LM.L_one (i := 9) rfl (by kernel_rfl) rfl (fun K hK => ?_); go_simp; have B2 : Hid (Below w.heap.size w (w1.alloc (.cells (fdL (0, ([], []))).toArray 110)).drew) := (HB1.out.alloc (by omega) _).drew; have B12 : Hid (Below w1.heap.size w1 (w1.alloc (.cells (fdL (0, ([], []))).toArray 110)).drew) := ((Below.refl _ w1).alloc zl _).drew; have hz2 : (w1.alloc (.cells (fdL (0, ([], []))).toArray 110)).drew.heap.size = w.heap.size + 3 := by show (w1.alloc _).heap.size = _; simp; omega
 have NR : (w1.alloc (.cells (fdL (0, ([], []))).toArray 110)).drew.rangeAt (w.heap.size + 2) 0 (fdL (0, ([], []))) := by simpa using range_cells w1 (fdL (0, ([], []))) 110 (w.heap.size + 2) (by omega)
 have NF : Hid (∀ o, (w1.alloc (.cells (fdL (0, ([], []))).toArray 110)).drew.frozen? ⟨w.heap.size + 2, o, none⟩ = false) := fun o => by
  show (w1.alloc _).frozen? _ = _; rw [<- hz1]; go_simp
 have T2 := zx (show (w1.alloc (.cells (fdL (0, ([], []))).toArray 110)).drew.there (w.heap.size + 2) 0 9 from fun j hj => ⟨NR.isSome j (by rw [fdL_len]; exact hj), NF.out _⟩); have HS2 : (fun u : World => u.cell? ⟨S, 3, none⟩ = some (.map (some mb)) ∧ u.rangeAt w.heap.size 0 (stL x) ∧ SeenMap u mb m n s.seen) (w1.alloc (.cells (fdL (0, ([], []))).toArray 110)).drew := ⟨(zj B2.out HSR.out.cells.2.2.2.1 : World.cell? _ _ = _), range_below HR1.out B12.out, HSM.out.block (B2.out.block mb hml)⟩
 refine hK _ (w1.alloc (.cells (fdL (0, ([], []))).toArray 110)).drew HS2 ?_; clear HS hK K NR; have HR2' := zx (range_below HR2.out B12.out); have HR1' := zx (range_below HR1.out B12.out); have HM2 := zx (HSM.out.block (B2.out.block mb hml)); generalize (w1.alloc (.cells (fdL (0, ([], []))).toArray 110)).drew = w2 at *; have O23 : Hid (Only (fun k => k = w.heap.size + 2) w2 (w2.setCells (w.heap.size + 2) 0 (fdL (fx.getD (0, ([], [])))))) := Only.setCells (S := fun k => k = w.heap.size + 2) (fun _ => rfl) _ _ _ (Only.refl _ _)
 have R3 := zx (World.rangeAt_setCells_same w2 (w.heap.size + 2) 0 (fdL (fx.getD (0, ([], [])))) (by rw [fdL_len]; exact T2.out)); have HS : (fun u : World => u.cell? ⟨S, 3, none⟩ = some (.map (some mb)) ∧ u.rangeAt w.heap.size 0 (stL x) ∧ SeenMap u mb m n s.seen) (w2.setCells (w.heap.size + 2) 0 (fdL (fx.getD (0, ([], []))))) := ⟨(O23.out.cell (p := ⟨S, 3, none⟩) (by show S < _; omega) (by show ¬ S = _; omega)).trans HS2.1, range_only HS2.2.1 O23.out (by show ¬ _ = _; omega), HS2.2.2.block (O23.out.block mb (by omega) (by omega))⟩
 refine LM.L_one (i := 10) rfl (by kernel_rfl) rfl (fun K hK => ?_); refine wp_store_mid 110 (.tmp 6) (.tmp 15) rfl (w.heap.size + 2) 0 (fdL (fx.getD (0, ([], [])))).toArray (by go_simp) (by go_simp) (by exact T2.out) ((congrArg some (fdL_len _)).symm ▸ Tryz.sizeFound) (all_oneCell_toArray (fdL_one _)) ?_; refine hK _ _ HS ?_; clear hK K; have B3 := zx (B2.out.trans (O23.out.below (by omega) (fun i e => by omega))); have R2' := zx (range_only HR2'.out O23.out (by show ¬ _ = _; omega)); have R1' := zx HS.2.1; have M3 := zx HS.2.2
 have hz3 : w.heap.size + 3 <= (w2.setCells (w.heap.size + 2) 0 (fdL (fx.getD (0, ([], []))))).heap.size := by rw [<- hz2]; exact O23.out.size
 have e3 : (fdL (fx.getD (0, ([], [])))).toArray.toList = fdL (fx.getD (0, ([], []))) := rfl; rw [e3]; generalize w2.setCells (w.heap.size + 2) 0 (fdL (fx.getD (0, ([], [])))) = w3 at *; refine LM.TL 11 (.bool fx.isSome) rfl (Or.inl ⟨by rfl, fun u _ => by go_simp⟩) HS ?_; refine LM.L_done (by kernel_rfl) ?_ _; clear HS HS2 e3; by_cases hkn : knownB fx cost = true
 . -- as little is known already
   obtain ⟨vv, rfl⟩ : ∃ vv, fx = some vv := by
    cases fx with
    | none => cases hkn
    | some vv => exact ⟨vv, rfl⟩
   have hle : vv.1 <= cost := by simpa [knownB] using hkn
   have q1 : w3.cell? ⟨w.heap.size + 2, 0, none⟩ = some (.int .i64 (vv.1 : Nat)) := R3.out 0 _ rfl; have q2 : w3.cell? ⟨w.heap.size + 1, 0, none⟩ = some (.int .i64 (cost : Nat)) := R2'.out 0 _ rfl; have qi : (some vv : Option (Nat × St)).isSome = true := rfl; rw [qi]; have ES : Hid (seeF (restF st m) s x cost y = s) := by unfold Hid seeF; rw [if_pos (by rw [<- HFX.out]; exact hkn)]
   obtain ⟨k1, hk1⟩ : ∃ k1, k1 = vv.1 := ⟨_, rfl⟩
   rw [<- hk1] at q1 hle; have hleI : (k1 : Int) <= (cost : Int) := by omega
   clear hkn; go_wp2; refine bodyPost_ret (results_none Tryz.results50 _ _ _) rfl ?_; refine ⟨rfl, v, ?_, fun g hg => .inl hg, Only.of_below B3.out⟩; rw [ES.out]; exact ⟨HSR.out.block (B3.out.block S hSl), listL_only HLL.out (Only.of_below B3.out : Only (fun _ => False) w w3) (fun _ _ e => e), HVB.out, M3.out.more (Nat.le_succ _), h5, h6, h7, Nat.le_trans h8 B3.out.size⟩
 . have hkn : knownB fx cost = false := by simpa using hkn
   have HKN := zx hkn; have q2 : w3.cell? ⟨w.heap.size + 1, 0, none⟩ = some (.int .i64 (cost : Nat)) := R2'.out 0 _ rfl; have HS : (fun u : World => u.cell? ⟨S, 3, none⟩ = some (.map (some mb)) ∧ u.rangeAt w.heap.size 0 (stL x) ∧ u.rangeAt (w.heap.size + 1) 0 (fdL (cost, y))) w3.drew := ⟨(zj B3.out HSR.out.cells.2.2.2.1 : w3.cell? _ = _), by simpa using R1'.out, by simpa using R2'.out⟩
   rcases hf0 : fx with _ | vv
   . have qi : (none : Option (Nat × St)).isSome = false := rfl; rw [qi]; go_upto_region 3 with fail; refine wp_region_any (by kernel_rfl) ?_; change wpAny _ _ _ _ _ _ _ (World.drew _); refine LM.T 0 (.pointer (some ⟨S, 0, none⟩)) rfl ?_; refine LM.T 1 (.pointer (some ⟨S, 0, none⟩)) rfl ?_; refine LM.T 2 (.pointer (some ⟨S, 3, none⟩)) rfl ?_; refine LM.any_of_L (late := LM.lateOf [6]) (S := fun u : World => u.cell? ⟨S, 3, none⟩ = some (.map (some mb)) ∧ u.rangeAt w.heap.size 0 (stL x) ∧ u.rangeAt (w.heap.size + 1) 0 (fdL (cost, y))) _ _ _ _ ?_
     refine LM.TL 3 (.map (some mb)) rfl (Or.inl ⟨by rfl, fun u hu => by have h5 := hu.1; go_simp⟩) HS ?_; refine LM.TL 4 (.agg (stL x).toArray) rfl (yieldsIf_load_mid (by rfl) 107 (.tmp 4) rfl w.heap.size 0 (by go_simp) (stL x) _ (fun u hu => hu.2.1) Tryz.underlying107 rfl ((congrArg some (stL_len _)).symm ▸ Tryz.sizeState)) HS ?_; refine LM.TL 5 (.agg (fdL (cost, y)).toArray) rfl (yieldsIf_load_mid (by rfl) 110 (.tmp 5) rfl (w.heap.size + 1) 0 (by go_simp) (fdL (cost, y)) _ (fun u hu => hu.2.2) Tryz.underlying110 rfl ((congrArg some (fdL_len _)).symm ▸ Tryz.sizeFound)) HS ?_
     refine LM.L_rest (by kernel_rfl) ?_; refine any_put_seen (i := 6) (b := mb) (m := m) (n := n) (f := s.seen) (x := x) (y := y) (c := cost) rfl (by kernel_rfl) rfl (.tmp 28) (.tmp 29) (.tmp 30) rfl (by go_simp) (by go_simp) (by go_simp) (by exact M3.out.block rfl) (by unfold maxLen; omega) hm HX.out HSX.out ?_; intro w4 hm4 hg4; refine wpAny_done (by kernel_rfl) ?_ _; have O34 : Hid (Only (fun k => k = mb) w3 w4) := (Only.refl _ w3).drew.trans (Only.of_grown hg4) (fun _ _ e => e); have M4 := zx hm4; have S4 := zx ((HSR.out.block (B3.out.block S hSl)).block (O34.out.block S (by omega) h7))
     have L4 := zx (listL_only (listL_only HLL.out (Only.of_below B3.out : Only (fun _ => False) w w3) (fun _ _ e => e)) O34.out (fun g hg e => by have e1 : g = mb := e; have e2 := HVB.out g hg; omega)); have O4 : Hid (Only (TnV S mb v) w w4) := (Only.of_below B3.out : Only (TnV S mb v) w w3).trans O34.out (fun i _ e => .inr (.inl e)); have F4 := zx (HFA.out.only O4.out (HAP.out.1.notV HVB.out) (fun t ht => (HAP.out.2 t ht).notV HVB.out)); have Q1 := zx (range_only R1'.out O34.out (by show ¬ _ = mb; omega)); have Q2 := zx (range_only R2'.out O34.out (by show ¬ _ = mb; omega))
     have hz4 := O34.out.size; have HS4 : (fun u : World => u.rangeAt w.heap.size 0 (stL x) ∧ u.rangeAt (w.heap.size + 1) 0 (fdL (cost, y))) w4.drew := ⟨by simpa using Q1.out, by simpa using Q2.out⟩
     clear HS hm4 hg4 q2; go_upto_region 4 with fail; refine wp_region_any (by kernel_rfl) ?_; change wpAny _ _ _ _ _ _ _ (World.drew _); refine LM.T 0 (.pointer (some ⟨S, 0, none⟩)) rfl ?_; refine LM.T 1 (.pointer (some ⟨S, 0, none⟩)) rfl ?_; refine LM.T 2 (.pointer (some ⟨S, 4, none⟩)) rfl ?_; refine LM.T 4 (.pointer (some ⟨w.heap.size + 1, 0, none⟩)) rfl ?_; refine LM.T 6 (.pointer (some ⟨w.heap.size + 1, 0, none⟩)) rfl ?_; refine LM.T 8 (.pointer (some ⟨S, 0, none⟩)) rfl ?_; refine LM.T 9 (.pointer (some ⟨w.heap.size, 0, none⟩)) rfl ?_
     refine LM.any_of_L (late := LM.lateOf [14]) (S := fun u : World => u.rangeAt w.heap.size 0 (stL x) ∧ u.rangeAt (w.heap.size + 1) 0 (fdL (cost, y))) _ _ _ _ ?_; refine LM.TL 3 (.agg (stL x).toArray) rfl (yieldsIf_load_mid (by rfl) 107 (.tmp 4) rfl w.heap.size 0 (by go_simp) (stL x) _ (fun u hu => hu.1) Tryz.underlying107 rfl ((congrArg some (stL_len _)).symm ▸ Tryz.sizeState)) HS4 ?_; refine LM.TL 5 (.int .i64 (cost : Nat)) rfl (Or.inl ⟨by rfl, fun u hu => by have h5 : u.cell? ⟨w.heap.size + 1, 0, none⟩ = some (.int .i64 (cost : Nat)) := hu.2 0 _ rfl; go_simp⟩) HS4 ?_
     refine LM.TL 7 (.int .i64 (cost : Nat)) rfl (Or.inl ⟨by rfl, fun u hu => by have h5 : u.cell? ⟨w.heap.size + 1, 0, none⟩ = some (.int .i64 (cost : Nat)) := hu.2 0 _ rfl; go_simp⟩) HS4 ?_; refine LM.TL 10 (.agg (psL x.1).toArray) rfl (yieldsIf_load_mid (by rfl) 103 (.tmp 40) rfl w.heap.size 0 (by go_simp) (psL x.1) _ (fun u hu => range_pos hu.1) Tryz.underlying103 rfl ((congrArg some (psL_len _)).symm ▸ Tryz.sizePos)) HS4 ?_; refine LM.L_one (i := 11) rfl (by kernel_rfl) rfl (fun K hK => ?_); go_simp
     refine (restL_any S gf cf m N H c st x.1 w4.drew hm hN (by exact S4.out.cells.2.2.1) ⟨fun t ht => F4.out.rows t ht, fun t i ht hi => F4.out.cells t i ht hi⟩ HQ.out HBD.out).mono ?_; rintro e w5 ⟨rfl, hb5⟩; have B5 : Hid (Below w4.heap.size w4 w5) := (Below.refl _ w4).drew.trans (by exact hb5); have HS5 : (fun u : World => u.rangeAt w.heap.size 0 (stL x) ∧ u.rangeAt (w.heap.size + 1) 0 (fdL (cost, y))) w5 := ⟨range_below Q1.out B5.out, range_below Q2.out B5.out⟩
     refine hK _ _ HS5 ?_; clear hK K hb5 HS4; obtain ⟨r, hr⟩ : ∃ r, r = restF st m x.1 := ⟨_, rfl⟩
     have HRF := zx hr; have hr9 : r <= 144 := by rw [hr]; exact restF_le hm HBD.out
     rw [<- hr]; clear hr; have v1 : IntKind.i64.wrap ((cost : Int) + (r : Int)) = ((cost + r : Nat) : Int) := by rw [IntKind.wrap_i64]; omega
     refine LM.TL 12 (.int .i64 ((cost + r : Nat) : Int)) rfl (Or.inl ⟨by rfl, fun u _ => by go_simp⟩) HS5 ?_; refine LM.TL 13 (.agg (ldL ⟨x, cost, cost + r⟩).toArray) rfl (Or.inl ⟨by rfl, fun u _ => by kernel_rfl⟩) HS5 ?_; refine LM.L_rest (by kernel_rfl) ?_; refine LM.any_one (i := 14) rfl (by kernel_rfl) rfl (fun K hK => ?_); go_simp; refine (pushL_any S s.n c0 c1 (.slice (some ⟨gf, 0, none⟩) m cf) (.map (some mb)) v s.it ⟨x, cost, cost + r⟩ _ (S4.out.block (B5.out.block S S4.out.lt)) (listL_only L4.out (Only.of_below B5.out : Only (fun _ => False) w4 w5) (fun _ _ e => e)) (by omega)).mono ?_
     rintro e w6 ⟨rfl, g6, c6, hs6, hi6, hl6, ho6⟩; have S6 := zx hs6; have I6 := zx hi6; have L6 := zx hl6; have O6 := zx ho6; refine hK _ _ ?_; refine wpAny_done (by kernel_rfl) ?_ _; clear hs6 hi6 hl6 ho6 hK K HS5; go_wp2; go_end0
     have ES : seeF (restF st m) s x cost y = { seen := seenPutS s.seen x cost y, n := s.n + 1, it := HM.riseF ltL (s.n + 1) (HM.pushIt s.it s.n ⟨x, cost, cost + restF st m x.1⟩) s.n } := by unfold seeF; rw [if_neg (by rw [<- HFX.out, HKN.out]; simp)]
     have z5 := B5.out.size; have hmb : ¬ (mb = S ∨ v.ownBlock = some mb) := fun e => by
      rcases e with e | e
      . exact h7 e.symm
      . have := HVB.out mb e; omega
     refine ⟨rfl, _, ⟨S6.out, ?_, fun g hg => ?_, ?_, h5, h6, h7, ?_⟩, fun g hg => ?_, ?_⟩
     . rw [ES, <- HRF.out]; exact .inr ⟨g6, c6, rfl, I6.out⟩
     . have e1 : g6 = g := Option.some.inj hg; rcases L6.out with e | e
       . exact HVB.out g (by rw [<- e1]; exact e)
       . omega
     . rw [ES]; exact (M4.out.block (B5.out.block mb M4.out.lt)).block (O6.out.block mb (by have := M4.out.lt; omega) hmb)
     . have := O6.out.size; omega
     . have e1 : g6 = g := Option.some.inj hg; rcases L6.out with e | e
       . exact .inl (by rw [<- e1]; exact e)
       . exact .inr (by omega)
     . refine (O4.out.trans (Only.of_below B5.out : Only (fun _ => False) w4 w5) (fun _ _ e => e.elim)).trans O6.out (fun i _ e => ?_); rcases e with e | e
       . exact .inl e
       . exact .inr (.inr e)
   . have hgt : cost < vv.1 := by rw [hf0] at hkn; simpa [knownB] using hkn
     have q1 : w3.cell? ⟨w.heap.size + 2, 0, none⟩ = some (.int .i64 (vv.1 : Nat)) := by have h := R3.out; rw [hf0] at h; exact h 0 _ rfl
     have qi : (some vv : Option (Nat × St)).isSome = true := rfl; rw [qi]; obtain ⟨k1, hk1⟩ : ∃ k1, k1 = vv.1 := ⟨_, rfl⟩
     rw [<- hk1] at q1 hgt; have hleI : ¬ (k1 : Int) <= (cost : Int) := by omega
     have hleB : decide ((k1 : Int) <= (cost : Int)) = false := by simp; omega
     go_upto_region 3 with fail; refine wp_region_any (by kernel_rfl) ?_; change wpAny _ _ _ _ _ _ _ (World.drew _); refine LM.T 0 (.pointer (some ⟨S, 0, none⟩)) rfl ?_; refine LM.T 1 (.pointer (some ⟨S, 0, none⟩)) rfl ?_; refine LM.T 2 (.pointer (some ⟨S, 3, none⟩)) rfl ?_; refine LM.any_of_L (late := LM.lateOf [6]) (S := fun u : World => u.cell? ⟨S, 3, none⟩ = some (.map (some mb)) ∧ u.rangeAt w.heap.size 0 (stL x) ∧ u.rangeAt (w.heap.size + 1) 0 (fdL (cost, y))) _ _ _ _ ?_; refine LM.TL 3 (.map (some mb)) rfl (Or.inl ⟨by rfl, fun u hu => by have h5 := hu.1; go_simp⟩) HS ?_
     refine LM.TL 4 (.agg (stL x).toArray) rfl (yieldsIf_load_mid (by rfl) 107 (.tmp 4) rfl w.heap.size 0 (by go_simp) (stL x) _ (fun u hu => hu.2.1) Tryz.underlying107 rfl ((congrArg some (stL_len _)).symm ▸ Tryz.sizeState)) HS ?_; refine LM.TL 5 (.agg (fdL (cost, y)).toArray) rfl (yieldsIf_load_mid (by rfl) 110 (.tmp 5) rfl (w.heap.size + 1) 0 (by go_simp) (fdL (cost, y)) _ (fun u hu => hu.2.2) Tryz.underlying110 rfl ((congrArg some (fdL_len _)).symm ▸ Tryz.sizeFound)) HS ?_; refine LM.L_rest (by kernel_rfl) ?_
     refine any_put_seen (i := 6) (b := mb) (m := m) (n := n) (f := s.seen) (x := x) (y := y) (c := cost) rfl (by kernel_rfl) rfl (.tmp 28) (.tmp 29) (.tmp 30) rfl (by go_simp) (by go_simp) (by go_simp) (by exact M3.out.block rfl) (by unfold maxLen; omega) hm HX.out HSX.out ?_; intro w4 hm4 hg4; refine wpAny_done (by kernel_rfl) ?_ _; have O34 : Hid (Only (fun k => k = mb) w3 w4) := (Only.refl _ w3).drew.trans (Only.of_grown hg4) (fun _ _ e => e); have M4 := zx hm4; have S4 := zx ((HSR.out.block (B3.out.block S hSl)).block (O34.out.block S (by omega) h7))
     have L4 := zx (listL_only (listL_only HLL.out (Only.of_below B3.out : Only (fun _ => False) w w3) (fun _ _ e => e)) O34.out (fun g hg e => by have e1 : g = mb := e; have e2 := HVB.out g hg; omega)); have O4 : Hid (Only (TnV S mb v) w w4) := (Only.of_below B3.out : Only (TnV S mb v) w w3).trans O34.out (fun i _ e => .inr (.inl e)); have F4 := zx (HFA.out.only O4.out (HAP.out.1.notV HVB.out) (fun t ht => (HAP.out.2 t ht).notV HVB.out)); have Q1 := zx (range_only R1'.out O34.out (by show ¬ _ = mb; omega)); have Q2 := zx (range_only R2'.out O34.out (by show ¬ _ = mb; omega))
     have hz4 := O34.out.size; have HS4 : (fun u : World => u.rangeAt w.heap.size 0 (stL x) ∧ u.rangeAt (w.heap.size + 1) 0 (fdL (cost, y))) w4.drew := ⟨by simpa using Q1.out, by simpa using Q2.out⟩
     clear HS hm4 hg4 q2; go_upto_region 4 with fail; refine wp_region_any (by kernel_rfl) ?_; change wpAny _ _ _ _ _ _ _ (World.drew _); refine LM.T 0 (.pointer (some ⟨S, 0, none⟩)) rfl ?_; refine LM.T 1 (.pointer (some ⟨S, 0, none⟩)) rfl ?_; refine LM.T 2 (.pointer (some ⟨S, 4, none⟩)) rfl ?_; refine LM.T 4 (.pointer (some ⟨w.heap.size + 1, 0, none⟩)) rfl ?_; refine LM.T 6 (.pointer (some ⟨w.heap.size + 1, 0, none⟩)) rfl ?_; refine LM.T 8 (.pointer (some ⟨S, 0, none⟩)) rfl ?_; refine LM.T 9 (.pointer (some ⟨w.heap.size, 0, none⟩)) rfl ?_
     refine LM.any_of_L (late := LM.lateOf [14]) (S := fun u : World => u.rangeAt w.heap.size 0 (stL x) ∧ u.rangeAt (w.heap.size + 1) 0 (fdL (cost, y))) _ _ _ _ ?_; refine LM.TL 3 (.agg (stL x).toArray) rfl (yieldsIf_load_mid (by rfl) 107 (.tmp 4) rfl w.heap.size 0 (by go_simp) (stL x) _ (fun u hu => hu.1) Tryz.underlying107 rfl ((congrArg some (stL_len _)).symm ▸ Tryz.sizeState)) HS4 ?_; refine LM.TL 5 (.int .i64 (cost : Nat)) rfl (Or.inl ⟨by rfl, fun u hu => by have h5 : u.cell? ⟨w.heap.size + 1, 0, none⟩ = some (.int .i64 (cost : Nat)) := hu.2 0 _ rfl; go_simp⟩) HS4 ?_
     refine LM.TL 7 (.int .i64 (cost : Nat)) rfl (Or.inl ⟨by rfl, fun u hu => by have h5 : u.cell? ⟨w.heap.size + 1, 0, none⟩ = some (.int .i64 (cost : Nat)) := hu.2 0 _ rfl; go_simp⟩) HS4 ?_; refine LM.TL 10 (.agg (psL x.1).toArray) rfl (yieldsIf_load_mid (by rfl) 103 (.tmp 40) rfl w.heap.size 0 (by go_simp) (psL x.1) _ (fun u hu => range_pos hu.1) Tryz.underlying103 rfl ((congrArg some (psL_len _)).symm ▸ Tryz.sizePos)) HS4 ?_; refine LM.L_one (i := 11) rfl (by kernel_rfl) rfl (fun K hK => ?_); go_simp
     refine (restL_any S gf cf m N H c st x.1 w4.drew hm hN (by exact S4.out.cells.2.2.1) ⟨fun t ht => F4.out.rows t ht, fun t i ht hi => F4.out.cells t i ht hi⟩ HQ.out HBD.out).mono ?_; rintro e w5 ⟨rfl, hb5⟩; have B5 : Hid (Below w4.heap.size w4 w5) := (Below.refl _ w4).drew.trans (by exact hb5); have HS5 : (fun u : World => u.rangeAt w.heap.size 0 (stL x) ∧ u.rangeAt (w.heap.size + 1) 0 (fdL (cost, y))) w5 := ⟨range_below Q1.out B5.out, range_below Q2.out B5.out⟩
     refine hK _ _ HS5 ?_; clear hK K hb5 HS4; obtain ⟨r, hr⟩ : ∃ r, r = restF st m x.1 := ⟨_, rfl⟩
     have HRF := zx hr; have hr9 : r <= 144 := by rw [hr]; exact restF_le hm HBD.out
     rw [<- hr]; clear hr; have v1 : IntKind.i64.wrap ((cost : Int) + (r : Int)) = ((cost + r : Nat) : Int) := by rw [IntKind.wrap_i64]; omega
     refine LM.TL 12 (.int .i64 ((cost + r : Nat) : Int)) rfl (Or.inl ⟨by rfl, fun u _ => by go_simp⟩) HS5 ?_; refine LM.TL 13 (.agg (ldL ⟨x, cost, cost + r⟩).toArray) rfl (Or.inl ⟨by rfl, fun u _ => by kernel_rfl⟩) HS5 ?_; refine LM.L_rest (by kernel_rfl) ?_; refine LM.any_one (i := 14) rfl (by kernel_rfl) rfl (fun K hK => ?_); go_simp; refine (pushL_any S s.n c0 c1 (.slice (some ⟨gf, 0, none⟩) m cf) (.map (some mb)) v s.it ⟨x, cost, cost + r⟩ _ (S4.out.block (B5.out.block S S4.out.lt)) (listL_only L4.out (Only.of_below B5.out : Only (fun _ => False) w4 w5) (fun _ _ e => e)) (by omega)).mono ?_
     rintro e w6 ⟨rfl, g6, c6, hs6, hi6, hl6, ho6⟩; have S6 := zx hs6; have I6 := zx hi6; have L6 := zx hl6; have O6 := zx ho6; refine hK _ _ ?_; refine wpAny_done (by kernel_rfl) ?_ _; clear hs6 hi6 hl6 ho6 hK K HS5; go_wp2; go_end0
     have ES : seeF (restF st m) s x cost y = { seen := seenPutS s.seen x cost y, n := s.n + 1, it := HM.riseF ltL (s.n + 1) (HM.pushIt s.it s.n ⟨x, cost, cost + restF st m x.1⟩) s.n } := by unfold seeF; rw [if_neg (by rw [<- HFX.out, HKN.out]; simp)]
     have z5 := B5.out.size; have hmb : ¬ (mb = S ∨ v.ownBlock = some mb) := fun e => by
      rcases e with e | e
      . exact h7 e.symm
      . have := HVB.out mb e; omega
     refine ⟨rfl, _, ⟨S6.out, ?_, fun g hg => ?_, ?_, h5, h6, h7, ?_⟩, fun g hg => ?_, ?_⟩
     . rw [ES, <- HRF.out]; exact .inr ⟨g6, c6, rfl, I6.out⟩
     . have e1 : g6 = g := Option.some.inj hg; rcases L6.out with e | e
       . exact HVB.out g (by rw [<- e1]; exact e)
       . omega
     . rw [ES]; exact (M4.out.block (B5.out.block mb M4.out.lt)).block (O6.out.block mb (by have := M4.out.lt; omega) hmb)
     . have := O6.out.size; omega
     . have e1 : g6 = g := Option.some.inj hg; rcases L6.out with e | e
       . exact .inl (by rw [<- e1]; exact e)
       . exact .inr (by omega)
     . refine (O4.out.trans (Only.of_below B5.out : Only (fun _ => False) w4 w5) (fun _ _ e => e.elim)).trans O6.out (fun i _ e => ?_); rcases e with e | e
       . exact .inl e
       . exact .inr (.inr e)
end
end Go.Proofs.YtnkgpinadgacgaaGreatDoor
