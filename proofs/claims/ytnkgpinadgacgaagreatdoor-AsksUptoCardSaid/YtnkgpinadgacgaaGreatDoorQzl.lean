/- Gv, Hd, Hf. -/
import Derived.Test.YtnkgpinadgacgaaGreatDoorQzk
import Derived.Test.YtnkgpinadgacgaaGreatDoorQzd
set_option maxRecDepth 1000000
set_option maxHeartbeats 16000000
namespace Go.Proofs.YtnkgpinadgacgaaGreatDoor
section
open Go.RowKit M SM
structure PosOK (m N : Nat) (st : Nat -> Nat -> Int) (q : List Nat) : Prop where
 len : q.length = m
 lt : ∀ t, t < m -> q.getD t 0 < N
 bd : ∀ t, t < m -> 0 <= st t (q.getD t 0) ∧ st t (q.getD t 0) <= 36
theorem PosOK.small {m N : Nat} {st : Nat -> Nat -> Int} {q : List Nat} (h : PosOK m N st q) (hN : N <= 36) : Small q := fun k => by
 by_cases e : k < m
 . have := h.lt k e; omega
 . rw [zg, List.getElem?_eq_none (by rw [h.len]; omega)]; decide
theorem range_ldst {w : World} {b o : Nat} {l : LeadM} (h : w.rangeAt b o (ldL l)) : w.rangeAt b o (stL l.st) := fun j v hv => by
 have hj : j < 8 := by have := (List.getElem?_eq_some_iff.1 hv).1; rw [stL_len] at this; exact this
 refine h j v ?_; have hc : j = 0 ∨ j = 1 ∨ j = 2 ∨ j = 3 ∨ j = 4 ∨ j = 5 ∨ j = 6 ∨ j = 7 := by omega
 rcases hc with rfl | rfl | rfl | rfl | rfl | rfl | rfl | rfl <;> exact hv
theorem range_st_at {w : World} {b : Nat} {x : St} (h : w.rangeAt b 0 (stL x)) {k : Nat} (hk : k < 4) : w.cell? ⟨b, k, none⟩ = some (.int .u8 (x.1.getD k 0 : Nat)) ∧ w.cell? ⟨b, 4 + k, none⟩ = some (.bool (x.2.getD k false)) := by
 have hc : k = 0 ∨ k = 1 ∨ k = 2 ∨ k = 3 := by omega
 rcases hc with rfl | rfl | rfl | rfl
 . exact ⟨h 0 _ rfl, h 4 _ rfl⟩
 . exact ⟨h 1 _ rfl, h 5 _ rfl⟩
 . exact ⟨h 2 _ rfl, h 6 _ rfl⟩
 . exact ⟨h 3 _ rfl, h 7 _ rfl⟩
theorem seeF_n (h : List Nat -> Nat) (s : Srch) (b : St) (c : Nat) (y : St) : (seeF h s b c y).n <= s.n + 1 := by
 unfold seeF; by_cases e : knownB (s.seen b) c = true
 . rw [if_pos e]; omega
 . rw [if_neg e]; exact zl
theorem take_getD (u : List Bool) (k i : Nat) : (u.take k).getD i false = if i < k then u.getD i false else false := by
 rw [zg, List.getElem?_take]; by_cases e : i < k
 . rw [if_pos e, if_pos e, zg]
 . rw [if_neg e, if_neg e]; rfl
theorem cntU_take {u : List Bool} {k : Nat} (hk : k < u.length) : cntU (u.take (k + 1)) = cntU (u.take k) + if u.getD k false = true then 1 else 0 := by
 rw [List.take_succ_eq_append_getElem hk]; unfold cntU; rw [List.count_append, zg, List.getElem?_eq_getElem hk]; cases u[k] <;> simp
theorem range_step {w : World} {b k : Nat} {q : List Nat} {u : List Bool} (hk : k < 4) (h : w.rangeAt b 0 (stL (q, u.take k))) (hu : u.getD k false = true) : (w.setCell ⟨b, 4 + k, none⟩ (.bool true)).rangeAt b 0 (stL (q, u.take (k + 1))) := by
 intro j v hv; have hj : j < 8 := by have := (List.getElem?_eq_some_iff.1 hv).1; rw [stL_len] at this; exact this
 have hcell : ∃ y, w.cell? ⟨b, 4 + k, none⟩ = some y := ⟨_, (range_st_at h hk).2⟩
 obtain ⟨y, hy⟩ := hcell; by_cases e : j = 4 + k
 . subst e; rw [Nat.zero_add, World.cell?_setCell_same' _ _ _ (by rw [hy]; rfl)]; have hc : k = 0 ∨ k = 1 ∨ k = 2 ∨ k = 3 := by omega
   have h2 : (stL (q, u.take (k + 1)))[4 + k]? = some (.bool ((u.take (k + 1)).getD k false)) := by rcases hc with rfl | rfl | rfl | rfl <;> rfl
   rw [h2, take_getD, if_pos (Nat.lt_succ_self k), hu] at hv; exact hv
 . rw [Nat.zero_add, World.cell?_setCell_other _ _ _ _ (by intro hh; have := congrArg Addr.off hh; simp at this; omega)]; have h3 : (stL (q, u.take (k + 1)))[j]? = (stL (q, u.take k))[j]? := by
    have ht : ∀ i, i ≠ k -> (u.take (k + 1)).getD i false = (u.take k).getD i false := fun i hi => by
     rw [take_getD, take_getD]; by_cases e1 : i < k
     . rw [if_pos e1, if_pos (by omega)]
     . rw [if_neg e1, if_neg (by omega)]
    have hc : j = 0 ∨ j = 1 ∨ j = 2 ∨ j = 3 ∨ j = 4 ∨ j = 5 ∨ j = 6 ∨ j = 7 := by omega
    rcases hc with rfl | rfl | rfl | rfl | rfl | rfl | rfl | rfl
    . rfl
    . rfl
    . rfl
    . rfl
    . show some (Value.bool _) = some (Value.bool _); rw [ht 0 (by omega)]
    . show some (Value.bool _) = some (Value.bool _); rw [ht 1 (by omega)]
    . show some (Value.bool _) = some (Value.bool _); rw [ht 2 (by omega)]
    . show some (Value.bool _) = some (Value.bool _); rw [ht 3 (by omega)]
   rw [h3] at hv; have := h j v hv; rw [Nat.zero_add] at this; exact this
theorem stL_take {q : List Nat} {u : List Bool} {k : Nat} (hu : u.getD k false = false) : stL (q, u.take (k + 1)) = stL (q, u.take k) := by
 have ht : ∀ i, (u.take (k + 1)).getD i false = (u.take k).getD i false := fun i => by
  rw [take_getD, take_getD]; by_cases e1 : i < k
  . rw [if_pos e1, if_pos (by omega)]
  . rw [if_neg e1]; by_cases e2 : i = k
    . subst e2; rw [if_pos (Nat.lt_succ_self i), hu]
    . rw [if_neg (by omega)]
 unfold stL; simp only [ht]
theorem goBack_any (S mb m B n gf cf gm : Nat) (G C : Nat -> Nat) (ro co : Int) (cs : ByteArray) (H c : Nat -> Nat) (st : Nat -> Nat -> Int) (v : Value) (s : Srch) (l : LeadM) (w : World) (hI : SIn w S mb m B n (.int .i64 (m : Nat)) (.slice (some ⟨gm, 0, none⟩) cs.size cs.size) (.slice (some ⟨gf, 0, none⟩) m cf) v s)
 (hF : FarL w gf m cs.size H c st) (hA : Ap S mb B gf ∧ ∀ t, t < m -> Ap S mb B (H t)) (hm : m <= 4) (hN : cs.size <= 36) (hg : GroundIn w gm cs.size G C ro co cs) (hl : PosOK m cs.size st l.st.1) (hlu : l.st.2.length = m) (hlf : ∀ k, k < m -> freeB cs (l.st.1.getD k 0 : Nat) = true)
 (hpos : ∀ q, q ∈ growL (mvN ro co cs) l.st.1 m -> PosOK m cs.size st q) (hc : l.c <= 900000000) (hn : n <= 700000000) (hsn : s.n <= 700000000) :
 Calls Tryz.prog 81 #[.pointer (some ⟨S, 0, none⟩), .agg (ldL l).toArray] w fun e w' =>
  e = .returned (.tuple #[]) ∧ ∃ v', SIn w' S mb m B (n + 625) (.int .i64 (m : Nat)) (.slice (some ⟨gm, 0, none⟩) cs.size cs.size) (.slice (some ⟨gf, 0, none⟩) m cf) v' (goF (restF st m) m l.st l.c (growL (mvN ro co cs) l.st.1 m) s) ∧ (∀ g, v'.ownBlock = some g -> v.ownBlock = some g ∨ w.heap.size <= g) ∧ Only (TnV S mb v) w w' := by
 have HI := zx hI; have HFA := zx hF; have HAP := zx hA; have HG := zx hg; have HLP := zx hl; have HLU := zx hlu; have HLF := zx hlf; have HPO := zx hpos; have hs0 := hI.src; have HOW := zx hI.own; have HOL := zx hI.own_lt; have hBw := hI.low.2.2.2; have hSB := hI.low.1; have hmB := hI.low.2.1; obtain ⟨w1, hw1⟩ : ∃ w1, w1 = w.alloc (.cells (ldL l).toArray 152) := ⟨_, rfl⟩
 have B1 : Below w.heap.size w w1 := by rw [hw1]; exact (Below.refl _ w).alloc zl _
 have hz1 : w1.heap.size = w.heap.size + 1 := by rw [hw1]; simp
 have R1 : w1.rangeAt w.heap.size 0 (ldL l) := by rw [hw1]; exact range_cells w (ldL l) 152 _ rfl
 have HR1 := zx R1; have HB1 := zx B1; have HS : (fun u : World => u.cell? ⟨S, 0, none⟩ = some (.int .i64 (m : Nat)) ∧ u.cell? ⟨S, 1, none⟩ = some (.slice (some ⟨gm, 0, none⟩) cs.size cs.size) ∧ u.rangeAt w.heap.size 0 (ldL l)) w1.drew := ⟨(zj B1 hs0.cells.1 : w1.cell? _ = _), (zj B1 hs0.cells.2.1 : w1.cell? _ = _), by simpa using R1⟩
 obtain ⟨Lq, hLq⟩ : ∃ Lq, Lq = growL (mvN ro co cs) l.st.1 m := ⟨_, rfl⟩
 rw [<- hLq] at hpos ⊢; obtain ⟨R, hR⟩ : ∃ R, R = goF (restF st m) m l.st l.c Lq s := ⟨_, rfl⟩
 rw [<- hR]; have HR := zx hR.symm; have HLQ := zx hLq; have HPO := zx hpos; have hLen : Lq.length <= 625 := by
  have h1 := growL_len (p := l.st.1) (fun c => mvN_le ro co cs c) m; have h2 : 5 ^ m <= 5 ^ 4 := Nat.pow_le_pow_right (by omega) hm; rw [hLq]; omega
 clear hI hF hA hg hl hlu hlf hpos hs0 R1 B1 hLq hR; go_enter Tryz.func81, Tryz.ntmps81; go_upto_region 1 with fail; rw [<- hw1]; have HW1 := zx hw1; clear hw1; refine wp_region_any (by kernel_rfl) ?_; change wpAny _ _ _ _ _ _ _ (World.drew _); refine LM.T 0 (.pointer (some ⟨S, 0, none⟩)) rfl ?_; refine LM.T 1 (.pointer (some ⟨S, 0, none⟩)) rfl ?_; refine LM.T 2 (.pointer (some ⟨S, 0, none⟩)) rfl ?_; refine LM.T 4 (.pointer (some ⟨w.heap.size, 0, none⟩)) rfl ?_; refine LM.T 5 (.pointer (some ⟨w.heap.size, 0, none⟩)) rfl ?_; refine LM.T 9 (.int .i64 0) rfl ?_
 refine LM.any_of_L (late := LM.lateOf []) (S := fun u : World => u.cell? ⟨S, 0, none⟩ = some (.int .i64 (m : Nat)) ∧ u.cell? ⟨S, 1, none⟩ = some (.slice (some ⟨gm, 0, none⟩) cs.size cs.size) ∧ u.rangeAt w.heap.size 0 (ldL l)) _ _ _ _ ?_; refine LM.TL 3 (.agg #[.int .i64 (m : Nat), .slice (some ⟨gm, 0, none⟩) cs.size cs.size]) rfl (Or.inl ⟨by rfl, fun u hu => by have h5 := hu.1; have h6 := hu.2.1; go_simp⟩) HS ?_
 refine LM.TL 6 (.agg (psL l.st.1).toArray) rfl (yieldsIf_load_mid (by rfl) 103 (.tmp 14) rfl w.heap.size 0 (by go_simp) (psL l.st.1) _ (fun u hu => range_pos (range_ldst hu.2.2)) Tryz.underlying103 rfl ((congrArg some (psL_len _)).symm ▸ Tryz.sizePos)) HS ?_; refine LM.L_one (i := 7) rfl (by kernel_rfl) rfl (fun K hK => ?_); go_simp; have GW : GroundIn w1 gm cs.size G C ro co cs := HG.out.below HB1.out; refine (jnexts_any m gm G C ro co cs l.st.1 w1.drew hm hN (fun k hk => ⟨HLP.out.lt k hk, HLF.out k hk⟩) ⟨GW.row, GW.lists, GW.low⟩).mono ?_; rintro e w2 ⟨v2, rfl, hv2, hb2⟩
 have B2 : Hid (Below w1.heap.size w1 w2) := (Below.refl _ w1).drew.trans (by exact hb2); rw [<- HLQ.out] at hv2; have HV2 := zx hv2; have HS2 : (fun u : World => u.cell? ⟨S, 0, none⟩ = some (.int .i64 (m : Nat)) ∧ u.cell? ⟨S, 1, none⟩ = some (.slice (some ⟨gm, 0, none⟩) cs.size cs.size) ∧ u.rangeAt w.heap.size 0 (ldL l)) w2 := ⟨(zj B2.out HS.1 : w2.cell? _ = _), (zj B2.out HS.2.1 : w2.cell? _ = _), range_below HR1.out B2.out⟩
 obtain ⟨a2, k2, rfl, hg2, hcap2⟩ := hv2.form; have HG2 := zx hg2; refine hK _ _ HS2 ?_; clear hK K hb2 HS hv2 hg2 GW; refine LM.TL 8 (.int .i64 (Lq.length : Nat)) rfl (Or.inl ⟨by rfl, fun u _ => by go_simp⟩) HS2 ?_; refine LM.L_done (by kernel_rfl) ?_ _; have RB := zx HS2.2.2; have BW2 := zx (HB1.out.trans (B2.out.mono (by omega))); have hz2 := B2.out.size; clear HS2; go_simp; go_wp2; have HI2 := zx (HI.out.only BW2.out); have HF2 := zx (HFA.out.only (Only.of_below BW2.out : Only (fun _ => False) w w2) (fun e => e) (fun _ _ e => e))
 go_loopw [18] (fun v18 wr => ∃ (t n1 : Nat) (s1 : Srch) (v1 : Value), v18 = .int .i64 t ∧ t <= Lq.length ∧ goF (restF st m) m l.st l.c (Lq.drop t) s1 = R ∧ SIn wr S mb m B n1 (.int .i64 (m : Nat)) (.slice (some ⟨gm, 0, none⟩) cs.size cs.size) (.slice (some ⟨gf, 0, none⟩) m cf) v1 s1 ∧ n1 <= n + t ∧ s1.n <= s.n + t ∧ (∀ g, v1.ownBlock = some g -> v.ownBlock = some g ∨ w2.heap.size <= g) ∧ Only (TnV S mb v) w2 wr) (fun v18 _ => Lq.length - (intOf v18).toNat)
 case atStart => exact ⟨0, n, s, v, rfl, Nat.zero_le _, HR.out, HI2.out, zl, zl, fun g hg => .inl hg, Only.refl _ _⟩
 case round =>
  obtain ⟨wo, rfl⟩ : ∃ x, x = wr := ⟨_, rfl⟩
  obtain ⟨t, n1, s1, v1, rfl, ht, hrr, hin, hn1, hs1, hv1, honly⟩ := hrel; have RR := zx hrr; have IN := zx hin; have HV1 := zx hv1; have HO := zx honly; have hzo := honly.size; have hne3 : ¬ TnV S mb v w.heap.size := fun e => by
   rcases e with e | e | e
   . omega
   . omega
   . have := HOL.out _ e; omega
  have hin0 := hin.src.cells.1; clear hrr hin hv1 honly; by_cases hlt : t < Lq.length
  . obtain ⟨g2, rfl⟩ := HG2.out (by omega); have hg2b : w1.heap.size <= g2 ∧ g2 < w2.heap.size := HV2.out.lt g2 rfl; have hne2 : ¬ TnV S mb v g2 := fun e => by
     rcases e with e | e | e
     . omega
     . omega
     . have := HOL.out _ e; omega
    obtain ⟨c0, c1, c2, c3⟩ := HV2.out.cells hlt; have c0 := (HO.out.cell (p := ⟨g2, t * 4, none⟩) hg2b.2 hne2).trans c0; have c1 := (HO.out.cell (p := ⟨g2, t * 4 + 1, none⟩) hg2b.2 hne2).trans c1; have c2 := (HO.out.cell (p := ⟨g2, t * 4 + 2, none⟩) hg2b.2 hne2).trans c2; have c3 := (HO.out.cell (p := ⟨g2, t * 4 + 3, none⟩) hg2b.2 hne2).trans c3; obtain ⟨q, hq⟩ : ∃ q, q = Lq[t] := ⟨_, rfl⟩
    have hqm : q ∈ Lq := by rw [hq]; exact List.getElem_mem hlt
    have HQM := zx (HPO.out q hqm); rw [<- hq] at c0 c1 c2 c3; have HQ := zx hq; obtain ⟨q0, hq0⟩ : ∃ v, v = q.getD 0 0 := ⟨_, rfl⟩
    obtain ⟨q1, hq1⟩ : ∃ v, v = q.getD 1 0 := ⟨_, rfl⟩
    obtain ⟨q2, hq2⟩ : ∃ v, v = q.getD 2 0 := ⟨_, rfl⟩
    obtain ⟨q3, hq3⟩ : ∃ v, v = q.getD 3 0 := ⟨_, rfl⟩
    rw [<- hq0] at c0; rw [<- hq1] at c1; rw [<- hq2] at c2; rw [<- hq3] at c3; have HQQ := zx (And.intro hq0 (And.intro hq1 (And.intro hq2 hq3))); obtain ⟨U, hU⟩ : ∃ U, U = backU m l.st.1 l.st.2 q := ⟨_, rfl⟩
    have HU := zx hU; have hUl : U.length = m := by rw [hU]; exact backU_len _ _ _ _
    have RBo := zx (range_only RB.out HO.out hne3); have d8 : wo.cell? ⟨w.heap.size, 8, none⟩ = some (.int .i64 (l.c : Nat)) := RBo.out 8 _ rfl; have htI : (t : Int) < (Lq.length : Int) := by omega
    have n1' : w.heap.size < wo.heap.size := by omega
    have n2' : w.heap.size < wo.heap.size + 1 := by omega
    have n3' : S < wo.heap.size := by omega
    have n4' : S < wo.heap.size + 1 := by omega
    have n5' : g2 < wo.heap.size := by omega
    clear hq hq0 hq1 hq2 hq3 hqm hU; have X5 : Hid (∀ k, k < 4 -> ((wo.alloc (.cells #[.int .u8 q0, .int .u8 q1, .int .u8 q2, .int .u8 q3] 103)).alloc (.cells #[.int .u8 q0, .int .u8 q1, .int .u8 q2, .int .u8 q3, .bool false, .bool false, .bool false, .bool false] 107)).cell? ⟨wo.heap.size, k, none⟩ = some (.int .u8 (q.getD k 0 : Nat))) := by
     intro k hk; obtain ⟨e0, e1, e2, e3⟩ := HQQ.out; match k, hk with
     | 0, _ => rw [<- e0]; go_simp
     | 1, _ => rw [<- e1]; go_simp
     | 2, _ => rw [<- e2]; go_simp
     | 3, _ => rw [<- e3]; go_simp
    have X6 : Hid (((wo.alloc (.cells #[.int .u8 q0, .int .u8 q1, .int .u8 q2, .int .u8 q3] 103)).alloc (.cells #[.int .u8 q0, .int .u8 q1, .int .u8 q2, .int .u8 q3, .bool false, .bool false, .bool false, .bool false] 107)).rangeAt (wo.heap.size + 1) 0 (stL (q, U.take 0))) := by
     have h := range_cells (wo.alloc (.cells #[.int .u8 q0, .int .u8 q1, .int .u8 q2, .int .u8 q3] 103)) (stL (q, U.take 0)) 107 (wo.heap.size + 1) (by simp); obtain ⟨e0, e1, e2, e3⟩ := HQQ.out; unfold Hid; rw [e0, e1, e2, e3]; rw [e0, e1, e2, e3] at h; exact h
    have F6 : Hid (∀ o, ((wo.alloc (.cells #[.int .u8 q0, .int .u8 q1, .int .u8 q2, .int .u8 q3] 103)).alloc (.cells #[.int .u8 q0, .int .u8 q1, .int .u8 q2, .int .u8 q3, .bool false, .bool false, .bool false, .bool false] 107)).frozen? ⟨wo.heap.size + 1, o, none⟩ = false) := by intro o; go_simp
    have BE : Hid (Below wo.heap.size wo ((wo.alloc (.cells #[.int .u8 q0, .int .u8 q1, .int .u8 q2, .int .u8 q3] 103)).alloc (.cells #[.int .u8 q0, .int .u8 q1, .int .u8 q2, .int .u8 q3, .bool false, .bool false, .bool false, .bool false] 107))) := ((Below.refl _ wo).alloc zl _).alloc (by simp) _; have hze : ((wo.alloc (.cells #[.int .u8 q0, .int .u8 q1, .int .u8 q2, .int .u8 q3] 103)).alloc (.cells #[.int .u8 q0, .int .u8 q1, .int .u8 q2, .int .u8 q3, .bool false, .bool false, .bool false, .bool false] 107)).heap.size = wo.heap.size + 2 := by simp
    go_wp2; generalize ((wo.alloc (.cells #[.int .u8 q0, .int .u8 q1, .int .u8 q2, .int .u8 q3] 103)).alloc (.cells #[.int .u8 q0, .int .u8 q1, .int .u8 q2, .int .u8 q3, .bool false, .bool false, .bool false, .bool false] 107)) = we at *; go_loopw [7, 31] (fun v7 v31 wi => ∃ k : Nat, v31 = .int .i64 k ∧ k <= m ∧ v7 = .int .i64 ((l.c + cntU (U.take k) : Nat) : Int) ∧ wi.rangeAt (wo.heap.size + 1) 0 (stL (q, U.take k)) ∧ (∀ o, wi.frozen? ⟨wo.heap.size + 1, o, none⟩ = false) ∧ Only (fun b => b = wo.heap.size + 1) we wi) (fun _ v31 _ => m - (intOf v31).toNat)
    case atStart => exact ⟨0, rfl, Nat.zero_le _, rfl, X6.out, F6.out, Only.refl _ _⟩
    case round =>
     obtain ⟨wi, rfl⟩ : ∃ x, x = wr := ⟨_, rfl⟩
     obtain ⟨k, rfl, hk, rfl, hr6, hf6, hoi⟩ := hrel; have HR6 := zx hr6; have HF6 := zx hf6; have HOI := zx hoi; have hzi := hoi.size; have RBi := zx (range_only (range_below RBo.out BE.out) hoi (by show ¬ w.heap.size = _; omega)); obtain ⟨ck, hck⟩ : ∃ ck, ck = l.c + cntU (U.take k) := ⟨_, rfl⟩
     have hck9 : ck <= 900000004 := by
      have h1 := cntU_le (U.take k); rw [List.length_take] at h1; omega
     have HCK := zx hck; rw [<- hck]; clear hr6 hf6 hoi hck; by_cases hkm : k < m
     . have hk4 : k < 4 := by omega
       have hkI : (k : Int) < (m : Int) := by omega
       have hk4I : (k : Int) < 4 := by omega
       obtain ⟨d2, d0⟩ := range_st_at (range_ldst RBi.out) hk4; have d1 := (HOI.out.cell (p := ⟨wo.heap.size, k, none⟩) (by show wo.heap.size < _; omega) (by show ¬ wo.heap.size = _; omega)).trans (X5.out k hk4); have HBIT : Hid (U.getD k false = (l.st.2.getD k false || q.getD k 0 != l.st.1.getD k 0)) := by rw [HU.out]; exact backU_at hkm
       have hq9 := HQM.out.lt k hkm; have hp9 := HLP.out.lt k hkm; obtain ⟨ub, hub⟩ : ∃ ub, ub = l.st.2.getD k false := ⟨_, rfl⟩
       obtain ⟨qk, hqk⟩ : ∃ qk, qk = q.getD k 0 := ⟨_, rfl⟩
       obtain ⟨pk, hpk⟩ : ∃ pk, pk = l.st.1.getD k 0 := ⟨_, rfl⟩
       rw [<- hub] at d0; rw [<- hqk] at d1 hq9; rw [<- hpk] at d2 hp9; rw [<- hub, <- hqk, <- hpk] at HBIT; clear hub hqk hpk; cases ub
       . by_cases hqp : (qk : Int) = (pk : Int)
         . have hB : ((qk : Int) != (pk : Int)) = false := by simp [hqp]
           have BITF : U.getD k false = false := by rw [HBIT.out]; simp; omega
           have HBF := zx BITF; clear hqp BITF; go_wp2; go_quiet (fail); go_wp2; go_roundw; case rel =>
            refine ⟨k + 1, by go_num, by omega, ?_, by rw [stL_take HBF.out]; exact HR6.out, HF6.out, HOI.out.drewN _⟩; rw [cntU_take (by omega), if_neg (by rw [HBF.out]; simp), Nat.add_zero, <- HCK.out]
           case measure => simp [intOf]; omega
         . have hB : ((qk : Int) != (pk : Int)) = true := by simp [hqp]
           have BITT := zx (show U.getD k false = true from by rw [HBIT.out]; simp; omega); clear hqp; have e6 := (range_st_at HR6.out hk4).2; rw [take_getD, if_neg (Nat.lt_irrefl k)] at e6; have f6 := HF6.out (4 + k); go_wp2; go_quiet (fail); go_wp2; go_roundw; case rel =>
            refine ⟨k + 1, by go_num, by omega, ?_, range_step hk4 HR6.out BITT.out, fun o => by first | exact HF6.out o | (rw [World.frozen?_setCell]; exact HF6.out o), (HOI.out.drewN _).setCell (p := ⟨wo.heap.size + 1, 4 + k, none⟩) (fun _ => rfl) _⟩; rw [cntU_take (by omega), if_pos BITT.out, <- Nat.add_assoc, <- HCK.out]; go_num
           case measure => simp [intOf]; omega
       . have BITT := zx (show U.getD k false = true from by rw [HBIT.out]; rfl); have e6 := (range_st_at HR6.out hk4).2; rw [take_getD, if_neg (Nat.lt_irrefl k)] at e6; have f6 := HF6.out (4 + k); go_wp2; go_quiet (fail); go_wp2; go_roundw; case rel =>
          refine ⟨k + 1, by go_num, by omega, ?_, range_step hk4 HR6.out BITT.out, fun o => by first | exact HF6.out o | (rw [World.frozen?_setCell]; exact HF6.out o), (HOI.out.drewN _).setCell (p := ⟨wo.heap.size + 1, 4 + k, none⟩) (fun _ => rfl) _⟩; rw [cntU_take (by omega), if_pos BITT.out, <- Nat.add_assoc, <- HCK.out]; go_num
         case measure => simp [intOf]; omega
     . have hd : k = m := by omega
       have HTK : U.take k = U := List.take_of_length_le (by omega); have hr6 := HR6.out; rw [HTK] at hr6; have HR7 := zx hr6; have hckU : Hid (ck = l.c + cntU U) := by rw [HTK] at HCK; exact HCK.out
       have hcU : cntU U <= 4 := by have := cntU_le U; omega
       have hkm' : ¬ (k : Int) < (m : Int) := by omega
       have g0 := hr6 0 _ rfl; have g1 := hr6 1 _ rfl; have g2 := hr6 2 _ rfl; have g3 := hr6 3 _ rfl; have g4 := hr6 4 _ rfl; have g5 := hr6 5 _ rfl; have g6 := hr6 6 _ rfl; have g7 := hr6 7 _ rfl; have rbi := RBi.out; have z0 := rbi 0 _ rfl; have z1 := rbi 1 _ rfl; have z2 := rbi 2 _ rfl; have z3 := rbi 3 _ rfl; have z4 := rbi 4 _ rfl; have z5 := rbi 5 _ rfl; have z6 := rbi 6 _ rfl; have z7 := rbi 7 _ rfl; simp only [Nat.zero_add] at g0 g1 g2 g3 g4 g5 g6 g7 z0 z1 z2 z3 z4 z5 z6 z7; have BI := zx (BE.out.trans (HOI.out.below (by omega) (fun i e => by omega)))
       have INi := zx (IN.out.only BI.out); have FAi := zx ((HF2.out.only HO.out (HAP.out.1.notV HOW.out) (fun t ht => (HAP.out.2 t ht).notV HOW.out)).only (Only.of_below BI.out : Only (fun _ => False) wo wi) (fun e => e) (fun _ _ e => e)); clear hr6 rbi HR6 HTK; go_wp2_with fail; refine (see_any S mb m B n1 gf cf cs.size H c st (.int .i64 (m : Nat)) (.slice (some ⟨gm, 0, none⟩) cs.size cs.size) v1 s1 (q, U) l.st ck wi INi.out FAi.out HAP.out hm hN ⟨HQM.out.len, hUl⟩ (HQM.out.small hN) HQM.out.lt HQM.out.bd (by omega) (by omega) (by omega)).mono ?_; rintro e w5 ⟨rfl, v5, hi5, hv5, ho5⟩
       have I5 := zx hi5; have V5 := zx hv5; have O5 := zx ho5; have hzi2 := BI.out.size; clear hi5 hv5 ho5 g0 g1 g2 g3 g4 g5 g6 g7 z0 z1 z2 z3 z4 z5 z6 z7; go_wp2; go_roundw; case rel =>
        refine ⟨t + 1, n1 + 1, seeF (restF st m) s1 (q, U) ck l.st, v5, by go_num, by omega, ?_, I5.out, by omega, ?_, fun g hg => ?_, ?_⟩
        . have h1 := RR.out; rw [List.drop_eq_getElem_cons hlt] at h1; rw [<- h1, hckU.out, HU.out, HQ.out]; rfl
        . have := seeF_n (restF st m) s1 (q, U) ck l.st; omega
        . rcases V5.out g hg with e | e
          . exact HV1.out g e
          . exact .inr (by omega)
        . refine (HO.out.trans (Only.of_below BI.out : Only (fun _ => False) wo wi) (fun _ _ e => e.elim)).trans O5.out (fun i hi e => ?_); rcases e with e | e | e
          . exact .inl e
          . exact .inr (.inl e)
          . rcases HV1.out i e with e | e
            . exact .inr (.inr e)
            . omega
       case measure => simp [intOf]; omega
  . have hd : t = Lq.length := by omega
    have htI : ¬ (t : Int) < (Lq.length : Int) := by omega
    have ER : Hid (s1 = R) := by
     have h1 := RR.out; rw [hd, List.drop_length] at h1; exact h1
    go_wp2; go_end0
    have b2 := BW2.out.size; refine ⟨rfl, v1, by rw [<- ER.out]; exact ⟨IN.out.src, IN.out.list, IN.out.own, IN.out.seen.more (by omega), IN.out.low⟩, fun g hg => (HV1.out g hg).imp id (fun e => by omega), (Only.of_below BW2.out : Only (TnV S mb v) w w2).trans HO.out (fun _ _ e => e)⟩
end
section
open M SM BM
def Dst (m : Nat) (p : List Nat) : Prop := ∀ i k, i < m -> k < m -> i ≠ k -> p.getD i 0 ≠ p.getD k 0
def PosG (cs : ByteArray) (m : Nat) (p : List Nat) : Prop := Good cs m p ∧ Dst m p
section
variable {ro co : Int} {cs : ByteArray} {m : Nat}
theorem grow_dst {step : Nat -> List Nat} {p q : List Nat} (h : q ∈ growL step p m) : Dst m q := by
 have h2 := (growL_mem.1 h).2; have key : ∀ i k, i < m -> k < i -> q.getD i 0 ≠ q.getD k 0 := fun i k hi hk => (fit_apart (h2 i hi).2 hk).1
 intro i k hi hk hne e; rcases Nat.lt_or_gt_of_ne hne with h | h
 . exact key k i hk h e.symm
 . exact key i k hi h e
theorem PosG.next {p q : List Nat} (h : PosG cs m p) (hq : q ∈ growL (mvN ro co cs) p m) : PosG cs m q := ⟨h.1.next hq, grow_dst hq⟩
theorem mayN_free {c z : Nat} (h : z ∈ mayN co cs c) : z < cs.size ∧ freeB cs (z : Nat) = true ∧ nearM co c z = true := by
 obtain ⟨h1, h2⟩ := mayN_mem.1 h; unfold mayM at h2; simp only [Bool.and_eq_true, decide_eq_true_eq] at h2; exact ⟨h1, h2.1, h2.2.2.2⟩
theorem PosG.nextR {p q : List Nat} (hq : q ∈ growL (mayN co cs) p m) : PosG cs m q := by
 obtain ⟨h1, h2⟩ := growL_mem.1 hq; exact ⟨⟨h1, fun k hk => ⟨(mayN_free (h2 k hk).1).1, (mayN_free (h2 k hk).1).2.1⟩⟩, grow_dst hq⟩
theorem mayN_turn {c z : Nat} (hc : c < cs.size) (hf : freeB cs (c : Nat) = true) (h : z ∈ mayN co cs c) : c ∈ mayN co cs z := by
 obtain ⟨h1, h2, h3⟩ := mayN_free h; refine mayN_mem.2 ⟨hc, ?_⟩; unfold mayM; simp only [Bool.and_eq_true, decide_eq_true_eq]; exact ⟨hf, by omega, by omega, by rw [near_comm]; exact h3⟩
theorem step_turn {p q : List Nat} (hp : PosG cs m p) (h : q ∈ growL (mayN co cs) p m) : p ∈ growL (mayN co cs) q m := by
 obtain ⟨h1, h2⟩ := growL_mem.1 h; refine growL_mem.2 ⟨hp.1.1, fun k hk => ⟨mayN_turn (hp.1.2 k hk).1 (hp.1.2 k hk).2 (h2 k hk).1, fit_of fun j hj => ⟨hp.2 k j hk (by omega) (by omega), fun hh => ?_⟩⟩⟩; exact (fit_apart (h2 k hk).2 hj).2 ⟨hh.2.symm, hh.1.symm⟩
theorem step_same {p q : List Nat} (h1 : 1 <= co) (h2 : co <= 6) (hsz : (cs.size : Int) = ro * co) (hp : Good cs m p) : q ∈ growL (mvN ro co cs) p m ↔ q ∈ growL (mayN co cs) p m := step_iff h1 h2 hsz hp
theorem step_both {p q : List Nat} (h1 : 1 <= co) (h2 : co <= 6) (hsz : (cs.size : Int) = ro * co) (hq : PosG cs m q) (hp : PosG cs m p) : p ∈ growL (mvN ro co cs) q m ↔ q ∈ growL (mayN co cs) p m :=
 ⟨fun h => step_turn hq ((step_same h1 h2 hsz hq.1).1 h), fun h => (step_same h1 h2 hsz hq.1).2 (step_turn hp h)⟩
theorem come_pos {s : List Nat} (hs : PosG cs m s) : ∀ {n : Nat} {q : List Nat}, reachN (stepP ro co cs m) s n q -> PosG cs m q
 | 0, q, h => by rw [show q = s from h]; exact hs
 | n + 1, q, ⟨p, hp, h⟩ => (come_pos hs hp).next h
theorem mv_near {c z : Nat} (h1 : 1 <= co) (h2 : co <= 6) (hsz : (cs.size : Int) = ro * co) (hc : c < cs.size) (hf : freeB cs (c : Nat) = true) (h : z ∈ mvN ro co cs c) : z < cs.size ∧ adjM co cs c z = true ∧ adjM co cs z c = true := by
 have h3 := (mvN_mem h1 h2 hsz hc hf).1 h; exact ⟨(mayN_mem.1 h3).1, (mayN_mem.1 h3).2, (mayN_mem.1 (mayN_turn hc hf h3)).2⟩
theorem come_far {s : List Nat} {st : Nat -> Nat -> Int} (h1 : 1 <= co) (h2 : co <= 6) (hsz : (cs.size : Int) = ro * co) (hs : PosG cs m s) (hst : ∀ t, t < m -> IsFar cs.size (adjM co cs) (s.getD t 0) (st t)) : ∀ {n : Nat} {q : List Nat}, reachN (stepP ro co cs m) s n q -> ∀ t, t < m -> 0 <= st t (q.getD t 0)
 | 0, q, h => fun t ht => by rw [show q = s from h, (hst t ht).zero]; exact Int.le_refl 0
 | n + 1, q, ⟨p, hp, h⟩ => fun t ht => by
   have g := come_far h1 h2 hsz hs hst hp t ht; obtain ⟨_, h4⟩ := growL_mem.1 h; have hpp := (come_pos hs hp).1.2 t ht; obtain ⟨h5, h6, h7⟩ := mv_near h1 h2 hsz hpp.1 hpp.2 (h4 t ht).1; exact ((hst t ht).next _ _ h5 hpp.1 h6 g).1
theorem sum_step {f g : Nat -> Int} {u : Nat -> Bool} : ∀ {n : Nat}, (∀ i, i < n -> f i <= g i + (if u i = true then 1 else 0)) -> sumTo f n <= sumTo g n + ((sumN (fun i => if u i = true then 1 else 0) n : Nat) : Int)
 | 0, _ => by simp [sumTo, sumN]
 | n + 1, h => by
   have ih := sum_step (n := n) (fun i hi => h i (by omega)); have h2 := h n (by omega); simp only [sumTo, sumN]; by_cases e : u n = true
   . rw [if_pos e] at h2 ⊢; omega
   . rw [if_neg e] at h2 ⊢; omega
theorem gnd_yard {s g : List Nat} {st : Nat -> Nat -> Int} {L : List (List Nat)} (h1 : 1 <= co) (h2 : co <= 6) (hsz : (cs.size : Int) = ro * co) (hN : cs.size <= 36) (hm : m <= 4) (hs : PosG cs m s) (hst : ∀ t, t < m -> IsFar cs.size (adjM co cs) (s.getD t 0) (st t))
 (hW : Work (stepP ro co cs m) s L L.length) (hg : g ∈ L) (hL : L.length <= 20000) :
 Gnd (fun p => growL (mvN ro co cs) p m) (restF st m) m s g L ∧ (∀ p, p ∈ L -> PosG cs m p ∧ PosOK m cs.size st p) := by
 have hpos : ∀ p, p ∈ L -> PosG cs m p := fun p hp => by
  obtain ⟨n, hn⟩ := hW.come p hp; exact come_pos hs hn
 have hok : ∀ p, p ∈ L -> PosOK m cs.size st p := fun p hp => by
  obtain ⟨n, hn⟩ := hW.come p hp; refine ⟨(hpos p hp).1.1, fun t ht => ((hpos p hp).1.2 t ht).1, fun t ht => ⟨come_far h1 h2 hsz hs hst hn t ht, ?_⟩⟩; have := far_lt (hs.1.2 t ht).1 (hst t ht) ((hpos p hp).1.2 t ht).1; omega
 have hshut : ∀ p, p ∈ L -> ∀ q, q ∈ growL (mvN ro co cs) p m -> q ∈ L := fun p hp q hq => by
  obtain ⟨j, hj, e⟩ := List.mem_iff_getElem.1 hp; exact hW.done j hj q (by rw [e]; exact hq)
 refine ⟨⟨hW.nodup, hg, hshut, fun p hp => (hpos p hp).1.1, fun p => ?_, hm, hL, fun p hp q hq u => ?_, ?_⟩, fun p hp => ⟨hpos p hp, hok p hp⟩⟩
 . have h3 := growL_len (step := mvN ro co cs) (p := p) (mvN_le ro co cs) m; have h4 : 5 ^ m <= 5 ^ 4 := Nat.pow_le_pow_right (by omega) hm; show (growL (mvN ro co cs) p m).length <= 625; omega
 . have hqL := hshut p hp q hq; have h3 := (hok p hp).bd; have h4 := (hok q hqL).bd; obtain ⟨_, h5⟩ := growL_mem.1 hq; have hs2 := sum_step (f := fun t => st t (p.getD t 0)) (g := fun t => st t (q.getD t 0)) (u := fun t => (backU m p u q).getD t false) (n := m) fun t ht => by
    obtain ⟨h6, h7, h8⟩ := mv_near h1 h2 hsz ((hpos p hp).1.2 t ht).1 ((hpos p hp).1.2 t ht).2 (h5 t ht).1; have h9 := ((hst t ht).next _ _ ((hpos p hp).1.2 t ht).1 h6 h8 (h4 t ht).1).2; show st t (p.getD t 0) <= st t (q.getD t 0) + _; by_cases e : q.getD t 0 = p.getD t 0
    . rw [e]; by_cases e2 : (backU m p u q).getD t false = true
      . rw [if_pos e2]; omega
      . rw [if_neg e2]; omega
    . have e2 : (backU m p u q).getD t false = true := by
       rw [backU_at ht, Bool.or_eq_true]; exact .inr (bne_iff_ne.2 e)
      rw [if_pos e2]; omega
   rw [cntU_sum (backU_len m p u q)]; have b1 := restF_is h3; have b2 := restF_is h4; omega
 . have h0 : ∀ n, n <= m -> sumTo (fun t => st t (s.getD t 0)) n = 0 := by
    intro n; induction n with
    | zero => intro _; rfl
    | succ n ih =>
      intro hn; simp only [sumTo]; rw [ih (by omega), (hst n (by omega)).zero]; rfl
   unfold restF; rw [h0 m zl]; rfl
theorem way_yard {s g : List Nat} {st : Nat -> Nat -> Int} {L : List (List Nat)} (h1 : 1 <= co) (h2 : co <= 6) (hsz : (cs.size : Int) = ro * co) (hs : PosG cs m s)
 (hW : Work (stepP ro co cs m) s L L.length) (hg : g ∈ L) (G : Gnd (fun p => growL (mvN ro co cs) p m) (restF st m) m s g L) :
 ∃ j b K, BM.Way (E (fun p => growL (mvN ro co cs) p m) m L) j (s0 m g) b K ∧ b.1 = s := by
 obtain ⟨n, hn⟩ := hW.come g hg; have key : ∀ (n : Nat) (q : List Nat), reachN (stepP ro co cs m) s n q -> reachN (fun p q => PosG cs m p ∧ stepP ro co cs m p q) s n q := by
  intro n; induction n with
  | zero => intro q h; exact h
  | succ n ih =>
    rintro q ⟨p, hp, h⟩; exact ⟨p, ih p hp, come_pos hs hp, h⟩
 refine come_way G (S := fun p q => PosG cs m p ∧ stepP ro co cs m p q) (fun p q h => ?_) n g (List.replicate m false) 0 0 hg (by simp) (key n g hn) ⟨rfl, rfl⟩; have hq := h.1.next h.2; exact (step_both h1 h2 hsz hq h.1).2 ((step_same h1 h2 hsz h.1.1).1 h.2)
end
end
section
open M SM BM
theorem carts_apart {ro co bu : Int} {cs : ByteArray} {m : Nat} {fr tt : Nat -> Int} (h : (checkM ro co cs m fr tt bu).1 = 0) : ∀ i k, i < k -> k < m -> fr i ≠ fr k ∧ tt i ≠ tt k := by
 unfold checkM at h; by_cases h1 : (sideB ro && sideB co) = false
 . rw [if_pos h1] at h; simp at h
 . rw [if_neg h1] at h; by_cases h2 : 0 <= cellsM ro co cs
   . rw [if_pos h2] at h; simp at h
   . rw [if_neg h2] at h; by_cases h3 : m < 1 ∨ 4 < m
     . rw [if_pos h3] at h; simp at h
     . rw [if_neg h3] at h; by_cases h4 : firstOf (fun i => !(cartM cs fr tt i == 0)) m < m
       . rw [if_pos h4] at h; have := M.firstOf_is (p := fun i => !(cartM cs fr tt i == 0)) m h4; simp only [] at h this; rw [h] at this; cases this
       . intro i k hik hk; have := M.firstOf_none h4 k hk; have h5 : cartM cs fr tt k = 0 := by simpa using this
         unfold cartM at h5; by_cases h6 : (freeB cs (fr k) && freeB cs (tt k)) = true
         . rw [if_pos h6] at h5; by_cases h7 : firstOf (twiceB fr tt k) k < k
           . rw [if_pos h7] at h5; cases h5
           . have h8 := M.firstOf_none h7 i hik; unfold twiceB at h8; simp only [Bool.or_eq_false_iff, beq_eq_false_iff_ne] at h8; exact h8
         . rw [if_neg h6] at h5; cases h5
theorem cells_pos {ro co bu : Int} {cs : ByteArray} {m : Nat} {fr tt : Nat -> Int} (h : (checkM ro co cs m fr tt bu).1 = 0) : PosG cs m (cellsOf fr m) ∧ PosG cs m (cellsOf tt m) := by
 obtain ⟨_, hf⟩ := carts_free h; have ha := carts_apart h; have good : ∀ f : Nat -> Int, (∀ k, k < m -> freeB cs (f k) = true) -> Good cs m (cellsOf f m) := fun f hf => by
  refine ⟨cellsOf_len _ _, fun k hk => ?_⟩; obtain ⟨n, e1, e2⟩ := free_nat (hf k hk); have h3 := hf k hk; rw [cellsOf_at hk, e1] at *; exact ⟨by omega, by simpa using h3⟩
 have dst : ∀ f : Nat -> Int, (∀ k, k < m -> freeB cs (f k) = true) -> (∀ i k, i < k -> k < m -> f i ≠ f k) -> Dst m (cellsOf f m) := fun f hf hd => by
  intro i k hi hk hne e; rw [cellsOf_at hi, cellsOf_at hk] at e; obtain ⟨a, e1, _⟩ := free_nat (hf i hi); obtain ⟨b, e2, _⟩ := free_nat (hf k hk); rcases Nat.lt_or_gt_of_ne hne with h | h
  . exact hd i k h hk (by omega)
  . exact hd k i h hi (by omega)
 exact ⟨⟨good fr fun k hk => (hf k hk).1, dst fr (fun k hk => (hf k hk).1) fun i k h1 h2 => (ha i k h1 h2).1⟩, ⟨good tt fun k hk => (hf k hk).2, dst tt (fun k hk => (hf k hk).2) fun i k h1 h2 => (ha i k h1 h2).2⟩⟩
end
end Go.Proofs.YtnkgpinadgacgaaGreatDoor
