/- Gx. -/
import Derived.Test.YtnkgpinadgacgaaGreatDoorQzn
set_option maxRecDepth 1000000
set_option maxHeartbeats 16000000
namespace Go.Proofs.YtnkgpinadgacgaaGreatDoor
section
open Go.RowKit M SM
structure Around (w : World) (S mb m B gf cf gm : Nat) (Gg C : Nat -> Nat) (ro co : Int) (cs : ByteArray) (H c : Nat -> Nat) (st : Nat -> Nat -> Int) (fr tt : List Nat) (L : List (List Nat)) : Prop where
 far : FarL w gf m cs.size H c st
 farA : Ap S mb B gf ∧ ∀ t, t < m -> Ap S mb B (H t)
 gnd : GroundIn w gm cs.size Gg C ro co cs
 gndA : Ap S mb B gm ∧ ∀ j, j < cs.size -> freeB cs j = true -> Ap S mb B (Gg j)
 m4 : m <= 4
 few : cs.size <= 36
 plain : Gnd (fun p => growL (mvN ro co cs) p m) (restF st m) m fr tt L
 pos : ∀ p, p ∈ L -> PosOK m cs.size st p ∧ ∀ k, k < m -> freeB cs (p.getD k 0 : Nat) = true
 way : ∃ j b K, BM.Way (E (fun p => growL (mvN ro co cs) p m) m L) j (s0 m tt) b K ∧ b.1 = fr
 lenF : fr.length = m
theorem Around.only {w w' : World} {S mb m B gf cf gm : Nat} {Gg C : Nat -> Nat} {ro co : Int} {cs : ByteArray} {H c : Nat -> Nat} {st : Nat -> Nat -> Int} {fr tt : List Nat} {L : List (List Nat)} {v : Value} (h : Around w S mb m B gf cf gm Gg C ro co cs H c st fr tt L) (ho : Only (TnV S mb v) w w') (hv : ∀ g, v.ownBlock = some g -> B <= g) : Around w' S mb m B gf cf gm Gg C ro co cs H c st fr tt L :=
 ⟨h.far.only ho (h.farA.1.notV hv) (fun t ht => (h.farA.2 t ht).notV hv), h.farA, h.gnd.only ho (h.gndA.1.notV hv) (fun j h1 h2 => (h.gndA.2 j h1 h2).notV hv), h.gndA, h.m4, h.few, h.plain, h.pos, h.way, h.lenF⟩
theorem comeF_goal {nx : List Nat -> List (List Nat)} {h : List Nat -> Nat} {m f : Nat} {fr : List Nat} {s : Srch} (hn : 0 < s.n) (hgo : (s.it 0).st.1 = fr) : comeF nx h m fr (f + 1) s = some ((s.it 0).st, popF s) := by
 simp only [comeF]; rw [if_neg (by omega), if_pos hgo]
theorem comeF_live {nx : List Nat -> List (List Nat)} {h : List Nat -> Nat} {m f : Nat} {fr : List Nat} {s : Srch} (hn : 0 < s.n) (hgo : ¬ (s.it 0).st.1 = fr) (hc : (s.it 0).c = costO (s.seen (s.it 0).st)) : comeF nx h m fr (f + 1) s = comeF nx h m fr f (goF h m (s.it 0).st (s.it 0).c (nx (s.it 0).st.1) (popF s)) := by
 simp only [comeF]; rw [if_neg (by omega), if_neg hgo, if_pos hc]
theorem comeF_stale {nx : List Nat -> List (List Nat)} {h : List Nat -> Nat} {m f : Nat} {fr : List Nat} {s : Srch} (hn : 0 < s.n) (hgo : ¬ (s.it 0).st.1 = fr) (hc : ¬ (s.it 0).c = costO (s.seen (s.it 0).st)) : comeF nx h m fr (f + 1) s = comeF nx h m fr f (popF s) := by
 simp only [comeF]; rw [if_neg (by omega), if_neg hgo, if_neg hc]
theorem fld_found (a : Int) (b0 b1 b2 b3 : Value) (b4 b5 b6 b7 : Value) (w : World) : (Instr.field 110 (.agg #[.int .i64 a, b0, b1, b2, b3, b4, b5, b6, b7]) 0).run Tryz.prog w = .ok (.int .i64 a) w := by kernel_rfl
theorem results_cell1 {fn : Func} {p : Tmp} {ty : TypeId} (h : fn.results = #[.cell p ty]) (tmps : Array Value) (P : Program) (w : World) {b o : Nat} {v : Value} (hp : tmps.getD p undef = .pointer (some ⟨b, o, none⟩)) (hl : (loadVar ty ⟨b, o, none⟩).run P w = .ok v w) :
 (results fn tmps).run P w = .ok v w := by
 simp only [results, h]; have ha : (asAddr (tmps.getD p undef)).run P w = .ok ⟨b, o, none⟩ w := by rw [hp]; rfl
 simp only [Array.getD_eq_getD_getElem?] at ha ⊢; simp [Sem.run_bind, Result.andThen, ha, hl]
theorem comeTo_any (S mb m B n gf cf gm F0 : Nat) (Gg C : Nat -> Nat) (ro co : Int) (cs : ByteArray) (H c : Nat -> Nat) (st : Nat -> Nat -> Int) (v : Value) (s : Srch) (X : List St) (fr tt : List Nat) (L : List (List Nat)) (w : World)
 (hI : SIn w S mb m B n (.int .i64 (m : Nat)) (.slice (some ⟨gm, 0, none⟩) cs.size cs.size) (.slice (some ⟨gf, 0, none⟩) m cf) v s) (hA : Around w S mb m B gf cf gm Gg C ro co cs H c st fr tt L) (hR : Run (fun p => growL (mvN ro co cs) p m) (restF st m) m fr tt L s X (fun _ _ => False)) (hf : left L s X < F0) (hn : n <= 1 + 625 * X.length) :
 Calls Tryz.prog 51 #[.pointer (some ⟨S, 0, none⟩), .agg (psL fr).toArray] w fun e w' =>
  ∃ x s' n' v', e = .returned (.agg (stL x).toArray) ∧ comeF (fun p => growL (mvN ro co cs) p m) (restF st m) m fr F0 s = some (x, s') ∧ SIn w' S mb m B n' (.int .i64 (m : Nat)) (.slice (some ⟨gm, 0, none⟩) cs.size cs.size) (.slice (some ⟨gf, 0, none⟩) m cf) v' s' ∧ (∀ g, v'.ownBlock = some g -> v.ownBlock = some g ∨ w.heap.size <= g) ∧ Only (TnV S mb v) w w' := by
 have HI := zx hI; have HA := zx hA; have HR := zx hR; have HOW := zx hI.own; have HOL := zx hI.own_lt; have hBw := hI.low.2.2.2; have hSB := hI.low.1; have hmB := hI.low.2.1; have hm := hA.m4; have hn0 := run_ne hA.plain hA.way hR; have hb0 := run_bounds hA.plain hR; have hfl := hA.lenF; obtain ⟨RES, hRES⟩ : ∃ RES, RES = comeF (fun p => growL (mvN ro co cs) p m) (restF st m) m fr F0 s := ⟨_, rfl⟩
 rw [<- hRES]; have HRES := zx hRES.symm; obtain ⟨w1, hw1⟩ : ∃ w1, w1 = (w.alloc (.cells (psL fr).toArray 103)).alloc (.cells (stL ([], [])).toArray 107) := ⟨_, rfl⟩
 have B1 : Below w.heap.size w w1 := by rw [hw1]; exact ((Below.refl _ w).alloc zl _).alloc (by simp) _
 have hz1 : w1.heap.size = w.heap.size + 2 := by rw [hw1]; simp
 have HW1 := zx hw1; have HB1 := zx B1; have PF := zx (show w1.rangeAt w.heap.size 0 (psL fr) from by rw [hw1]; exact World.rangeAt_alloc (range_cells w (psL fr) 103 _ rfl) _); have TR := zx (show w1.there (w.heap.size + 1) 0 8 from by
  rw [hw1]; have h := range_cells (w.alloc (.cells (psL fr).toArray 103)) (stL ([], [])) 107 (w.heap.size + 1) (by simp); exact fun j hj => ⟨h.isSome j (by rw [stL_len]; exact hj), by go_simp⟩)
 clear hI hA hR B1 hRES; go_enter Tryz.func51, Tryz.ntmps51; go_wp2_with fail; refine (popS_any S mb m B n _ _ _ v s _ (HW1.out ▸ (HI.out.only HB1.out)) hn0 (by omega)).mono ?_; rintro e w2 ⟨rfl, v2, hi2, hv2, ho2⟩; replace ho2 : Only (TnV S mb v) w1 w2 := by rw [HW1.out]; exact ho2
 have I2 := zx hi2; have V2 := zx hv2; have O2 := zx ho2; have hz2 := ho2.size; clear hw1 hi2 hv2 ho2; obtain ⟨a0, a1, a2, a3, a4, a5, a6, a7, a8, a9, hld⟩ := ldL_mk (s.it 0); rw [hld]; have HLD := zx hld; clear hld; go_wp2_with fail; generalize hw3 : w2.alloc (.cells #[.int .u8 a0, .int .u8 a1, .int .u8 a2, .int .u8 a3, .bool a4, .bool a5, .bool a6, .bool a7, .int .i64 (a8 : Nat), .int .i64 (a9 : Nat)] 152) = w3; have BW3 : Hid (Below w2.heap.size w2 w3) := by unfold Hid; rw [<- hw3]; exact (Below.refl _ w2).alloc zl _
 have hw3' : w3 = w2.alloc (.cells (ldL (s.it 0)).toArray 152) := by rw [HLD.out, <- hw3]
 have R3 : Hid (w3.rangeAt w2.heap.size 0 (ldL (s.it 0))) := by unfold Hid; rw [hw3']; exact range_cells w2 (ldL (s.it 0)) 152 _ rfl
 have T3 : Hid (w3.there w2.heap.size 0 10) := fun j hj => ⟨R3.out.isSome j (by rw [ldL_len]; exact hj), by rw [hw3']; go_simp⟩
 have hz3 : w2.heap.size < w3.heap.size := by rw [<- hw3]; simp
 have I3 := zx (I2.out.only BW3.out); have O3 : Hid (Only (TnV S mb v) w1 w3) := O2.out.trans (Only.of_below BW3.out : Only (fun _ => False) w2 w3) (fun _ _ e => e.elim); have HL2 := zx I2.out.own_lt; clear hw3 hw3'
 go_loopg [5, 6] F0 (fun f v5 v6 wr => ∃ (s1 : Srch) (X1 : List St) (n1 : Nat) (v1 : Value) (tb : Nat), v5 = .pointer (some ⟨tb, 0, none⟩) ∧ v6 = .bool true ∧ wr.rangeAt tb 0 (ldL (s1.it 0)) ∧ wr.there tb 0 10 ∧ 0 < s1.n ∧ Run (fun p => growL (mvN ro co cs) p m) (restF st m) m fr tt L s1 X1 (fun _ _ => False) ∧ left L s1 X1 < f ∧ comeF (fun p => growL (mvN ro co cs) p m) (restF st m) m fr f s1 = RES ∧ SIn wr S mb m B n1 (.int .i64 (m : Nat)) (.slice (some ⟨gm, 0, none⟩) cs.size cs.size) (.slice (some ⟨gf, 0, none⟩) m cf) v1 (popF s1) ∧ n1 <= 1 + 625 * X1.length ∧ w1.heap.size <= tb ∧ tb < wr.heap.size ∧ (∀ g, v1.ownBlock = some g -> (v.ownBlock = some g ∨ w1.heap.size <= g) ∧ g ≠ tb) ∧ Only (TnV S mb v) w1 wr)
 case atStart =>
  exact ⟨s, X, n, v2, w2.heap.size, rfl, rfl, R3.out, T3.out, hn0, HR.out, hf, HRES.out, I3.out, hn, hz2, hz3, fun g hg => ⟨.inl (V2.out g hg), fun e => by have := HL2.out g hg; omega⟩, O3.out⟩
 case round =>
  obtain ⟨wo, rfl⟩ : ∃ q, q = wr := ⟨_, rfl⟩
  rename_i hrel
  obtain ⟨s1, X1, n1, v1, tb, rfl, rfl, hr1, ht1, hn1, hR1, hf1, hc1, hI1, hb1, htb, htw, hv1, hO1⟩ := hrel; obtain ⟨f1, rfl⟩ : ∃ f1, gk = f1 + 1 := ⟨gk - 1, by omega⟩
  have HR1 := zx hR1; have HC1 := zx hc1; have HI1 := zx hI1; have HV1 := zx hv1; have HO1 := zx hO1; have RB1 := zx hr1; have TB1 := zx ht1; have hbo := run_bounds HA.out.plain hR1; have hld := (hR1.lead ⟨0, hn1, rfl⟩).1; have HLV := zx (hR1.lead ⟨0, hn1, rfl⟩).2; have hNT : ∀ k, w.heap.size <= k -> ¬ TnV S mb v k := fun k hk e => by
   rcases e with e | e | e
   . omega
   . omega
   . have := HOL.out _ e; omega
  have HPF : Hid (wo.rangeAt w.heap.size 0 (psL fr)) := fun j u hu => (HO1.out.cell (p := ⟨w.heap.size, 0 + j, none⟩) (by show w.heap.size < _; omega) (hNT _ zl)).trans (PF.out j u hu)
  have HTR : Hid (wo.there (w.heap.size + 1) 0 8) := fun j hj => ⟨by rw [HO1.out.cell (p := ⟨w.heap.size + 1, 0 + j, none⟩) (by show w.heap.size + 1 < _; omega) (hNT _ (by show _ <= w.heap.size + 1; omega))]; exact (TR.out j hj).1, (HO1.out.frozen (p := ⟨w.heap.size + 1, 0 + j, none⟩) (by show w.heap.size + 1 < _; omega) (hNT _ (by show _ <= w.heap.size + 1; omega))).trans (TR.out j hj).2⟩
  obtain ⟨⟨p, U⟩, ck, kk, hl⟩ : ∃ x ck kk, s1.it 0 = ⟨x, ck, kk⟩ := ⟨_, _, _, rfl⟩
  have HL := zx hl; rw [hl] at hr1 hld; have HPOS := zx (HA.out.pos p hld.1); have hlU : U.length = m := hld.2; have hld2 : p ∈ L := hld.1; obtain ⟨bq, hbq⟩ : ∃ bq, bq = decide (p = fr) := ⟨_, rfl⟩
  have HEQ : ∀ w' : World, (binOp .eql 103 (.agg #[.int .u8 (p.getD 0 0 : Nat), .int .u8 (p.getD 1 0 : Nat), .int .u8 (p.getD 2 0 : Nat), .int .u8 (p.getD 3 0 : Nat)]) (.agg #[.int .u8 (fr.getD 0 0 : Nat), .int .u8 (fr.getD 1 0 : Nat), .int .u8 (fr.getD 2 0 : Nat), .int .u8 (fr.getD 3 0 : Nat)])).run Tryz.prog w' = .ok (.bool bq) w' := fun w' => by rw [hbq]; exact run_eq_pos HA.out.m4 HPOS.out.1.len hfl w'
  have HBQ := zx hbq; have g0 := hr1 0 _ rfl; have g1 := hr1 1 _ rfl; have g2 := hr1 2 _ rfl; have g3 := hr1 3 _ rfl; have g4 := hr1 4 _ rfl; have g5 := hr1 5 _ rfl; have g6 := hr1 6 _ rfl; have g7 := hr1 7 _ rfl; have g8 := hr1 8 _ rfl; have g9 := hr1 9 _ rfl; have f0 := HPF.out 0 _ rfl; have f1' := HPF.out 1 _ rfl; have f2 := HPF.out 2 _ rfl; have f3 := HPF.out 3 _ rfl; simp only [Nat.zero_add] at g0 g1 g2 g3 g4 g5 g6 g7 g8 g9 f0 f1' f2 f3; clear hR1 hc1 hI1 hv1 hO1 hr1 ht1 hl hbq hld; clear HLD; generalize hp0 : p.getD 0 0 = p0 at HEQ g0; generalize hp1 : p.getD 1 0 = p1 at HEQ g1
  generalize hp2 : p.getD 2 0 = p2 at HEQ g2; generalize hp3 : p.getD 3 0 = p3 at HEQ g3; generalize hu0 : U.getD 0 false = u0' at g4; generalize hu1 : U.getD 1 false = u1' at g5; generalize hu2 : U.getD 2 false = u2' at g6; generalize hu3 : U.getD 3 false = u3' at g7; generalize hq0 : fr.getD 0 0 = q0 at HEQ f0; generalize hq1 : fr.getD 1 0 = q1 at HEQ f1'; generalize hq2 : fr.getD 2 0 = q2 at HEQ f2; generalize hq3 : fr.getD 3 0 = q3 at HEQ f3; have HP0 := zx hp0; have HU0 := zx hu0; have HQ0 := zx hq0; have HP1 := zx hp1; have HU1 := zx hu1; have HQ1 := zx hq1
  have HP2 := zx hp2; have HU2 := zx hu2; have HQ2 := zx hq2; have HP3 := zx hp3; have HU3 := zx hu3; have HQ3 := zx hq3; clear hp0 hu0 hq0 hp1 hu1 hq1 hp2 hu2 hq2 hp3 hu3 hq3; have a0 := (TB1.out 0 (by decide)).2; cases bq
  . -- it is not
    have hne : ¬ p = fr := of_decide_eq_false HBQ.out.symm; obtain ⟨vo, hvo, hvl⟩ := HLV.out; rw [HL.out] at hvo hvl; obtain ⟨vv, hvv⟩ : ∃ vv, vv = (s1.seen (p, U)).getD (0, ([], [])) := ⟨_, rfl⟩
    have HVV := zx hvv; have HVO : Hid (vv = vo) := by unfold Hid; rw [hvv, hvo]; rfl
    obtain ⟨bc, hbc⟩ : ∃ bc, bc = ((ck : Int) == (vv.1 : Int)) := ⟨_, rfl⟩
    have HBC := zx hbc; have HX : Hid (Lens m (p, U)) := ⟨HPOS.out.1.len, hlU⟩
    have HSX : Hid (Small p) := HPOS.out.1.small HA.out.few; have HS : (fun u : World => u.cell? ⟨S, 3, none⟩ = some (.map (some mb)) ∧ u.cell? ⟨tb, 8, none⟩ = some (.int .i64 (ck : Nat)) ∧ u.rangeAt tb 0 (stL (p, U)) ∧ SeenMap u mb m n1 s1.seen) wo.drew := ⟨(HI1.out.src.cells.2.2.2.1 : wo.cell? _ = _), g8, (by
     have h := RB1.out; rw [HL.out] at h; have h8 : wo.rangeAt tb 0 (stL (p, U)) := fun j u hu => h j u (by
      have hj : j < 8 := by
       have := (List.getElem?_eq_some_iff.mp hu).1; rwa [stL_len] at this
      have hc : j = 0 ∨ j = 1 ∨ j = 2 ∨ j = 3 ∨ j = 4 ∨ j = 5 ∨ j = 6 ∨ j = 7 := by omega
      rcases hc with rfl | rfl | rfl | rfl | rfl | rfl | rfl | rfl <;> exact hu)
     simpa using h8), HI1.out.seen.block rfl⟩
    clear hvv hbc; go_upto_region 6 with fail; refine wp_region_any (by kernel_rfl) ?_; change wpAny _ _ _ _ _ _ _ (World.drew _); refine LM.any_of_L (late := LM.lateOf []) (S := fun u : World => u.cell? ⟨S, 3, none⟩ = some (.map (some mb)) ∧ u.cell? ⟨tb, 8, none⟩ = some (.int .i64 (ck : Nat)) ∧ u.rangeAt tb 0 (stL (p, U)) ∧ SeenMap u mb m n1 s1.seen) _ _ _ _ ?_; refine LM.TL 0 (.pointer (some ⟨tb, 8, none⟩)) rfl (Or.inl ⟨by rfl, fun u _ => by go_simp⟩) HS ?_; refine LM.TL 1 (.int .i64 (ck : Nat)) rfl (Or.inl ⟨by rfl, fun u hu => by have h5 := hu.2.1; go_simp⟩) HS ?_
    refine LM.TL 2 (.pointer (some ⟨S, 0, none⟩)) rfl (Or.inl ⟨by rfl, fun u _ => by go_simp⟩) HS ?_; refine LM.TL 3 (.pointer (some ⟨S, 0, none⟩)) rfl (Or.inl ⟨by rfl, fun u _ => by go_simp⟩) HS ?_; refine LM.TL 4 (.pointer (some ⟨S, 3, none⟩)) rfl (Or.inl ⟨by rfl, fun u _ => by go_simp⟩) HS ?_; refine LM.TL 5 (.map (some mb)) rfl (Or.inl ⟨by rfl, fun u hu => by have h5 := hu.1; go_simp⟩) HS ?_; refine LM.TL 6 (.pointer (some ⟨tb, 0, none⟩)) rfl (Or.inl ⟨by rfl, fun u _ => by go_simp⟩) HS ?_
    refine LM.TL 7 (.agg (stL (p, U)).toArray) rfl (yieldsIf_load_mid (by rfl) 107 (.tmp 35) rfl tb 0 (by go_simp) (stL (p, U)) _ (fun u hu => hu.2.2.1) Tryz.underlying107 rfl ((congrArg some (stL_len _)).symm ▸ Tryz.sizeState)) HS ?_; refine LM.TL 8 (.agg (fdL vv).toArray) rfl (by rw [HVV.out]; exact yields_look_seen (x := (p, U)) (f := s1.seen) (b := mb) (m := m) (n := n1) (by rfl) (.tmp 34) (.tmp 36) false rfl (by go_simp) (by go_simp) (fun u hu => hu.2.2.2) HX.out HSX.out) HS ?_
    refine LM.TL 9 (.int .i64 (vv.1 : Nat)) rfl (Or.inl ⟨by rfl, fun u _ => by have h5 := fld_found; unfold fdL stL; go_simp⟩) HS ?_; refine LM.TL 10 (.bool bc) rfl (Or.inl ⟨by rfl, fun u _ => by rw [HBC.out]; go_simp⟩) HS ?_; refine LM.L_done (by kernel_rfl) ?_ _; go_simp; clear HS; cases bc
    . have hst : ¬ (s1.it 0).c = costO (s1.seen (s1.it 0).st) := by
       rw [HL.out]; intro e; have e : ck = costO (s1.seen (p, U)) := e; rw [hvo, <- HVO.out] at e; have h2 := HBC.out; rw [show (ck : Int) = (vv.1 : Int) from congrArg Int.ofNat e] at h2; simp at h2
      have HR2 := zx (run_stale HR1.out hn1 hst); have HCF := zx (comeF_stale (nx := (fun p => growL (mvN ro co cs) p m)) (h := restF st m) (m := m) (f := f1) (fr := fr) hn1 (by rw [HL.out]; exact hne) hst); have hX2 := run_bounds HA.out.plain HR2.out; have hzd : wo.drew.heap.size = wo.heap.size := rfl; have I4d := zx (HI1.out.only (Below.refl _ wo).drew); have HON4 : Hid (Only (TnV S mb v) w1 wo.drew) := zx HO1.out.drew; have HLEFT : Hid (left L (popF s1) X1 < f1) := by unfold Hid; have h5 : (popF s1).n = s1.n - 1 := rfl; unfold left at hf1 ⊢; omega
      have HNX : Hid (n1 <= 1 + 625 * X1.length) := zx hb1; have HV4 : Hid (∀ g, v1.ownBlock = some g -> v.ownBlock = some g ∨ w1.heap.size <= g) := fun g hg => (HV1.out g hg).1
      clear hst; obtain ⟨w4, hw4⟩ : ∃ w4, w4 = wo.drew := ⟨_, rfl⟩
      have C4 : ∀ o, w4.cell? ⟨tb, o, none⟩ = wo.cell? ⟨tb, o, none⟩ := fun o => by rw [hw4]; rfl
      rw [<- C4] at g0 g1 g2 g3 g4 g5 g6 g7 g8 g9; rw [<- hw4] at hzd; have hzd1 := Nat.le_of_eq hzd; have hzd2 := Nat.le_of_eq hzd.symm; clear hzd; rw [<- hw4]; have I4 : Hid (SIn w4 S mb m B n1 (.int .i64 (m : Nat)) (.slice (some ⟨gm, 0, none⟩) cs.size cs.size) (.slice (some ⟨gf, 0, none⟩) m cf) v1 (popF s1)) := by rw [hw4]; exact I4d
      have HON4 : Hid (Only (TnV S mb v) w1 w4) := by rw [hw4]; exact HON4
      clear hw4 C4 I4d; obtain ⟨v4, hv4'⟩ : ∃ v4, v4 = v1 := ⟨_, rfl⟩
      rw [<- hv4'] at I4 HV4; clear hv4'; go_upto_region 3 with fail; generalize hw5 : w4.alloc (.cells #[.int .u8 p0, .int .u8 p1, .int .u8 p2, .int .u8 p3, .bool u0', .bool u1', .bool u2', .bool u3', .int .i64 (ck : Nat), .int .i64 (kk : Nat)] 152) = w5; have hw5' : w5 = w4.alloc (.cells (ldL ⟨(p, U), ck, kk⟩).toArray 152) := by rw [<- hw5]; simp only [ldL, HP0.out, HP1.out, HP2.out, HP3.out, HU0.out, HU1.out, HU2.out, HU3.out]
      have R5 : Hid (w5.rangeAt w4.heap.size 0 (ldL ⟨(p, U), ck, kk⟩)) := by unfold Hid; rw [hw5']; exact range_cells w4 (ldL ⟨(p, U), ck, kk⟩) 152 _ rfl
      have T5 : Hid (w5.there w4.heap.size 0 10) := fun j hj => ⟨R5.out.isSome j (by rw [ldL_len]; exact hj), by rw [hw5']; go_simp⟩
      have BW5 : Hid (Below w4.heap.size w4 w5) := by unfold Hid; rw [hw5']; exact (Below.refl _ w4).alloc zl _
      have hz5 : w5.heap.size = w4.heap.size + 1 := by rw [hw5']; simp
      have hne2 := run_ne HA.out.plain HA.out.way HR2.out; have hOW4 := I4.out.own_lt; have hlow4 := I4.out.low; have hNT4 : ¬ TnV S mb v4 w4.heap.size := fun e => by
       rcases e with e | e | e
       . omega
       . omega
       . have := hOW4 _ e; omega
      have HNT4 := zx hNT4; have HOW4 := zx hOW4; clear hw5 hw5' hNT4 hOW4 hlow4; go_wp2_with fail; refine (popS_any S mb m B (n1) _ _ _ v4 _ _ (I4.out.only BW5.out) hne2 (by omega)).mono ?_; rintro e w6 ⟨rfl, v6, hi6, hv6, ho6⟩; have I6 := zx hi6; have V6 := zx hv6; have O6 := zx ho6; have hz6 := ho6.size
      have T6 : Hid (w6.there w4.heap.size 0 10) := fun j hj => ⟨by rw [O6.out.cell (p := ⟨w4.heap.size, 0 + j, none⟩) (by show w4.heap.size < _; omega) HNT4.out]; exact (T5.out j hj).1, (O6.out.frozen (p := ⟨w4.heap.size, 0 + j, none⟩) (by show w4.heap.size < _; omega) HNT4.out).trans (T5.out j hj).2⟩
      clear hi6 hv6 ho6; obtain ⟨b0, b1, b2, b3, b4, b5, b6, b7, b8, b9, hld6⟩ := ldL_mk (Srch.it (popF s1) 0); have HLD6 := zx hld6; rw [hld6]; clear hld6; obtain ⟨y0, e0⟩ := Option.isSome_iff_exists.mp (T6.out 0 (by decide)).1; have z0 := (T6.out 0 (by decide)).2; obtain ⟨y1, e1⟩ := Option.isSome_iff_exists.mp (T6.out 1 (by decide)).1; have z1 := (T6.out 1 (by decide)).2; obtain ⟨y2, e2⟩ := Option.isSome_iff_exists.mp (T6.out 2 (by decide)).1; have z2 := (T6.out 2 (by decide)).2; obtain ⟨y3, e3⟩ := Option.isSome_iff_exists.mp (T6.out 3 (by decide)).1; have z3 := (T6.out 3 (by decide)).2
      obtain ⟨y4, e4⟩ := Option.isSome_iff_exists.mp (T6.out 4 (by decide)).1; have z4 := (T6.out 4 (by decide)).2; obtain ⟨y5, e5⟩ := Option.isSome_iff_exists.mp (T6.out 5 (by decide)).1; have z5 := (T6.out 5 (by decide)).2; obtain ⟨y6, e6⟩ := Option.isSome_iff_exists.mp (T6.out 6 (by decide)).1; have z6 := (T6.out 6 (by decide)).2; obtain ⟨y7, e7⟩ := Option.isSome_iff_exists.mp (T6.out 7 (by decide)).1; have z7 := (T6.out 7 (by decide)).2; obtain ⟨y8, e8⟩ := Option.isSome_iff_exists.mp (T6.out 8 (by decide)).1; have z8 := (T6.out 8 (by decide)).2
      obtain ⟨y9, e9⟩ := Option.isSome_iff_exists.mp (T6.out 9 (by decide)).1; have z9 := (T6.out 9 (by decide)).2; simp only [Nat.zero_add] at e0 z0 e1 z1 e2 z2 e3 z3 e4 z4 e5 z5 e6 z6 e7 z7 e8 z8 e9 z9; go_wp2_with fail
      have R7 : Hid (World.rangeAt ((((((((((w6.setCell ⟨w4.heap.size, 0, none⟩ (.int .u8 b0)).setCell ⟨w4.heap.size, 1, none⟩ (.int .u8 b1)).setCell ⟨w4.heap.size, 2, none⟩ (.int .u8 b2)).setCell ⟨w4.heap.size, 3, none⟩ (.int .u8 b3)).setCell ⟨w4.heap.size, 4, none⟩ (.bool b4)).setCell ⟨w4.heap.size, 5, none⟩ (.bool b5)).setCell ⟨w4.heap.size, 6, none⟩ (.bool b6)).setCell ⟨w4.heap.size, 7, none⟩ (.bool b7)).setCell ⟨w4.heap.size, 8, none⟩ (.int .i64 (b8 : Nat))).setCell ⟨w4.heap.size, 9, none⟩ (.int .i64 (b9 : Nat))) w4.heap.size 0 (ldL (Srch.it (popF s1) 0))) := by
       unfold Hid; rw [HLD6.out]; exact World.rangeAt_setCells_same w6 w4.heap.size 0 [.int .u8 b0, .int .u8 b1, .int .u8 b2, .int .u8 b3, .bool b4, .bool b5, .bool b6, .bool b7, .int .i64 (b8 : Nat), .int .i64 (b9 : Nat)] T6.out
      have T7 : Hid (World.there ((((((((((w6.setCell ⟨w4.heap.size, 0, none⟩ (.int .u8 b0)).setCell ⟨w4.heap.size, 1, none⟩ (.int .u8 b1)).setCell ⟨w4.heap.size, 2, none⟩ (.int .u8 b2)).setCell ⟨w4.heap.size, 3, none⟩ (.int .u8 b3)).setCell ⟨w4.heap.size, 4, none⟩ (.bool b4)).setCell ⟨w4.heap.size, 5, none⟩ (.bool b5)).setCell ⟨w4.heap.size, 6, none⟩ (.bool b6)).setCell ⟨w4.heap.size, 7, none⟩ (.bool b7)).setCell ⟨w4.heap.size, 8, none⟩ (.int .i64 (b8 : Nat))).setCell ⟨w4.heap.size, 9, none⟩ (.int .i64 (b9 : Nat))) w4.heap.size 0 10) := World.there_setCells T6.out w4.heap.size 0 [.int .u8 b0, .int .u8 b1, .int .u8 b2, .int .u8 b3, .bool b4, .bool b5, .bool b6, .bool b7, .int .i64 (b8 : Nat), .int .i64 (b9 : Nat)]
      have O7 : Only (fun k => k = w4.heap.size) w6 ((((((((((w6.setCell ⟨w4.heap.size, 0, none⟩ (.int .u8 b0)).setCell ⟨w4.heap.size, 1, none⟩ (.int .u8 b1)).setCell ⟨w4.heap.size, 2, none⟩ (.int .u8 b2)).setCell ⟨w4.heap.size, 3, none⟩ (.int .u8 b3)).setCell ⟨w4.heap.size, 4, none⟩ (.bool b4)).setCell ⟨w4.heap.size, 5, none⟩ (.bool b5)).setCell ⟨w4.heap.size, 6, none⟩ (.bool b6)).setCell ⟨w4.heap.size, 7, none⟩ (.bool b7)).setCell ⟨w4.heap.size, 8, none⟩ (.int .i64 (b8 : Nat))).setCell ⟨w4.heap.size, 9, none⟩ (.int .i64 (b9 : Nat))) := by
       refine Only.setCell (S := fun k => k = w4.heap.size) (p := ⟨w4.heap.size, 9, none⟩) ?_ (fun _ => rfl) _; refine Only.setCell (S := fun k => k = w4.heap.size) (p := ⟨w4.heap.size, 8, none⟩) ?_ (fun _ => rfl) _; refine Only.setCell (S := fun k => k = w4.heap.size) (p := ⟨w4.heap.size, 7, none⟩) ?_ (fun _ => rfl) _; refine Only.setCell (S := fun k => k = w4.heap.size) (p := ⟨w4.heap.size, 6, none⟩) ?_ (fun _ => rfl) _; refine Only.setCell (S := fun k => k = w4.heap.size) (p := ⟨w4.heap.size, 5, none⟩) ?_ (fun _ => rfl) _
       refine Only.setCell (S := fun k => k = w4.heap.size) (p := ⟨w4.heap.size, 4, none⟩) ?_ (fun _ => rfl) _; refine Only.setCell (S := fun k => k = w4.heap.size) (p := ⟨w4.heap.size, 3, none⟩) ?_ (fun _ => rfl) _; refine Only.setCell (S := fun k => k = w4.heap.size) (p := ⟨w4.heap.size, 2, none⟩) ?_ (fun _ => rfl) _; refine Only.setCell (S := fun k => k = w4.heap.size) (p := ⟨w4.heap.size, 1, none⟩) ?_ (fun _ => rfl) _; refine Only.setCell (S := fun k => k = w4.heap.size) (p := ⟨w4.heap.size, 0, none⟩) ?_ (fun _ => rfl) _; exact Only.refl _ w6
      have O7 := zx O7; have HW6 : Hid (∀ g, v6.ownBlock = some g -> g < w4.heap.size ∧ (v.ownBlock = some g ∨ w1.heap.size <= g)) := fun g hg => by
       have e4 := V6.out g hg; exact ⟨HOW4.out g e4, HV4.out g e4⟩
      have hlo := I6.out.low; go_roundg f1
      case measure => exact Nat.lt_succ_self f1
      refine ⟨popF s1, X1, n1, v6, w4.heap.size, rfl, rfl, R7.out, T7.out, hne2, HR2.out, HLEFT.out, HCF.out.symm.trans HC1.out, ?_, HNX.out, ?_, ?_, ?_, ?_⟩
      . exact ⟨I6.out.src.block (O7.out.block S I6.out.src.lt (by omega)), listL_only I6.out.list O7.out (fun g hg e => by have := (HW6.out g hg).1; omega), I6.out.own, I6.out.seen.block (O7.out.block mb I6.out.seen.lt (by omega)), hlo.1, hlo.2.1, hlo.2.2.1, Nat.le_trans hlo.2.2.2 O7.out.size⟩
      . omega
      . exact Nat.lt_of_lt_of_le (show w4.heap.size < w6.heap.size by omega) O7.out.size
      . exact fun g hg => ⟨(HW6.out g hg).2, fun e => by have := (HW6.out g hg).1; omega⟩
      . refine Only.trans (Only.trans (Only.trans HON4.out (Only.of_below BW5.out : Only (fun _ => False) w4 w5) (fun _ _ e => e.elim)) O6.out ?_) O7.out ?_
        . intro i hi e; rcases e with e | e | e
          . exact .inl e
          . exact .inr (.inl e)
          . rcases HV4.out i e with e1 | e1
            . exact .inr (.inr e1)
            . omega
        . intro i hi e; omega
    . go_wp2_with fail; have hlive := run_live HA.out.plain HR1.out hn1 (by rw [HL.out]; exact hne) (by rw [HL.out]; show ck = costO (s1.seen (p, U)); rw [hvo, <- HVO.out]; exact Int.ofNat.inj (beq_iff_eq.mp HBC.out.symm)); rw [HL.out] at hlive; obtain ⟨hr2, hn2, hck, _, _⟩ := hlive; have hX2 := run_bounds HA.out.plain hr2; have A1 := zx (HA.out.only ((Only.of_below HB1.out : Only (TnV S mb v) w w1).trans HO1.out.drew (fun _ _ e => e)) HOW.out); have I1d := zx (HI1.out.only (Below.refl _ wo).drew)
      rw [show (Value.agg #[.int .u8 p0, .int .u8 p1, .int .u8 p2, .int .u8 p3, .bool u0', .bool u1', .bool u2', .bool u3', .int .i64 (ck : Nat), .int .i64 (kk : Nat)]) = .agg (ldL ⟨(p, U), ck, kk⟩).toArray from by simp only [ldL, HP0.out, HP1.out, HP2.out, HP3.out, HU0.out, HU1.out, HU2.out, HU3.out]]; refine (goBack_any S mb m B n1 gf cf gm Gg C ro co cs H c st v1 (popF s1) ⟨(p, U), ck, kk⟩ _ I1d.out A1.out.far A1.out.farA hm A1.out.few A1.out.gnd HPOS.out.1 hlU HPOS.out.2 (fun q hq => (HA.out.pos q (HA.out.plain.shut p hld2 q hq)).1) (by omega) (by omega) (by show s1.n - 1 <= _; omega)).mono ?_
      rintro e w4 ⟨rfl, v4, hi4, hv4, ho4⟩; have I4 := zx hi4; have V4 := zx hv4; have O4 := zx ho4; have hz4 := ho4.size; have hzd : wo.drew.heap.size = wo.heap.size := rfl; have hTB : ¬ TnV S mb v1 tb := fun e => by
       rcases e with e | e | e
       . omega
       . omega
       . exact (HV1.out _ e).2 rfl
      have k0 := ho4.block tb (by show tb < wo.heap.size; omega) hTB; have C4 : ∀ o, w4.cell? ⟨tb, o, none⟩ = wo.cell? ⟨tb, o, none⟩ := fun o => World.cell?_of_block (w := wo.drew) (a := ⟨tb, o, none⟩) k0
      rw [<- C4] at g0 g1 g2 g3 g4 g5 g6 g7 g8 g9; have HR2 := zx hr2; clear hi4 hv4 ho4 hr2 k0 C4; have HV4 : Hid (∀ g, v4.ownBlock = some g -> v.ownBlock = some g ∨ w1.heap.size <= g) := fun g hg => by
       rcases V4.out g hg with e1 | e1
       . exact (HV1.out g e1).1
       . exact .inr (by omega)
      have HON4 : Hid (Only (TnV S mb v) w1 w4) := HO1.out.drew.trans O4.out (fun i hi e => by
       rcases e with e | e | e
       . exact .inl e
       . exact .inr (.inl e)
       . rcases (HV1.out i e).1 with e2 | e2
         . exact .inr (.inr e2)
         . omega)
      have hfew := fine_few HA.out.plain.m4 HR2.out.nodup HR2.out.sub; simp only [List.length_cons] at hfew; have hn2 : (goF (restF st m) m (p, U) ck (growL (mvN ro co cs) p m) (popF s1)).n <= s1.n + 624 := hn2; have HLEFT : Hid (left L (goF (restF st m) m (p, U) ck (growL (mvN ro co cs) p m) (popF s1)) ((p, U) :: X1) < f1) := by unfold Hid; unfold left at hf1 ⊢; simp only [List.length_cons]; omega
      have HCF := zx (comeF_live (nx := (fun p => growL (mvN ro co cs) p m)) (h := restF st m) (m := m) (f := f1) (fr := fr) hn1 (by rw [HL.out]; exact hne) (by rw [HL.out]; show ck = costO (s1.seen (p, U)); rw [hvo, <- HVO.out]; exact Int.ofNat.inj (beq_iff_eq.mp HBC.out.symm))); rw [HL.out] at HCF; have HNX : Hid (n1 + 625 <= 1 + 625 * ((p, U) :: X1).length) := by unfold Hid; simp only [List.length_cons]; omega
      clear hfew; go_upto_region 3 with fail; generalize hw5 : w4.alloc (.cells #[.int .u8 p0, .int .u8 p1, .int .u8 p2, .int .u8 p3, .bool u0', .bool u1', .bool u2', .bool u3', .int .i64 (ck : Nat), .int .i64 (kk : Nat)] 152) = w5; have hw5' : w5 = w4.alloc (.cells (ldL ⟨(p, U), ck, kk⟩).toArray 152) := by rw [<- hw5]; simp only [ldL, HP0.out, HP1.out, HP2.out, HP3.out, HU0.out, HU1.out, HU2.out, HU3.out]
      have R5 : Hid (w5.rangeAt w4.heap.size 0 (ldL ⟨(p, U), ck, kk⟩)) := by unfold Hid; rw [hw5']; exact range_cells w4 (ldL ⟨(p, U), ck, kk⟩) 152 _ rfl
      have T5 : Hid (w5.there w4.heap.size 0 10) := fun j hj => ⟨R5.out.isSome j (by rw [ldL_len]; exact hj), by rw [hw5']; go_simp⟩
      have BW5 : Hid (Below w4.heap.size w4 w5) := by unfold Hid; rw [hw5']; exact (Below.refl _ w4).alloc zl _
      have hz5 : w5.heap.size = w4.heap.size + 1 := by rw [hw5']; simp
      have hne2 := run_ne HA.out.plain HA.out.way HR2.out; have hOW4 := I4.out.own_lt; have hlow4 := I4.out.low; have hNT4 : ¬ TnV S mb v4 w4.heap.size := fun e => by
       rcases e with e | e | e
       . omega
       . omega
       . have := hOW4 _ e; omega
      have HNT4 := zx hNT4; have HOW4 := zx hOW4; clear hw5 hw5' hNT4 hOW4 hlow4; go_wp2_with fail; refine (popS_any S mb m B (n1 + 625) _ _ _ v4 _ _ (I4.out.only BW5.out) hne2 (by omega)).mono ?_; rintro e w6 ⟨rfl, v6, hi6, hv6, ho6⟩; have I6 := zx hi6; have V6 := zx hv6; have O6 := zx ho6; have hz6 := ho6.size
      have T6 : Hid (w6.there w4.heap.size 0 10) := fun j hj => ⟨by rw [O6.out.cell (p := ⟨w4.heap.size, 0 + j, none⟩) (by show w4.heap.size < _; omega) HNT4.out]; exact (T5.out j hj).1, (O6.out.frozen (p := ⟨w4.heap.size, 0 + j, none⟩) (by show w4.heap.size < _; omega) HNT4.out).trans (T5.out j hj).2⟩
      clear hi6 hv6 ho6; obtain ⟨b0, b1, b2, b3, b4, b5, b6, b7, b8, b9, hld6⟩ := ldL_mk (Srch.it (goF (restF st m) m (p, U) ck (growL (mvN ro co cs) p m) (popF s1)) 0); have HLD6 := zx hld6; rw [hld6]; clear hld6; obtain ⟨y0, e0⟩ := Option.isSome_iff_exists.mp (T6.out 0 (by decide)).1; have z0 := (T6.out 0 (by decide)).2; obtain ⟨y1, e1⟩ := Option.isSome_iff_exists.mp (T6.out 1 (by decide)).1; have z1 := (T6.out 1 (by decide)).2; obtain ⟨y2, e2⟩ := Option.isSome_iff_exists.mp (T6.out 2 (by decide)).1; have z2 := (T6.out 2 (by decide)).2
      obtain ⟨y3, e3⟩ := Option.isSome_iff_exists.mp (T6.out 3 (by decide)).1; have z3 := (T6.out 3 (by decide)).2; obtain ⟨y4, e4⟩ := Option.isSome_iff_exists.mp (T6.out 4 (by decide)).1; have z4 := (T6.out 4 (by decide)).2; obtain ⟨y5, e5⟩ := Option.isSome_iff_exists.mp (T6.out 5 (by decide)).1; have z5 := (T6.out 5 (by decide)).2; obtain ⟨y6, e6⟩ := Option.isSome_iff_exists.mp (T6.out 6 (by decide)).1; have z6 := (T6.out 6 (by decide)).2; obtain ⟨y7, e7⟩ := Option.isSome_iff_exists.mp (T6.out 7 (by decide)).1; have z7 := (T6.out 7 (by decide)).2
      obtain ⟨y8, e8⟩ := Option.isSome_iff_exists.mp (T6.out 8 (by decide)).1; have z8 := (T6.out 8 (by decide)).2; obtain ⟨y9, e9⟩ := Option.isSome_iff_exists.mp (T6.out 9 (by decide)).1; have z9 := (T6.out 9 (by decide)).2; simp only [Nat.zero_add] at e0 z0 e1 z1 e2 z2 e3 z3 e4 z4 e5 z5 e6 z6 e7 z7 e8 z8 e9 z9; go_wp2_with fail
      have R7 : Hid (World.rangeAt ((((((((((w6.setCell ⟨w4.heap.size, 0, none⟩ (.int .u8 b0)).setCell ⟨w4.heap.size, 1, none⟩ (.int .u8 b1)).setCell ⟨w4.heap.size, 2, none⟩ (.int .u8 b2)).setCell ⟨w4.heap.size, 3, none⟩ (.int .u8 b3)).setCell ⟨w4.heap.size, 4, none⟩ (.bool b4)).setCell ⟨w4.heap.size, 5, none⟩ (.bool b5)).setCell ⟨w4.heap.size, 6, none⟩ (.bool b6)).setCell ⟨w4.heap.size, 7, none⟩ (.bool b7)).setCell ⟨w4.heap.size, 8, none⟩ (.int .i64 (b8 : Nat))).setCell ⟨w4.heap.size, 9, none⟩ (.int .i64 (b9 : Nat))) w4.heap.size 0 (ldL (Srch.it (goF (restF st m) m (p, U) ck (growL (mvN ro co cs) p m) (popF s1)) 0))) := by
       unfold Hid; rw [HLD6.out]; exact World.rangeAt_setCells_same w6 w4.heap.size 0 [.int .u8 b0, .int .u8 b1, .int .u8 b2, .int .u8 b3, .bool b4, .bool b5, .bool b6, .bool b7, .int .i64 (b8 : Nat), .int .i64 (b9 : Nat)] T6.out
      have T7 : Hid (World.there ((((((((((w6.setCell ⟨w4.heap.size, 0, none⟩ (.int .u8 b0)).setCell ⟨w4.heap.size, 1, none⟩ (.int .u8 b1)).setCell ⟨w4.heap.size, 2, none⟩ (.int .u8 b2)).setCell ⟨w4.heap.size, 3, none⟩ (.int .u8 b3)).setCell ⟨w4.heap.size, 4, none⟩ (.bool b4)).setCell ⟨w4.heap.size, 5, none⟩ (.bool b5)).setCell ⟨w4.heap.size, 6, none⟩ (.bool b6)).setCell ⟨w4.heap.size, 7, none⟩ (.bool b7)).setCell ⟨w4.heap.size, 8, none⟩ (.int .i64 (b8 : Nat))).setCell ⟨w4.heap.size, 9, none⟩ (.int .i64 (b9 : Nat))) w4.heap.size 0 10) := World.there_setCells T6.out w4.heap.size 0 [.int .u8 b0, .int .u8 b1, .int .u8 b2, .int .u8 b3, .bool b4, .bool b5, .bool b6, .bool b7, .int .i64 (b8 : Nat), .int .i64 (b9 : Nat)]
      have O7 : Only (fun k => k = w4.heap.size) w6 ((((((((((w6.setCell ⟨w4.heap.size, 0, none⟩ (.int .u8 b0)).setCell ⟨w4.heap.size, 1, none⟩ (.int .u8 b1)).setCell ⟨w4.heap.size, 2, none⟩ (.int .u8 b2)).setCell ⟨w4.heap.size, 3, none⟩ (.int .u8 b3)).setCell ⟨w4.heap.size, 4, none⟩ (.bool b4)).setCell ⟨w4.heap.size, 5, none⟩ (.bool b5)).setCell ⟨w4.heap.size, 6, none⟩ (.bool b6)).setCell ⟨w4.heap.size, 7, none⟩ (.bool b7)).setCell ⟨w4.heap.size, 8, none⟩ (.int .i64 (b8 : Nat))).setCell ⟨w4.heap.size, 9, none⟩ (.int .i64 (b9 : Nat))) := by
       refine Only.setCell (S := fun k => k = w4.heap.size) (p := ⟨w4.heap.size, 9, none⟩) ?_ (fun _ => rfl) _; refine Only.setCell (S := fun k => k = w4.heap.size) (p := ⟨w4.heap.size, 8, none⟩) ?_ (fun _ => rfl) _; refine Only.setCell (S := fun k => k = w4.heap.size) (p := ⟨w4.heap.size, 7, none⟩) ?_ (fun _ => rfl) _; refine Only.setCell (S := fun k => k = w4.heap.size) (p := ⟨w4.heap.size, 6, none⟩) ?_ (fun _ => rfl) _; refine Only.setCell (S := fun k => k = w4.heap.size) (p := ⟨w4.heap.size, 5, none⟩) ?_ (fun _ => rfl) _
       refine Only.setCell (S := fun k => k = w4.heap.size) (p := ⟨w4.heap.size, 4, none⟩) ?_ (fun _ => rfl) _; refine Only.setCell (S := fun k => k = w4.heap.size) (p := ⟨w4.heap.size, 3, none⟩) ?_ (fun _ => rfl) _; refine Only.setCell (S := fun k => k = w4.heap.size) (p := ⟨w4.heap.size, 2, none⟩) ?_ (fun _ => rfl) _; refine Only.setCell (S := fun k => k = w4.heap.size) (p := ⟨w4.heap.size, 1, none⟩) ?_ (fun _ => rfl) _; refine Only.setCell (S := fun k => k = w4.heap.size) (p := ⟨w4.heap.size, 0, none⟩) ?_ (fun _ => rfl) _; exact Only.refl _ w6
      have O7 := zx O7; have HW6 : Hid (∀ g, v6.ownBlock = some g -> g < w4.heap.size ∧ (v.ownBlock = some g ∨ w1.heap.size <= g)) := fun g hg => by
       have e4 := V6.out g hg; exact ⟨HOW4.out g e4, HV4.out g e4⟩
      have hlo := I6.out.low; go_roundg f1
      case measure => exact Nat.lt_succ_self f1
      refine ⟨goF (restF st m) m (p, U) ck (growL (mvN ro co cs) p m) (popF s1), (p, U) :: X1, n1 + 625, v6, w4.heap.size, rfl, rfl, R7.out, T7.out, hne2, HR2.out, HLEFT.out, HCF.out.symm.trans HC1.out, ?_, HNX.out, ?_, ?_, ?_, ?_⟩
      . exact ⟨I6.out.src.block (O7.out.block S I6.out.src.lt (by omega)), listL_only I6.out.list O7.out (fun g hg e => by have := (HW6.out g hg).1; omega), I6.out.own, I6.out.seen.block (O7.out.block mb I6.out.seen.lt (by omega)), hlo.1, hlo.2.1, hlo.2.2.1, Nat.le_trans hlo.2.2.2 O7.out.size⟩
      . omega
      . exact Nat.lt_of_lt_of_le (show w4.heap.size < w6.heap.size by omega) O7.out.size
      . exact fun g hg => ⟨(HW6.out g hg).2, fun e => by have := (HW6.out g hg).1; omega⟩
      . refine Only.trans (Only.trans (Only.trans HON4.out (Only.of_below BW5.out : Only (fun _ => False) w4 w5) (fun _ _ e => e.elim)) O6.out ?_) O7.out ?_
        . intro i hi e; rcases e with e | e | e
          . exact .inl e
          . exact .inr (.inl e)
          . rcases HV4.out i e with e1 | e1
            . exact .inr (.inr e1)
            . omega
        . intro i hi e; omega
  . -- it is come to
    obtain ⟨y0, e0⟩ := Option.isSome_iff_exists.mp (HTR.out 0 (by decide)).1; have z0 := (HTR.out 0 (by decide)).2; obtain ⟨y1, e1⟩ := Option.isSome_iff_exists.mp (HTR.out 1 (by decide)).1; have z1 := (HTR.out 1 (by decide)).2; obtain ⟨y2, e2⟩ := Option.isSome_iff_exists.mp (HTR.out 2 (by decide)).1; have z2 := (HTR.out 2 (by decide)).2; obtain ⟨y3, e3⟩ := Option.isSome_iff_exists.mp (HTR.out 3 (by decide)).1; have z3 := (HTR.out 3 (by decide)).2; obtain ⟨y4, e4⟩ := Option.isSome_iff_exists.mp (HTR.out 4 (by decide)).1; have z4 := (HTR.out 4 (by decide)).2
    obtain ⟨y5, e5⟩ := Option.isSome_iff_exists.mp (HTR.out 5 (by decide)).1; have z5 := (HTR.out 5 (by decide)).2; obtain ⟨y6, e6⟩ := Option.isSome_iff_exists.mp (HTR.out 6 (by decide)).1; have z6 := (HTR.out 6 (by decide)).2; obtain ⟨y7, e7⟩ := Option.isSome_iff_exists.mp (HTR.out 7 (by decide)).1; have z7 := (HTR.out 7 (by decide)).2; simp only [Nat.zero_add] at e0 z0 e1 z1 e2 z2 e3 z3 e4 z4 e5 z5 e6 z6 e7 z7; go_wp2_with fail
    have O5 : Only (fun k => k = w.heap.size + 1) wo ((((((((wo.setCell ⟨w.heap.size + 1, 0, none⟩ (.int .u8 p0)).setCell ⟨w.heap.size + 1, 1, none⟩ (.int .u8 p1)).setCell ⟨w.heap.size + 1, 2, none⟩ (.int .u8 p2)).setCell ⟨w.heap.size + 1, 3, none⟩ (.int .u8 p3)).setCell ⟨w.heap.size + 1, 4, none⟩ (.bool u0')).setCell ⟨w.heap.size + 1, 5, none⟩ (.bool u1')).setCell ⟨w.heap.size + 1, 6, none⟩ (.bool u2')).setCell ⟨w.heap.size + 1, 7, none⟩ (.bool u3')) := by
     refine Only.setCell (S := fun k => k = w.heap.size + 1) (p := ⟨w.heap.size + 1, 7, none⟩) ?_ (fun _ => rfl) _; refine Only.setCell (S := fun k => k = w.heap.size + 1) (p := ⟨w.heap.size + 1, 6, none⟩) ?_ (fun _ => rfl) _; refine Only.setCell (S := fun k => k = w.heap.size + 1) (p := ⟨w.heap.size + 1, 5, none⟩) ?_ (fun _ => rfl) _; refine Only.setCell (S := fun k => k = w.heap.size + 1) (p := ⟨w.heap.size + 1, 4, none⟩) ?_ (fun _ => rfl) _; refine Only.setCell (S := fun k => k = w.heap.size + 1) (p := ⟨w.heap.size + 1, 3, none⟩) ?_ (fun _ => rfl) _
     refine Only.setCell (S := fun k => k = w.heap.size + 1) (p := ⟨w.heap.size + 1, 2, none⟩) ?_ (fun _ => rfl) _; refine Only.setCell (S := fun k => k = w.heap.size + 1) (p := ⟨w.heap.size + 1, 1, none⟩) ?_ (fun _ => rfl) _; refine Only.setCell (S := fun k => k = w.heap.size + 1) (p := ⟨w.heap.size + 1, 0, none⟩) ?_ (fun _ => rfl) _; exact Only.refl _ wo
    have LV : Hid ((loadVar 107 ⟨w.heap.size + 1, 0, none⟩).run Tryz.prog (wo.setCells (w.heap.size + 1) 0 [.int .u8 p0, .int .u8 p1, .int .u8 p2, .int .u8 p3, .bool u0', .bool u1', .bool u2', .bool u3']) = .ok (.agg (Array.mk [.int .u8 p0, .int .u8 p1, .int .u8 p2, .int .u8 p3, .bool u0', .bool u1', .bool u2', .bool u3'])) (wo.setCells (w.heap.size + 1) 0 [.int .u8 p0, .int .u8 p1, .int .u8 p2, .int .u8 p3, .bool u0', .bool u1', .bool u2', .bool u3'])) :=
     run_loadVar_mid _ (w.heap.size + 1) 0 107 [.int .u8 p0, .int .u8 p1, .int .u8 p2, .int .u8 p3, .bool u0', .bool u1', .bool u2', .bool u3'] _ (World.rangeAt_setCells_same wo (w.heap.size + 1) 0 [.int .u8 p0, .int .u8 p1, .int .u8 p2, .int .u8 p3, .bool u0', .bool u1', .bool u2', .bool u3'] HTR.out) Tryz.underlying107 rfl Tryz.sizeState
    refine bodyPost_ret (v := .agg #[.int .u8 p0, .int .u8 p1, .int .u8 p2, .int .u8 p3, .bool u0', .bool u1', .bool u2', .bool u3']) (results_cell1 Tryz.results51 _ _ _ (b := w.heap.size + 1) (o := 0) rfl LV.out) rfl ?_; have HE : ∀ g, v1.ownBlock = some g -> ¬ g = w.heap.size + 1 := fun g hg e => by
     rcases (HV1.out g hg).1 with e2 | e2
     . have := HOL.out g e2; omega
     . omega
    refine ⟨(p, U), popF s1, n1, v1, ?_, ?_, ?_, ?_, ?_⟩
    . simp only [stL, HP0.out, HP1.out, HP2.out, HP3.out, HU0.out, HU1.out, HU2.out, HU3.out]
    . have hg := comeF_goal (nx := (fun p => growL (mvN ro co cs) p m)) (h := restF st m) (m := m) (f := f1) (fr := fr) hn1 (by rw [HL.out]; exact of_decide_eq_true HBQ.out.symm); rw [HC1.out, HL.out] at hg; exact hg
    . have hI := HI1.out; exact ⟨hI.src.block (O5.block S hI.src.lt (by omega)), listL_only hI.list O5 HE, hI.own, hI.seen.block (O5.block mb hI.seen.lt (by omega)), hI.low.1, hI.low.2.1, hI.low.2.2.1, Nat.le_trans hI.low.2.2.2 O5.size⟩
    . exact fun g hg => (HV1.out g hg).1.imp id (fun e => by omega)
    . exact (((Only.of_below HB1.out : Only (TnV S mb v) w w1).trans HO1.out (fun _ _ e => e)).trans O5 (fun i hi e => by omega))
end
end Go.Proofs.YtnkgpinadgacgaaGreatDoor
