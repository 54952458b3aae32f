/- Gz. -/
import Derived.Test.YtnkgpinadgacgaaGreatDoorQzp
set_option maxRecDepth 1000000
set_option maxHeartbeats 8000000
namespace Go.Proofs.YtnkgpinadgacgaaGreatDoor
section
open Go.RowKit M SM
theorem stL_mk (x : St) : ∃ (a0 a1 a2 a3 : Nat) (a4 a5 a6 a7 : Bool), stL x = [.int .u8 a0, .int .u8 a1, .int .u8 a2, .int .u8 a3, .bool a4, .bool a5, .bool a6, .bool a7] := ⟨_, _, _, _, _, _, _, _, rfl⟩
def stCells : List St -> List Value
 | [] => []
 | x :: r => stL x ++ stCells r
theorem stCells_app : ∀ (F G : List St), stCells (F ++ G) = stCells F ++ stCells G
 | [], G => rfl
 | x :: F, G => by simp [stCells, stCells_app F G]
theorem stCells_len : ∀ F : List St, (stCells F).length = F.length * 8
 | [] => rfl
 | x :: F => by simp only [stCells, List.length_append, stL_len, stCells_len F, List.length_cons]; omega
theorem stCells_at : ∀ {F : List St} {i t : Nat} (h : i < F.length), t < 8 -> (stCells F)[i * 8 + t]? = (stL F[i])[t]?
 | x :: F, 0, t, _, ht => by
   simp only [stCells, Nat.zero_mul, Nat.zero_add]; rw [List.getElem?_append_left (by rw [stL_len]; exact ht)]; rfl
 | x :: F, i + 1, t, h, ht => by
   have ih := stCells_at (F := F) (i := i) (t := t) (by simpa using h) ht; simp only [stCells, List.getElem_cons_succ]; rw [List.getElem?_append_right (by rw [stL_len]; omega), stL_len, show (i + 1) * 8 + t - 8 = i * 8 + t by omega]; exact ih
def OwnS (w : World) (base : Nat) (v : Value) (F : List St) : Prop := w.ownsRow base 107 8 v F.length (stCells F)
theorem OwnS.below {w w' : World} {base : Nat} {v : Value} {F : List St} (h : OwnS w base v F) (hb : Below w.heap.size w w') : OwnS w' base v F := own_later h hb
theorem OwnS.form {w : World} {base : Nat} {v : Value} {F : List St} (h : OwnS w base v F) : ∃ a cap, v = .slice a F.length cap ∧ (0 < F.length -> ∃ g, a = some ⟨g, 0, none⟩) ∧ F.length <= cap := own_form h
theorem OwnS.cell {w : World} {base g n cap : Nat} {F : List St} (h : OwnS w base (.slice (some ⟨g, 0, none⟩) n cap) F) {i t : Nat} (hi : i < F.length) (ht : t < 8) : w.cell? ⟨g, i * 8 + t, none⟩ = (stL F[i])[t]? := by
 rcases h.2 with ⟨h0, _⟩ | ⟨g', cap', cur, hv, _, hh, h4, _, h6, h7⟩
 . cases h0
 . cases hv; have c := stCells_at hi ht; rw [<- h7, List.getElem?_take, if_pos (by omega), Array.getElem?_toList] at c; simpa [World.cell?, hh] using c
theorem Tryz.infoState : (Tryz.prog.info? 107).map (fun i => (i.zero, i.size, i.bytes)) = some (some (.agg #[.int .u8 0, .int .u8 0, .int .u8 0, .int .u8 0, .bool false, .bool false, .bool false, .bool false]), 8, 8) := by kernel_rfl
theorem eight_fresh (w : World) (x : St) : ∀ j u, (stL x)[j]? = some u -> (w.alloc (.cells (stL x).toArray 107)).cell? ((⟨w.heap.size, 0, none⟩ : Addr).add j) = some u := by
 intro j u h; have := range_cells w (stL x) 107 w.heap.size rfl j u h; rw [Addr.add_mid]; exact this
theorem wpList_pushS {w0 : World} {ops : Array Oper} {rest : List Oper} {o : Oper} {a : Act} {Q : Exit -> Act -> World -> Prop} (hgd : o.guard = none) (s x : Operand)
 (ho : o.op = .call { callee := .builtin .append, args := #[s, x], argTypes := #[156, 156] })
 (base : Nat) (v : Value) (F : List St) (q : St) (hs : a.eval s = v) (hown : OwnS w0 base v F) (hbase : base <= w0.heap.size) (c : Nat)
 (w1 : World) (hw1 : w1 = w0.alloc (.cells (stL q).toArray 107)) (hx : a.eval x = .slice (some ⟨w0.heap.size, 0, none⟩) 1 c) (hF : F.length <= 100000000)
 (h : ∀ g cap w', OwnS w' base (.slice (some ⟨g, 0, none⟩) (F.length + 1) cap) (F ++ [q]) -> Only (fun k => v.ownBlock = some k) w0 w' -> (v.ownBlock = some g ∨ w0.heap.size <= g) -> wpList Tryz.prog ops Q rest (a.put o.dst (.slice (some ⟨g, 0, none⟩) (F.length + 1) cap)) w') :
 wpList Tryz.prog ops Q (o :: rest) a w1 := by
 subst hw1; obtain ⟨i0, hi0, hi1, hi2, hi3⟩ := info_parts Tryz.infoState; have hown1 := own_keep (w' := w0.alloc (.cells (stL q).toArray 107)) hown (fun g _ hg _ => Below.heap_alloc _ _ _ hg); refine wpList_append_lies _ hgd s x _ ho base 107 i0 _ 8 8 Tryz.underlying156 hi0 hi1 hi2 hi3 rfl (by omega) v F.length (stCells F) hs hown1 _ 1 c (stL q) hx rfl (eight_fresh w0 q) (stL_one q) (by omega) (by unfold maxLen; omega) (by omega) (by simp; omega) (w0.heap.size + 1) (by simp) ?_; intro g cap w' ho9 hg9 hl9 _; have e2 : stCells [q] = stL q := by simp [stCells]
 refine h g cap w' ?_ ?_ (hl9.imp id (fun e => by omega))
 . unfold OwnS; rw [stCells_app, e2, List.length_append]; exact ho9
 . refine ⟨hg9.os, hg9.tape, hg9.output, Nat.le_trans (by simp) hg9.size, fun k hk hn => ?_⟩; rw [hg9.block k (by simp; omega) (fun e => hn e.symm)]; exact Below.heap_alloc _ _ _ hk
theorem own_oneS (w : World) (q : St) (k : Nat) (hk : k = w.heap.size) : OwnS (w.alloc (.cells (stL q).toArray 107)) k (.slice (some ⟨k, 0, none⟩) 1 1) [q] := by
 subst hk; refine ⟨by simp [stCells_len], .inr ⟨w.heap.size, 1, (stL q).toArray, rfl, zl, ?_, zl, by unfold maxLen; omega, rfl, by simp [stCells]; exact List.take_of_length_le (by rw [stL_len]; exact Nat.le_refl 8)⟩⟩; show (w.heap.push _)[w.heap.size]? = _; simp
def PlanOwn (w : World) (base : Nat) (v : Value) (Ls : List (List Nat)) : Prop :=
 ∃ (g : Nat) (A : Nat -> Value), v = .slice (some ⟨g, 0, none⟩) Ls.length Ls.length ∧ base <= g ∧ w.rowIs g 23 Ls.length A ∧ (∀ t, t < Ls.length -> OwnN w base (A t) (Ls.getD t [])) ∧ (∀ t, t < Ls.length -> (A t).ownBlock ≠ some g) ∧
  ∀ s t h, s < Ls.length -> t < Ls.length -> s ≠ t -> (A s).ownBlock = some h -> (A t).ownBlock ≠ some h
def endF (seen : St -> Option (Nat × St)) : Nat -> St -> Prop
 | 0, x => costO (seen x) = 0
 | f + 1, x => 0 < costO (seen x) -> endF seen f (nextO x (seen x))
theorem way_live {seen : St -> Option (Nat × St)} {f : Nat} {y : St} (h : 0 < costO (seen y)) (he : endF seen f y) : ∃ f1, f = f1 + 1 ∧ wayF seen f y = y :: wayF seen f1 (nextO y (seen y)) ∧ endF seen f1 (nextO y (seen y)) := by
 match f, he with
 | 0, he => unfold endF at he; omega
 | f + 1, he => exact ⟨f, rfl, by simp only [wayF]; rw [if_pos h], he h⟩
theorem way_done {seen : St -> Option (Nat × St)} {f : Nat} {y : St} (h : ¬ 0 < costO (seen y)) : wayF seen f y = [y] := by
 match f with
 | 0 => rfl
 | f + 1 => simp only [wayF]; rw [if_neg h]
theorem fld_cost (a : Int) (b0 b1 b2 b3 : Value) (b4 b5 b6 b7 : Value) (w : World) : (Instr.field 110 (.agg #[.int .i64 a, b0, b1, b2, b3, b4, b5, b6, b7]) 0).run Tryz.prog w = .ok (.int .i64 a) w := by kernel_rfl
theorem fld_next (a : Int) (b0 b1 b2 b3 : Value) (b4 b5 b6 b7 : Value) (w : World) : (Instr.field 110 (.agg #[.int .i64 a, b0, b1, b2, b3, b4, b5, b6, b7]) 1).run Tryz.prog w = .ok (.agg #[b0, b1, b2, b3, b4, b5, b6, b7]) w := by kernel_rfl
theorem fld_next_st (v : Nat × St) (w : World) : (Instr.field 110 (.agg (fdL v).toArray) 1).run Tryz.prog w = .ok (.agg (stL v.2).toArray) w := fld_next _ _ _ _ _ _ _ _ _ w
theorem path_told (d : St) (c : Nat) : ∀ (T : List St) (k : Nat), T ≠ [] -> k <= T.length -> (∀ j, j + 1 < k -> (T.getD j d).2.getD c false = true) -> (k = T.length ∨ (0 < k ∧ (T.getD (k - 1) d).2.getD c false = false)) -> (List.range k).map (fun i => (T.getD i d).1.getD c 0) = pathL c T
 | [], _, h, _, _, _ => absurd rfl h
 | y :: r, k, _, hk, hu, he => by
   obtain ⟨k1, rfl⟩ : ∃ k1, k = k1 + 1 := by
    rcases he with e | ⟨e, _⟩
    . exact ⟨r.length, by simpa using e⟩
    . exact ⟨k - 1, by omega⟩
   rw [List.range_succ_eq_map, List.map_cons, List.map_map]; simp only [pathL]; have e0 : ((y :: r).getD 0 d) = y := rfl; rw [e0]; congr 1; match k1, hk, hu, he with
   | 0, hk, hu, he =>
     match r, he with
     | [], _ => simp [pathL]
     | z :: r, he =>
       rcases he with e | ⟨_, e⟩
       . simp at e
       . have e : y.2.getD c false = false := e; rw [if_neg (by rw [e]; decide)]; rfl
   | k2 + 1, hk, hu, he =>
     have h0 : y.2.getD c false = true := hu 0 (by omega); rw [if_pos h0]; simp only [List.length_cons] at hk he; refine Eq.trans ?_ (path_told d c r (k2 + 1) (fun e => by rw [e] at hk; simp at hk) (by omega) (fun j hj => ?_) ?_)
     . refine List.map_congr_left fun i _ => ?_
       show (((y :: r).getD (i + 1) d).1.getD c 0) = _; rw [List.getD_cons_succ]
     . have := hu (j + 1) (by omega); rw [List.getD_cons_succ] at this; exact this
     . rcases he with e | ⟨_, e⟩
       . exact .inl (by omega)
       . refine .inr ⟨by omega, ?_⟩; rw [show k2 + 1 + 1 - 1 = k2 + 1 by omega, List.getD_cons_succ] at e; exact e
theorem pathsFrom_any (S mb m B n f : Nat) (c1 c2 v : Value) (s : Srch) (x : St) (w : World) (hI : SIn w S mb m B n (.int .i64 (m : Nat)) c1 c2 v s) (hm1 : 1 <= m) (hm : m <= 4) (hway : ∀ y, y ∈ wayF s.seen f x -> Lens m y ∧ Small y.1) (hend : endF s.seen f x) (hlen : (wayF s.seen f x).length <= 10000000) :
 Calls Tryz.prog 53 #[.pointer (some ⟨S, 0, none⟩), .agg (stL x).toArray] w fun e w' =>
  ∃ v, e = .returned v ∧ PlanOwn w' w.heap.size v (planL m (wayF s.seen f x)) ∧ Below w.heap.size w w' := by
 have HI := zx hI; have hSB := hI.low.1; have hmB := hI.low.2.1; have hBw := hI.low.2.2.2; obtain ⟨T, hT⟩ : ∃ T, T = wayF s.seen f x := ⟨_, rfl⟩
 rw [<- hT] at hway hlen ⊢; have HWAY := zx hway; have HEND := zx hend; have HT := zx hT; obtain ⟨a0, a1, a2, a3, a4, a5, a6, a7, hx⟩ := stL_mk x; have HX := zx hx; rw [hx]; clear hI hway hend hT hx; go_enter Tryz.func53, Tryz.ntmps53; go_wp2_with fail
 obtain ⟨w3, hw3⟩ : ∃ q, q = (((w.alloc (.cells #[.int .u8 a0, .int .u8 a1, .int .u8 a2, .int .u8 a3, .bool a4, .bool a5, .bool a6, .bool a7] 107)).alloc (.cells #[.int .u8 a0, .int .u8 a1, .int .u8 a2, .int .u8 a3, .bool a4, .bool a5, .bool a6, .bool a7] 107)).alloc (.cells #[.int .u8 a0, .int .u8 a1, .int .u8 a2, .int .u8 a3, .bool a4, .bool a5, .bool a6, .bool a7] 107)) := ⟨_, rfl⟩
 have hw3' : w3 = (((w.alloc (.cells (stL x).toArray 107)).alloc (.cells (stL x).toArray 107)).alloc (.cells (stL x).toArray 107)) := by rw [HX.out, hw3]
 rw [<- hw3]; have B3 : Hid (Below w.heap.size w w3) := by unfold Hid; rw [hw3']; exact (((Below.refl _ w).alloc zl _).alloc (by simp) _).alloc (by simp; omega) _
 have hz3 : w3.heap.size = w.heap.size + 3 := by rw [hw3']; simp
 have R3 : Hid (w3.rangeAt (w.heap.size + 2) 0 (stL x)) := by unfold Hid; rw [hw3']; exact range_cells _ (stL x) 107 _ (by simp)
 have T3 : Hid (w3.there (w.heap.size + 2) 0 8) := fun j hj => ⟨R3.out.isSome j (by rw [stL_len]; exact hj), by rw [hw3']; go_simp⟩
 have O3 : Hid (OwnS w3 (w.heap.size + 1) (.slice (some ⟨w.heap.size + 1, 0, none⟩) 1 1) [x]) := by
  unfold Hid; rw [hw3']; exact (own_oneS (w.alloc (.cells (stL x).toArray 107)) x (w.heap.size + 1) (by simp)).below ((Below.refl _ _).alloc zl _)
 clear hw3 hw3'; go_loopg [5, 6] f (fun gk v5 v6 wr => ∃ (W : List St) (y : St) (V : Value) (tb : Nat), V = v5 ∧ v6 = .pointer (some ⟨tb, 0, none⟩) ∧ wr.rangeAt tb 0 (stL y) ∧ wr.there tb 0 8 ∧ OwnS wr (w.heap.size + 1) V (W ++ [y]) ∧ W ++ wayF s.seen gk y = T ∧ endF s.seen gk y ∧ w.heap.size <= tb ∧ tb < wr.heap.size ∧ V.ownBlock ≠ some tb ∧ Below w.heap.size w wr)
 case atStart => exact ⟨[], x, _, w.heap.size + 2, rfl, rfl, R3.out, T3.out, O3.out, HT.out.symm, HEND.out, by omega, by omega, fun e => by have e := Option.some.inj e; have e : w.heap.size + 1 = w.heap.size + 2 := e; omega, B3.out⟩
 case round =>
  obtain ⟨wo, rfl⟩ : ∃ q, q = wr := ⟨_, rfl⟩
  rename_i hrel
  obtain ⟨W, y, V, tb, rfl, rfl, hr, ht, hown, hWT, hen, htb, htl, hVt, hbr⟩ := hrel; have RB := zx hr; have TB := zx ht; have OW := zx hown; have HWT := zx hWT; have HEN := zx hen; have HVT := zx hVt; have BR := zx hbr; have hzo := hbr.size; have hyT : y ∈ T := by
   rw [<- hWT]; refine List.mem_append_right _ ?_; match gk with
   | 0 => simp [wayF]
   | g + 1 =>
     simp only [wayF]; split <;> simp
  have HXY : Hid (Lens m y ∧ Small y.1) := HWAY.out y hyT; have HIO := zx (HI.out.only hbr); have hWl : W.length + 1 <= 10000000 := by
   have e := congrArg List.length hWT; rw [List.length_append] at e; have h1 : 1 <= (wayF s.seen gk y).length := by
    match gk with
    | 0 => simp [wayF]
    | g + 1 =>
      simp only [wayF]; split <;> simp
   omega
  obtain ⟨vv, hvv⟩ : ∃ vv, vv = (s.seen y).getD (0, ([], [])) := ⟨_, rfl⟩
  have HVV := zx hvv; have hcost : vv.1 = costO (s.seen y) := by
   rw [hvv]; cases s.seen y <;> rfl
  have HC := zx hcost; obtain ⟨bc, hbc⟩ : ∃ bc, bc = decide (0 < (vv.1 : Int)) := ⟨_, rfl⟩
  have HBC := zx hbc; have HS : (fun u : World => u.cell? ⟨S, 3, none⟩ = some (.map (some mb)) ∧ u.rangeAt tb 0 (stL y) ∧ SeenMap u mb m n s.seen) wo.drew := ⟨(HIO.out.src.cells.2.2.2.1 : wo.cell? _ = _), by simpa using RB.out, HIO.out.seen.block rfl⟩
  clear hr ht hown hWT hen hbr hyT hvv hcost hbc hVt; go_upto_region 3 with fail
  . skip
    refine wp_region_any (by kernel_rfl) ?_; change wpAny _ _ _ _ _ _ _ (World.drew _); refine LM.T 0 (.pointer (some ⟨S, 0, none⟩)) rfl ?_; refine LM.T 1 (.pointer (some ⟨S, 0, none⟩)) rfl ?_; refine LM.T 2 (.pointer (some ⟨S, 3, none⟩)) rfl ?_; refine LM.any_of_L (late := LM.lateOf []) (S := fun u : World => u.cell? ⟨S, 3, none⟩ = some (.map (some mb)) ∧ u.rangeAt tb 0 (stL y) ∧ SeenMap u mb m n s.seen) _ _ _ _ ?_; refine LM.TL 3 (.map (some mb)) rfl (Or.inl ⟨by rfl, fun u hu => by have h5 := hu.1; go_simp⟩) HS ?_
    refine LM.TL 4 (.agg (stL y).toArray) rfl (yieldsIf_load_mid (by rfl) 107 (.tmp 6) rfl tb 0 (by go_simp) (stL y) _ (fun u hu => hu.2.1) Tryz.underlying107 rfl ((congrArg some (stL_len _)).symm ▸ Tryz.sizeState)) HS ?_; refine LM.TL 5 (.agg (fdL vv).toArray) rfl (by rw [HVV.out]; exact yields_look_seen (x := y) (f := s.seen) (b := mb) (m := m) (n := n) (by rfl) (.tmp 15) (.tmp 16) false rfl (by go_simp) (by go_simp) (fun u hu => hu.2.2) HXY.out.1 HXY.out.2) HS ?_; refine LM.TL 6 (.int .i64 (vv.1 : Nat)) rfl (Or.inl ⟨by rfl, fun u _ => by have h5 := fld_cost; unfold fdL stL; go_simp⟩) HS ?_
    refine LM.TL 7 (.bool bc) rfl (Or.inl ⟨by rfl, fun u _ => by rw [HBC.out]; go_simp⟩) HS ?_; refine LM.L_done (by kernel_rfl) ?_ _; go_simp; clear HS; have BD : Hid (Below w.heap.size w wo.drew) := BR.out.drew; have OD : Hid (OwnS wo.drew (w.heap.size + 1) V (W ++ [y])) := OW.out.below (Below.refl _ wo).drew; have RD : Hid (wo.drew.rangeAt tb 0 (stL y)) := by unfold Hid; simpa using RB.out
    have TD : Hid (wo.drew.there tb 0 8) := TB.out; have hzd1 : wo.heap.size <= wo.drew.heap.size := zl; have hzd2 : wo.drew.heap.size <= wo.heap.size := zl; have ID := zx (HIO.out.only (Below.refl _ wo).drew); generalize wo.drew = wd at *; cases bc
    . -- it is at its end
      have hnot : ¬ 0 < costO (s.seen y) := by
       rw [<- HC.out]; have h := of_decide_eq_false HBC.out.symm; omega
      have HF := zx (way_done (f := gk) hnot); have HWY : Hid (W ++ [y] = T) := by unfold Hid; rw [<- HWT.out, HF.out]
      have OT : Hid (OwnS wd (w.heap.size + 1) V T) := by unfold Hid; rw [<- HWY.out]; exact OD.out
      obtain ⟨av, cv, rfl, hav, hcv⟩ := OT.out.form; have hT1 : 0 < T.length := by rw [<- HWY.out]; simp
      obtain ⟨gw, rfl⟩ := hav hT1; obtain ⟨i0, hi0, hi1, hi2, hi3⟩ := info_parts Tryz.infoIntList; have hmk : ∀ u : World, (Instr.makeSlice 39 (.int .i64 m) (.int .i64 m)).run Tryz.prog u = .ok (.slice (some ⟨u.heap.size, 0, none⟩) m m) (u.alloc (.cells (madeCells #[.slice none 0 0] m) 23)) := fun u => by
       have h := run_make (P := Tryz.prog) u 39 23 i0 (.slice none 0 0) Tryz.underlying39 hi0 hi1 .i64 .i64 (m : Int) (m : Int) (by omega) (Int.le_refl _) (by rw [hi3]; omega) (by omega); simpa [hi2, Value.cells] using h
      have q0 := ID.out.src.cells.1; clear hnot hav; go_wp2_with fail; have BG : Hid (Below wd.heap.size wd (wd.alloc (.cells (madeCells #[.slice none 0 0] m) 23))) := (Below.refl _ wd).alloc zl _; have RG : Hid ((wd.alloc (.cells (madeCells #[.slice none 0 0] m) 23)).rowIs wd.heap.size 23 m (fun _ => .slice none 0 0)) := nilRow m wd 23 _ rfl; generalize (wd.alloc (.cells (madeCells #[.slice none 0 0] m) 23)) = wg at *; clear hmk q0 hi0 hi1 hi2 hi3 hcv
      go_loopw [40] (fun v40 wr => ∃ (k : Nat) (A : Nat -> Value), k <= m ∧ v40 = .int .i64 k ∧ wr.rowIs wd.heap.size 23 m (fun t => if t < k then A t else .slice none 0 0) ∧ (∀ t, t < k -> OwnN wr (wd.heap.size + 1) (A t) (pathL t T)) ∧ (∀ s t h, s < k -> t < k -> s ≠ t -> (A s).ownBlock = some h -> (A t).ownBlock ≠ some h) ∧ Below wd.heap.size wd wr) (fun v40 _ => m - (intOf v40).toNat)
      case atStart => exact ⟨0, fun _ => .bool false, Nat.zero_le _, rfl, RG.out.congr fun j _ => by rw [if_neg (Nat.not_lt_zero j)], fun t h => absurd h (Nat.not_lt_zero t), fun s t h hs => absurd hs (Nat.not_lt_zero s), BG.out⟩
      case round =>
       obtain ⟨wp, rfl⟩ : ∃ q, q = wr := ⟨_, rfl⟩
       obtain ⟨k, A, hk, rfl, hrow, hall, hinj, hbp⟩ := hrel; have ROW := zx hrow; have ALL := zx hall; have INJ := zx hinj; have BP := zx hbp; have hzp := hbp.size; have hgpl := hrow.lt; clear hrow hall hinj hbp; by_cases hlt : k < m
       . have hkI : (k : Int) < (m : Int) := by omega
         obtain ⟨d, hd⟩ : ∃ d : St, d = ([], []) := ⟨_, rfl⟩
         have PA : Hid (∀ u : World, Below wp.heap.size wp u -> Calls Tryz.prog 82 #[.int .i64 (k : Nat), .slice (some ⟨gw, 0, none⟩) T.length cv] u fun e w' => ∃ v, e = .returned v ∧ OwnN w' u.heap.size v (pathL k T) ∧ Below u.heap.size u w') := fun u hu => by
          have hcell : ∀ i t, i < T.length -> t < 8 -> u.cell? ⟨gw, i * 8 + t, none⟩ = (stL (T.getD i d))[t]? := fun i t hi ht => by
           have h := OT.out.cell hi ht; rw [zg, List.getElem?_eq_getElem hi, Option.getD_some, <- h]; have hgl := (OT.out.lt gw rfl).2; exact (hu.cell (p := ⟨gw, i * 8 + t, none⟩) (by show gw < wp.heap.size; omega)).trans (BP.out.cell (p := ⟨gw, i * 8 + t, none⟩) hgl)
          have hsm : ∀ i, i < T.length -> Small (T.getD i d).1 := fun i hi => by
           rw [zg, List.getElem?_eq_getElem hi]; exact (HWAY.out _ (List.getElem_mem hi)).2
          refine (pathOf_any gw T.length cv k (fun i j => (T.getD i d).1.getD j 0) (fun i j => (T.getD i d).2.getD j false) u hlen (by omega) (fun i j hi hj => ?_) (fun i j hi hj => ?_) (fun i hi => ?_)).mono ?_
          . rw [hcell i j hi (by omega)]; match j, hj with
            | 0, _ => rfl
            | 1, _ => rfl
            | 2, _ => rfl
            | 3, _ => rfl
          . rw [show i * 8 + 4 + j = i * 8 + (4 + j) by omega, hcell i (4 + j) hi (by omega)]; match j, hj with
            | 0, _ => rfl
            | 1, _ => rfl
            | 2, _ => rfl
            | 3, _ => rfl
          . have h7 := hsm i hi k; show (T.getD i d).1.getD k 0 <= 255; omega
          . rintro e w' ⟨k', v, rfl, h1, h2, h3, h4, h5⟩; exact ⟨v, rfl, by rw [<- path_told d k T k' (fun e => by rw [e] at hT1; exact Nat.lt_irrefl 0 hT1) h1 h3 h4]; exact h2, h5⟩
         clear hd; go_wp2_with fail; refine (PA.out _ (Below.refl _ _)).mono ?_; rintro e w8 ⟨v8, rfl, hv8, hb8⟩; obtain ⟨a8, c8, rfl, _, _⟩ := hv8.form; have HV8 := zx hv8; have B8 := zx hb8; have ROW8 := zx (rowIs_below ROW.out hb8); have hz8 := hb8.size; have hc0 := ROW8.out.cell (i := k) hlt; have hcf := ROW8.out.frozen; rw [if_neg (Nat.lt_irrefl k)] at hc0; clear hv8 hb8; go_upto_region 13 with fail
         have BS : Hid (Only (fun j => j = wd.heap.size) w8 (w8.setCell ⟨wd.heap.size, k, none⟩ (.slice a8 (pathL k T).length c8))) := Only.setCell (S := fun j => j = wd.heap.size) (p := ⟨wd.heap.size, k, none⟩) (Only.refl _ w8) (fun _ => rfl) _; have RS := zx (ROW8.out.set k (.slice a8 (pathL k T).length c8)); have BGS : Hid (Below wd.heap.size wd (w8.setCell ⟨wd.heap.size, k, none⟩ (.slice a8 (pathL k T).length c8))) := (BP.out.trans (B8.out.mono (by omega))).setCell (p := ⟨wd.heap.size, k, none⟩) zl _
         have keepN : ∀ v L, OwnN w8 (wd.heap.size + 1) v L -> OwnN (w8.setCell ⟨wd.heap.size, k, none⟩ (.slice a8 (pathL k T).length c8)) (wd.heap.size + 1) v L := fun v L h => own_keep h fun g hg1 hg hv => BS.out.block g hg (by omega)
         have KEEP := zx keepN; generalize (w8.setCell ⟨wd.heap.size, k, none⟩ (.slice a8 (pathL k T).length c8)) = w9 at *; clear hc0 hcf keepN; go_wp2_with fail; go_roundw; case rel =>
          refine ⟨k + 1, fun t => if t = k then .slice a8 (pathL k T).length c8 else A t, by omega, by go_num, RS.out.congr fun t ht => ?_, fun t ht => ?_, fun s t h hs ht hne h1 => ?_, BGS.out⟩
          . by_cases e : t = k
            . rw [if_pos e, if_pos (by omega)]; exact (if_pos e).symm
            . rw [if_neg e]; by_cases e2 : t < k
              . rw [if_pos e2, if_pos (by omega)]; exact (if_neg e).symm
              . rw [if_neg e2, if_neg (by omega)]
          . refine KEEP.out _ _ ?_; by_cases e : t = k
            . simp only [if_pos e]; rw [e]; exact HV8.out.le (by omega)
            . simp only [if_neg e]; exact (ALL.out t (by omega)).below B8.out
          . by_cases e1 : s = k
            . by_cases e2 : t = k
              . omega
              . simp only [if_pos e1] at h1; simp only [if_neg e2]; intro h2; have h3 := (HV8.out.lt h h1).1; have h4 := ((ALL.out t (by omega)).lt h h2).2; omega
            . simp only [if_neg e1] at h1; have h4 := ((ALL.out s (by omega)).lt h h1).2; by_cases e2 : t = k
              . simp only [if_pos e2]; intro h2; have h3 := (HV8.out.lt h h2).1; omega
              . simp only [if_neg e2]; exact INJ.out s t h (by omega) (by omega) hne h1
         case measure => simp [intOf]; omega
       . have hd : k = m := by omega
         have hnk : ¬ (k : Int) < (m : Int) := by omega
         have OK : Hid (PlanOwn wp w.heap.size (.slice (some ⟨wd.heap.size, 0, none⟩) m m) (planL m T)) := by
          have hpl : (planL m T).length = m := by simp [planL]
          have hpt : ∀ t, t < m -> (planL m T).getD t [] = pathL t T := fun t ht => by
           unfold planL; rw [zg, List.getElem?_map, List.getElem?_range ht]; rfl
          refine ⟨wd.heap.size, A, by rw [hpl], BD.out.size, by rw [hpl]; exact ROW.out.congr fun j hj => by rw [if_pos (by omega)], fun t ht => ?_, fun t ht e => ?_, fun s t h hs ht hne => ?_⟩
          . rw [hpl] at ht; rw [hpt t ht]; exact (ALL.out t (by omega)).le (by have := BD.out.size; omega)
          . rw [hpl] at ht; have := ((ALL.out t (by omega)).lt _ e).1; omega
          . rw [hpl] at hs ht; exact INJ.out s t h (by omega) (by omega) hne
         clear hd; go_wp2_with fail; go_ret; exact ⟨_, rfl, OK.out, BD.out.trans (BP.out.mono BD.out.size)⟩
    . -- on to the next
      have hpos : 0 < costO (s.seen y) := by
       rw [<- HC.out]; have h := of_decide_eq_true HBC.out.symm; omega
      obtain ⟨f1, rfl, hw1, he1⟩ := way_live hpos HEN.out; obtain ⟨z, hz⟩ : ∃ z, z = nextO y (s.seen y) := ⟨_, rfl⟩
      have hvz : vv.2 = z := by
       rw [hz, HVV.out]; cases e : s.seen y with
       | none => rw [e] at hpos; exact absurd hpos (Nat.lt_irrefl 0)
       | some q => rfl
      rw [<- hz] at hw1 he1; have HW1 := zx hw1; have HE1 := zx he1; have HVZ := zx hvz; obtain ⟨b0, b1, b2, b3, b4, b5, b6, b7, hzl⟩ := stL_mk z; have HZL := zx hzl; clear hpos hw1 he1 hz hvz hzl; have HS : (fun u : World => u.cell? ⟨S, 3, none⟩ = some (.map (some mb)) ∧ u.rangeAt tb 0 (stL y) ∧ SeenMap u mb m n s.seen) wd.drew := ⟨(ID.out.src.cells.2.2.2.1 : wd.cell? _ = _), by simpa using RD.out, ID.out.seen.block rfl⟩
      go_upto_region 4 with fail; refine wp_region_any (by kernel_rfl) ?_; change wpAny _ _ _ _ _ _ _ (World.drew _); refine LM.T 0 (.pointer (some ⟨S, 0, none⟩)) rfl ?_; refine LM.T 1 (.pointer (some ⟨S, 0, none⟩)) rfl ?_; refine LM.T 2 (.pointer (some ⟨S, 3, none⟩)) rfl ?_; refine LM.any_of_L (late := LM.lateOf [7]) (S := fun u : World => u.cell? ⟨S, 3, none⟩ = some (.map (some mb)) ∧ u.rangeAt tb 0 (stL y) ∧ SeenMap u mb m n s.seen) _ _ _ _ ?_; refine LM.TL 3 (.map (some mb)) rfl (Or.inl ⟨by rfl, fun u hu => by have h5 := hu.1; go_simp⟩) HS ?_
      refine LM.TL 4 (.agg (stL y).toArray) rfl (yieldsIf_load_mid (by rfl) 107 (.tmp 6) rfl tb 0 (by go_simp) (stL y) _ (fun u hu => hu.2.1) Tryz.underlying107 rfl ((congrArg some (stL_len _)).symm ▸ Tryz.sizeState)) HS ?_; refine LM.TL 5 (.agg (fdL vv).toArray) rfl (by rw [HVV.out]; exact yields_look_seen (x := y) (f := s.seen) (b := mb) (m := m) (n := n) (by rfl) (.tmp 23) (.tmp 24) false rfl (by go_simp) (by go_simp) (fun u hu => hu.2.2) HXY.out.1 HXY.out.2) HS ?_
      refine LM.TL 6 (.agg (stL z).toArray) rfl (Or.inl ⟨by rfl, fun u _ => by have h5 := fld_next_st vv; rw [HVZ.out] at h5; go_simp⟩) HS ?_; refine LM.L_rest (by kernel_rfl) ?_; refine LM.any_store (i := 7) rfl (by kernel_rfl) rfl 107 (.tmp 6) (.tmp 26) rfl tb 0 (stL z).toArray (by go_simp) (by go_simp) (by exact TD.out) ((congrArg some (stL_len z)).symm ▸ Tryz.sizeState) (all_oneCell_toArray (stL_one _)) ?_; refine wpAny_done (by kernel_rfl) ?_ _; go_simp; clear HS; have T5 : Hid ((wd.drew.setCells tb 0 (stL z)).there tb 0 8) := World.there_setCells (w := wd.drew) TD.out tb 0 (stL z)
      have R5 : Hid ((wd.drew.setCells tb 0 (stL z)).rangeAt tb 0 (stL z)) := World.rangeAt_setCells_same wd.drew tb 0 (stL z) TD.out; have ON5 : Only (fun k => k = tb) wd.drew (wd.drew.setCells tb 0 (stL z)) := Only.setCells (S := fun k => k = tb) (fun _ => rfl) _ _ _ (Only.refl _ _); have O5 : Hid (OwnS (wd.drew.setCells tb 0 (stL z)) (w.heap.size + 1) V (W ++ [y])) := own_keep (OD.out.below (Below.refl _ wd).drew) fun g _ hg hv => ON5.block g hg (fun e => HVT.out (by rw [hv, e]))
      have B5 : Hid (Below w.heap.size w (wd.drew.setCells tb 0 (stL z))) := BD.out.drew.trans ⟨ON5.os, ON5.tape, ON5.output, ON5.size, fun j hj => ON5.block j (by show j < wd.heap.size; have := BD.out.size; omega) (by omega)⟩; have hz5 : wd.heap.size <= (wd.drew.setCells tb 0 (stL z)).heap.size := ON5.size; generalize wd.drew.setCells tb 0 (stL z) = w5 at *; clear ON5; have R5' := R5.out; rw [HZL.out] at R5'; have g0 := R5' 0 _ rfl; have g1 := R5' 1 _ rfl; have g2 := R5' 2 _ rfl; have g3 := R5' 3 _ rfl; have g4 := R5' 4 _ rfl; have g5 := R5' 5 _ rfl; have g6 := R5' 6 _ rfl; have g7 := R5' 7 _ rfl
      simp only [Nat.zero_add] at g0 g1 g2 g3 g4 g5 g6 g7; clear R5'; obtain ⟨av, cv, rfl, hav, hcv⟩ := O5.out.form; clear hav; go_upto_region 6 with (at_builtin; go_must (refine wpList_pushS rfl _ _ rfl (w.heap.size + 1) (.slice av (W ++ [y]).length cv) (W ++ [y]) z rfl O5.out (by omega) _ _ (by rw [HZL.out]) rfl (by rw [List.length_append]; simp; omega) ?_; intro g9 c9 w9 ho9 hon9 hat9))
      have HO9 := zx ho9; have HON9 := zx hon9; have HAT9 := zx hat9; have hz9 := hon9.size; have c9e : ∀ o, w9.cell? ⟨tb, o, none⟩ = w5.cell? ⟨tb, o, none⟩ := fun o => hon9.cell (p := ⟨tb, o, none⟩) (by show tb < w5.heap.size; omega) (by exact HVT.out)
      rw [<- c9e] at g0 g1 g2 g3 g4 g5 g6 g7; have BW9 := zx (B5.out.trans ⟨hon9.os, hon9.tape, hon9.output, hon9.size, fun j hj => hon9.block j (by omega) (fun hh => by have := (O5.out.lt j hh).1; omega)⟩); clear ho9 hon9 hat9 c9e; go_upto_region 7 with fail; go_wp2_with fail; obtain ⟨wx, hwx⟩ : ∃ q, q = w9.alloc (.cells #[.int .u8 b0, .int .u8 b1, .int .u8 b2, .int .u8 b3, .bool b4, .bool b5, .bool b6, .bool b7] 107) := ⟨_, rfl⟩
      have hwx' : wx = w9.alloc (.cells (stL z).toArray 107) := by rw [HZL.out, hwx]
      rw [<- hwx]; have BX : Hid (Below w9.heap.size w9 wx) := by unfold Hid; rw [hwx']; exact (Below.refl _ w9).alloc zl _
      have RX : Hid (wx.rangeAt w9.heap.size 0 (stL z)) := by unfold Hid; rw [hwx']; exact range_cells w9 (stL z) 107 _ rfl
      have TX : Hid (wx.there w9.heap.size 0 8) := fun j hj => ⟨RX.out.isSome j (by rw [stL_len]; exact hj), by rw [hwx']; go_simp⟩
      have hzx : wx.heap.size = w9.heap.size + 1 := by rw [hwx']; simp
      have hgb : w.heap.size <= w9.heap.size := BW9.out.size; clear hwx hwx' g0 g1 g2 g3 g4 g5 g6 g7; go_roundg f1
      case measure => exact Nat.lt_succ_self f1
      refine ⟨W ++ [y], z, _, w9.heap.size, rfl, rfl, RX.out, TX.out, by have h := HO9.out.below BX.out; simpa using h, by rw [List.append_assoc, <- HWT.out, HW1.out]; rfl, HE1.out, hgb, by omega, fun e => ?_, BW9.out.trans (BX.out.mono hgb)⟩; have e : g9 = w9.heap.size := Option.some.inj e; have := (HO9.out.lt g9 rfl).2; omega
end
end Go.Proofs.YtnkgpinadgacgaaGreatDoor
