/- Several texts in one: Gv, Gw. -/
import Derived.Test.YtnkgpinadgacgabDoorMkzi
import Derived.Test.YtnkgpinadgacgabDoorMkzf
import Derived.Laws.StructEq
namespace Go.Proofs.YtnkgpinadgacgabDoor
open Go.RowKit M SM
/-- What the search needs of a position. -/
structure PosOK (m N : Nat) (st : Nat → Nat → Int) (q : List Nat) : Prop where
  len : q.length = m
  lt : ∀ t, t < m → q.getD t 0 < N
  bd : ∀ t, t < m → 0 ≤ st t (q.getD t 0) ∧ st t (q.getD t 0) ≤ 36

theorem PosOK.small {m N : Nat} {st : Nat → Nat → Int} {q : List Nat} (h : PosOK m N st q) (hN : N ≤ 36) : Small q := fun k => by
  by_cases e : k < m
  · have := h.lt k e; omega
  · rw [List.getD_eq_getElem?_getD, List.getElem?_eq_none (by rw [h.len]; omega)]; decide

theorem range_ldst {w : World} {b o : Nat} {l : LeadM} (h : w.rangeAt b o (ldL l)) : w.rangeAt b o (stL l.st) := fun j v hv => by
  have hj : j < 8 := by have := (List.getElem?_eq_some_iff.1 hv).1; rw [stL_len] at this; exact this
  refine h j v ?_
  have hc : j = 0 ∨ j = 1 ∨ j = 2 ∨ j = 3 ∨ j = 4 ∨ j = 5 ∨ j = 6 ∨ j = 7 := by omega
  rcases hc with rfl | rfl | rfl | rfl | rfl | rfl | rfl | rfl <;> exact hv

/-- Cart k's cell of a state, and whether it is under way. -/
theorem range_st_at {w : World} {b : Nat} {x : St} (h : w.rangeAt b 0 (stL x)) {k : Nat} (hk : k < 4) : w.cell? ⟨b, k, none⟩ = some (.int .u8 (x.1.getD k 0 : Nat)) ∧ w.cell? ⟨b, 4 + k, none⟩ = some (.bool (x.2.getD k false)) := by
  have hc : k = 0 ∨ k = 1 ∨ k = 2 ∨ k = 3 := by omega
  rcases hc with rfl | rfl | rfl | rfl
  · exact ⟨h 0 _ rfl, h 4 _ rfl⟩
  · exact ⟨h 1 _ rfl, h 5 _ rfl⟩
  · exact ⟨h 2 _ rfl, h 6 _ rfl⟩
  · exact ⟨h 3 _ rfl, h 7 _ rfl⟩

theorem seeF_n (h : List Nat → Nat) (s : Srch) (b : St) (c : Nat) (y : St) : (seeF h s b c y).n ≤ s.n + 1 := by
  unfold seeF
  by_cases e : knownB (s.seen b) c = true
  · rw [if_pos e]; omega
  · rw [if_neg e]; exact Nat.le_refl _

theorem take_getD (u : List Bool) (k i : Nat) : (u.take k).getD i false = if i < k then u.getD i false else false := by
  rw [List.getD_eq_getElem?_getD, List.getElem?_take]
  by_cases e : i < k
  · rw [if_pos e, if_pos e, List.getD_eq_getElem?_getD]
  · rw [if_neg e, if_neg e]; rfl

theorem cntU_take {u : List Bool} {k : Nat} (hk : k < u.length) : cntU (u.take (k + 1)) = cntU (u.take k) + if u.getD k false = true then 1 else 0 := by
  rw [List.take_succ_eq_append_getElem hk]
  unfold cntU
  rw [List.count_append, List.getD_eq_getElem?_getD, List.getElem?_eq_getElem hk]
  cases u[k] <;> simp

/-- The state that is being laid: one more cart is under way. -/
theorem range_step {w : World} {b k : Nat} {q : List Nat} {u : List Bool} (hk : k < 4) (h : w.rangeAt b 0 (stL (q, u.take k))) (hu : u.getD k false = true) : (w.setCell ⟨b, 4 + k, none⟩ (.bool true)).rangeAt b 0 (stL (q, u.take (k + 1))) := by
  intro j v hv
  have hj : j < 8 := by have := (List.getElem?_eq_some_iff.1 hv).1; rw [stL_len] at this; exact this
  have hcell : ∃ y, w.cell? ⟨b, 4 + k, none⟩ = some y := ⟨_, (range_st_at h hk).2⟩
  obtain ⟨y, hy⟩ := hcell
  by_cases e : j = 4 + k
  · subst e
    rw [Nat.zero_add, World.cell?_setCell_same' _ _ _ (by rw [hy]; rfl)]
    have hc : k = 0 ∨ k = 1 ∨ k = 2 ∨ k = 3 := by omega
    have h2 : (stL (q, u.take (k + 1)))[4 + k]? = some (.bool ((u.take (k + 1)).getD k false)) := by rcases hc with rfl | rfl | rfl | rfl <;> rfl
    rw [h2, take_getD, if_pos (Nat.lt_succ_self k), hu] at hv
    exact hv
  · rw [Nat.zero_add, World.cell?_setCell_other _ _ _ _ (by intro hh; have := congrArg Addr.off hh; simp at this; omega)]
    have h3 : (stL (q, u.take (k + 1)))[j]? = (stL (q, u.take k))[j]? := by
      have ht : ∀ i, i ≠ k → (u.take (k + 1)).getD i false = (u.take k).getD i false := fun i hi => by
        rw [take_getD, take_getD]
        by_cases e1 : i < k
        · rw [if_pos e1, if_pos (by omega)]
        · rw [if_neg e1, if_neg (by omega)]
      have hc : j = 0 ∨ j = 1 ∨ j = 2 ∨ j = 3 ∨ j = 4 ∨ j = 5 ∨ j = 6 ∨ j = 7 := by omega
      rcases hc with rfl | rfl | rfl | rfl | rfl | rfl | rfl | rfl
      · rfl
      · rfl
      · rfl
      · rfl
      · show some (Value.bool _) = some (Value.bool _); rw [ht 0 (by omega)]
      · show some (Value.bool _) = some (Value.bool _); rw [ht 1 (by omega)]
      · show some (Value.bool _) = some (Value.bool _); rw [ht 2 (by omega)]
      · show some (Value.bool _) = some (Value.bool _); rw [ht 3 (by omega)]
    rw [h3] at hv
    have := h j v hv
    rw [Nat.zero_add] at this
    exact this

theorem stL_take {q : List Nat} {u : List Bool} {k : Nat} (hu : u.getD k false = false) : stL (q, u.take (k + 1)) = stL (q, u.take k) := by
  have ht : ∀ i, (u.take (k + 1)).getD i false = (u.take k).getD i false := fun i => by
    rw [take_getD, take_getD]
    by_cases e1 : i < k
    · rw [if_pos e1, if_pos (by omega)]
    · rw [if_neg e1]
      by_cases e2 : i = k
      · subst e2; rw [if_pos (Nat.lt_succ_self i), hu]
      · rw [if_neg (by omega)]
  unfold stL
  simp only [ht]

set_option maxRecDepth 1000000 in
set_option maxHeartbeats 16000000 in
theorem goBack_any (S mb m B n gf cf gm : Nat) (G C : Nat → Nat) (ro co : Int) (cs : ByteArray) (H c : Nat → Nat) (st : Nat → Nat → Int) (v : Value) (s : Srch) (l : LeadM) (w : World) (hI : SIn w S mb m B n (.int .i64 (m : Nat)) (.slice (some ⟨gm, 0, none⟩) cs.size cs.size) (.slice (some ⟨gf, 0, none⟩) m cf) v s)
    (hF : FarL w gf m cs.size H c st) (hA : Ap S mb B gf ∧ ∀ t, t < m → Ap S mb B (H t)) (hm : m ≤ 4) (hN : cs.size ≤ 36) (hg : GroundIn w gm cs.size G C ro co cs) (hl : PosOK m cs.size st l.st.1) (hlu : l.st.2.length = m) (hlf : ∀ k, k < m → freeB cs (l.st.1.getD k 0 : Nat) = true)
    (hpos : ∀ q, q ∈ growL (mvN ro co cs) l.st.1 m → PosOK m cs.size st q) (hc : l.c ≤ 900000000) (hn : n ≤ 700000000) (hsn : s.n ≤ 700000000) :
    Calls Tryd.prog 84 #[.pointer (some ⟨S, 0, none⟩), .agg (ldL l).toArray] w fun e w' =>
      e = .returned (.tuple #[]) ∧ ∃ v', SIn w' S mb m B (n + 625) (.int .i64 (m : Nat)) (.slice (some ⟨gm, 0, none⟩) cs.size cs.size) (.slice (some ⟨gf, 0, none⟩) m cf) v' (goF (restF st m) m l.st l.c (growL (mvN ro co cs) l.st.1 m) s) ∧ (∀ g, v'.ownBlock = some g → v.ownBlock = some g ∨ w.heap.size ≤ g) ∧ Only (TnV S mb v) w w' := by
  have HI := Hid.mk hI
  have HFA := Hid.mk hF
  have HAP := Hid.mk hA
  have HG := Hid.mk hg
  have HLP := Hid.mk hl
  have HLU := Hid.mk hlu
  have HLF := Hid.mk hlf
  have HPO := Hid.mk hpos
  have hs0 := hI.src
  have HOW := Hid.mk hI.own
  have HOL := Hid.mk hI.own_lt
  have hBw := hI.low.2.2.2
  have hSB := hI.low.1
  have hmB := hI.low.2.1
  obtain ⟨w1, hw1⟩ : ∃ w1, w1 = w.alloc (.cells (ldL l).toArray 149) := ⟨_, rfl⟩
  have B1 : Below w.heap.size w w1 := by rw [hw1]; exact (Below.refl _ w).alloc (Nat.le_refl _) _
  have hz1 : w1.heap.size = w.heap.size + 1 := by rw [hw1]; simp
  have R1 : w1.rangeAt w.heap.size 0 (ldL l) := by rw [hw1]; exact range_cells w (ldL l) 149 _ rfl
  have HR1 := Hid.mk R1
  have HB1 := Hid.mk B1
  have HS : (fun u : World => u.cell? ⟨S, 0, none⟩ = some (.int .i64 (m : Nat)) ∧ u.cell? ⟨S, 1, none⟩ = some (.slice (some ⟨gm, 0, none⟩) cs.size cs.size) ∧ u.rangeAt w.heap.size 0 (ldL l)) w1.drew := ⟨(cell_later B1 hs0.cells.1 : w1.cell? _ = _), (cell_later B1 hs0.cells.2.1 : w1.cell? _ = _), by simpa using R1⟩
  obtain ⟨Lq, hLq⟩ : ∃ Lq, Lq = growL (mvN ro co cs) l.st.1 m := ⟨_, rfl⟩
  rw [← hLq] at hpos ⊢
  obtain ⟨R, hR⟩ : ∃ R, R = goF (restF st m) m l.st l.c Lq s := ⟨_, rfl⟩
  rw [← hR]
  have HR := Hid.mk hR.symm
  have HLQ := Hid.mk hLq
  have HPO := Hid.mk hpos
  have hLen : Lq.length ≤ 625 := by
    have h1 := growL_len (p := l.st.1) (fun c => mvN_le ro co cs c) m
    have h2 : 5 ^ m ≤ 5 ^ 4 := Nat.pow_le_pow_right (by omega) hm
    rw [hLq]; omega
  clear hI hF hA hg hl hlu hlf hpos hs0 R1 B1 hLq hR
  go_enter Tryd.func84, Tryd.ntmps84
  go_upto_region 1 with fail
  rw [← hw1]
  have HW1 := Hid.mk hw1
  clear hw1
  refine wp_region_any (by kernel_rfl) ?_
  change wpAny _ _ _ _ _ _ _ (World.drew _)
  refine wpAny_take (i := 0) (v := .pointer (some ⟨S, 0, none⟩)) rfl (by kernel_rfl) (by kernel_rfl) (by kernel_rfl) (fun _ _ _ h => h) (Or.inl ⟨by rfl, fun u => by go_simp⟩) ?_
  refine wpAny_take (i := 1) (v := .pointer (some ⟨S, 0, none⟩)) rfl (by kernel_rfl) (by kernel_rfl) (by kernel_rfl) (fun _ _ _ h => h) (Or.inl ⟨by rfl, fun u => by go_simp⟩) ?_
  refine wpAny_take (i := 2) (v := .pointer (some ⟨S, 0, none⟩)) rfl (by kernel_rfl) (by kernel_rfl) (by kernel_rfl) (fun _ _ _ h => h) (Or.inl ⟨by rfl, fun u => by go_simp⟩) ?_
  refine wpAny_take (i := 4) (v := .pointer (some ⟨w.heap.size, 0, none⟩)) rfl (by kernel_rfl) (by kernel_rfl) (by kernel_rfl) (fun _ _ _ h => h) (Or.inl ⟨by rfl, fun u => by go_simp⟩) ?_
  refine wpAny_take (i := 5) (v := .pointer (some ⟨w.heap.size, 0, none⟩)) rfl (by kernel_rfl) (by kernel_rfl) (by kernel_rfl) (fun _ _ _ h => h) (Or.inl ⟨by rfl, fun u => by go_simp⟩) ?_
  refine wpAny_take (i := 9) (v := .int .i64 0) rfl (by kernel_rfl) (by kernel_rfl) (by kernel_rfl) (fun _ _ _ h => h) (Or.inl ⟨by rfl, fun u => by go_simp⟩) ?_
  refine LM.any_of_L (late := LM.lateOf []) (S := fun u : World => u.cell? ⟨S, 0, none⟩ = some (.int .i64 (m : Nat)) ∧ u.cell? ⟨S, 1, none⟩ = some (.slice (some ⟨gm, 0, none⟩) cs.size cs.size) ∧ u.rangeAt w.heap.size 0 (ldL l)) _ _ _ _ ?_
  refine LM.L_take (i := 3) (v := .agg #[.int .i64 (m : Nat), .slice (some ⟨gm, 0, none⟩) cs.size cs.size]) rfl (by kernel_rfl) (by kernel_rfl) (by kernel_rfl) (by kernel_rfl) (fun _ _ _ h => h) (Or.inl ⟨by rfl, fun u hu => by have h5 := hu.1; have h6 := hu.2.1; go_simp⟩) HS ?_
  refine LM.L_take (i := 6) (v := .agg (psL l.st.1).toArray) rfl (by kernel_rfl) (by kernel_rfl) (by kernel_rfl) (by kernel_rfl) (fun _ _ _ h => h) (yieldsIf_load_mid (by rfl) 102 (.tmp 14) rfl w.heap.size 0 (by go_simp) (psL l.st.1) _ (fun u hu => range_pos (range_ldst hu.2.2)) Tryd.underlying102 rfl ((congrArg some (psL_len _)).symm ▸ Tryd.sizePos)) HS ?_
  refine LM.L_one (i := 7) rfl (by kernel_rfl) rfl (fun K hK => ?_)
  go_simp
  have GW : GroundIn w1 gm cs.size G C ro co cs := HG.out.below HB1.out
  refine (jnexts_any m gm G C ro co cs l.st.1 w1.drew hm hN (fun k hk => ⟨HLP.out.lt k hk, HLF.out k hk⟩) ⟨GW.row, GW.lists, GW.low⟩).mono ?_
  rintro e w2 ⟨v2, rfl, hv2, hb2⟩
  have B2 : Hid (Below w1.heap.size w1 w2) := (Below.refl _ w1).drew.trans (by exact hb2)
  rw [← HLQ.out] at hv2
  have HV2 := Hid.mk hv2
  have HS2 : (fun u : World => u.cell? ⟨S, 0, none⟩ = some (.int .i64 (m : Nat)) ∧ u.cell? ⟨S, 1, none⟩ = some (.slice (some ⟨gm, 0, none⟩) cs.size cs.size) ∧ u.rangeAt w.heap.size 0 (ldL l)) w2 := ⟨(cell_later B2.out HS.1 : w2.cell? _ = _), (cell_later B2.out HS.2.1 : w2.cell? _ = _), range_below HR1.out B2.out⟩
  obtain ⟨a2, k2, rfl, hg2, hcap2⟩ := hv2.form
  have HG2 := Hid.mk hg2
  refine hK _ _ HS2 ?_
  clear hK K hb2 HS hv2 hg2 GW
  refine LM.L_take (i := 8) (v := .int .i64 (Lq.length : Nat)) rfl (by kernel_rfl) (by kernel_rfl) (by kernel_rfl) (by kernel_rfl) (fun _ _ _ h => h) (Or.inl ⟨by rfl, fun u _ => by go_simp⟩) HS2 ?_
  refine LM.L_done (by kernel_rfl) ?_ _
  have RB := Hid.mk HS2.2.2
  have BW2 : Hid (Below w.heap.size w w2) := HB1.out.trans (B2.out.mono (by omega))
  have hz2 := B2.out.size
  clear HS2
  go_simp
  go_wp2
  have HI2 := Hid.mk (HI.out.only BW2.out)
  have HF2 := Hid.mk (HFA.out.only (Only.of_below BW2.out : Only (fun _ => False) w w2) (fun e => e) (fun _ _ e => e))
  go_loopw [18] (fun v18 wr => ∃ (t n1 : Nat) (s1 : Srch) (v1 : Value), v18 = .int .i64 t ∧ t ≤ Lq.length ∧ goF (restF st m) m l.st l.c (Lq.drop t) s1 = R ∧ SIn wr S mb m B n1 (.int .i64 (m : Nat)) (.slice (some ⟨gm, 0, none⟩) cs.size cs.size) (.slice (some ⟨gf, 0, none⟩) m cf) v1 s1 ∧ n1 ≤ n + t ∧ s1.n ≤ s.n + t ∧ (∀ g, v1.ownBlock = some g → v.ownBlock = some g ∨ w2.heap.size ≤ g) ∧ Only (TnV S mb v) w2 wr) (fun v18 _ => Lq.length - (intOf v18).toNat)
  case atStart => exact ⟨0, n, s, v, rfl, Nat.zero_le _, HR.out, HI2.out, Nat.le_refl _, Nat.le_refl _, fun g hg => .inl hg, Only.refl _ _⟩
  case round =>
    obtain ⟨wo, rfl⟩ : ∃ x, x = wr := ⟨_, rfl⟩
    obtain ⟨t, n1, s1, v1, rfl, ht, hrr, hin, hn1, hs1, hv1, honly⟩ := hrel
    have RR := Hid.mk hrr
    have IN := Hid.mk hin
    have HV1 := Hid.mk hv1
    have HO := Hid.mk honly
    have hzo := honly.size
    have hne3 : ¬ TnV S mb v w.heap.size := fun e => by
      rcases e with e | e | e
      · omega
      · omega
      · have := HOL.out _ e; omega
    have hin0 := hin.src.cells.1
    clear hrr hin hv1 honly
    by_cases hlt : t < Lq.length
    · obtain ⟨g2, rfl⟩ := HG2.out (by omega)
      have hg2b : w1.heap.size ≤ g2 ∧ g2 < w2.heap.size := HV2.out.lt g2 rfl
      have hne2 : ¬ TnV S mb v g2 := fun e => by
        rcases e with e | e | e
        · omega
        · omega
        · have := HOL.out _ e; omega
      obtain ⟨c0, c1, c2, c3⟩ := HV2.out.cells hlt
      have c0 := (HO.out.cell (p := ⟨g2, t * 4, none⟩) hg2b.2 hne2).trans c0
      have c1 := (HO.out.cell (p := ⟨g2, t * 4 + 1, none⟩) hg2b.2 hne2).trans c1
      have c2 := (HO.out.cell (p := ⟨g2, t * 4 + 2, none⟩) hg2b.2 hne2).trans c2
      have c3 := (HO.out.cell (p := ⟨g2, t * 4 + 3, none⟩) hg2b.2 hne2).trans c3
      obtain ⟨q, hq⟩ : ∃ q, q = Lq[t] := ⟨_, rfl⟩
      have hqm : q ∈ Lq := by rw [hq]; exact List.getElem_mem hlt
      have HQM := Hid.mk (HPO.out q hqm)
      rw [← hq] at c0 c1 c2 c3
      have HQ := Hid.mk hq
      obtain ⟨q0, hq0⟩ : ∃ v, v = q.getD 0 0 := ⟨_, rfl⟩
      obtain ⟨q1, hq1⟩ : ∃ v, v = q.getD 1 0 := ⟨_, rfl⟩
      obtain ⟨q2, hq2⟩ : ∃ v, v = q.getD 2 0 := ⟨_, rfl⟩
      obtain ⟨q3, hq3⟩ : ∃ v, v = q.getD 3 0 := ⟨_, rfl⟩
      rw [← hq0] at c0
      rw [← hq1] at c1
      rw [← hq2] at c2
      rw [← hq3] at c3
      have HQQ := Hid.mk (And.intro hq0 (And.intro hq1 (And.intro hq2 hq3)))
      obtain ⟨U, hU⟩ : ∃ U, U = backU m l.st.1 l.st.2 q := ⟨_, rfl⟩
      have HU := Hid.mk hU
      have hUl : U.length = m := by rw [hU]; exact backU_len _ _ _ _
      have RBo := Hid.mk (range_only RB.out HO.out hne3)
      have d8 : wo.cell? ⟨w.heap.size, 8, none⟩ = some (.int .i64 (l.c : Nat)) := RBo.out 8 _ rfl
      have htI : (t : Int) < (Lq.length : Int) := by omega
      have n1' : w.heap.size < wo.heap.size := by omega
      have n2' : w.heap.size < wo.heap.size + 1 := by omega
      have n3' : S < wo.heap.size := by omega
      have n4' : S < wo.heap.size + 1 := by omega
      have n5' : g2 < wo.heap.size := by omega
      clear hq hq0 hq1 hq2 hq3 hqm hU
      have X5 : Hid (∀ k, k < 4 → ((wo.alloc (Obj.cells #[Value.int .u8 (q0 : Nat), .int .u8 (q1 : Nat), .int .u8 (q2 : Nat), .int .u8 (q3 : Nat)] 102)).alloc (Obj.cells #[Value.int .u8 (q0 : Nat), .int .u8 (q1 : Nat), .int .u8 (q2 : Nat), .int .u8 (q3 : Nat), .bool false, .bool false, .bool false, .bool false] 108)).cell? ⟨wo.heap.size, k, none⟩ = some (.int .u8 (q.getD k 0 : Nat))) := by
        intro k hk
        obtain ⟨e0, e1, e2, e3⟩ := HQQ.out
        match k, hk with
        | 0, _ => rw [← e0]; go_simp
        | 1, _ => rw [← e1]; go_simp
        | 2, _ => rw [← e2]; go_simp
        | 3, _ => rw [← e3]; go_simp
      have X6 : Hid (((wo.alloc (Obj.cells #[Value.int .u8 (q0 : Nat), .int .u8 (q1 : Nat), .int .u8 (q2 : Nat), .int .u8 (q3 : Nat)] 102)).alloc (Obj.cells #[Value.int .u8 (q0 : Nat), .int .u8 (q1 : Nat), .int .u8 (q2 : Nat), .int .u8 (q3 : Nat), .bool false, .bool false, .bool false, .bool false] 108)).rangeAt (wo.heap.size + 1) 0 (stL (q, U.take 0))) := by
        have h := range_cells (wo.alloc (Obj.cells #[Value.int .u8 (q0 : Nat), .int .u8 (q1 : Nat), .int .u8 (q2 : Nat), .int .u8 (q3 : Nat)] 102)) (stL (q, U.take 0)) 108 (wo.heap.size + 1) (by simp)
        obtain ⟨e0, e1, e2, e3⟩ := HQQ.out
        unfold Hid
        rw [e0, e1, e2, e3]
        rw [e0, e1, e2, e3] at h
        exact h
      have F6 : Hid (∀ o, ((wo.alloc (Obj.cells #[Value.int .u8 (q0 : Nat), .int .u8 (q1 : Nat), .int .u8 (q2 : Nat), .int .u8 (q3 : Nat)] 102)).alloc (Obj.cells #[Value.int .u8 (q0 : Nat), .int .u8 (q1 : Nat), .int .u8 (q2 : Nat), .int .u8 (q3 : Nat), .bool false, .bool false, .bool false, .bool false] 108)).frozen? ⟨wo.heap.size + 1, o, none⟩ = false) := by intro o; go_simp
      have BE : Hid (Below wo.heap.size wo ((wo.alloc (Obj.cells #[Value.int .u8 (q0 : Nat), .int .u8 (q1 : Nat), .int .u8 (q2 : Nat), .int .u8 (q3 : Nat)] 102)).alloc (Obj.cells #[Value.int .u8 (q0 : Nat), .int .u8 (q1 : Nat), .int .u8 (q2 : Nat), .int .u8 (q3 : Nat), .bool false, .bool false, .bool false, .bool false] 108))) := ((Below.refl _ wo).alloc (Nat.le_refl _) _).alloc (by simp) _
      have hze : ((wo.alloc (Obj.cells #[Value.int .u8 (q0 : Nat), .int .u8 (q1 : Nat), .int .u8 (q2 : Nat), .int .u8 (q3 : Nat)] 102)).alloc (Obj.cells #[Value.int .u8 (q0 : Nat), .int .u8 (q1 : Nat), .int .u8 (q2 : Nat), .int .u8 (q3 : Nat), .bool false, .bool false, .bool false, .bool false] 108)).heap.size = wo.heap.size + 2 := by simp
      go_wp2
      generalize ((wo.alloc (Obj.cells #[Value.int .u8 (q0 : Nat), .int .u8 (q1 : Nat), .int .u8 (q2 : Nat), .int .u8 (q3 : Nat)] 102)).alloc (Obj.cells #[Value.int .u8 (q0 : Nat), .int .u8 (q1 : Nat), .int .u8 (q2 : Nat), .int .u8 (q3 : Nat), .bool false, .bool false, .bool false, .bool false] 108)) = we at *
      go_loopw [7, 31] (fun v7 v31 wi => ∃ k : Nat, v31 = .int .i64 k ∧ k ≤ m ∧ v7 = .int .i64 ((l.c + cntU (U.take k) : Nat) : Int) ∧ wi.rangeAt (wo.heap.size + 1) 0 (stL (q, U.take k)) ∧ (∀ o, wi.frozen? ⟨wo.heap.size + 1, o, none⟩ = false) ∧ Only (fun b => b = wo.heap.size + 1) we wi) (fun _ v31 _ => m - (intOf v31).toNat)
      case atStart => exact ⟨0, rfl, Nat.zero_le _, rfl, X6.out, F6.out, Only.refl _ _⟩
      case round =>
        obtain ⟨wi, rfl⟩ : ∃ x, x = wr := ⟨_, rfl⟩
        obtain ⟨k, rfl, hk, rfl, hr6, hf6, hoi⟩ := hrel
        have HR6 := Hid.mk hr6
        have HF6 := Hid.mk hf6
        have HOI := Hid.mk hoi
        have hzi := hoi.size
        have RBi := Hid.mk (range_only (range_below RBo.out BE.out) hoi (by show ¬ w.heap.size = _; omega))
        obtain ⟨ck, hck⟩ : ∃ ck, ck = l.c + cntU (U.take k) := ⟨_, rfl⟩
        have hck9 : ck ≤ 900000004 := by
          have h1 := cntU_le (U.take k)
          rw [List.length_take] at h1
          omega
        have HCK := Hid.mk hck
        rw [← hck]
        clear hr6 hf6 hoi hck
        by_cases hkm : k < m
        · have hk4 : k < 4 := by omega
          have hkI : (k : Int) < (m : Int) := by omega
          have hk4I : (k : Int) < 4 := by omega
          obtain ⟨d2, d0⟩ := range_st_at (range_ldst RBi.out) hk4
          have d1 := (HOI.out.cell (p := ⟨wo.heap.size, k, none⟩) (by show wo.heap.size < _; omega) (by show ¬ wo.heap.size = _; omega)).trans (X5.out k hk4)
          have HBIT : Hid (U.getD k false = (l.st.2.getD k false || q.getD k 0 != l.st.1.getD k 0)) := by rw [HU.out]; exact backU_at hkm
          have hq9 := HQM.out.lt k hkm
          have hp9 := HLP.out.lt k hkm
          obtain ⟨ub, hub⟩ : ∃ ub, ub = l.st.2.getD k false := ⟨_, rfl⟩
          obtain ⟨qk, hqk⟩ : ∃ qk, qk = q.getD k 0 := ⟨_, rfl⟩
          obtain ⟨pk, hpk⟩ : ∃ pk, pk = l.st.1.getD k 0 := ⟨_, rfl⟩
          rw [← hub] at d0
          rw [← hqk] at d1 hq9
          rw [← hpk] at d2 hp9
          rw [← hub, ← hqk, ← hpk] at HBIT
          clear hub hqk hpk
          cases ub
          · by_cases hqp : (qk : Int) = (pk : Int)
            · have hB : ((qk : Int) != (pk : Int)) = false := by simp [hqp]
              have BITF : U.getD k false = false := by rw [HBIT.out]; simp; omega
              have HBF := Hid.mk BITF
              clear hqp BITF
              go_wp2
              go_quiet (fail)
              go_wp2
              go_roundw
              case rel =>
                refine ⟨k + 1, by go_num, by omega, ?_, by rw [stL_take HBF.out]; exact HR6.out, HF6.out, HOI.out.drewN _⟩
                rw [cntU_take (by omega), if_neg (by rw [HBF.out]; simp), Nat.add_zero, ← HCK.out]
              case measure => simp [intOf]; omega
            · have hB : ((qk : Int) != (pk : Int)) = true := by simp [hqp]
              have BITT := Hid.mk (show U.getD k false = true from by rw [HBIT.out]; simp; omega)
              clear hqp
              have e6 := (range_st_at HR6.out hk4).2
              rw [take_getD, if_neg (Nat.lt_irrefl k)] at e6
              have f6 := HF6.out (4 + k)
              go_wp2
              go_quiet (fail)
              go_wp2
              go_roundw
              case rel =>
                refine ⟨k + 1, by go_num, by omega, ?_, range_step hk4 HR6.out BITT.out, fun o => by first | exact HF6.out o | (rw [World.frozen?_setCell]; exact HF6.out o), (HOI.out.drewN _).setCell (p := ⟨wo.heap.size + 1, 4 + k, none⟩) (fun _ => rfl) _⟩
                rw [cntU_take (by omega), if_pos BITT.out, ← Nat.add_assoc, ← HCK.out]
                go_num
              case measure => simp [intOf]; omega
          · have BITT := Hid.mk (show U.getD k false = true from by rw [HBIT.out]; rfl)
            have e6 := (range_st_at HR6.out hk4).2
            rw [take_getD, if_neg (Nat.lt_irrefl k)] at e6
            have f6 := HF6.out (4 + k)
            go_wp2
            go_quiet (fail)
            go_wp2
            go_roundw
            case rel =>
              refine ⟨k + 1, by go_num, by omega, ?_, range_step hk4 HR6.out BITT.out, fun o => by first | exact HF6.out o | (rw [World.frozen?_setCell]; exact HF6.out o), (HOI.out.drewN _).setCell (p := ⟨wo.heap.size + 1, 4 + k, none⟩) (fun _ => rfl) _⟩
              rw [cntU_take (by omega), if_pos BITT.out, ← Nat.add_assoc, ← HCK.out]
              go_num
            case measure => simp [intOf]; omega
        · have hd : k = m := by omega
          have HTK : U.take k = U := List.take_of_length_le (by omega)
          have hr6 := HR6.out
          rw [HTK] at hr6
          have HR7 := Hid.mk hr6
          have hckU : Hid (ck = l.c + cntU U) := by rw [HTK] at HCK; exact HCK.out
          have hcU : cntU U ≤ 4 := by have := cntU_le U; omega
          have hkm' : ¬ (k : Int) < (m : Int) := by omega
          have g0 := hr6 0 _ rfl
          have g1 := hr6 1 _ rfl
          have g2 := hr6 2 _ rfl
          have g3 := hr6 3 _ rfl
          have g4 := hr6 4 _ rfl
          have g5 := hr6 5 _ rfl
          have g6 := hr6 6 _ rfl
          have g7 := hr6 7 _ rfl
          have rbi := RBi.out
          have z0 := rbi 0 _ rfl
          have z1 := rbi 1 _ rfl
          have z2 := rbi 2 _ rfl
          have z3 := rbi 3 _ rfl
          have z4 := rbi 4 _ rfl
          have z5 := rbi 5 _ rfl
          have z6 := rbi 6 _ rfl
          have z7 := rbi 7 _ rfl
          simp only [Nat.zero_add] at g0 g1 g2 g3 g4 g5 g6 g7 z0 z1 z2 z3 z4 z5 z6 z7
          have BI : Hid (Below wo.heap.size wo wi) := BE.out.trans (HOI.out.below (by omega) (fun i e => by omega))
          have INi := Hid.mk (IN.out.only BI.out)
          have FAi := Hid.mk ((HF2.out.only HO.out (HAP.out.1.notV HOW.out) (fun t ht => (HAP.out.2 t ht).notV HOW.out)).only (Only.of_below BI.out : Only (fun _ => False) wo wi) (fun e => e) (fun _ _ e => e))
          clear hr6 rbi HR6 HTK
          go_wp2_with fail
          refine (see_any S mb m B n1 gf cf cs.size H c st (.int .i64 (m : Nat)) (.slice (some ⟨gm, 0, none⟩) cs.size cs.size) v1 s1 (q, U) l.st ck wi INi.out FAi.out HAP.out hm hN ⟨HQM.out.len, hUl⟩ (HQM.out.small hN) HQM.out.lt HQM.out.bd (by omega) (by omega) (by omega)).mono ?_
          rintro e w5 ⟨rfl, v5, hi5, hv5, ho5⟩
          have I5 := Hid.mk hi5
          have V5 := Hid.mk hv5
          have O5 := Hid.mk ho5
          have hzi2 := BI.out.size
          clear hi5 hv5 ho5 g0 g1 g2 g3 g4 g5 g6 g7 z0 z1 z2 z3 z4 z5 z6 z7
          go_wp2
          go_roundw
          case rel =>
            refine ⟨t + 1, n1 + 1, seeF (restF st m) s1 (q, U) ck l.st, v5, by go_num, by omega, ?_, I5.out, by omega, ?_, fun g hg => ?_, ?_⟩
            · have h1 := RR.out
              rw [List.drop_eq_getElem_cons hlt] at h1
              rw [← h1, hckU.out, HU.out, HQ.out]
              rfl
            · have := seeF_n (restF st m) s1 (q, U) ck l.st
              omega
            · rcases V5.out g hg with e | e
              · exact HV1.out g e
              · exact .inr (by omega)
            · refine (HO.out.trans (Only.of_below BI.out : Only (fun _ => False) wo wi) (fun _ _ e => e.elim)).trans O5.out (fun i hi e => ?_)
              rcases e with e | e | e
              · exact .inl e
              · exact .inr (.inl e)
              · rcases HV1.out i e with e | e
                · exact .inr (.inr e)
                · omega
          case measure => simp [intOf]; omega
    · have hd : t = Lq.length := by omega
      have htI : ¬ (t : Int) < (Lq.length : Int) := by omega
      have ER : Hid (s1 = R) := by
        have h1 := RR.out
        rw [hd, List.drop_length] at h1
        exact h1
      go_wp2
      go_end0
      have b2 := BW2.out.size
      refine ⟨rfl, v1, by rw [← ER.out]; exact ⟨IN.out.src, IN.out.list, IN.out.own, IN.out.seen.more (by omega), IN.out.low⟩, fun g hg => (HV1.out g hg).imp id (fun e => by omega), (Only.of_below BW2.out : Only (TnV S mb v) w w2).trans HO.out (fun _ _ e => e)⟩

end Go.Proofs.YtnkgpinadgacgabDoor

namespace Go.Proofs.YtnkgpinadgacgabDoor
open Go.RowKit M SM
theorem eq_pos (a0 a1 a2 a3 b0 b1 b2 b3 : Nat) (w : World) : (Op.equalIn 10000 102 (.agg #[.int .u8 (a0 : Nat), .int .u8 (a1 : Nat), .int .u8 (a2 : Nat), .int .u8 (a3 : Nat)]) (.agg #[.int .u8 (b0 : Nat), .int .u8 (b1 : Nat), .int .u8 (b2 : Nat), .int .u8 (b3 : Nat)])).run Tryd.prog w = .ok (((a0 : Int) == b0) && ((a1 : Int) == b1) && ((a2 : Int) == b2) && ((a3 : Int) == b3)) w := by
  have un := Tryd.underlying5
  have ag := Tryd.isAgg5
  have sz := Tryd.sizeOf5
  rw [show (10000 : Nat) = 9999 + 1 from rfl, Op.equalIn]
  simp only [Sem.run_bind, run_underlying Tryd.underlying102, Result.andThen_ok]
  simp only [Std.Legacy.Range.forIn_eq_forIn_range', Std.Legacy.Range.size, Nat.sub_zero, Nat.add_sub_cancel, Nat.div_one, List.range'_succ, List.range'_zero, List.forIn_cons, List.forIn_nil]
  go_simp
  by_cases h1 : (a0 : Int) = b0 <;> by_cases h2 : (a1 : Int) = b1 <;> by_cases h3 : (a2 : Int) = b2 <;> by_cases h4 : (a3 : Int) = b3 <;> simp [h1, h2, h3, h4]

theorem run_eq_pos {m : Nat} {p q : List Nat} (hm : m ≤ 4) (hp : p.length = m) (hq : q.length = m) (w : World) : (binOp .eql 102 (.agg (psL p).toArray) (.agg (psL q).toArray)).run Tryd.prog w = .ok (.bool (decide (p = q))) w := by
  rw [run_eql_struct]
  have h := eq_pos (p.getD 0 0) (p.getD 1 0) (p.getD 2 0) (p.getD 3 0) (q.getD 0 0) (q.getD 1 0) (q.getD 2 0) (q.getD 3 0) w
  have e : ((((p.getD 0 0 : Nat) : Int) == ((q.getD 0 0 : Nat) : Int)) && (((p.getD 1 0 : Nat) : Int) == ((q.getD 1 0 : Nat) : Int)) && (((p.getD 2 0 : Nat) : Int) == ((q.getD 2 0 : Nat) : Int)) && (((p.getD 3 0 : Nat) : Int) == ((q.getD 3 0 : Nat) : Int))) = decide (p = q) := by
    rw [Bool.eq_iff_iff]
    simp only [Bool.and_eq_true, beq_iff_eq, decide_eq_true_eq]
    constructor
    · rintro ⟨⟨⟨e0, e1⟩, e2⟩, e3⟩
      refine list_ext (d := 0) (n := m) hp hq fun i hi => ?_
      have hc : i = 0 ∨ i = 1 ∨ i = 2 ∨ i = 3 := by omega
      rcases hc with rfl | rfl | rfl | rfl <;> omega
    · rintro rfl
      exact ⟨⟨⟨rfl, rfl⟩, rfl⟩, rfl⟩
  rw [e] at h
  show ((Op.equalIn 10000 102 (.agg (psL p).toArray) (.agg (psL q).toArray)).run Tryd.prog w).andThen _ = _
  unfold psL
  rw [h]
  rfl

/-- Pop, of the search. -/
theorem popS_any (S mb m B n : Nat) (c0 c1 c2 v : Value) (s : Srch) (w : World) (hI : SIn w S mb m B n c0 c1 c2 v s) (hn0 : 0 < s.n) (hn : s.n < 900000000) :
    Calls Tryd.prog 83 #[.pointer (some ⟨S, 4, none⟩)] w fun e w' =>
      e = .returned (.tuple #[.agg (ldL (s.it 0)).toArray, .bool true]) ∧ ∃ v', SIn w' S mb m B n c0 c1 c2 v' (popF s) ∧ (∀ g, v'.ownBlock = some g → v.ownBlock = some g) ∧ Only (TnV S mb v) w w' := by
  rcases hI.list with ⟨_, h0⟩ | ⟨G, cap, rfl, h2⟩
  · omega
  · refine (popL_some S G cap s.n c0 c1 c2 (.map (some mb)) s.it w hI.src h2 hn0 hn).mono ?_
    rintro e w' ⟨rfl, h3, h4, h5⟩
    have hmb : ¬ (mb = S ∨ mb = G) := fun e => by
      rcases e with e | e
      · exact hI.low.2.2.1 e.symm
      · have := hI.own G rfl
        have := hI.low.2.1
        omega
    refine ⟨rfl, _, ⟨h3, .inr ⟨G, cap, rfl, h4⟩, fun g hg => hI.own g (by rw [← Option.some.inj hg]; rfl), hI.seen.block (h5.block mb hI.seen.lt hmb), hI.low.1, hI.low.2.1, hI.low.2.2.1, Nat.le_trans hI.low.2.2.2 h5.size⟩, fun g hg => by rw [← Option.some.inj hg]; rfl, h5.mono (fun i _ e => ?_)⟩
    rcases e with e | e
    · exact .inl e
    · exact .inr (.inr (by rw [e]; rfl))

theorem GroundIn.only {w w' : World} {gm k : Nat} {G C : Nat → Nat} {ro co : Int} {cs : ByteArray} {T : Nat → Prop} (h : GroundIn w gm k G C ro co cs) (ho : Only T w w') (h1 : ¬ T gm) (h2 : ∀ j, j < k → freeB cs j = true → ¬ T (G j)) : GroundIn w' gm k G C ro co cs := by
  refine ⟨h.row.of_block (ho.block gm h.row.lt h1), fun j hj hf i hi => ?_, h.low⟩
  have hl := h.lists j hj hf i hi
  have hs : (ints (mvL ro co cs j))[i]? = some ((ints (mvL ro co cs j))[i]'(by simpa [ints] using hi)) := List.getElem?_eq_getElem _
  rw [hs] at hl ⊢
  exact (ho.cell (p := ⟨G j, i, none⟩) (World.block_lt_of_cell? _ _ hl) (h2 j hj hf)).trans hl

end Go.Proofs.YtnkgpinadgacgabDoor
