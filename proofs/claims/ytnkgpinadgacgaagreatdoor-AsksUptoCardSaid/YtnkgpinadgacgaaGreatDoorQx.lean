/- Df. -/
import Derived.Test.YtnkgpinadgacgaaGreatDoorQw
set_option maxRecDepth 1000000
set_option maxHeartbeats 4000000
namespace Go.Proofs.YtnkgpinadgacgaaGreatDoor
section
open Go.RowKit M
def mvN (ro co : Int) (cs : ByteArray) (c : Nat) : List Nat := (mvL ro co cs c).map Int.toNat
theorem free_nat {cs : ByteArray} {z : Int} (h : freeB cs z = true) : ∃ n : Nat, z = (n : Int) ∧ n < cs.size := by
 by_cases e : 0 <= z ∧ z < cs.size
 . exact ⟨z.toNat, by omega, by omega⟩
 . rw [freeB_out e] at h; cases h
theorem mvN_len (ro co : Int) (cs : ByteArray) (c : Nat) : (mvN ro co cs c).length = (mvL ro co cs c).length := by simp [mvN]
theorem mvN_le (ro co : Int) (cs : ByteArray) (c : Nat) : (mvN ro co cs c).length <= 5 := by rw [mvN_len]; exact mvL_len.1
theorem mvN_at {ro co : Int} {cs : ByteArray} {c r : Nat} (hc : freeB cs c = true) (hr : r < (mvN ro co cs c).length) :
 (ints (mvL ro co cs c))[r]? = some (.int .i64 ((mvN ro co cs c)[r] : Nat)) ∧ (mvN ro co cs c)[r] < cs.size ∧ freeB cs ((mvN ro co cs c)[r] : Nat) = true := by
 have hr2 : r < (mvL ro co cs c).length := by rw [<- mvN_len]; exact hr
 have hf := mvL_free hc (List.getElem_mem hr2); obtain ⟨n, hn, hnl⟩ := free_nat hf; have e : (mvN ro co cs c)[r] = n := by simp [mvN, hn]
 rw [e]; refine ⟨?_, hnl, by rw [<- hn]; exact hf⟩; unfold ints; rw [List.getElem?_map, List.getElem?_eq_getElem hr2, hn]; rfl
def growM (step : Nat -> List Nat) (p : List Nat) (i : Nat) (q : List Nat) (r : Nat) : List (List Nat) := (((step (p.getD i 0)).take r).filter fun c => fitB p (q ++ [c]) i).map fun c => q ++ [c]
def growP (step : Nat -> List Nat) (p : List Nat) (i t : Nat) : List (List Nat) := ((growL step p i).take t).flatMap fun q => growM step p i q (step (p.getD i 0)).length
theorem growM_zero (step : Nat -> List Nat) (p : List Nat) (i : Nat) (q : List Nat) : growM step p i q 0 = [] := by simp [growM]
theorem growP_zero (step : Nat -> List Nat) (p : List Nat) (i : Nat) : growP step p i 0 = [] := by simp [growP]
theorem growM_in {step : Nat -> List Nat} {p : List Nat} {i : Nat} {q : List Nat} {r : Nat} (hr : r < (step (p.getD i 0)).length) (h : fitB p (q ++ [(step (p.getD i 0))[r]]) i = true) : growM step p i q (r + 1) = growM step p i q r ++ [q ++ [(step (p.getD i 0))[r]]] := by
 unfold growM; rw [List.take_succ_eq_append_getElem hr, List.filter_append, List.map_append, List.filter_cons, h]; simp
theorem growM_out {step : Nat -> List Nat} {p : List Nat} {i : Nat} {q : List Nat} {r : Nat} (hr : r < (step (p.getD i 0)).length) (h : fitB p (q ++ [(step (p.getD i 0))[r]]) i = false) : growM step p i q (r + 1) = growM step p i q r := by
 unfold growM; rw [List.take_succ_eq_append_getElem hr, List.filter_append, List.map_append, List.filter_cons, h]; simp
theorem growP_next {step : Nat -> List Nat} {p : List Nat} {i t : Nat} (ht : t < (growL step p i).length) : growP step p i (t + 1) = growP step p i t ++ growM step p i (growL step p i)[t] (step (p.getD i 0)).length := by
 unfold growP; rw [List.take_succ_eq_append_getElem ht, List.flatMap_append]; simp
theorem growP_all {step : Nat -> List Nat} {p : List Nat} {i t : Nat} (ht : t = (growL step p i).length) : growP step p i t = growL step p (i + 1) := by
 subst ht; unfold growP growM; rw [List.take_length]; simp [growL]
theorem growM_le {step : Nat -> List Nat} {p : List Nat} {i : Nat} {q : List Nat} {r : Nat} (h : ∀ c, (step c).length <= 5) : (growM step p i q r).length <= 5 := by
 unfold growM; rw [List.length_map]; refine Nat.le_trans (List.length_filter_le _ _) ?_; rw [List.length_take]; have := h (p.getD i 0); omega
theorem growP_le {step : Nat -> List Nat} {p : List Nat} {i t : Nat} (h : ∀ c, (step c).length <= 5) (hi : i < 4) : (growP step p i t).length <= 625 := by
 have h1 : growL step p (i + 1) = growP step p i t ++ ((growL step p i).drop t).flatMap fun q => growM step p i q (step (p.getD i 0)).length := by
  rw [<- growP_all rfl]; unfold growP; rw [List.take_length, <- List.flatMap_append, List.take_append_drop]
 have h2 := growL_len (p := p) h (i + 1); have h3 : (growP step p i t).length <= (growL step p (i + 1)).length := by rw [h1, List.length_append]; omega
 have h4 : 5 ^ (i + 1) <= 5 ^ 4 := Nat.pow_le_pow_right (by omega) (by omega); omega
theorem growL_at {step : Nat -> List Nat} {p : List Nat} {i t : Nat} (ht : t < (growL step p i).length) : (growL step p i)[t].length = i := (growL_mem.1 (List.getElem_mem ht)).1
theorem pad_zero (q : List Nat) (o : Nat) : (q ++ [0]).getD o 0 = q.getD o 0 := by
 simp only [zg, List.getElem?_append]; by_cases e : o < q.length
 . rw [if_pos e]
 . rw [if_neg e, List.getElem?_eq_none (show q.length <= o by omega)]; by_cases e2 : o - q.length = 0
   . rw [e2]; rfl
   . rw [List.getElem?_eq_none (by simp; omega)]
theorem pad_set {w : World} {T i c x : Nat} {q : List Nat} (hqi : q.length = i) (hi : i < 4) (h : ∀ o, o < 4 -> w.cell? ⟨T, o, none⟩ = some (.int .u8 ((q ++ [x]).getD o 0 : Nat))) :
 ∀ o, o < 4 -> (w.setCell ⟨T, i, none⟩ (.int .u8 (c : Int))).cell? ⟨T, o, none⟩ = some (.int .u8 ((q ++ [c]).getD o 0 : Nat)) := by
 intro o ho; by_cases e : o = i
 . subst e; rw [World.cell?_setCell_same' _ _ _ (by rw [h o ho]; rfl), <- hqi, getD_app_new]
 . rw [World.cell?_setCell_other _ _ _ _ (by intro hh; cases hh; exact e rfl), h o ho]; have e2 : ∀ y : Nat, (q ++ [y]).getD o 0 = q.getD o 0 := fun y => by
    simp only [zg, List.getElem?_append]; by_cases e3 : o < q.length
    . rw [if_pos e3]
    . rw [if_neg e3, List.getElem?_eq_none (show q.length <= o by omega), List.getElem?_eq_none (by simp; omega)]
   rw [e2, e2]
theorem jnexts_any (m gm : Nat) (G C : Nat -> Nat) (ro co : Int) (cs : ByteArray) (p : List Nat) (w : World) (hm : m <= 4) (hs : cs.size <= 36) (hp : ∀ k, k < m -> p.getD k 0 < cs.size ∧ freeB cs (p.getD k 0 : Nat) = true) (hg : GroundIn w gm cs.size G C ro co cs) :
 Calls Tryz.prog 93 #[.agg #[.int .i64 m, .slice (some ⟨gm, 0, none⟩) cs.size cs.size], posV p] w fun e w' => ∃ v, e = .returned v ∧ OwnP w' w.heap.size v (growL (mvN ro co cs) p m) ∧ Below w.heap.size w w' := by
 obtain ⟨a0, ha0⟩ : ∃ v, v = p.getD 0 0 := ⟨_, rfl⟩
 obtain ⟨a1, ha1⟩ : ∃ v, v = p.getD 1 0 := ⟨_, rfl⟩
 obtain ⟨a2, ha2⟩ : ∃ v, v = p.getD 2 0 := ⟨_, rfl⟩
 obtain ⟨a3, ha3⟩ : ∃ v, v = p.getD 3 0 := ⟨_, rfl⟩
 unfold posV; rw [<- ha0, <- ha1, <- ha2, <- ha3]; have HA := zx (And.intro ha0 (And.intro ha1 (And.intro ha2 ha3))); have HG := zx hg; have HP := zx hp; have hgm : gm < w.heap.size := hg.row.lt; obtain ⟨S, hS⟩ : ∃ S, S = mvN ro co cs := ⟨_, rfl⟩
 rw [<- hS]; have HS := zx hS; have HS5 : Hid (∀ c, (S c).length <= 5) := fun c => by rw [HS.out]; exact mvN_le _ _ _ _
 clear ha0 ha1 ha2 ha3 hg hp hS; go_enter Tryz.func93, Tryz.ntmps93; go_wp2; have B0 : Hid (Below w.heap.size w (((w.alloc (.cells #[.int .i64 m, .slice (some ⟨gm, 0, none⟩) cs.size cs.size] 114)).alloc (.cells #[.int .u8 a0, .int .u8 a1, .int .u8 a2, .int .u8 a3] 103)).alloc (.cells #[.int .u8 0, .int .u8 0, .int .u8 0, .int .u8 0] 103))) := (((Below.refl _ w).alloc zl _).alloc (by simp) _).alloc (by simp; omega) _
 have x0 : ∀ o, (((w.alloc (.cells #[.int .i64 m, .slice (some ⟨gm, 0, none⟩) cs.size cs.size] 114)).alloc (.cells #[.int .u8 a0, .int .u8 a1, .int .u8 a2, .int .u8 a3] 103)).alloc (.cells #[.int .u8 0, .int .u8 0, .int .u8 0, .int .u8 0] 103)).cell? ⟨w.heap.size, o, none⟩ = #[Value.int .i64 m, .slice (some ⟨gm, 0, none⟩) cs.size cs.size][o]? := by
  intro o; go_simp
 have x1 : ∀ o, (((w.alloc (.cells #[.int .i64 m, .slice (some ⟨gm, 0, none⟩) cs.size cs.size] 114)).alloc (.cells #[.int .u8 a0, .int .u8 a1, .int .u8 a2, .int .u8 a3] 103)).alloc (.cells #[.int .u8 0, .int .u8 0, .int .u8 0, .int .u8 0] 103)).cell? ⟨w.heap.size + 1, o, none⟩ = #[Value.int .u8 a0, .int .u8 a1, .int .u8 a2, .int .u8 a3][o]? := by
  intro o; go_simp
 have L0 : Hid (OwnP (((w.alloc (.cells #[.int .i64 m, .slice (some ⟨gm, 0, none⟩) cs.size cs.size] 114)).alloc (.cells #[.int .u8 a0, .int .u8 a1, .int .u8 a2, .int .u8 a3] 103)).alloc (.cells #[.int .u8 0, .int .u8 0, .int .u8 0, .int .u8 0] 103)) (w.heap.size + 2) (.slice (some ⟨w.heap.size + 1 + 1, 0, none⟩) 1 1) [[]]) := own_oneP _ [] _ (by simp)
 have hz : (((w.alloc (.cells #[.int .i64 m, .slice (some ⟨gm, 0, none⟩) cs.size cs.size] 114)).alloc (.cells #[.int .u8 a0, .int .u8 a1, .int .u8 a2, .int .u8 a3] 103)).alloc (.cells #[.int .u8 0, .int .u8 0, .int .u8 0, .int .u8 0] 103)).heap.size = w.heap.size + 3 := by simp
 generalize (((w.alloc (.cells #[.int .i64 m, .slice (some ⟨gm, 0, none⟩) cs.size cs.size] 114)).alloc (.cells #[.int .u8 a0, .int .u8 a1, .int .u8 a2, .int .u8 a3] 103)).alloc (.cells #[.int .u8 0, .int .u8 0, .int .u8 0, .int .u8 0] 103)) = w0 at *; have X0 := zx x0; have X1 : Hid (∀ k, k < 4 -> w0.cell? ⟨w.heap.size + 1, k, none⟩ = some (.int .u8 (p.getD k 0 : Nat))) := fun k hk => pos_cell (q := p) (by intro o; rw [x1, HA.out.1, HA.out.2.1, HA.out.2.2.1, HA.out.2.2.2]) hk
 have HZ := zx hz; clear x0 x1 hz; go_loopw [5, 16] (fun v5 v16 wr => ∃ i : Nat, i <= m ∧ v16 = .int .i64 i ∧ OwnP wr (w.heap.size + 2) v5 (growL S p i) ∧ Below (w.heap.size + 2) w0 wr) (fun _ v16 _ => m - (intOf v16).toNat)
 case atStart => exact ⟨0, Nat.zero_le _, rfl, L0.out, Below.refl _ _⟩
 case round =>
  obtain ⟨w1, rfl⟩ : ∃ q, q = wr := ⟨_, rfl⟩
  obtain ⟨i, hi, rfl, hl, hbr⟩ := hrel; have HBR := zx hbr; have hzr := hbr.size; have hz := HZ.out; by_cases hlt : i < m
  . obtain ⟨L, hL⟩ : ∃ L, L = growL S p i := ⟨_, rfl⟩
    rw [<- hL] at hl; obtain ⟨a5, cap5, rfl, ha5, hcap5⟩ := hl.form; have HL := zx hl; have hLen : L.length <= 625 := by
     have h1 := growL_len (p := p) HS5.out i; have h2 : 5 ^ i <= 5 ^ 4 := Nat.pow_le_pow_right (by omega) (by omega); rw [hL]; omega
    have HLq := zx hL; have HA5 := zx ha5; obtain ⟨j, hj⟩ : ∃ j, j = p.getD i 0 := ⟨_, rfl⟩
    have hjp := HP.out i hlt; rw [<- hj] at hjp; have HJ := zx hj; obtain ⟨hjs, hjf⟩ := hjp; clear hl hbr hL ha5 hj; go_wp2; go_loopw [7, 21] (fun v7 v21 wr => ∃ (t : Nat) (V : Value), t <= L.length ∧ V = v7 ∧ v21 = .int .i64 t ∧ OwnP wr w1.heap.size V (growP S p i t) ∧ Below w1.heap.size w1 wr) (fun _ v21 _ => L.length - (intOf v21).toNat)
    case atStart => exact ⟨0, _, Nat.zero_le _, rfl, rfl, by rw [growP_zero]; exact OwnP.nil _ _, Below.refl _ _⟩
    case round =>
     obtain ⟨w2, rfl⟩ : ∃ q, q = wr := ⟨_, rfl⟩
     obtain ⟨t, v7, ht, rfl, rfl, hf7, hbq⟩ := hrel; have HBQ := zx hbq; have hzq := hbq.size; have HF := zx hf7; by_cases htl : t < L.length
     . obtain ⟨g5, rfl⟩ := HA5.out (by omega); obtain ⟨c0, c1, c2, c3⟩ := (HL.out.below hbq).cells htl; obtain ⟨q, hq⟩ : ∃ q, q = L[t] := ⟨_, rfl⟩
       rw [<- hq] at c0 c1 c2 c3; have hqi : q.length = i := by
        have hLL := HLq.out; subst hLL; rw [hq]; exact growL_at htl
       have HQ := zx hq; obtain ⟨q0, hq0⟩ : ∃ v, v = q.getD 0 0 := ⟨_, rfl⟩
       obtain ⟨q1, hq1⟩ : ∃ v, v = q.getD 1 0 := ⟨_, rfl⟩
       obtain ⟨q2, hq2⟩ : ∃ v, v = q.getD 2 0 := ⟨_, rfl⟩
       obtain ⟨q3, hq3⟩ : ∃ v, v = q.getD 3 0 := ⟨_, rfl⟩
       rw [<- hq0] at c0; rw [<- hq1] at c1; rw [<- hq2] at c2; rw [<- hq3] at c3; have HQQ := zx (And.intro hq0 (And.intro hq1 (And.intro hq2 hq3))); have HQI := zx hqi; clear hq hq0 hq1 hq2 hq3 hf7 hbq hqi; go_upto_region 9 with fail; clear c0 c1 c2 c3; have BT : Hid (Below w1.heap.size w1 (w2.alloc (.cells #[.int .u8 q0, .int .u8 q1, .int .u8 q2, .int .u8 q3] 103))) := HBQ.out.alloc (by omega) _; have BW := zx (HBR.out.trans (BT.out.mono (by omega))); have BW2 := zx (B0.out.trans (BW.out.mono (by omega)))
       have h0 := (BW.out.cell (p := ⟨w.heap.size, 1, none⟩) (by show w.heap.size < w.heap.size + 2; omega)).trans (X0.out 1); have hj0 := (BW.out.cell (p := ⟨w.heap.size + 1, i, none⟩) (by show w.heap.size + 1 < w.heap.size + 2; omega)).trans (X1.out i (by omega)); rw [<- HJ.out] at hj0; have GT := zx (HG.out.below BW2.out); have hm0 := GT.out.row.cell (i := j) hjs; rw [show gndV ro co cs G C cs.size j = .slice (some ⟨G j, 0, none⟩) (S j).length (C j) by unfold gndV; rw [if_pos ⟨hjs, hjf⟩, HS.out, mvN_len]] at hm0
       have tc : ∀ o, (w2.alloc (.cells #[.int .u8 q0, .int .u8 q1, .int .u8 q2, .int .u8 q3] 103)).cell? ⟨w2.heap.size, o, none⟩ = #[Value.int .u8 q0, .int .u8 q1, .int .u8 q2, .int .u8 q3][o]? := by
        intro o; go_simp
       have tf : ∀ o, (w2.alloc (.cells #[.int .u8 q0, .int .u8 q1, .int .u8 q2, .int .u8 q3] 103)).frozen? ⟨w2.heap.size, o, none⟩ = false := by
        intro o; go_simp
       have hzT : (w2.alloc (.cells #[.int .u8 q0, .int .u8 q1, .int .u8 q2, .int .u8 q3] 103)).heap.size = w2.heap.size + 1 := by simp
       have OF : Hid (OwnP (w2.alloc (.cells #[.int .u8 q0, .int .u8 q1, .int .u8 q2, .int .u8 q3] 103)) w1.heap.size v7 (growP S p i t)) := HF.out.below ((Below.refl _ _).alloc zl _); have hvT : v7.ownBlock ≠ some w2.heap.size := fun hh => by have := (HF.out.lt _ hh).2; omega
       generalize (w2.alloc (.cells #[.int .u8 q0, .int .u8 q1, .int .u8 q2, .int .u8 q3] 103)) = w3 at *; obtain ⟨T, hT⟩ : ∃ T, T = w2.heap.size := ⟨_, rfl⟩
       rw [<- hT] at tc tf hzT hvT hzq ⊢; have TC : Hid (∀ o, o < 4 -> w3.cell? ⟨T, o, none⟩ = some (.int .u8 ((q ++ [0]).getD o 0 : Nat))) := fun o ho => by
        rw [pos_cell (q := q) (by intro o; rw [tc, HQQ.out.1, HQQ.out.2.1, HQQ.out.2.2.1, HQQ.out.2.2.2]) ho]; rw [pad_zero]
       have TF := zx tf; have HVT := zx hvT; have hi4 : i < 4 := by omega
       have hi4I : (i : Int) < 4 := by omega
       have hjsI : (j : Int) < (cs.size : Int) := by omega
       clear tc tf hvT hT; go_quiet (fail); have D3 := below_drewN (Below.refl w3.heap.size w3) nq; have OFq := zx (OF.out.below D3); have BWq : Hid (Below w1.heap.size w1 (w3.drewN nq)) := below_drewN BT.out nq; have TCq : Hid (∀ o, o < 4 -> (w3.drewN nq).cell? ⟨T, o, none⟩ = some (.int .u8 ((q ++ [0]).getD o 0 : Nat))) := fun o ho => zj D3 (TC.out o ho)
       have TFq : Hid (∀ o, (w3.drewN nq).frozen? ⟨T, o, none⟩ = false) := fun o => (D3.frozen (p := ⟨T, o, none⟩) (by show T < w3.heap.size; omega)).trans (TF.out o)
       have hszq := D3.size; clear D3; go_wp2; go_loopw [7, 33] (fun v7 v33 wr => ∃ (r x : Nat) (V : Value), r <= (S j).length ∧ V = v7 ∧ v33 = .int .i64 r ∧ OwnP wr w1.heap.size V (growP S p i t ++ growM S p i q r) ∧ V.ownBlock ≠ some T ∧ (∀ o, o < 4 -> wr.cell? ⟨T, o, none⟩ = some (.int .u8 ((q ++ [x]).getD o 0 : Nat))) ∧ (∀ o, wr.frozen? ⟨T, o, none⟩ = false) ∧ Below w1.heap.size w1 wr) (fun _ v33 _ => (S j).length - (intOf v33).toNat)
       case atStart => exact ⟨0, 0, _, Nat.zero_le _, rfl, rfl, by rw [growM_zero, List.append_nil]; exact OFq.out, HVT.out, TCq.out, TFq.out, BWq.out⟩
       case round =>
        obtain ⟨w4, rfl⟩ : ∃ q, q = wr := ⟨_, rfl⟩
        obtain ⟨r, x, v7, hr, rfl, rfl, hf7, hv7, htc, htf, hb4⟩ := hrel; have HF4 := zx hf7; have HV4 := zx hv7; have HTC := zx htc; have HTF := zx htf; have HB4 := zx hb4; have hz4 := hb4.size; have BF4 := zx (HBR.out.trans (hb4.mono (by omega))); clear hf7 hv7 hb4; have hSl := HS5.out j; by_cases hrl : r < (S j).length
        . obtain ⟨c, hc⟩ : ∃ c, c = (S j)[r] := ⟨_, rfl⟩
          have HC := zx hc; have BWW := zx (B0.out.trans (BF4.out.mono (by omega))); have hcc : w4.cell? ⟨G j, r, none⟩ = some (.int .i64 c) ∧ c < cs.size := by
           have hSS := HS.out; subst hSS; obtain ⟨e1, e2, _⟩ := mvN_at hjf hrl; rw [<- hc] at e1 e2; rw [(HG.out.below BWW.out).lists j hjs hjf r (by rw [<- mvN_len]; exact hrl)]; exact ⟨e1, e2⟩
          obtain ⟨d0, hcs⟩ := hcc; have hw : IntKind.u8.wrap (c : Int) = (c : Int) := u8_wrap (by omega) (by omega); have ti := htc i hi4; have tif := htf i; have NT : Hid (∀ o, o < 4 -> (w4.setCell ⟨T, i, none⟩ (.int .u8 (c : Int))).cell? ⟨T, o, none⟩ = some (.int .u8 ((q ++ [c]).getD o 0 : Nat))) := pad_set HQI.out hi4 htc; have NF : Hid (∀ o, (w4.setCell ⟨T, i, none⟩ (.int .u8 (c : Int))).frozen? ⟨T, o, none⟩ = false) := fun o => by rw [World.frozen?_setCell]; exact HTF.out o
          have NV : Hid (OwnP (w4.setCell ⟨T, i, none⟩ (.int .u8 (c : Int))) w1.heap.size v7 (growP S p i t ++ growM S p i q r)) := own_keep HF4.out fun g _ hg hv => ((Only.refl (fun k => k = T) w4).setCell (p := ⟨T, i, none⟩) (fun _ => rfl) _).block g hg (fun e => HV4.out (by rw [hv, e]))
          have NB : Hid (Below w1.heap.size w1 (w4.setCell ⟨T, i, none⟩ (.int .u8 (c : Int)))) := HB4.out.setCell (by show w1.heap.size <= T; omega) _; have hTl : T < w4.heap.size := World.block_lt_of_cell? _ _ ti; have hTl2 : T < (w4.setCell ⟨T, i, none⟩ (.int .u8 (c : Int))).heap.size := by simpa [World.setCell] using hTl
          clear htc htf hc; go_upto_region 13 with fail; generalize w4.setCell ⟨T, i, none⟩ (.int .u8 (c : Int)) = w5 at *; clear ti tif d0; have BF5 := zx (HBR.out.trans (NB.out.mono (by omega))); obtain ⟨b0, hb0⟩ : ∃ v, v = (q ++ [c]).getD 0 0 := ⟨_, rfl⟩
          obtain ⟨b1, hb1⟩ : ∃ v, v = (q ++ [c]).getD 1 0 := ⟨_, rfl⟩
          obtain ⟨b2, hb2⟩ : ∃ v, v = (q ++ [c]).getD 2 0 := ⟨_, rfl⟩
          obtain ⟨b3, hb3⟩ : ∃ v, v = (q ++ [c]).getD 3 0 := ⟨_, rfl⟩
          have t0 := NT.out 0 (by omega); have t1 := NT.out 1 (by omega); have t2 := NT.out 2 (by omega); have t3 := NT.out 3 (by omega); rw [<- hb0] at t0; rw [<- hb1] at t1; rw [<- hb2] at t2; rw [<- hb3] at t3; have hp0 := (BF5.out.cell (p := ⟨w.heap.size + 1, 0, none⟩) (by show w.heap.size + 1 < w.heap.size + 2; omega)).trans (X1.out 0 (by omega)); have hp1 := (BF5.out.cell (p := ⟨w.heap.size + 1, 1, none⟩) (by show w.heap.size + 1 < w.heap.size + 2; omega)).trans (X1.out 1 (by omega))
          have hp2 := (BF5.out.cell (p := ⟨w.heap.size + 1, 2, none⟩) (by show w.heap.size + 1 < w.heap.size + 2; omega)).trans (X1.out 2 (by omega)); have hp3 := (BF5.out.cell (p := ⟨w.heap.size + 1, 3, none⟩) (by show w.heap.size + 1 < w.heap.size + 2; omega)).trans (X1.out 3 (by omega)); rw [<- HA.out.1] at hp0; rw [<- HA.out.2.1] at hp1; rw [<- HA.out.2.2.1] at hp2; rw [<- HA.out.2.2.2] at hp3
          have FA : Hid (∀ u : World, Calls Tryz.prog 104 #[.agg #[.int .u8 a0, .int .u8 a1, .int .u8 a2, .int .u8 a3], .agg #[.int .u8 b0, .int .u8 b1, .int .u8 b2, .int .u8 b3], .int .i64 i] u fun e w' => e = .returned (.bool (fitB p (q ++ [c]) i)) ∧ Below u.heap.size u w') := fun u => by
           have h := fits_any p (q ++ [c]) i u hi4; unfold posV at h; rw [<- hb0, <- hb1, <- hb2, <- hb3, <- HA.out.1, <- HA.out.2.1, <- HA.out.2.2.1, <- HA.out.2.2.2] at h; exact h
          have HBB := zx (And.intro hb0 (And.intro hb1 (And.intro hb2 hb3))); clear hb0 hb1 hb2 hb3; go_wp2_with fail; refine (FA.out _).mono ?_; rintro e w6 ⟨rfl, hb6⟩; have T0 := zj hb6 t0; have T1 := zj hb6 t1; have T2 := zj hb6 t2; have T3 := zj hb6 t3; have N6 : Hid (∀ o, o < 4 -> w6.cell? ⟨T, o, none⟩ = some (.int .u8 ((q ++ [c]).getD o 0 : Nat))) := fun o ho => zj hb6 (NT.out o ho)
          have F6 : Hid (∀ o, w6.frozen? ⟨T, o, none⟩ = false) := fun o => (hb6.frozen (p := ⟨T, o, none⟩) hTl2).trans (NF.out o)
          have V6 := zx (NV.out.below hb6); have B6 := zx (NB.out.trans (hb6.mono NB.out.size)); have hz6 := hb6.size; have hTl6 : T < w6.heap.size := by omega
          clear t0 t1 t2 t3 hp0 hp1 hp2 hp3 hb6; by_cases hfit : fitB p (q ++ [c]) i = true
          . rw [hfit]; have FL : Hid ((growP S p i t ++ growM S p i q r).length <= 100000000) := by
             have h1 := growP_le (p := p) (t := t) HS5.out hi4; have h2 := growM_le (p := p) (i := i) (q := q) (r := r) HS5.out; unfold Hid; rw [List.length_append]; omega
            have hgm2 : Hid (growP S p i t ++ growM S p i q (r + 1) = (growP S p i t ++ growM S p i q r) ++ [q ++ [c]]) := by
             have hc2 := HC.out; have hj2 := HJ.out; subst hj2; unfold Hid; rw [growM_in hrl (by rw [<- hc2]; exact hfit), <- List.append_assoc, <- hc2]
            go_wp2_with (at_builtin; go_must (refine wpList_pushP rfl _ _ rfl w1.heap.size v7 (growP S p i t ++ growM S p i q r) (q ++ [c]) _ _ _ _ HBB.out.1 HBB.out.2.1 HBB.out.2.2.1 HBB.out.2.2.2 rfl V6.out (by exact B6.out.size) _ rfl FL.out ?_; intro g9 c9 w9 ho9 hon9 hg9))
            go_roundw; case rel =>
             have hTn : ¬ v7.ownBlock = some T := HV4.out; have el : (growP S p i t ++ growM S p i q r ++ [q ++ [c]]).length = (growP S p i t).length + ((growM S p i q r).length + 1) := by simp
             rw [el] at ho9; refine ⟨r + 1, c, _, by omega, rfl, by go_num, by rw [hgm2.out]; exact ho9, ?_, fun o ho => (hon9.cell (p := ⟨T, o, none⟩) hTl6 hTn).trans (N6.out o ho), fun o => (hon9.frozen (p := ⟨T, o, none⟩) hTl6 hTn).trans (F6.out o), ?_⟩
             . intro hh; have e : g9 = T := Option.some.inj hh; rcases hg9 with h | h
               . exact hTn (by rw [h, e])
               . omega
             . refine B6.out.trans ⟨hon9.os, hon9.tape, hon9.output, hon9.size, fun k hk => hon9.block k (by have := B6.out.size; omega) fun hh => ?_⟩; have := (V6.out.lt _ hh).1; omega
            case measure => simp [intOf]; omega
          . have hff : fitB p (q ++ [c]) i = false := by simpa using hfit
            rw [hff]; have hgm2 : Hid (growM S p i q (r + 1) = growM S p i q r) := by
             have hc2 := HC.out; have hj2 := HJ.out; subst hj2; exact growM_out hrl (by rw [<- hc2]; exact hff)
            go_wp2; go_roundw; case rel => exact ⟨r + 1, c, _, by omega, rfl, by go_num, by rw [hgm2.out]; exact V6.out, HV4.out, N6.out, F6.out, B6.out⟩
            case measure => simp [intOf]; omega
        . have hd : r = (S j).length := by omega
          have HF5 : Hid (OwnP w4 w1.heap.size v7 (growP S p i (t + 1))) := by
           have h := HF4.out; have hLL := HLq.out; subst hLL; rw [growP_next htl, <- HQ.out, <- HJ.out, <- hd]; exact h
          clear htc htf; go_wp2; go_roundw; case rel => exact ⟨t + 1, _, by omega, rfl, by go_num, HF5.out, HB4.out⟩
          case measure => simp [intOf]; omega
     . have hd : t = L.length := by omega
       have HFN : Hid (OwnP w2 w1.heap.size v7 (growL S p (i + 1))) := by
        rw [<- growP_all (t := t) (by rw [hd, HLq.out])]; exact HF.out
       go_wp2; go_roundw; case rel => exact ⟨i + 1, by omega, by go_num, HFN.out.le (by omega), HBR.out.trans (HBQ.out.mono (by omega))⟩
       case measure => simp [intOf]; omega
  . have hd : i = m := by omega
    subst hd; go_wp2; go_ret; exact ⟨_, rfl, OwnP.le hl (by omega), B0.out.trans (HBR.out.mono (by omega))⟩
end
end Go.Proofs.YtnkgpinadgacgaaGreatDoor
