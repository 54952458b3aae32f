/- Several texts in one: Hr, Hs, Op. -/
import Derived.Test.YtnkgpinadgacgaaDoorQw
import Derived.Test.YtnkgpinadgacgaaDoorQj
import Derived.Test.YtnkgpinadgacgaaDoorQy
import Derived.Test.YtnkgpinadgacgaaDoorQx
import Derived.Test.YtnkgpinadgacgaaDoorBa
import Derived.ProofKit
import Derived.SizedLaws
import Derived.Deep.SlicePairs
import Derived.Deep.Fields
import Derived.Lib.SmallJoins
namespace Go.Proofs.YtnkgpinadgacgaaDoor
open Go.RowKit M SM
/-- A plan in blocks between two marks. -/
structure PlanB (w : World) (lo hi : Nat) (v : Value) (Ls : List (List Nat)) : Prop where
  form : ∃ (g c : Nat) (H C : Nat → Nat), v = .slice (some ⟨g, 0, none⟩) Ls.length c ∧ lo ≤ g ∧ g < hi ∧ (∀ t, t < Ls.length → w.cell? ⟨g, t, none⟩ = some (.slice (some ⟨H t, 0, none⟩) (Ls.getD t []).length (C t)) ∧ lo ≤ H t ∧ H t < hi ∧ ∀ j, j < (Ls.getD t []).length → w.cell? ⟨H t, j, none⟩ = some (.int .i64 ((Ls.getD t []).getD j 0 : Nat)))
  top : hi ≤ w.heap.size

theorem PlanB.only {w w' : World} {lo hi : Nat} {v : Value} {Ls : List (List Nat)} {S : Nat → Prop} (h : PlanB w lo hi v Ls) (ho : Only S w w') (hS : ∀ k, lo ≤ k → k < hi → ¬ S k) : PlanB w' lo hi v Ls := by
  have ht := h.top
  have hz := ho.size
  obtain ⟨g, c, H, C, h1, h2, h3, h4⟩ := h.form
  refine ⟨⟨g, c, H, C, h1, h2, h3, fun t htt => ?_⟩, by omega⟩
  obtain ⟨a1, a2, a3, a4⟩ := h4 t htt
  exact ⟨(ho.cell (p := ⟨g, t, none⟩) (by show g < _; omega) (hS g h2 h3)).trans a1, a2, a3, fun j hj => (ho.cell (p := ⟨H t, j, none⟩) (by show H t < _; omega) (hS _ a2 a3)).trans (a4 j hj)⟩

theorem PlanB.below {w w' : World} {lo hi : Nat} {v : Value} {Ls : List (List Nat)} (h : PlanB w lo hi v Ls) (hb : Below w.heap.size w w') : PlanB w' lo hi v Ls :=
  h.only (Only.of_below hb : Only (fun _ => False) w w') (fun _ _ _ e => e)

theorem PlanB.planQ {w : World} {lo hi : Nat} {v : Value} {Ls : List (List Nat)} (h : PlanB w lo hi v Ls) : PlanQ w v Ls := by
  have ht := h.top
  obtain ⟨g, c, H, C, h1, h2, h3, h4⟩ := h.form
  refine ⟨_, _, h1, fun _ => ⟨g, rfl, fun t htt => ?_⟩⟩
  obtain ⟨a1, a2, a3, a4⟩ := h4 t htt
  exact ⟨_, a1, ⟨⟨_, _, rfl, fun _ => ⟨H t, rfl, a4⟩⟩, fun b hb => by cases hb; show H t < _; omega⟩⟩

/-- The lists that were copied so far. -/
def colL (Ls : List (List Nat)) (H : Nat → Nat) (i : Nat) : List Value := (List.range i).map fun t => Value.slice (some ⟨H t, 0, none⟩) (Ls.getD t []).length (Ls.getD t []).length

theorem colL_next {Ls : List (List Nat)} {H : Nat → Nat} {i b n : Nat} (hn : n = (Ls.getD i []).length) : colL Ls H i ++ [Value.slice (some ⟨b, 0, none⟩) n n] = colL Ls (fun t => if t = i then b else H t) (i + 1) := by
  subst hn
  unfold colL
  rw [List.range_succ, List.map_append]
  congr 1
  · refine List.map_congr_left fun t ht => ?_
    have := List.mem_range.1 ht
    show _ = Value.slice (some ⟨if t = i then b else H t, 0, none⟩) _ _
    rw [if_neg (by omega)]
  · simp

structure CopIn (w wr : World) (Ls : List (List Nat)) (i : Nat) (V : Value) (H : Nat → Nat) : Prop where
  own : wr.ownsRow w.heap.size 26 1 V i (colL Ls H i)
  cells : ∀ t, t < i → w.heap.size ≤ H t ∧ H t < wr.heap.size ∧ V.ownBlock ≠ some (H t) ∧ ∀ j, j < (Ls.getD t []).length → wr.cell? ⟨H t, j, none⟩ = some (.int .i64 ((Ls.getD t []).getD j 0 : Nat))
  below : Below w.heap.size w wr

set_option maxRecDepth 100000 in
set_option maxHeartbeats 4000000 in
theorem copied_any (lo hi g : Nat) (Ls : List (List Nat)) (hh n c : Nat → Nat) (w : World) (hK : Ls.length ≤ 1000) (hK0 : 0 < Ls.length) (hL : ∀ t, t < Ls.length → 0 < (Ls.getD t []).length ∧ (Ls.getD t []).length ≤ 1000000)
    (R : Rows w lo hi g Ls.length hh n c (fun t => qi (Ls.getD t []))) (hn : ∀ t, t < Ls.length → n t = (Ls.getD t []).length) :
    Calls Tryd.prog 40 #[.slice (some ⟨g, 0, none⟩) Ls.length Ls.length] w fun e w' => ∃ v, e = .returned v ∧ PlanB w' w.heap.size w'.heap.size v Ls ∧ Below w.heap.size w w' := by
  have HR := Hid.mk R
  have HN := Hid.mk hn
  have HL := Hid.mk hL
  have PC : Hid (∀ t, t < Ls.length → ∀ j, j < (Ls.getD t []).length → w.cell? ⟨hh t, j, none⟩ = some (.int .i64 ((Ls.getD t []).getD j 0 : Nat))) := fun t ht j hj => by
    have h := (R.own t ht).cell (i := j) (by simp only [qi, List.length_map]; exact hj)
    rw [h, qi_getD hj]
  obtain ⟨N, hN⟩ : ∃ N, N = Ls.length := ⟨_, rfl⟩
  have HNN := Hid.mk hN
  rw [← hN] at HR HN HL PC hK hK0 ⊢
  clear R hn hL hN
  go_enter Tryd.func40, Tryd.ntmps40
  go_wp2
  go_loopw [3, 4] (fun v3 v4 wr => ∃ (i : Nat) (V : Value) (H : Nat → Nat), V = v3 ∧ v4 = .int .i64 i ∧ i ≤ N ∧ CopIn w wr Ls i V H) (fun _ v4 _ => N - (intOf v4).toNat)
  case atStart => exact ⟨0, _, fun _ => 0, rfl, rfl, Nat.zero_le _, ⟨⟨rfl, .inl ⟨rfl, rfl⟩⟩, fun t h => absurd h (Nat.not_lt_zero t), Below.refl _ _⟩⟩
  case round =>
    obtain ⟨w1, rfl⟩ : ∃ q, q = wr := ⟨_, rfl⟩
    obtain ⟨i, V, H, rfl, rfl, hi, hcop⟩ := hrel
    have CP := Hid.mk hcop
    have hz1 := hcop.below.size
    by_cases hlt : i < N
    · have d0 := cell_later hcop.below (HR.out.row.cell hlt)
      have hiI : (i : Int) < (N : Int) := by omega
      have hni := HN.out i hlt
      have hli := HL.out i hlt
      rw [← hni] at hli
      obtain ⟨q, hq⟩ : ∃ q, q = n i := ⟨_, rfl⟩
      have HQ : Hid (q = (Ls.getD i []).length) := hq.trans hni
      rw [← hq] at d0 hli
      have SRC : Hid (∀ j, j < q → w1.cell? ⟨hh i, j, none⟩ = some (.int .i64 ((Ls.getD i []).getD j 0 : Nat))) := fun j hj => cell_later CP.out.below (PC.out i hlt j (by rw [← HQ.out]; exact hj))
      have BA : Hid (Below w1.heap.size w1 (w1.alloc (.cells (madeCells #[Value.int .i64 0] q) 3))) := (Below.refl _ _).alloc (Nat.le_refl _) _
      have hz2 : (w1.alloc (.cells (madeCells #[Value.int .i64 0] q) 3)).heap.size = w1.heap.size + 1 := by simp
      have HZ2 := Hid.mk hz2
      have d1 := cell_later BA.out d0
      clear hcop hq hni hz2
      go_upto_region 7 with (first | (at_make; go_must (refine wpList_make_all _ rfl _ _ 26 rfl 3 _ _ _ Tryd.underlying26 Tryd.infoInt _ _ _ _ q rfl rfl (by simp) (by simp) (by omega) (by omega) ?_)) | ((refine wpList_copy_rowsS rfl _ _ _ _ rfl 3 Tryd.underlying26 1 Tryd.sizeInt _ _ _ _ _ _ rfl rfl 3 q (rowN 0 q (fun _ => 0)) (rowN_zero _ _ _ _ _) (q * 1) ?hm ?hmN (fun j => .int .i64 ((Ls.getD i []).getD j 0 : Nat)) (fun _ => rfl) ?hsrc ?_)))
      case hm => show min q q * 1 = q * 1; rw [Nat.min_self]
      case hmN => omega
      case hsrc =>
        intro h
        exact ⟨hh i, 0, rfl, fun j hj => by rw [Nat.zero_add]; exact cell_later BA.out (SRC.out j (by omega))⟩
      intro w2 hrow hb2 hz3
      have B2 : Hid (Below w1.heap.size w1 w2) := BA.out.trans hb2
      have HR2 : Hid (w2.rowIs w1.heap.size 3 q (fun j => .int .i64 ((Ls.getD i []).getD j 0 : Nat))) := hrow.congr fun j hj => by rw [if_pos (by omega)]; rfl
      have OWV : Hid (w2.ownsRow w.heap.size 26 1 V i (colL Ls H i)) := own_later CP.out.own B2.out
      have hz4 : w1.heap.size < w2.heap.size := HR2.out.lt
      have hw2 : w.heap.size ≤ w2.heap.size := by omega
      have hi8 : i ≤ 100000000 := by omega
      clear hrow hb2 hz3 d1 BA SRC HZ2
      go_wp2_with (at_builtin; go_must (refine wpList_pushV rfl _ _ rfl w.heap.size V i (colL Ls H i) (some ⟨w1.heap.size, 0, none⟩) q q rfl OWV.out (by exact hw2) _ rfl hi8 ?_; intro g5 c5 w3 ho5 hon5 hat5))
      go_roundw
      case rel =>
        have hVlo : ∀ b, V.ownBlock = some b → w.heap.size ≤ b ∧ b < w1.heap.size := fun b hb => CP.out.own.lt b hb
        have hz5 := hon5.size
        rw [colL_next HQ.out] at ho5
        refine ⟨i + 1, _, _, rfl, by go_num, by omega, ⟨ho5, fun t ht => ?_, CP.out.below.trans ((B2.out.mono (by omega)).trans (hon5.below hw2 (fun b e => (hVlo b e).1)))⟩⟩
        show w.heap.size ≤ (if t = i then w1.heap.size else H t) ∧ (if t = i then w1.heap.size else H t) < w3.heap.size ∧ some g5 ≠ some (if t = i then w1.heap.size else H t) ∧ ∀ j, j < (Ls.getD t []).length → w3.cell? ⟨if t = i then w1.heap.size else H t, j, none⟩ = _
        by_cases e : t = i
        · subst e
          rw [if_pos rfl]
          refine ⟨by omega, by omega, fun h => ?_, fun j hj => ?_⟩
          · injection h with h
            rcases hat5 with h2 | h2
            · have := (hVlo _ h2).2; omega
            · omega
          · rw [hon5.cell (p := ⟨w1.heap.size, j, none⟩) hz4 (fun h => by have := (hVlo _ h).2; have h3 : w1.heap.size < w1.heap.size := this; omega)]
            exact HR2.out.cell (by rw [HQ.out]; exact hj)
        · rw [if_neg e]
          obtain ⟨a1, a2, a3, a4⟩ := CP.out.cells t (by omega)
          refine ⟨a1, by omega, fun h => ?_, fun j hj => ?_⟩
          · injection h with h
            rcases hat5 with h2 | h2
            · exact a3 (by rw [h2, h])
            · omega
          · rw [hon5.cell (p := ⟨H t, j, none⟩) (by show H t < _; omega) a3]
            exact cell_later B2.out (a4 j hj)
      case measure => simp [intOf]; omega
    · have hd : i = N := by omega
      subst hd
      go_wp2
      go_ret
      obtain ⟨a, cap, rfl, ha, _⟩ := own_form CP.out.own
      obtain ⟨b, rfl⟩ := ha hK0
      have hbl := own_lt CP.out.own
      rw [HNN.out]
      refine ⟨_, rfl, ⟨⟨b, cap, H, fun t => (Ls.getD t []).length, rfl, hbl.1, hbl.2, fun t ht => ?_⟩, Nat.le_refl _⟩, CP.out.below⟩
      have ht2 : t < i := by rw [HNN.out]; exact ht
      obtain ⟨a1, a2, _, a4⟩ := CP.out.cells t ht2
      refine ⟨?_, a1, a2, a4⟩
      rw [own_cell CP.out.own ht2]
      unfold colL
      rw [List.getElem?_map, List.getElem?_range ht2]; rfl

end Go.Proofs.YtnkgpinadgacgaaDoor

namespace Go.Proofs.YtnkgpinadgacgaaDoor
open Go.RowKit M SM
theorem lists_planQ {w : World} {base : Nat} {v : Value} {Ls : List (List Nat)} (h : ListsOwn w base v Ls) : PlanQ w v Ls := by
  obtain ⟨g, A, hv, hg, hr, ho, hn, hi⟩ := h
  exact ⟨_, _, hv, fun _ => ⟨g, rfl, fun t ht => ⟨A t, hr.cell ht, (ho t ht).rowQ⟩⟩⟩

set_option maxRecDepth 100000 in
set_option maxHeartbeats 16000000 in
theorem solves_any (ro co bu : Int) (cs : ByteArray) (a : Option Addr) (m cap : Nat) (fr tt : Nat → Int) (w : World) (hs : cs.size ≤ maxLen) (hn : m * 16 ≤ 140737488351232) (hsd : SidesIn w)
    (ha : 0 < m → ∃ b off, a = some ⟨b, off, none⟩ ∧ CartsIn w b off m fr tt) :
    Calls Tryd.prog 8 #[.agg #[.int .i64 ro, .int .i64 co, .string cs, .slice a m cap, .int .i64 bu]] w fun e w' =>
      e = .returned (.bool true) ∧ Below w.heap.size w w' := by
  have hmm : m ≤ maxLen := by unfold maxLen; omega
  obtain ⟨F0, hF⟩ : ∃ F : Nat, 200400000 ≤ F := ⟨_, Nat.le_refl _⟩
  have HF := Hid.mk hF
  have HA := Hid.mk ha
  have HSD := Hid.mk hsd
  have HB0 : Hid (∀ (w : World) (o : Obj), Below w.heap.size w (w.alloc o)) := fun w _ => (Below.refl _ w).alloc (Nat.le_refl _) _
  clear ha hsd hF
  go_enter Tryd.func8, Tryd.ntmps8
  go_wp2_with fail
  refine (handed_any _ _ _ _ _ _ _ fr tt _ hn (by exact opt_below HA.out (HB0.out _ _))).mono ?_
  rintro e w1 ⟨g, rfl, hg, hrow, hb1⟩
  have y1 : ∀ o, w1.cell? ⟨w.heap.size, o, none⟩ = #[Value.int .i64 ro, .int .i64 co, .string cs, .slice a m cap, .int .i64 bu][o]? := by
    intro o
    rw [hb1.cell (p := ⟨w.heap.size, o, none⟩) (by show w.heap.size < _; simp)]; go_simp
  have hB1 : Hid (Below w.heap.size w w1) := (HB0.out _ _).trans (hb1.mono (by simp))
  have hz1 : w.heap.size < w1.heap.size := by have := hb1.size; simp at this; omega
  have HR := Hid.mk hrow
  have hgl := hrow.lt
  have HA1 := Hid.mk (opt_below HA.out hB1.out)
  have HS1 := Hid.mk (HSD.out.below hB1.out)
  clear hrow hb1
  go_wp2_with fail
  refine (solve_any F0 HF.out ro co bu cs (some ⟨g, 0, none⟩) m (m + 8) fr tt _ hs hmm (by omega) (HS1.out.below (HB0.out _ _)) (by exact fun _ => ⟨g, 0, rfl, (row_carts HR.out).below (HB0.out _ _)⟩)).mono ?_
  rintro e w2 ⟨x, y, z, rfl, hse, hb2⟩
  have HSE := Hid.mk hse
  have hB2 : Hid (Below w1.heap.size w1 w2) := (HB0.out _ _).trans (hb2.mono (by simp))
  have y2 : ∀ o, w2.cell? ⟨w.heap.size, o, none⟩ = #[Value.int .i64 ro, .int .i64 co, .string cs, .slice a m cap, .int .i64 bu][o]? := fun o => (hB2.out.cell (p := ⟨w.heap.size, o, none⟩) hz1).trans (y1 o)
  have h2 : ∀ o, w2.cell? ⟨w1.heap.size, o, none⟩ = #[Value.int .i64 ro, .int .i64 co, .string cs, .slice (some ⟨g, 0, none⟩) m (m + 8), .int .i64 bu][o]? := by
    intro o
    rw [hb2.cell (p := ⟨w1.heap.size, o, none⟩) (by show w1.heap.size < _; simp)]; go_simp
  have hz2 : w1.heap.size < w2.heap.size := by have := hb2.size; simp at this; omega
  have HR2 := Hid.mk (rowIs_below HR.out hB2.out)
  have HA2 := Hid.mk (opt_below HA1.out hB2.out)
  have HS2 := Hid.mk (HS1.out.below hB2.out)
  clear y1 hb2 hse
  go_wp2_with fail
  refine (still_any _ _ _ _ _ _ _ _ fr tt _ hn (by exact HA2.out) (by exact HR2.out)).mono ?_
  rintro e w3 ⟨rfl, hb3⟩
  have hB3 := Hid.mk hb3
  have y3 : ∀ o, w3.cell? ⟨w.heap.size, o, none⟩ = #[Value.int .i64 ro, .int .i64 co, .string cs, .slice a m cap, .int .i64 bu][o]? := fun o => (hb3.cell (p := ⟨w.heap.size, o, none⟩) (by show w.heap.size < _; omega)).trans (y2 o)
  have h3 : ∀ o, w3.cell? ⟨w1.heap.size, o, none⟩ = #[Value.int .i64 ro, .int .i64 co, .string cs, .slice (some ⟨g, 0, none⟩) m (m + 8), .int .i64 bu][o]? := fun o => (hb3.cell (p := ⟨w1.heap.size, o, none⟩) (by show w1.heap.size < _; omega)).trans (h2 o)
  have hz3 : w2.heap.size ≤ w3.heap.size := hb3.size
  have HR3 := Hid.mk (rowIs_below HR2.out hb3)
  have HA3 := Hid.mk (opt_below HA2.out hb3)
  have HS3 := Hid.mk (HS2.out.below hb3)
  clear y2 h2 hb3
  go_wp2_with fail
  refine (rbest_any _ _ _ _ _ _ _ fr tt _ hs hmm (by exact HA3.out)).mono ?_
  rintro e w4 ⟨k, e2, rfl, hbr, hb4⟩
  have HBR := Hid.mk hbr
  have hB4 := Hid.mk hb4
  have y4 : ∀ o, w4.cell? ⟨w.heap.size, o, none⟩ = #[Value.int .i64 ro, .int .i64 co, .string cs, .slice a m cap, .int .i64 bu][o]? := fun o => (hb4.cell (p := ⟨w.heap.size, o, none⟩) (by show w.heap.size < _; omega)).trans (y3 o)
  have h4 : ∀ o, w4.cell? ⟨w1.heap.size, o, none⟩ = #[Value.int .i64 ro, .int .i64 co, .string cs, .slice (some ⟨g, 0, none⟩) m (m + 8), .int .i64 bu][o]? := fun o => (hb4.cell (p := ⟨w1.heap.size, o, none⟩) (by show w1.heap.size < _; omega)).trans (h3 o)
  have hz4 : w3.heap.size ≤ w4.heap.size := hb4.size
  have HR4 := Hid.mk (rowIs_below HR3.out hb4)
  have HA4 := Hid.mk (opt_below HA3.out hb4)
  have HS4 := Hid.mk (HS3.out.below hb4)
  have HB4 : Hid (Below w.heap.size w w4) := hB1.out.trans ((hB2.out.trans ((hB3.out.trans (hB4.out.mono (by omega))).mono (by omega))).mono (by omega))
  clear y3 h3 hb4 hbr
  have ek : ((k : Int) != (k : Int)) = false := by simp
  have ek2 : ((k : Int) == (k : Int)) = true := by simp
  rcases solve_best HF.out HSE.out HBR.out with ⟨he, hk0, rfl, rfl, rfl⟩ | ⟨rfl, rfl, rfl, hpo, hga⟩
  · have ee : (e2 != e2) = false := by simp
    have en : (e2 != 0) = true := by simpa using he
    clear he hk0
    go_wp2_with fail
    refine (num_any _ _).mono ?_
    rintro e w9 ⟨rfl, hw9⟩
    have hw9 := hw9.symm
    subst hw9
    go_wp2
    go_ret
    exact ⟨rfl, HB4.out⟩
  · go_wp2_with fail
    refine (num_any _ _).mono ?_
    rintro e w9 ⟨rfl, hw9⟩
    have hw9 := hw9.symm
    subst hw9
    obtain ⟨Ls, hLs⟩ : ∃ Ls, Ls = planOf F0 ro co cs m fr tt := ⟨_, rfl⟩
    have HLS := Hid.mk hLs
    rw [← hLs] at hpo hga
    clear hLs
    have HG := Hid.mk hga
    have hpo2 := hpo.le (base' := w1.heap.size + 1) (by simp)
    clear hpo hga
    have hKm : Ls.length = m := HG.out.num
    have hm4 : m ≤ 4 := HG.out.four
    have hm0 : 0 < m := HG.out.some
    have LP : Hid (∀ t, t < Ls.length → Ls.getD t [] ≠ [] ∧ (Ls.getD t []).length ≤ 320000) := fun t ht => HG.out.pos t (by omega)
    have LP2 : Hid (∀ t, t < Ls.length → 0 < (Ls.getD t []).length ∧ (Ls.getD t []).length ≤ 1000000) := fun t ht => by
      have h := LP.out t ht
      exact ⟨List.length_pos_iff.2 h.1, by omega⟩
    obtain ⟨ga, hh, n, c, rfl, ra, hna⟩ := ListsOwn.rows hpo2 (fun t ht => (LP.out t ht).1) (fun t ht => (LP2.out t ht).2)
    have HNA := Hid.mk hna
    have RA4 : Hid (Rows w4 (w1.heap.size + 1) w2.heap.size ga Ls.length hh n c (fun t => qi (Ls.getD t []))) := (ra.below hB3.out).below hB4.out
    clear ra hna hpo2
    obtain ⟨K, hK⟩ : ∃ K, K = Ls.length := ⟨_, rfl⟩
    have HK := Hid.mk hK
    have GD : Hid (∀ w : World, SidesIn w → (0 < m → ∃ b off, a = some ⟨b, off, none⟩ ∧ CartsIn w b off m fr tt) → Rows w (w1.heap.size + 1) w2.heap.size ga Ls.length hh n c (fun t => qi (Ls.getD t [])) →
      Calls Tryd.prog 39 #[.agg #[.int .i64 ro, .int .i64 co, .string cs, .slice a m cap, .int .i64 bu], .slice (some ⟨ga, 0, none⟩) K K, .int .i64 (k : Nat)] w fun e w' => e = .returned (.bool true) ∧ Below w.heap.size w w') := fun w q1 q2 q3 => by
      rw [HK.out]
      exact wellgood_any ro co bu cs a m cap fr tt Ls k _ _ ga hh n c w hs q1 q2 q3 HNA.out HG.out
    have CD : Hid (∀ w : World, Rows w (w1.heap.size + 1) w2.heap.size ga Ls.length hh n c (fun t => qi (Ls.getD t [])) →
      Calls Tryd.prog 40 #[.slice (some ⟨ga, 0, none⟩) K K] w fun e w' => ∃ v, e = .returned v ∧ PlanB w' w.heap.size w'.heap.size v Ls ∧ Below w.heap.size w w') := fun w q => by
      rw [HK.out]
      exact copied_any _ _ ga Ls hh n c w (by omega) (by omega) LP2.out q HNA.out
    have hK0 : 0 < K := by omega
    have hK4 : K ≤ 4 := by omega
    rw [← hK]
    clear hKm hK
    go_wp2_with fail
    refine (GD.out _ HS4.out HA4.out RA4.out).mono ?_
    rintro e w5 ⟨rfl, hb5⟩
    have hB5 := Hid.mk hb5
    have h5 : ∀ o, w5.cell? ⟨w1.heap.size, o, none⟩ = #[Value.int .i64 ro, .int .i64 co, .string cs, .slice (some ⟨g, 0, none⟩) m (m + 8), .int .i64 bu][o]? := fun o => (hb5.cell (p := ⟨w1.heap.size, o, none⟩) (by show w1.heap.size < _; omega)).trans (h4 o)
    have hz5 : w4.heap.size ≤ w5.heap.size := hb5.size
    have HR5 := Hid.mk (rowIs_below HR4.out hb5)
    have HS5 := Hid.mk (HS4.out.below hb5)
    have RA5 := Hid.mk (RA4.out.below hb5)
    clear y4 h4 hb5
    go_wp2_with fail
    refine (CD.out _ RA5.out).mono ?_
    rintro e w6 ⟨vb, rfl, hpb, hb6⟩
    have hB6 := Hid.mk hb6
    have PB6 := Hid.mk hpb
    have h6 : ∀ o, w6.cell? ⟨w1.heap.size, o, none⟩ = #[Value.int .i64 ro, .int .i64 co, .string cs, .slice (some ⟨g, 0, none⟩) m (m + 8), .int .i64 bu][o]? := fun o => (hb6.cell (p := ⟨w1.heap.size, o, none⟩) (by show w1.heap.size < _; omega)).trans (h5 o)
    have hz6 : w5.heap.size ≤ w6.heap.size := hb6.size
    have HR6 := Hid.mk (rowIs_below HR5.out hb6)
    have HS6 := Hid.mk (HS5.out.below hb6)
    have RA6 := Hid.mk (RA5.out.below hb6)
    clear h5 hb6 hpb
    go_wp2_with fail
    refine (solve_any F0 HF.out ro co bu cs (some ⟨g, 0, none⟩) m (m + 8) fr tt _ hs hmm (by omega) HS6.out (by exact fun _ => ⟨g, 0, rfl, row_carts HR6.out⟩)).mono ?_
    rintro e w7 ⟨x2, y2, z2, rfl, hse2, hb7⟩
    have hB7 := Hid.mk hb7
    have h7 : ∀ o, w7.cell? ⟨w1.heap.size, o, none⟩ = #[Value.int .i64 ro, .int .i64 co, .string cs, .slice (some ⟨g, 0, none⟩) m (m + 8), .int .i64 bu][o]? := fun o => (hb7.cell (p := ⟨w1.heap.size, o, none⟩) (by show w1.heap.size < _; omega)).trans (h6 o)
    have hz7 : w6.heap.size ≤ w7.heap.size := hb7.size
    have HR7 := Hid.mk (rowIs_below HR6.out hb7)
    have HS7 := Hid.mk (HS6.out.below hb7)
    have RA7 := Hid.mk (RA6.out.below hb7)
    have PB7 := Hid.mk (PB6.out.below hb7)
    rcases solve_best HF.out hse2 HBR.out with ⟨he, _⟩ | ⟨_, rfl, rfl, hpo2, _⟩
    · exact absurd rfl he
    rw [← HLS.out] at hpo2
    obtain ⟨gc, hc, n2, c2, rfl, rc, _⟩ := ListsOwn.rows hpo2 (fun t ht => (LP.out t ht).1) (fun t ht => (LP2.out t ht).2)
    have RC7 := Hid.mk rc
    have PC7 : Hid (PlanQ w7 (.slice (some ⟨gc, 0, none⟩) Ls.length Ls.length) Ls) := lists_planQ hpo2
    rw [← HK.out] at RC7 PC7 ⊢
    clear h6 hb7 hse2 rc hpo2
    go_wp2_with fail
    refine (samePlans_q _ _ Ls _ (by rw [← HK.out]; omega) (fun t ht => (LP2.out t ht).2) PB7.out.planQ PC7.out).mono ?_
    rintro e w8 ⟨rfl, hb8⟩
    have hB8 := Hid.mk hb8
    have h8 : ∀ o, w8.cell? ⟨w1.heap.size, o, none⟩ = #[Value.int .i64 ro, .int .i64 co, .string cs, .slice (some ⟨g, 0, none⟩) m (m + 8), .int .i64 bu][o]? := fun o => (hb8.cell (p := ⟨w1.heap.size, o, none⟩) (by show w1.heap.size < _; omega)).trans (h7 o)
    have hz8 : w7.heap.size ≤ w8.heap.size := hb8.size
    have HR8 := Hid.mk (rowIs_below HR7.out hb8)
    have HS8 := Hid.mk (HS7.out.below hb8)
    have RA8 : Hid (Rows w8 (w1.heap.size + 1) w2.heap.size ga K hh n c (fun t => qi (Ls.getD t []))) := by
      have h := RA7.out.below hb8
      rw [← HK.out] at h
      exact h
    have RC8 := Hid.mk (RC7.out.below hb8)
    have PB8 := Hid.mk (PB7.out.below hb8)
    clear h7 hb8
    go_wp2_with fail
    refine (both_only (w1.heap.size + 1) w2.heap.size w6.heap.size w7.heap.size K ga gc hh n c hc n2 c2 _ _ w8 hK0 (by omega) RA8.out RC8.out (by omega) (by omega)).mono ?_
    rintro e w9 ⟨rfl, ho9⟩
    have O9 := Hid.mk ho9
    have h9 : ∀ o, w9.cell? ⟨w1.heap.size, o, none⟩ = #[Value.int .i64 ro, .int .i64 co, .string cs, .slice (some ⟨g, 0, none⟩) m (m + 8), .int .i64 bu][o]? := fun o => (ho9.cell (p := ⟨w1.heap.size, o, none⟩) (by show w1.heap.size < _; omega) (by show ¬ twoS _ _ _ _ w1.heap.size; unfold twoS; omega)).trans (h8 o)
    have hz9 : w8.heap.size ≤ w9.heap.size := ho9.size
    have BW : Hid (Below w1.heap.size w8 w9) := ho9.below (by omega) (fun i e => by unfold twoS at e; omega)
    have HR9 : Hid (w9.rowIs g 87 ((m + 8) * 2) (rowV (m + 8) (roomF m fr tt))) := row_block HR8.out (BW.out.block g (by omega))
    have PB9 := Hid.mk (PB8.out.only ho9 (fun i e1 e2 => by unfold twoS; omega))
    have HS9 := Hid.mk (HS8.out.below_at BW.out (by omega))
    clear h8 ho9
    go_wp2_with fail
    refine (solve_any F0 HF.out ro co bu cs (some ⟨g, 0, none⟩) m (m + 8) fr tt _ hs hmm (by omega) HS9.out (by exact fun _ => ⟨g, 0, rfl, row_carts HR9.out⟩)).mono ?_
    rintro e w10 ⟨x3, y3, z3, rfl, hse3, hb10⟩
    have hB10 := Hid.mk hb10
    have hz10 : w9.heap.size ≤ w10.heap.size := hb10.size
    have PB10 := Hid.mk (PB9.out.below hb10)
    rcases solve_best HF.out hse3 HBR.out with ⟨he, _⟩ | ⟨_, rfl, rfl, hpo3, _⟩
    · exact absurd rfl he
    rw [← HLS.out] at hpo3
    have PC10 : Hid (PlanQ w10 x3 Ls) := lists_planQ hpo3
    clear h9 hb10 hse3 hpo3
    go_wp2_with fail
    refine (samePlans_q _ _ Ls _ (by rw [← HK.out]; omega) (fun t ht => (LP2.out t ht).2) PB10.out.planQ PC10.out).mono ?_
    rintro e w11 ⟨rfl, hb11⟩
    have HBX : Hid (Below w.heap.size w w11) := ((((((HB4.out.trans (hB5.out.mono (by omega))).trans (hB6.out.mono (by omega))).trans (hB7.out.mono (by omega))).trans (hB8.out.mono (by omega))).trans (BW.out.mono (by omega))).trans (hB10.out.mono (by omega))).trans (hb11.mono (by omega))
    clear hb11
    go_wp2_with fail
    refine (num_any _ _).mono ?_
    rintro e w12 ⟨rfl, hw12⟩
    have hw12 := hw12.symm
    subst hw12
    go_wp2_with fail
    refine (num_any _ _).mono ?_
    rintro e w12 ⟨rfl, hw12⟩
    have hw12 := hw12.symm
    subst hw12
    go_wp2
    go_ret
    exact ⟨rfl, HBX.out⟩

end Go.Proofs.YtnkgpinadgacgaaDoor

namespace Go.Proofs.YtnkgpinadgacgaaDoor
open Go.ChangeShapes Go.WideShapes Go.ChangeAt Go.RowKit Go.Deep Go.Joins
theorem Tryd.own : ownKnob Tryd.prog.godebug = none := by kernel_rfl

theorem Tryd.laidOut : laidOutB Tryd.prog = true := by kernel_rfl

theorem Tryd.cellsYard : Tryd.prog.cellsOf 24 = 5 := by kernel_rfl

theorem Tryd.cellsCart : Tryd.prog.cellsOf 87 = 2 := by kernel_rfl

theorem Tryd.cellsInt : Tryd.prog.cellsOf 3 = 1 := by kernel_rfl

theorem Tryd.cellsString : Tryd.prog.cellsOf 9 = 1 := by kernel_rfl

theorem Tryd.cellsCarts : Tryd.prog.cellsOf 22 = 1 := by kernel_rfl

theorem Tryd.bytesCart : Tryd.prog.bytesOf 87 = 16 := by kernel_rfl

theorem array5 {α : Type} {cs : Array α} (h : cs.size = 5) : ∃ c0 c1 c2 c3 c4, cs = #[c0, c1, c2, c3, c4] := by
  obtain ⟨l⟩ := cs
  match l, h with
  | [c0, c1, c2, c3, c4], _ => exact ⟨c0, c1, c2, c3, c4, rfl⟩

theorem list5 {α : Type} {l : List α} (h : l.length = 5) : ∃ c0 c1 c2 c3 c4, l = [c0, c1, c2, c3, c4] := by
  match l, h with
  | [c0, c1, c2, c3, c4], _ => exact ⟨c0, c1, c2, c3, c4, rfl⟩

set_option maxRecDepth 100000 in
theorem open_yard {H : Type} {enc : TypeId × Value → H} {W : World} {r : Reach} {b0 : Nat} {v : Value} {d : DataW H} {p : List MemPlace}
    (hv : Value.okWide Tryd.prog W r b0 24 v) (h : DataW.Trod enc Tryd.prog W 0 (fun _ => true) true 24 v d p) (hsz : (DataW.weights Tryd.prog 24 d).all (· ≤ reachBytes) = true) :
    ∃ (ro co bu : Int) (cs : ByteArray) (a : Option Addr) (n cap : Nat) (fr tt : Nat → Int), v = .agg #[.int .i64 ro, .int .i64 co, .string cs, .slice a n cap, .int .i64 bu] ∧ cs.size ≤ maxLen ∧ n * 16 ≤ 140737488351232 ∧
      (0 < n → ∃ b off, a = some ⟨b, off, none⟩ ∧ CartsIn W b off n fr tt) := by
  obtain ⟨cs, rfl, hcs⟩ := okWide_struct Tryd.underlying24 hv
  obtain ⟨c0, c1, c2, c3, c4, rfl⟩ := array5 (hcs.trans Tryd.cellsYard)
  obtain ⟨fuel, hf⟩ := h
  obtain ⟨xs, m, _, hx, _, hxl, hfs⟩ := DataW.trod_struct Tryd.underlying24 hf
  obtain ⟨x0, x1, x2, x3, x4, rfl⟩ := list5 hxl
  have g0 := hfs 0 _ rfl
  have g1 := hfs 1 _ rfl
  have g2 := hfs 2 _ rfl
  have g3 := hfs 3 _ rfl
  have g4 := hfs 4 _ rfl
  simp [Value.cells, Tryd.cellsInt, Tryd.cellsString, Tryd.cellsCarts] at g0 g1 g2 g3 g4
  obtain ⟨ro, e0, _, _⟩ := DataW.trod_int Tryd.underlying3 g0
  obtain ⟨co, e1, _, _⟩ := DataW.trod_int Tryd.underlying3 g1
  obtain ⟨s, e2, _, hs⟩ := DataW.trod_string Tryd.underlying9 g2
  obtain ⟨bu, e4, _, _⟩ := DataW.trod_int Tryd.underlying3 g4
  simp only [List.cons.injEq, and_true] at e0 e1 e2 e4
  subst e0 e1 e2 e4
  rcases open_slice_pairs Tryd.underlying22 Tryd.underlying87 Tryd.cellsCart rfl rfl Tryd.cellsInt Tryd.cellsInt g3 with ⟨e3, _⟩ | ⟨a, len, cap, q, k, V0, V1, D0, D1, P0, P1, e3, _, hl, hm, hq, hx3, hall⟩
  · simp only [List.cons.injEq, and_true] at e3
    subst e3
    exact ⟨ro, co, bu, s, none, 0, 0, fun _ => 0, fun _ => 0, rfl, hs, by omega, fun h => absurd h (Nat.lt_irrefl 0)⟩
  · simp only [List.cons.injEq, and_true] at e3
    subst e3
    simp only [ite_true] at hq
    subst hq
    have hw : (len + (q - len)) * 16 ≤ reachBytes := by
      simp only [Prod.mk.injEq] at hx
      have hmem : (len + (q - len)) * 16 ∈ DataW.weights Tryd.prog 24 d := by
        rw [hx.1]
        simp [DataW.weights, DataW.weightsEach, Tryd.underlying24, Tryd.underlying22, hx3, Tryd.bytesCart]
      have := List.all_eq_true.1 hsz _ hmem
      simpa using this
    have hints : ∀ i, i < q → ∃ x : Int × Int, V0 i = .int .i64 x.1 ∧ V1 i = .int .i64 x.2 := by
      intro i hi
      obtain ⟨_, _, t0, t1⟩ := hall i hi
      obtain ⟨f, e0, _, _⟩ := DataW.trod_int Tryd.underlying3 t0
      obtain ⟨t, e1, _, _⟩ := DataW.trod_int Tryd.underlying3 t1
      exact ⟨(f, t), by simpa using e0, by simpa using e1⟩
    obtain ⟨X, hX⟩ := choose_lt hints
    refine ⟨ro, co, bu, s, some a, len, q, fun i => (X i).1, fun i => (X i).2, rfl, hs, by unfold reachBytes at hw; omega, fun h0 => ?_⟩
    obtain ⟨b, off, spot⟩ := a
    have hc0 := (hall 0 (by omega)).1
    simp only [Nat.zero_mul, Addr.add, if_true] at hc0
    have hspot := World.cell?_spot hc0
    subst hspot
    refine ⟨b, off, rfl, fun i hi => ?_⟩
    obtain ⟨h1, h2, _, _⟩ := hall i (by omega)
    rw [add_plain] at h1 h2
    rw [(hX i (by omega)).1] at h1
    rw [(hX i (by omega)).2] at h2
    exact ⟨h1, by simpa [Nat.add_assoc] using h2⟩

end Go.Proofs.YtnkgpinadgacgaaDoor
