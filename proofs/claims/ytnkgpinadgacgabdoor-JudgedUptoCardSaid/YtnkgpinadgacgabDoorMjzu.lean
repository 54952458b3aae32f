/- Several texts in one: El, En, Eq, Lh. -/
import Derived.Test.YtnkgpinadgacgabDoorMjl
import Derived.Maps.RangeWalk
import Derived.Test.YtnkgpinadgacgabDoorMjza
import Derived.Deep.RegionHeld3
import Derived.Deep.LoopGhost
import Derived.Shelf.LaySoft
import Derived.Shelf.SlIterI.Nil
import Derived.Shelf.SortM.Plain
import Derived.Shelf.SortM.SortNone
import Derived.Ground.GgzProg
import Derived.Ground.SlgmProg
import Derived.Test.YtnkgpinadgacgabDoorProg
import Derived.Test.YtnkgpinadgacgabDoorMje
import Derived.Test.YtnkgpinadgacgabDoorMjzt
namespace Go.Proofs.YtnkgpinadgacgabDoor
open Go.RowKit Go.Maps M
/-- A list of lists of the call's own, each in a block of its own. -/
def ListsOwn (w : World) (base : Nat) (v : Value) (Ls : List (List Nat)) : Prop :=
  ∃ (g : Nat) (A : Nat → Value), v = .slice (some ⟨g, 0, none⟩) Ls.length Ls.length ∧ base ≤ g ∧ w.rowIs g 22 Ls.length A ∧ (∀ t, t < Ls.length → OwnN w base (A t) (Ls.getD t [])) ∧ (∀ t, t < Ls.length → (A t).ownBlock ≠ some g) ∧
    ∀ s t h, s < Ls.length → t < Ls.length → s ≠ t → (A s).ownBlock = some h → (A t).ownBlock ≠ some h

end Go.Proofs.YtnkgpinadgacgabDoor

namespace Go.Proofs.YtnkgpinadgacgabDoor
open Go.RowKit M
theorem OwnN.rowQ {w : World} {base : Nat} {v : Value} {L : List Nat} (h : OwnN w base v L) : RowQ w v L := by
  obtain ⟨a, c, hv, ha, _⟩ := h.form
  refine ⟨⟨a, c, hv, fun hp => ?_⟩, fun g hg => (h.lt g hg).2⟩
  obtain ⟨g, rfl⟩ := ha hp
  subst hv
  exact ⟨g, rfl, fun j hj => h.cell hj⟩

end Go.Proofs.YtnkgpinadgacgabDoor

namespace Go.Proofs.YtnkgpinadgacgabDoor
open Go.RowKit M
set_option maxRecDepth 100000 in
/-- A slice is pushed onto a list of slices. -/
theorem wpList_pushV {w0 : World} {ops : Array Oper} {rest : List Oper} {o : Oper} {a : Act} {Q : Exit → Act → World → Prop} (hgd : o.guard = none) (s x : Operand)
    (ho : o.op = .call { callee := .builtin .append, args := #[s, x], argTypes := #[29, 29] })
    (base : Nat) (v : Value) (K : Nat) (A : List Value) (ay : Option Addr) (ny cy : Nat) (hs : a.eval s = v) (hown : w0.ownsRow base 22 1 v K A) (hbase : base ≤ w0.heap.size) (c : Nat)
    (hx : a.eval x = .slice (some ⟨w0.heap.size, 0, none⟩) 1 c) (hL : K ≤ 100000000)
    (h : ∀ g cap w', w'.ownsRow base 22 1 (.slice (some ⟨g, 0, none⟩) (K + 1) cap) (K + 1) (A ++ [.slice ay ny cy]) → Only (fun k => v.ownBlock = some k) w0 w' → (v.ownBlock = some g ∨ w0.heap.size ≤ g) → wpList Tryd.prog ops Q rest (a.put o.dst (.slice (some ⟨g, 0, none⟩) (K + 1) cap)) w') :
    wpList Tryd.prog ops Q (o :: rest) a (w0.alloc (.cells #[.slice ay ny cy] 22)) := by
  obtain ⟨i0, hi0, hi1, hi2, hi3⟩ := info_parts Tryd.infoSl
  have hown1 := own_keep (w' := w0.alloc (.cells #[.slice ay ny cy] 22)) hown (fun g _ hg _ => Below.heap_alloc _ _ _ hg)
  refine wpList_append_lies _ hgd s x _ ho base 22 i0 _ 1 24 Tryd.underlying29 hi0 hi1 hi2 hi3 rfl (by omega) v K A hs hown1 _ 1 c [.slice ay ny cy] hx rfl (fun j u hj => ?_) (fun u hu => ?_) (by omega) (by unfold maxLen; omega) (by omega) (by simp; omega) (w0.heap.size + 1) (by simp) ?_
  · match j, hj with
    | 0, hj => simp at hj; subst hj; simp [Addr.add]
    | j + 1, hj => simp at hj
  · simp at hu; subst hu; rfl
  · intro g cap w' ho9 hg9 hl9 _
    refine h g cap w' ho9 ⟨hg9.os, hg9.tape, hg9.output, Nat.le_trans (by simp) hg9.size, fun k hk hn => ?_⟩ (hl9.imp id (fun e => by omega))
    rw [hg9.block k (by simp; omega) (fun e => hn e.symm)]
    exact Below.heap_alloc _ _ _ hk

end Go.Proofs.YtnkgpinadgacgabDoor

namespace Go.Proofs.YtnkgpinadgacgabDoor
open Go.RowKit M SM
theorem move_pos {co : Int} {cs : ByteArray} {m : Nat} {p q : List Nat} (h : MoveOK co cs m p q) : PosG cs m q := by
  refine ⟨⟨h.len, fun k hk => ?_⟩, fun i k hi hk hne => ?_⟩
  · have := kmay_free (h.step k hk)
    exact ⟨free_lt this, this⟩
  · rcases Nat.lt_or_gt_of_ne hne with e | e
    · exact (h.apart i k e hk).1
    · exact fun h2 => (h.apart k i e hi).1 h2.symm

/-- Where carts have gone about, position by position. -/
structure Gone (co : Int) (cs : ByteArray) (m : Nat) (f : List Nat) (Q : List (List Nat)) : Prop where
  pos : 0 < Q.length
  first : Q.getD 0 [] = f
  good : ∀ s, s < Q.length → PosG cs m (Q.getD s [])
  step : ∀ s, s + 1 < Q.length → MoveOK co cs m (Q.getD s []) (Q.getD (s + 1) [])

theorem Gone.one {co : Int} {cs : ByteArray} {m : Nat} {f : List Nat} (h : PosG cs m f) : Gone co cs m f [f] :=
  ⟨Nat.one_pos, rfl, fun s hs => by
    have e : s = 0 := by simp at hs; exact hs
    subst e; exact h, fun s hs => by simp at hs⟩

theorem Gone.add {co : Int} {cs : ByteArray} {m : Nat} {f q : List Nat} {Q : List (List Nat)} (h : Gone co cs m f Q) (hq : MoveOK co cs m (Q.getD (Q.length - 1) []) q) : Gone co cs m f (Q ++ [q]) := by
  have hp := h.pos
  have e : (Q ++ [q]).length = Q.length + 1 := by simp
  refine ⟨by omega, by rw [getD_snoc_old hp]; exact h.first, fun s hs => ?_, fun s hs => ?_⟩
  · by_cases hl : s < Q.length
    · rw [getD_snoc_old hl]; exact h.good s hl
    · rw [getD_snoc_new (by omega)]; exact move_pos hq
  · rw [getD_snoc_old (show s < Q.length by omega)]
    by_cases hl : s + 1 < Q.length
    · rw [getD_snoc_old hl]; exact h.step s hl
    · rw [getD_snoc_new (by omega), show s = Q.length - 1 by omega]; exact hq

def rowQ (Q : List (List Nat)) (i : Nat) : List Nat := Q.map fun q => q.getD i 0

theorem rowQ_len (Q : List (List Nat)) (i : Nat) : (rowQ Q i).length = Q.length := by simp [rowQ]

theorem rowQ_add (Q : List (List Nat)) (q : List Nat) (i : Nat) : rowQ (Q ++ [q]) i = rowQ Q i ++ [q.getD i 0] := by simp [rowQ]

theorem rowQ_at {Q : List (List Nat)} {i s : Nat} (h : s < Q.length) : (rowQ Q i).getD s 0 = (Q.getD s []).getD i 0 := by
  unfold rowQ
  rw [List.getD_eq_getElem?_getD, List.getElem?_map, List.getD_eq_getElem?_getD (l := Q), List.getElem?_eq_getElem h]; rfl

section
variable {co : Int} {cs : ByteArray} {m : Nat} {fr tt : Nat → Int} {T : Nat → Nat} {Q : List (List Nat)}
theorem trim_wh {n T : Nat} {p : Nat → Nat} (hT : T ≤ n) (h : Trim n T p) (s : Nat) : whM T p s = p (if s ≤ n then s else n) := by
  by_cases e : s ≤ T
  · rw [wh_in e, if_pos (by omega)]
  · rw [wh_out (by omega)]
    by_cases e2 : s ≤ n
    · rw [if_pos e2]; exact (h.1 s (by omega) e2).symm
    · rw [if_neg e2]; exact (h.1 n hT (Nat.le_refl n)).symm

/-- Their plan is good. -/
theorem gone_good (hG : Gone co cs m (cellsOf fr m) Q) (hQ : Q.length ≤ 1000) (hfr : ∀ i, i < m → freeB cs (fr i) = true) (htt : ∀ i, i < m → tt i = ((Q.getD (Q.length - 1) []).getD i 0 : Nat))
    (hT : ∀ i, i < m → T i ≤ Q.length - 1 ∧ Trim (Q.length - 1) (T i) (fun s => (rowQ Q i).getD s 0)) : GoodK co cs m fr tt T (fun i s => (rowQ Q i).getD s 0) := by
  have hp := hG.pos
  refine ⟨fun i hi => ?_, fun i k hki hi t => ?_⟩
  · obtain ⟨t1, t2⟩ := hT i hi
    obtain ⟨f, ef, hf⟩ := free_nat (hfr i hi)
    have h0 : (rowQ Q i).getD 0 0 = f := by rw [rowQ_at hp, hG.first, cellsOf_at hi, ef]; rfl
    have hin : ∀ s, s ≤ Q.length - 1 → (rowQ Q i).getD s 0 < cs.size := fun s hs => by
      rw [rowQ_at (by omega)]
      exact ((hG.good s (by omega)).1.2 i hi).1
    refine ⟨f, (rowQ Q i).getD (T i) 0, ef, ?_, ?_, fun s hs => hin s (by omega), by omega⟩
    · have := t2.1 (Q.length - 1) t1 (Nat.le_refl _)
      rw [htt i hi]
      show _ = (((fun s => (rowQ Q i).getD s 0) (T i) : Nat) : Int)
      rw [← this]
      show _ = (((rowQ Q i).getD (Q.length - 1) 0 : Nat) : Int)
      rw [rowQ_at (by omega)]
    · refine isPath_of h0 rfl (fun h => t2.2 h) (fun s hs => ⟨hin s (by omega), ?_⟩)
      have h1 := (hG.step s (by omega)).step i hi
      rw [← rowQ_at (by omega), ← rowQ_at (by omega), kmay_adj (hin s (by omega))] at h1
      exact h1
  · have hk : k < m := by omega
    show whM (T k) (fun s => (rowQ Q k).getD s 0) t ≠ whM (T i) (fun s => (rowQ Q i).getD s 0) t ∧ ¬ (whM (T k) (fun s => (rowQ Q k).getD s 0) t = whM (T i) (fun s => (rowQ Q i).getD s 0) (t + 1) ∧ whM (T i) (fun s => (rowQ Q i).getD s 0) t = whM (T k) (fun s => (rowQ Q k).getD s 0) (t + 1))
    rw [trim_wh (hT k hk).1 (hT k hk).2, trim_wh (hT i hi).1 (hT i hi).2, trim_wh (hT k hk).1 (hT k hk).2, trim_wh (hT i hi).1 (hT i hi).2]
    by_cases e : t + 1 ≤ Q.length - 1
    · rw [if_pos (by omega), if_pos e]
      simp only [rowQ_at (show t < Q.length by omega), rowQ_at (show t + 1 < Q.length by omega)]
      have h1 := hG.good t (by omega)
      have h2 := hG.step t (by omega)
      exact ⟨h1.2 k i hk hi (by omega), fun h => (h2.apart k i hki hi).2 h.2.symm⟩
    · rw [if_neg e, show (if t ≤ Q.length - 1 then t else Q.length - 1) = Q.length - 1 by split <;> omega]
      simp only [rowQ_at (show Q.length - 1 < Q.length by omega)]
      have h1 := hG.good (Q.length - 1) (by omega)
      have h3 := h1.2 k i hk hi (by omega)
      exact ⟨h3, fun h => h3 h.1⟩

end
/-- The yard with other Tos, and another budget, is a good one. -/
theorem check_tos {ro co U B : Int} {cs : ByteArray} {m : Nat} {fr tt tt' : Nat → Int} (h : (checkM ro co cs m fr tt U).1 = 0) (h1 : ∀ i, i < m → freeB cs (tt' i) = true) (h2 : ∀ i k, i < k → k < m → tt' i ≠ tt' k) (b1 : 1 ≤ B) (b2 : B ≤ 20000) : checkM ro co cs m fr tt' B = (0, 0) := by
  obtain ⟨s1, s2, s3⟩ := checkM_good h
  obtain ⟨m4, hf⟩ := carts_free h
  have ha := carts_apart h
  have m1 := (check_bu h).2.2
  have hc : ¬ 0 ≤ cellsM ro co cs := fun hh => by
    rw [← checkM_cells s1 s2 hh] at h
    cases h
  refine (checkM_ok s1 s2 hc (by omega) (by omega) (fun j hj => cartM_ok (hf j hj).1 (h1 j hj) (fun k hk => ?_)) (by omega)).symm
  unfold twiceB
  simp only [Bool.or_eq_false_iff, beq_eq_false_iff_ne]
  exact ⟨(ha k j hk hj).1, h2 k j hk hj⟩

/-- A list of the call's own is written at one place. -/
theorem own_put {w : World} {base n g cap i : Nat} {e : TypeId} {size : Nat} {xs : List Value} {v : Value} (h : w.ownsRow base e size (.slice (some ⟨g, 0, none⟩) n cap) n xs) : (w.setCell ⟨g, i, none⟩ v).ownsRow base e size (.slice (some ⟨g, 0, none⟩) n cap) n (xs.set i v) := by
  rcases h.2 with ⟨h0, _⟩ | ⟨g', cap', cur, hv', hg, hh, hn, hc, hs, ht⟩
  · cases h0
  · cases hv'
    refine ⟨by rw [List.length_set]; exact h.1, .inr ⟨g, cap, cur.setIfInBounds i v, rfl, hg, ?_, hn, hc, by rw [Array.size_setIfInBounds]; exact hs, ?_⟩⟩
    · simp [World.setCell, Array.getElem?_modify, hh]
    · rw [Array.toList_setIfInBounds, List.take_set, ht]

def rowsV (h c : Nat → Nat) (P : Nat → List Nat) (K : Nat) : List Value := (List.range K).map fun t => Value.slice (some ⟨h t, 0, none⟩) (P t).length (c t)

theorem rowsV_len (h c : Nat → Nat) (P : Nat → List Nat) (K : Nat) : (rowsV h c P K).length = K := by simp [rowsV]

theorem rowsV_at {h c : Nat → Nat} {P : Nat → List Nat} {K t : Nat} (ht : t < K) : (rowsV h c P K)[t]? = some (.slice (some ⟨h t, 0, none⟩) (P t).length (c t)) := by
  unfold rowsV
  rw [List.getElem?_map, List.getElem?_range ht]; rfl

theorem rowsV_next {h c h' c' : Nat → Nat} {P P' : Nat → List Nat} {K : Nat} (e : ∀ t, t < K → h t = h' t ∧ c t = c' t ∧ P t = P' t) : rowsV h c P K ++ [.slice (some ⟨h' K, 0, none⟩) (P' K).length (c' K)] = rowsV h' c' P' (K + 1) := by
  unfold rowsV
  rw [List.range_succ, List.map_append]
  congr 1
  refine List.map_congr_left fun t ht => ?_
  obtain ⟨e1, e2, e3⟩ := e t (List.mem_range.1 ht)
  rw [e1, e2, e3]

theorem rowsV_set {h c h' c' : Nat → Nat} {P P' : Nat → List Nat} {K i : Nat} (hi : i < K) (e : ∀ t, t < K → t ≠ i → h t = h' t ∧ c t = c' t ∧ P t = P' t) : (rowsV h c P K).set i (.slice (some ⟨h' i, 0, none⟩) (P' i).length (c' i)) = rowsV h' c' P' K := by
  refine List.ext_getElem? fun t => ?_
  by_cases ht : t < K
  · rw [List.getElem?_set, rowsV_at ht, rowsV_at ht, rowsV_len]
    by_cases e2 : i = t
    · subst e2; rw [if_pos rfl, if_pos hi]
    · rw [if_neg e2]
      obtain ⟨e3, e4, e5⟩ := e t ht (fun h => e2 h.symm)
      rw [e3, e4, e5]
  · rw [List.getElem?_eq_none (by rw [List.length_set, rowsV_len]; omega), List.getElem?_eq_none (by rw [rowsV_len]; omega)]

/-- A list of K lists of numbers, all of the call's own. -/
structure PlanZ (w : World) (base : Nat) (v : Value) (K : Nat) (h c : Nat → Nat) (P : Nat → List Nat) : Prop where
  own : w.ownsRow base 22 1 v K (rowsV h c P K)
  row : ∀ t, t < K → OwnN w base (.slice (some ⟨h t, 0, none⟩) (P t).length (c t)) (P t)
  inj : ∀ s t, s < K → t < K → h s = h t → s = t
  ne : ∀ t, t < K → v.ownBlock ≠ some (h t)

theorem PlanZ.keep {w w' : World} {base : Nat} {v : Value} {K : Nat} {h c : Nat → Nat} {P : Nat → List Nat} (Z : PlanZ w base v K h c P) (hk : ∀ k, base ≤ k → k < w.heap.size → (v.ownBlock = some k ∨ ∃ t, t < K ∧ h t = k) → w'.heap[k]? = w.heap[k]?) : PlanZ w' base v K h c P :=
  ⟨own_keep Z.own fun k h1 h2 h3 => hk k h1 h2 (.inl h3), fun t ht => own_keep (Z.row t ht) fun k h1 h2 h3 => hk k h1 h2 (.inr ⟨t, ht, Option.some.inj h3⟩), Z.inj, Z.ne⟩

theorem PlanZ.below {w w' : World} {base : Nat} {v : Value} {K : Nat} {h c : Nat → Nat} {P : Nat → List Nat} (Z : PlanZ w base v K h c P) (hb : Below w.heap.size w w') : PlanZ w' base v K h c P :=
  Z.keep fun k _ h2 _ => hb.block k h2

theorem PlanZ.cell {w : World} {base g n cap : Nat} {K : Nat} {h c : Nat → Nat} {P : Nat → List Nat} (Z : PlanZ w base (.slice (some ⟨g, 0, none⟩) n cap) K h c P) {t : Nat} (ht : t < K) : w.cell? ⟨g, t, none⟩ = some (.slice (some ⟨h t, 0, none⟩) (P t).length (c t)) := by
  obtain ⟨a, cap', e, _, _⟩ := own_form Z.own
  have e1 : n = K := by cases e; rfl
  subst e1
  rw [own_cell Z.own ht, rowsV_at ht]

theorem PlanZ.lt {w : World} {base : Nat} {v : Value} {K : Nat} {h c : Nat → Nat} {P : Nat → List Nat} (Z : PlanZ w base v K h c P) {t : Nat} (ht : t < K) : base ≤ h t ∧ h t < w.heap.size := (Z.row t ht).lt (h t) rfl

theorem PlanZ.nil (w : World) (base : Nat) : PlanZ w base (.slice none 0 0) 0 (fun _ => 0) (fun _ => 0) (fun _ => []) :=
  ⟨⟨rfl, .inl ⟨rfl, rfl⟩⟩, fun t h => absurd h (Nat.not_lt_zero t), fun s _ h => absurd h (Nat.not_lt_zero s), fun t h => absurd h (Nat.not_lt_zero t)⟩

theorem PlanZ.congr {w : World} {base : Nat} {v : Value} {K : Nat} {h c : Nat → Nat} {P P' : Nat → List Nat} (Z : PlanZ w base v K h c P) (e : ∀ t, t < K → P t = P' t) : PlanZ w base v K h c P' := by
  have e2 : rowsV h c P K = rowsV h c P' K := List.map_congr_left fun t ht => by rw [e t (List.mem_range.1 ht)]
  exact ⟨by rw [← e2]; exact Z.own, fun t ht => by rw [← e t ht]; exact Z.row t ht, Z.inj, Z.ne⟩

def updF {α : Type} (f : Nat → α) (i : Nat) (x : α) (t : Nat) : α := if t = i then x else f t

theorem updF_at {α : Type} {f : Nat → α} {i : Nat} {x : α} : updF f i x i = x := by unfold updF; rw [if_pos rfl]

theorem updF_ne {α : Type} {f : Nat → α} {i t : Nat} {x : α} (h : ¬ t = i) : updF f i x t = f t := by unfold updF; rw [if_neg h]

/-- One more list is pushed. -/
theorem PlanZ.push {w0 w1 w' : World} {base b cb g5 c5 : Nat} {v : Value} {K : Nat} {h c : Nat → Nat} {P : Nat → List Nat} {q : List Nat} (Z : PlanZ w0 base v K h c P) (h01 : Below w0.heap.size w0 w1) (hr : OwnN w1 base (.slice (some ⟨b, 0, none⟩) q.length cb) q) (hb : w0.heap.size ≤ b)
    (ho : w'.ownsRow base 22 1 (.slice (some ⟨g5, 0, none⟩) (K + 1) c5) (K + 1) (rowsV h c P K ++ [.slice (some ⟨b, 0, none⟩) q.length cb])) (hon : Only (fun k => v.ownBlock = some k) w1 w') (hat : v.ownBlock = some g5 ∨ w1.heap.size ≤ g5) :
    PlanZ w' base (.slice (some ⟨g5, 0, none⟩) (K + 1) c5) (K + 1) (updF h K b) (updF c K cb) (updF P K q) := by
  have hbl := (hr.lt b rfl).2
  have hv : ∀ k, v.ownBlock = some k → k < w0.heap.size := fun k hk => (Z.own.lt k hk).2
  have hnb : ∀ t, t < K → h t ≠ b := fun t ht => by have := (Z.lt ht).2; omega
  refine ⟨?_, fun t ht => ?_, fun s t hs ht e => ?_, fun t ht hh => ?_⟩
  · rw [← rowsV_next (h := h) (c := c) (P := P) (fun t ht => ⟨(updF_ne (by omega)).symm, (updF_ne (by omega)).symm, (updF_ne (by omega)).symm⟩), updF_at, updF_at, updF_at]
    exact ho
  · by_cases e : t = K
    · subst e
      rw [updF_at, updF_at, updF_at]
      exact own_keep hr fun k _ hk hkb => hon.block k hk fun hh => by
        have := hv k hh
        have e3 : b = k := Option.some.inj hkb
        omega
    · rw [updF_ne e, updF_ne e, updF_ne e]
      have h1 := (Z.row t (by omega)).below h01
      exact own_keep h1 fun k _ hk hkb => hon.block k hk fun hh => Z.ne t (by omega) (by rw [hh, ← hkb]; rfl)
  · by_cases e1 : s = K
    · by_cases e2 : t = K
      · omega
      · subst e1
        rw [updF_at, updF_ne e2] at e
        exact absurd e.symm (hnb t (by omega))
    · by_cases e2 : t = K
      · subst e2
        rw [updF_at, updF_ne e1] at e
        exact absurd e (hnb s (by omega))
      · rw [updF_ne e1, updF_ne e2] at e
        exact Z.inj s t (by omega) (by omega) e
  · have hh : g5 = updF h K b t := Option.some.inj hh
    by_cases e : t = K
    · subst e
      rw [updF_at] at hh
      rcases hat with h | h
      · have := hv g5 h; omega
      · omega
    · rw [updF_ne e] at hh
      rcases hat with h | h
      · exact Z.ne t (by omega) (by rw [h, hh])
      · have := (Z.lt (show t < K by omega)).2
        have := h01.size
        omega

/-- One of the lists has grown by a number, and is stored in its place. -/
theorem PlanZ.grow {w0 pre w9 : World} {base g n cap g1 c1 i x : Nat} {K : Nat} {h c : Nat → Nat} {P : Nat → List Nat} (Z : PlanZ w0 base (.slice (some ⟨g, 0, none⟩) n cap) K h c P) (hi : i < K) (hp : Below w0.heap.size w0 pre) (ho : OwnN w9 base (.slice (some ⟨g1, 0, none⟩) (P i ++ [x]).length c1) (P i ++ [x])) (hg : pre.grownBy w9 (some (h i))) (hat : h i = g1 ∨ w0.heap.size ≤ g1) :
    PlanZ (w9.setCell ⟨g, i, none⟩ (.slice (some ⟨g1, 0, none⟩) (P i ++ [x]).length c1)) base (.slice (some ⟨g, 0, none⟩) n cap) K (updF h i g1) (updF c i c1) (updF P i (P i ++ [x])) := by
  obtain ⟨a, cap', e, _, _⟩ := own_form Z.own
  have e1 : n = K := by cases e; rfl
  subst e1
  have hgl := Z.own.lt g rfl
  have hset : ∀ k v, k ≠ g → (w9.setCell ⟨g, i, none⟩ v).heap[k]? = w9.heap[k]? := fun k v hk => Below.heap_setCell _ _ _ _ (by show k ≠ g; exact hk)
  have hgr : ∀ k, k < w0.heap.size → k ≠ h i → w9.heap[k]? = w0.heap[k]? := fun k hk hne => (hg.block k (Nat.lt_of_lt_of_le hk hp.size) (fun e => hne (Option.some.inj e))).trans (hp.block k hk)
  have hgh : ∀ t, t < n → g ≠ h t := fun t ht e => Z.ne t ht (by rw [← e]; rfl)
  have hg1 : g1 ≠ g := by
    rcases hat with h | h
    · exact fun e => hgh i hi (by omega)
    · omega
  refine ⟨?_, fun t ht => ?_, fun s t hs ht e => ?_, fun t ht hh => ?_⟩
  · have h1 := own_put (i := i) (v := .slice (some ⟨g1, 0, none⟩) (P i ++ [x]).length c1) (own_keep (w' := w9) Z.own fun k _ hk hkb => hgr k hk (by have e3 : g = k := Option.some.inj hkb; have := hgh i hi; omega))
    rw [← rowsV_set (h := h) (c := c) (P := P) hi (fun t _ hne => ⟨(updF_ne hne).symm, (updF_ne hne).symm, (updF_ne hne).symm⟩), updF_at, updF_at, updF_at]
    exact h1
  · by_cases e : t = i
    · subst e
      rw [updF_at, updF_at, updF_at]
      exact own_keep ho fun k _ _ hkb => hset k _ (by have e3 : g1 = k := Option.some.inj hkb; omega)
    · rw [updF_ne e, updF_ne e, updF_ne e]
      refine own_keep (Z.row t ht) fun k _ hk hkb => ?_
      have e3 : h t = k := Option.some.inj hkb
      have := hgh t ht
      rw [hset k _ (by omega)]
      exact hgr k hk (fun e4 => e (Z.inj t i ht hi (by omega)))
  · by_cases e1 : s = i
    · by_cases e2 : t = i
      · omega
      · subst e1
        rw [updF_at, updF_ne e2] at e
        rcases hat with h | h
        · exact absurd (Z.inj s t hs ht (by omega)) (by omega)
        · have := (Z.lt ht).2; omega
    · by_cases e2 : t = i
      · subst e2
        rw [updF_at, updF_ne e1] at e
        rcases hat with h | h
        · exact absurd (Z.inj s t hs ht (by omega)) (by omega)
        · have := (Z.lt hs).2; omega
      · rw [updF_ne e1, updF_ne e2] at e
        exact Z.inj s t hs ht e
  · have hh : g = updF h i g1 t := Option.some.inj hh
    by_cases e : t = i
    · subst e
      rw [updF_at] at hh
      exact hg1 hh.symm
    · rw [updF_ne e] at hh
      exact hgh t ht hh

end Go.Proofs.YtnkgpinadgacgabDoor
