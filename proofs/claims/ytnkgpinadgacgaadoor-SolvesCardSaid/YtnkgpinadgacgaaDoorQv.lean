/- Several texts in one: Co, El, En, Ep, Eq. -/
import Derived.Test.YtnkgpinadgacgaaDoorQr
import Derived.Test.YtnkgpinadgacgaaDoorQi
import Derived.Test.YtnkgpinadgacgaaDoorQp
import Derived.Test.YtnkgpinadgacgaaDoorQo
import Derived.Maps.RangeWalk
import Derived.Test.YtnkgpinadgacgaaDoorQj
import Derived.Deep.RegionHeld3
import Derived.Deep.LoopGhost
import Derived.Shelf.LaySoft
import Derived.Shelf.SlIterI.Nil
import Derived.Shelf.SortM.Plain
import Derived.Shelf.SortM.SortNone
import Derived.Ground.GgzProg
import Derived.Ground.SlgmProg
import Derived.Test.YtnkgpinadgacgaaDoorProg
import Derived.Test.YtnkgpinadgacgaaDoorQc
namespace Go.Proofs.YtnkgpinadgacgaaDoor
open Go.RowKit M
namespace M
/-- The error of Judge. -/
def judgeE (ro co bu : Int) (cs : ByteArray) (m : Nat) (fr tt : Nat → Int) (lvl : Int) : Int := if (checkM ro co cs m fr tt bu).1 = 0 then (if lvl < 0 ∨ 3 < lvl then 7 else 0) else (checkM ro co cs m fr tt bu).1

/-- The faults that Judge tells. -/
def ansF (ro co bu : Int) (cs : ByteArray) (m : Nat) (fr tt : Nat → Int) (n : Nat) (p : PlanM) (lvl : Int) : List FaultM :=
  if judgeE ro co bu cs m fr tt lvl = 0 then (if n = m then allF lvl.toNat co cs fr tt n p.len p.num else [⟨0, -1, -1, 0⟩]) else []

def preF (lvl j n : Nat) (len : Nat → Nat) (num : Nat → Nat → Int) : List FaultM :=
  (if 3 ≤ lvl ∧ j < 3 then pairsF 3 n len num n else []) ++ (if 2 ≤ lvl ∧ j < 2 then pairsF 2 n len num n else [])

theorem preF_start (lvl n : Nat) (len : Nat → Nat) (num : Nat → Nat → Int) : preF lvl lvl n len num = [] := by
  unfold preF
  rw [if_neg (by omega), if_neg (by omega)]; rfl

theorem preF_3 {lvl n : Nat} {len : Nat → Nat} {num : Nat → Nat → Int} (h : 3 ≤ lvl) : preF lvl 2 n len num = preF lvl 3 n len num ++ pairsF 3 n len num n := by
  unfold preF
  rw [if_pos ⟨h, by omega⟩, if_neg (by omega), if_neg (by omega), if_neg (by omega)]; simp

theorem preF_2 {lvl n : Nat} {len : Nat → Nat} {num : Nat → Nat → Int} (h : 2 ≤ lvl) : preF lvl 1 n len num = preF lvl 2 n len num ++ pairsF 2 n len num n := by
  unfold preF
  rw [if_pos (show 2 ≤ lvl ∧ 1 < 2 from ⟨h, by omega⟩), if_neg (show ¬ (2 ≤ lvl ∧ 2 < 2) by omega)]
  by_cases e : 3 ≤ lvl
  · rw [if_pos ⟨e, by omega⟩, if_pos ⟨e, by omega⟩]; simp
  · rw [if_neg (by omega), if_neg (by omega)]; rfl

theorem preF_done {lvl j n : Nat} {len : Nat → Nat} {num : Nat → Nat → Int} (hj : j < 2) : preF lvl j n len num = (if 3 ≤ lvl then pairsF 3 n len num n else []) ++ (if 2 ≤ lvl then pairsF 2 n len num n else []) := by
  unfold preF
  congr 1
  · by_cases e : 3 ≤ lvl
    · rw [if_pos ⟨e, by omega⟩, if_pos e]
    · rw [if_neg (by omega), if_neg e]
  · by_cases e : 2 ≤ lvl
    · rw [if_pos ⟨e, by omega⟩, if_pos e]
    · rw [if_neg (by omega), if_neg e]

end M
theorem preF_len {lvl j n : Nat} {len : Nat → Nat} {num : Nat → Nat → Int} (hn : n ≤ 4) (h : ∀ j, j < n → len j ≤ 1048576) : (preF lvl j n len num).length ≤ 33554432 := by
  have h1 := pairs_all (lvl := 3) (num := num) hn h
  have h2 := pairs_all (lvl := 2) (num := num) hn h
  unfold preF
  simp only [List.length_append]
  split <;> split <;> simp <;> omega

theorem good_pos {ro co bu : Int} {cs : ByteArray} {m : Nat} {fr tt : Nat → Int} (h : (checkM ro co cs m fr tt bu).1 = 0) : 0 < m := by
  by_cases e : 0 < m
  · exact e
  · exfalso
    obtain ⟨s1, s2, s3⟩ := checkM_good h
    unfold checkM at h
    rw [s1, s2, if_neg (by decide)] at h
    by_cases c : 0 ≤ cellsM ro co cs
    · rw [if_pos c] at h; cases h
    · rw [if_neg c, if_pos (by omega)] at h; cases h

theorem ret_vi {a : Value} {b c : Int} (h : b = c) : Ending.returned (.tuple #[a, .int .i64 b]) = .returned (.tuple #[a, .int .i64 c]) := by rw [h]

end Go.Proofs.YtnkgpinadgacgaaDoor

namespace Go.Proofs.YtnkgpinadgacgaaDoor
open Go.RowKit Go.Maps M
/-- A list of lists of the call's own, each in a block of its own. -/
def ListsOwn (w : World) (base : Nat) (v : Value) (Ls : List (List Nat)) : Prop :=
  ∃ (g : Nat) (A : Nat → Value), v = .slice (some ⟨g, 0, none⟩) Ls.length Ls.length ∧ base ≤ g ∧ w.rowIs g 26 Ls.length A ∧ (∀ t, t < Ls.length → OwnN w base (A t) (Ls.getD t [])) ∧ (∀ t, t < Ls.length → (A t).ownBlock ≠ some g) ∧
    ∀ s t h, s < Ls.length → t < Ls.length → s ≠ t → (A s).ownBlock = some h → (A t).ownBlock ≠ some h

def extA (A : Nat → Value) (k : Nat) (v : Value) : Nat → Value := fun t => if t = k then v else A t

theorem extA_at {A : Nat → Value} {k : Nat} {v : Value} : extA A k v k = v := by unfold extA; rw [if_pos rfl]

theorem extA_ne {A : Nat → Value} {k t : Nat} {v : Value} (h : ¬ t = k) : extA A k v t = A t := by unfold extA; rw [if_neg h]

end Go.Proofs.YtnkgpinadgacgaaDoor

namespace Go.Proofs.YtnkgpinadgacgaaDoor
open Go.RowKit M
/-- A list of lists that can be read. -/
def PlanQ (w : World) (v : Value) (Ls : List (List Nat)) : Prop :=
  ∃ a c, v = .slice a Ls.length c ∧ (0 < Ls.length → ∃ g, a = some ⟨g, 0, none⟩ ∧ ∀ t, t < Ls.length → ∃ s, w.cell? ⟨g, t, none⟩ = some s ∧ RowQ w s (Ls.getD t []))

theorem PlanQ.below {w w' : World} {v : Value} {Ls : List (List Nat)} (h : PlanQ w v Ls) (hb : Below w.heap.size w w') : PlanQ w' v Ls := by
  obtain ⟨a, c, hv, h2⟩ := h
  refine ⟨a, c, hv, fun hp => ?_⟩
  obtain ⟨g, ha, hc⟩ := h2 hp
  refine ⟨g, ha, fun t ht => ?_⟩
  obtain ⟨s, hs, hr⟩ := hc t ht
  exact ⟨s, cell_later hb hs, hr.below hb⟩

theorem OwnN.rowQ {w : World} {base : Nat} {v : Value} {L : List Nat} (h : OwnN w base v L) : RowQ w v L := by
  obtain ⟨a, c, hv, ha, _⟩ := h.form
  refine ⟨⟨a, c, hv, fun hp => ?_⟩, fun g hg => (h.lt g hg).2⟩
  obtain ⟨g, rfl⟩ := ha hp
  subst hv
  exact ⟨g, rfl, fun j hj => h.cell hj⟩

end Go.Proofs.YtnkgpinadgacgaaDoor

namespace Go.Proofs.YtnkgpinadgacgaaDoor
open Go.RowKit M
theorem own_to_row {w : World} {base g n cap : Nat} {L : List Int} (h : OwnZ w base (.slice (some ⟨g, 0, none⟩) n cap) L) (hn : 0 < n) :
    ∃ F, w.rowIs g 3 cap F ∧ (∀ j, j < n → F j = .int .i64 (L.getD j 0)) ∧ base ≤ g ∧ n ≤ cap ∧ cap ≤ maxLen ∧ n = L.length := by
  obtain ⟨a, cap2, hv, _, _⟩ := h.form
  have e : n = L.length := by cases hv; rfl
  subst e
  have h2 := h
  rcases h with ⟨h1, h3 | ⟨g', cap', cur, hv', hg, hh, hnc, hcm, hs, ht⟩⟩
  · cases h3.1
  · cases hv'
    refine ⟨fun j => (cur[j]?).getD (.int .i64 0), ⟨cur, hh, by omega, fun i hi => ?_⟩, fun j hj => ?_, hg, hnc, hcm, rfl⟩
    · show _ = some ((cur[i]?).getD (.int .i64 0))
      rw [Array.getElem?_eq_getElem (by omega)]; rfl
    · have hc := h2.cell hj
      have hc2 : w.cell? ⟨g, j, none⟩ = cur[j]? := by simp [World.cell?, hh]
      rw [hc2] at hc
      show (cur[j]?).getD (.int .i64 0) = _
      rw [hc]; rfl

theorem row_to_own {w : World} {base g n cap : Nat} {L : List Int} {F : Nat → Value} (h : w.rowIs g 3 cap F) (hF : ∀ j, j < n → F j = .int .i64 (L.getD j 0)) (hg : base ≤ g) (hn : n ≤ cap) (hc : cap ≤ maxLen) (hl : n = L.length) : OwnZ w base (.slice (some ⟨g, 0, none⟩) n cap) L := by
  obtain ⟨cur, hh, hs, hf⟩ := h
  subst hl
  refine ⟨by simp [ints], .inr ⟨g, cap, cur, rfl, hg, hh, hn, hc, by omega, ?_⟩⟩
  refine List.ext_getElem? fun j => ?_
  by_cases hj : j < L.length
  · rw [List.getElem?_take, if_pos (by omega), Array.getElem?_toList, hf j (by omega), hF j hj]
    unfold ints
    rw [List.getElem?_map, List.getElem?_eq_getElem hj, List.getD_eq_getElem?_getD, List.getElem?_eq_getElem hj]; rfl
  · rw [List.getElem?_eq_none (by simp; omega), List.getElem?_eq_none (by simp [ints]; omega)]

theorem wpList_push3 {P : Program} {w : World} {ops : Array Oper} {rest : List Oper} {o : Oper} {a : Act} {Q : Exit → Act → World → Prop} (hgd : o.guard = none) (s x : Operand) (t : TypeId)
    (ho : o.op = .call { callee := .builtin .append, args := #[s, x], argTypes := #[t, t] })
    (base : Nat) (e : TypeId) (z : Value) (bytes : Nat) (ht : P.underlying t = some (.slice e)) (hinfo : (P.info? e).map (fun i => (i.zero, i.size, i.bytes)) = some (some z, 1, bytes)) (hzs : z.cells.size = 1)
    (gq n cap : Nat) (xs : List Value) (hs : a.eval s = .slice (some ⟨gq, 0, none⟩) n cap) (hown : w.ownsRow base e 1 (.slice (some ⟨gq, 0, none⟩) n cap) n xs)
    (ad : Addr) (c : Nat) (u : Value) (hx : a.eval x = .slice (some ad) 1 c) (hu : w.cell? ad = some u) (h1 : u.oneCell' = true)
    (h63 : n + 1 ≤ maxLen) (hbytes : (n + 1) * bytes ≤ 140737488355328) (hbase : base ≤ w.heap.size)
    (h : ∀ g cap' w', w'.ownsRow base e 1 (.slice (some ⟨g, 0, none⟩) (n + 1) cap') (n + 1) (xs ++ [u]) → w.grownBy w' (some gq) → (g = gq ∨ (w.heap.size ≤ g ∧ Below w.heap.size w w')) → wpList P ops Q rest (a.put o.dst (.slice (some ⟨g, 0, none⟩) (n + 1) cap')) w') :
    wpList P ops Q (o :: rest) a w := by
  by_cases hroom : n + 1 ≤ cap
  · obtain ⟨i, h2, h3, h4, h5⟩ := info_parts hinfo
    refine wpList_append_fits_any w hgd s x t ho base e i 1 ht h2 h4 gq n cap xs hs hown (some ad) 1 c [u] hx rfl (fun hh => by cases hh) ?_ ?_ hroom ?_
    · intro ad' had j v' hj
      cases had
      match j, hj with
      | 0, hj =>
        simp at hj; subst hj
        simpa [Addr.add] using hu
    · intro v' hv'
      simp at hv'; subst hv'; exact h1
    · intro w' hown' hgr
      exact h gq cap w' hown' hgr (Or.inl rfl)
  · have hnc : cap = n := by have := own_cap hown; omega
    subst hnc
    refine wpList_push_full hgd s x t ho e z bytes ht hinfo hzs (some ⟨gq, 0, none⟩) cap xs hs (fun hh => by cases hh) (by have := hown.1; simpa using this) ?_ ad c u hx hu h1 h63 hbytes ?_
    · intro b hb j v' hj
      cases hb
      have hjl : j < cap := by
        have h1 := (List.getElem?_eq_some_iff.1 hj).1
        have h2 := hown.1
        omega
      have e1 : (⟨gq, 0, none⟩ : Addr).add j = ⟨gq, j, none⟩ := by unfold Addr.add; split <;> simp_all
      rw [e1, own_cell hown hjl]; exact hj
    · intro g cap' w' hown' hb
      exact h g cap' w' (own_base hown' hbase) ⟨hb.os, hb.tape, hb.output, hb.size, fun k hk _ => hb.block k hk⟩ (Or.inr ⟨(own_lt hown').1, hb⟩)

set_option maxRecDepth 100000 in
set_option maxHeartbeats 4000000 in
theorem fill_own (base g n cap : Nat) (L : List Int) (mv : Int) (w : World) (hn : 0 < n) (hn2 : n ≤ 1000000) (_hbase : base ≤ w.heap.size) (h1 : OwnZ w base (.slice (some ⟨g, 0, none⟩) n cap) L) :
    Calls Tryd.prog 66 #[.slice (some ⟨g, 0, none⟩) n cap, .int .i64 mv] w fun e w' =>
      ∃ h c, e = .returned (.slice (some ⟨h, 0, none⟩) (n + 1) c) ∧ (∀ j, j < n + 1 → w'.cell? ⟨h, j, none⟩ = some (.int .i64 mv)) ∧ (h = g ∨ w.heap.size ≤ h) ∧ (∀ j, j < n → w'.cell? ⟨g, j, none⟩ = some (.int .i64 mv)) ∧ Only (fun k => k = g) w w' := by
  obtain ⟨F, hrow, hF, hbg, hnc, hcm, hnl⟩ := own_to_row h1 hn
  have HR := Hid.mk hrow
  have HF := Hid.mk hF
  have hgl := hrow.lt
  clear h1 hrow hF hnl
  go_enter Tryd.func66, Tryd.ntmps66
  go_wp2
  go_loopw [5] (fun v5 wr => ∃ k : Nat, v5 = .int .i64 k ∧ k ≤ n ∧ wr.rowIs g 3 cap (fun j => if j < k then .int .i64 mv else F j) ∧ Only (fun k => k = g) w wr) (fun v5 _ => n - (intOf v5).toNat)
  case atStart => exact ⟨0, rfl, Nat.zero_le _, HR.out.congr (fun i _ => by rw [if_neg (by omega)]), Only.refl _ _⟩
  case round =>
    obtain ⟨w1, rfl⟩ : ∃ q, q = wr := ⟨_, rfl⟩
    obtain ⟨k, rfl, hk, hr, ho⟩ := hrel
    have R1 := Hid.mk hr
    have O1 := Hid.mk ho
    have hz1 := ho.size
    by_cases hlt : k < n
    · have rc := hr.cell (i := k) (by omega)
      rw [if_neg (by omega), HF.out k hlt] at rc
      have rf := hr.frozen
      clear hr ho
      go_wp2
      go_roundw
      case rel =>
        refine ⟨k + 1, by go_num, by omega, (R1.out.set k (.int .i64 mv)).congr (fun i _ => ?_), O1.out.setCell (p := ⟨g, k, none⟩) (fun _ => rfl) _⟩
        by_cases e : i = k
        · rw [if_pos e, if_pos (by omega)]
        · rw [if_neg e]
          by_cases e2 : i < k
          · rw [if_pos e2, if_pos (by omega)]
          · rw [if_neg e2, if_neg (by omega)]
      case measure => simp [intOf]; omega
    · have hd : k = n := by omega
      subst hd
      have OW : Hid (OwnZ w1 base (.slice (some ⟨g, 0, none⟩) k cap) (List.replicate k mv)) := row_to_own R1.out (fun j hj => by rw [if_pos hj, List.getD_eq_getElem?_getD, List.getElem?_replicate, if_pos hj]; rfl) hbg hnc hcm (by simp)
      have hb1 : base ≤ w1.heap.size := by omega
      have hb2 : base ≤ (w1.alloc (Obj.cells #[Value.int .i64 mv] 3)).heap.size := by simp; omega
      have OW2 : Hid (OwnZ (w1.alloc (Obj.cells #[Value.int .i64 mv] 3)) base (.slice (some ⟨g, 0, none⟩) k cap) (List.replicate k mv)) := own_keep OW.out (fun q _ hq _ => Below.heap_alloc _ _ _ hq)
      have R2 := Hid.mk R1.out
      clear hr ho
      go_wp2_with (at_builtin; go_must (refine wpList_push3 rfl _ _ 26 rfl base 3 _ _ Tryd.underlying26 Tryd.infoInt2 rfl g k cap (ints (List.replicate k mv)) rfl (by have h := OW2.out; unfold OwnZ at h; rw [List.length_replicate] at h; exact h) ⟨w1.heap.size, 0, none⟩ 1 (.int .i64 mv) rfl (by go_simp) rfl (by unfold maxLen; omega) (by omega) (by exact hb2) ?_; intro g5 c5 w2 ho5 hgr5 hat5))
      go_ret
      have hz1' : (w1.alloc (Obj.cells #[Value.int .i64 mv] 3)).heap.size = w1.heap.size + 1 := by simp
      have hon : Only (fun q => q = g) w1 w2 := ((Only.refl _ w1).alloc _).trans (Only.of_grown hgr5) (fun _ _ e => e)
      have hcell : ∀ j, j < k + 1 → w2.cell? ⟨g5, j, none⟩ = some (.int .i64 mv) := fun j hj => by
        rw [own_cell ho5 hj]
        have e : ints (List.replicate k mv) ++ [Value.int .i64 mv] = ints (List.replicate (k + 1) mv) := by rw [List.replicate_succ']; simp [ints]
        rw [e, ints_at' (by simp; omega), List.getD_eq_getElem?_getD, List.getElem?_replicate, if_pos hj]; rfl
      refine ⟨g5, c5, rfl, hcell, ?_, fun j hj => ?_, O1.out.trans hon (fun _ _ e => e)⟩
      · rcases hat5 with e | ⟨e, _⟩
        · exact .inl e
        · exact .inr (by omega)
      · rcases hat5 with e | ⟨_, hb⟩
        · subst e; exact hcell j (by omega)
        · have hrc := R2.out.cell (i := j) (by omega)
          rw [if_pos hj] at hrc
          rw [cell_block (hb.block g (by omega)), cell_block (Below.heap_alloc _ _ _ (by omega))]
          exact hrc

set_option maxRecDepth 100000 in
set_option maxHeartbeats 400000 in
theorem filled_far (ao : Option Addr) (n cap : Nat) (m : Int) (w : World) (hn : n ≤ 1000001) (h1 : 0 < n → ∃ g, ao = some ⟨g, 0, none⟩ ∧ ∀ j, j < n → w.cell? ⟨g, j, none⟩ = some (.int .i64 m)) :
    Calls Tryd.prog 67 #[.slice ao n cap, .int .i64 m] w fun e w' => e = .returned (.bool true) ∧ w' = w := by
  have H1 := Hid.mk h1
  clear h1
  go_enter Tryd.func67, Tryd.ntmps67
  go_wp2
  go_loop [5] (fun s => ∃ k : Nat, k ≤ n ∧ s = .int .i64 k) (fun s => n - (intOf s).toNat)
  case atStart => exact ⟨0, Nat.zero_le _, rfl⟩
  case round =>
    obtain ⟨k, hk, rfl⟩ := hrel
    by_cases hlt : k < n
    · obtain ⟨g, rfl, hc⟩ := H1.out (by omega)
      have c1 := hc k hlt
      clear hc
      go_wp2
      go_round
      case rel => exact ⟨k + 1, by omega, by go_num⟩
      case measure => simp [intOf]; omega
    · go_wp2
      go_ret
      exact ⟨rfl, rfl⟩

end Go.Proofs.YtnkgpinadgacgaaDoor

namespace Go.Proofs.YtnkgpinadgacgaaDoor
open Go.RowKit M
set_option maxRecDepth 100000 in
/-- A slice is pushed onto a list of slices. -/
theorem wpList_pushV {w0 : World} {ops : Array Oper} {rest : List Oper} {o : Oper} {a : Act} {Q : Exit → Act → World → Prop} (hgd : o.guard = none) (s x : Operand)
    (ho : o.op = .call { callee := .builtin .append, args := #[s, x], argTypes := #[35, 35] })
    (base : Nat) (v : Value) (K : Nat) (A : List Value) (ay : Option Addr) (ny cy : Nat) (hs : a.eval s = v) (hown : w0.ownsRow base 26 1 v K A) (hbase : base ≤ w0.heap.size) (c : Nat)
    (hx : a.eval x = .slice (some ⟨w0.heap.size, 0, none⟩) 1 c) (hL : K ≤ 100000000)
    (h : ∀ g cap w', w'.ownsRow base 26 1 (.slice (some ⟨g, 0, none⟩) (K + 1) cap) (K + 1) (A ++ [.slice ay ny cy]) → Only (fun k => v.ownBlock = some k) w0 w' → (v.ownBlock = some g ∨ w0.heap.size ≤ g) → wpList Tryd.prog ops Q rest (a.put o.dst (.slice (some ⟨g, 0, none⟩) (K + 1) cap)) w') :
    wpList Tryd.prog ops Q (o :: rest) a (w0.alloc (.cells #[.slice ay ny cy] 26)) := by
  obtain ⟨i0, hi0, hi1, hi2, hi3⟩ := info_parts Tryd.infoSl
  have hown1 := own_keep (w' := w0.alloc (.cells #[.slice ay ny cy] 26)) hown (fun g _ hg _ => Below.heap_alloc _ _ _ hg)
  refine wpList_append_lies _ hgd s x _ ho base 26 i0 _ 1 24 Tryd.underlying35 hi0 hi1 hi2 hi3 rfl (by omega) v K A hs hown1 _ 1 c [.slice ay ny cy] hx rfl (fun j u hj => ?_) (fun u hu => ?_) (by omega) (by unfold maxLen; omega) (by omega) (by simp; omega) (w0.heap.size + 1) (by simp) ?_
  · match j, hj with
    | 0, hj => simp at hj; subst hj; simp [Addr.add]
    | j + 1, hj => simp at hj
  · simp at hu; subst hu; rfl
  · intro g cap w' ho9 hg9 hl9 _
    refine h g cap w' ho9 ⟨hg9.os, hg9.tape, hg9.output, Nat.le_trans (by simp) hg9.size, fun k hk hn => ?_⟩ (hl9.imp id (fun e => by omega))
    rw [hg9.block k (by simp; omega) (fun e => hn e.symm)]
    exact Below.heap_alloc _ _ _ hk

/-- What fill has written, list by list. -/
structure Tails (w wr : World) (i : Nat) (g n : Nat → Nat) (V : Value) (A : List Value) (H C : Nat → Nat) : Prop where
  own : wr.ownsRow w.heap.size 26 1 V i A
  at' : ∀ t, t < i → A.getD t (.bool false) = .slice (some ⟨H t, 0, none⟩) (n t + 1) (C t)
  cells : ∀ t, t < i → ∀ j, j < n t + 1 → wr.cell? ⟨H t, j, none⟩ = some (.int .i64 (-9 - (t : Int)))
  lies : ∀ t, t < i → H t = g t ∨ w.heap.size ≤ H t
  ne : ∀ t, t < i → V.ownBlock ≠ some (H t)
  old : ∀ t, t < i → ∀ j, j < n t → wr.cell? ⟨g t, j, none⟩ = some (.int .i64 (-9 - (t : Int)))

set_option maxRecDepth 100000 in
set_option maxHeartbeats 8000000 in
theorem apart_own (base K gp cp : Nat) (g n c : Nat → Nat) (Lz : Nat → List Int) (w : World) (hK : K ≤ 300) (hbase : base ≤ w.heap.size)
    (hp : ∀ t, t < K → w.cell? ⟨gp, t, none⟩ = some (.slice (some ⟨g t, 0, none⟩) (n t) (c t))) (hown : ∀ t, t < K → OwnZ w base (.slice (some ⟨g t, 0, none⟩) (n t) (c t)) (Lz t)) (hn : ∀ t, t < K → 0 < n t ∧ n t ≤ 1000000)
    (hinj : ∀ s t, s < K → t < K → g s = g t → s = t) (hgp : ∀ t, t < K → g t ≠ gp) (hgpl : gp < w.heap.size) :
    Calls Tryd.prog 18 #[.slice (some ⟨gp, 0, none⟩) K cp] w fun e w' => e = .returned (.bool true) ∧ Only (fun k => ∃ t, t < K ∧ k = g t) w w' := by
  have HP := Hid.mk hp
  have HOWN := Hid.mk hown
  have HN := Hid.mk hn
  have HINJ := Hid.mk hinj
  have HGP := Hid.mk hgp
  have GL : Hid (∀ t, t < K → base ≤ g t ∧ g t < w.heap.size) := fun t ht => (hown t ht).lt (g t) rfl
  clear hp hown hn hinj hgp
  go_enter Tryd.func18, Tryd.ntmps18
  go_wp2
  go_loopw [3, 4] (fun v3 v4 wr => ∃ (i : Nat) (V : Value) (A : List Value) (H C : Nat → Nat), V = v3 ∧ v4 = .int .i64 i ∧ i ≤ K ∧ Tails w wr i g n V A H C ∧ Only (fun k => ∃ t, t < i ∧ k = g t) w wr) (fun _ v4 _ => K - (intOf v4).toNat)
  case atStart => exact ⟨0, _, [], fun _ => 0, fun _ => 0, rfl, rfl, Nat.zero_le _, ⟨⟨rfl, .inl ⟨rfl, rfl⟩⟩, fun t h => absurd h (Nat.not_lt_zero t), fun t h => absurd h (Nat.not_lt_zero t), fun t h => absurd h (Nat.not_lt_zero t), fun t h => absurd h (Nat.not_lt_zero t), fun t h => absurd h (Nat.not_lt_zero t)⟩, Only.refl _ _⟩
  case round =>
    obtain ⟨w1, rfl⟩ : ∃ q, q = wr := ⟨_, rfl⟩
    obtain ⟨i, V, A, H, C, rfl, rfl, hi, htl, ho⟩ := hrel
    have TL := Hid.mk htl
    have O1 := Hid.mk ho
    have hz1 := ho.size
    clear htl ho
    by_cases hlt : i < K
    · have d0 := (O1.out.cell (p := ⟨gp, i, none⟩) hgpl (by rintro ⟨t, ht, e⟩; exact HGP.out t (by omega) e.symm)).trans (HP.out i hlt)
      have hiI : (i : Int) < (K : Int) := by omega
      have hwi : IntKind.i64.wrap (-9 - (i : Int)) = -9 - (i : Int) := wrap_mid (by omega) (by omega)
      have hni := HN.out i hlt
      have hgi := GL.out i hlt
      have OW1 : Hid (OwnZ w1 base (.slice (some ⟨g i, 0, none⟩) (n i) (c i)) (Lz i)) := own_keep (HOWN.out i hlt) (fun q _ hq hv => O1.out.block q hq (by
        have e : g i = q := Option.some.inj hv
        rintro ⟨t, ht, e2⟩
        have := HINJ.out i t hlt (by omega) (by omega)
        omega))
      go_wp2_with fail
      refine (fill_own base (g i) (n i) (c i) (Lz i) (-9 - (i : Int)) w1 hni.1 (by omega) (by omega) OW1.out).mono ?_
      rintro e w2 ⟨h, ch, rfl, hcells, hlies, hold, ho2⟩
      have hz2 := ho2.size
      have hVlo : ∀ q, V.ownBlock = some q → w.heap.size ≤ q ∧ q < w1.heap.size := fun q hq => TL.out.own.lt q hq
      have OWV : Hid (w2.ownsRow w.heap.size 26 1 V i A) := own_keep TL.out.own (fun q hq hl _ => ho2.block q hl (by omega))
      have CE := Hid.mk hcells
      have LI := Hid.mk hlies
      have OLD := Hid.mk hold
      have O2 := Hid.mk ho2
      have hw2 : w.heap.size ≤ w2.heap.size := by omega
      have hi8 : i ≤ 100000000 := by omega
      have hhl : h < w2.heap.size := World.block_lt_of_cell? (a := ⟨h, 0, none⟩) _ (hcells 0 (by omega))
      clear hcells hlies hold ho2 d0
      go_wp2_with (at_builtin; go_must (refine wpList_pushV rfl _ _ rfl w.heap.size V i A (some ⟨h, 0, none⟩) (n i + 1) ch rfl OWV.out (by exact hw2) _ rfl hi8 ?_; intro g5 c5 w3 ho5 hon5 hat5))
      go_roundw
      case rel =>
        have hz3 := hon5.size
        have nV : ∀ q, q < w.heap.size → ¬ (V.ownBlock = some q) := fun q hq hh => by have := (hVlo q hh).1; omega
        have hA : A.length = i := by have := TL.out.own.1; omega
        have hhV : V.ownBlock ≠ some h := fun hh => by
          have h1 := hVlo h hh
          rcases LI.out with e | e <;> omega
        have h12 : Only (fun k => ∃ t, t < i + 1 ∧ k = g t) w w2 := (O1.out.mono (fun q _ e => by obtain ⟨t, ht, e⟩ := e; exact ⟨t, by omega, e⟩)).trans O2.out (fun q _ e => ⟨i, by omega, e⟩)
        refine ⟨i + 1, _, A ++ [.slice (some ⟨h, 0, none⟩) (n i + 1) ch], fun t => if t = i then h else H t, fun t => if t = i then ch else C t, rfl, by go_num, by omega, ⟨ho5, fun t ht => ?_, fun t ht j hj => ?_, fun t ht => ?_, fun t ht hh => ?_, fun t ht j hj => ?_⟩, h12.trans hon5 (fun q hq e => absurd e (nV q hq))⟩
        · show _ = Value.slice (some ⟨if t = i then h else H t, 0, none⟩) (n t + 1) (if t = i then ch else C t)
          by_cases e : t = i
          · rw [if_pos e, if_pos e, e, getD_snoc_new hA.symm]
          · rw [if_neg e, if_neg e, getD_snoc_old (by omega)]
            exact TL.out.at' t (by omega)
        · show w3.cell? ⟨if t = i then h else H t, j, none⟩ = _
          by_cases e : t = i
          · subst e
            rw [if_pos rfl, hon5.cell (p := ⟨h, j, none⟩) hhl hhV]
            exact CE.out j hj
          · rw [if_neg e]
            have hc := TL.out.cells t (by omega) j hj
            have hHl := World.block_lt_of_cell? (a := ⟨H t, j, none⟩) _ hc
            have hHi : H t ≠ g i := by
              rcases TL.out.lies t (by omega) with e2 | e2
              · rw [e2]
                intro e3
                exact e (HINJ.out t i (by omega) hlt e3)
              · have := hgi.2
                omega
            rw [hon5.cell (p := ⟨H t, j, none⟩) (by show H t < _; have : H t < w1.heap.size := hHl; omega) (TL.out.ne t (by omega)), O2.out.cell (p := ⟨H t, j, none⟩) hHl hHi]
            exact hc
        · show (if t = i then h else H t) = g t ∨ w.heap.size ≤ (if t = i then h else H t)
          by_cases e : t = i
          · rw [if_pos e, e]
            rcases LI.out with e2 | e2
            · exact .inl e2
            · exact .inr (by omega)
          · rw [if_neg e]
            exact TL.out.lies t (by omega)
        · have hh2 : g5 = (if t = i then h else H t) := Option.some.inj hh
          by_cases e : t = i
          · rw [if_pos e] at hh2
            rcases hat5 with e2 | e2
            · exact hhV (by rw [e2, hh2])
            · omega
          · rw [if_neg e] at hh2
            have hc := TL.out.cells t (by omega) 0 (by omega)
            have hHl : H t < w1.heap.size := World.block_lt_of_cell? (a := ⟨H t, 0, none⟩) _ hc
            rcases hat5 with e2 | e2
            · exact TL.out.ne t (by omega) (by rw [e2, hh2])
            · omega
        · by_cases e : t = i
          · subst e
            rw [hon5.cell (p := ⟨g t, j, none⟩) (by show g t < _; have := hgi.2; omega) (nV (g t) hgi.2)]
            exact OLD.out j hj
          · have hgt := (GL.out t (by omega)).2
            rw [hon5.cell (p := ⟨g t, j, none⟩) (by show g t < _; omega) (nV (g t) hgt), O2.out.cell (p := ⟨g t, j, none⟩) (by show g t < _; omega) (by show ¬ (g t = g i); exact fun e3 => e (HINJ.out t i (by omega) hlt e3))]
            exact TL.out.old t (by omega) j hj
      case measure => simp [intOf]; omega
    · have hd : i = K := by omega
      subst hd
      obtain ⟨aV, cV, rfl, haV, _⟩ := own_form TL.out.own
      have HAV := Hid.mk haV
      clear haV
      go_wp2
      go_loopw [6] (fun v6 wr => ∃ k : Nat, v6 = .int .i64 k ∧ k ≤ i ∧ wr = w1) (fun v6 _ => i - (intOf v6).toNat)
      case atStart => exact ⟨0, rfl, Nat.zero_le _, rfl⟩
      case round =>
        obtain ⟨k, rfl, hk, rfl⟩ := hrel
        by_cases hltk : k < i
        · obtain ⟨gV, rfl⟩ := HAV.out (by omega)
          have d0 := (O1.out.cell (p := ⟨gp, k, none⟩) hgpl (by rintro ⟨t, ht, e⟩; exact HGP.out t (by omega) e.symm)).trans (HP.out k hltk)
          have d1 : wr.cell? ⟨gV, k, none⟩ = some (.slice (some ⟨H k, 0, none⟩) (n k + 1) (C k)) := by
            rw [own_cell TL.out.own hltk, ← TL.out.at' k hltk]
            have hA : A.length = i := by have := TL.out.own.1; omega
            rw [List.getD_eq_getElem?_getD, List.getElem?_eq_getElem (by omega)]; rfl
          have hkI : (k : Int) < (i : Int) := by omega
          have hwk : IntKind.i64.wrap (-9 - (k : Int)) = -9 - (k : Int) := wrap_mid (by omega) (by omega)
          have hnk := (HN.out k hltk).2
          go_wp2_with fail
          refine (filled_far _ (n k) (c k) (-9 - (k : Int)) wr (by omega) (fun _ => ⟨g k, rfl, fun j hj => TL.out.old k hltk j hj⟩)).mono ?_
          rintro e w9 ⟨rfl, hw9⟩
          have hw9 := hw9.symm
          subst hw9
          go_wp2_with fail
          refine (filled_far _ (n k + 1) (C k) (-9 - (k : Int)) wr (by omega) (fun _ => ⟨H k, rfl, fun j hj => TL.out.cells k hltk j hj⟩)).mono ?_
          rintro e w9 ⟨rfl, hw9⟩
          have hw9 := hw9.symm
          subst hw9
          clear d0 d1
          go_wp2
          go_roundw
          case rel => exact ⟨k + 1, by go_num, by omega, (by first | rfl | trivial)⟩
          case measure => simp [intOf]; omega
        · go_wp2
          go_ret
          exact ⟨rfl, O1.out⟩

end Go.Proofs.YtnkgpinadgacgaaDoor
