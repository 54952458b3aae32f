/- Laws on slices whose elements have several cells: make, copy; a whole-row view of the slice that was made. -/
import Derived.WalkKit
import Derived.WalkSpells
import Derived.Deep.OwnRows
import Derived.Laws.CopyOwn
import Derived.Test.YtnkgpinadgacgaaDoorBa
namespace Go.Proofs.YtnkgpinadgacgaaDoor
open Go.RowKit

theorem wpList_make_all {P : Program} (w : World) {ops : Array Oper} {rest : List Oper} {o : Oper} {a : Act} {Q : Exit → Act → World → Prop}
    (hg : o.guard = none) (l c : Operand) (t : TypeId) (hop : o.op = Op.makeSlice t l c)
    (e : TypeId) (z : Value) (size bytes : Nat) (h1 : P.underlying t = some (.slice e)) (hinfo : (P.info? e).map (fun i => (i.zero, i.size, i.bytes)) = some (some z, size, bytes))
    (kl kc : IntKind) (L C : Int) (n : Nat) (hl : a.eval l = .int kl L) (hc : a.eval c = .int kc C) (hL : L = (n : Int)) (hC : C = (n : Int)) (b2 : bytes * n ≤ 281474976710656) (b3 : n ≤ 9223372036854775807)
    (hK : wpList P ops Q rest (a.put o.dst (.slice (some ⟨w.heap.size, 0, none⟩) n n)) (w.alloc (.cells (madeCells z.cells (n * size)) e))) :
    wpList P ops Q (o :: rest) a w := by
  obtain ⟨i, h2, h3, h4, h5⟩ := info_parts hinfo
  refine wpList_plain hg fun K hK' => ?_
  have hb' : (i.bytes : Int) * (n : Int) ≤ 281474976710656 := by
    have h : ((i.bytes * n : Nat) : Int) ≤ 281474976710656 := by rw [h5]; omega
    rwa [Int.natCast_mul] at h
  have hrun := run_make (P := P) w t e i z h1 h2 h3 kl kc n n (by omega) (Int.le_refl _) hb' (by omega)
  simp only [Int.toNat_natCast, h4] at hrun
  subst hL
  subst hC
  unfold Oper.wp
  simp [execOp, hop, hl, hc, hrun, Result.andThen]
  exact hK' _ _ hK

theorem rowIs_made {w : World} (zs : Array Value) (n : Nat) (t : TypeId) (f : Nat → Value) (h : ∀ i, i < n → zs[i % zs.size]! = f i) : (w.alloc (.cells (madeCells zs n) t)).rowIs w.heap.size t n f := by
  have := World.rowIs_alloc w (madeCells zs n) t f (fun i hi => by rw [size_madeCells] at hi; simp [madeCells, hi, h i hi])
  rwa [size_madeCells] at this

theorem run_copy_rowS {P : Program} (w : World) (dT sT ty elem : TypeId) (sz g o dLen dCap : Nat) (a : Addr) (sLen sCap : Nat) (cur : Array Value) (t : TypeId) (cs : List Value)
    (hu : P.underlying dT = some (.slice elem)) (hs : (P.info? elem).map (·.size) = some sz)
    (hg : w.heap[g]? = some (.cells cur t (0, 0))) (hn : cs.length = Nat.min sLen dLen * sz)
    (hsrc : ∀ j v, cs[j]? = some v → w.cell? (a.add j) = some v) (hfit : o + cs.length ≤ cur.size) (h1 : ∀ v ∈ cs, v.oneCell' = true) :
    (Builtin.copy_ #[dT, sT] ty #[.slice (some ⟨g, o, none⟩) dLen dCap, .slice (some a) sLen sCap]).run P w =
      .ok (goInt (Nat.min sLen dLen)) (w.setRow g (cur.toList.take o ++ cs ++ cur.toList.drop (o + cs.length)).toArray) := by
  have hl := run_loadCells_list (P := P) w a cs hsrc
  have hst := run_storeCells_at P g o t cs 0 cur w hg (by simpa using hfit) h1
  cases hq : P.info? elem with
  | none => simp [hq] at hs
  | some i =>
    have hi : i.size = sz := by simpa [hq] using hs
    rw [hn] at hl
    simp [Builtin.copy_, run_underlying hu, Builtin.lenOf, Builtin.firstCells, sizeOf, typeInfo, hq, hi, hl, hst]

theorem run_copy_noneS {P : Program} (w : World) (dT sT ty elem : TypeId) (sz : Nat) (d : Addr) (sp : Option Addr) (dLen dCap sLen sCap : Nat)
    (hu : P.underlying dT = some (.slice elem)) (hs : (P.info? elem).map (·.size) = some sz) (hm : Nat.min sLen dLen * sz = 0) :
    (Builtin.copy_ #[dT, sT] ty #[.slice (some d) dLen dCap, .slice sp sLen sCap]).run P w = .ok (goInt (Nat.min sLen dLen)) w := by
  cases hq : P.info? elem with
  | none => simp [hq] at hs
  | some i =>
    have hi : i.size = sz := by simpa [hq] using hs
    cases sp with
    | none => simp [Builtin.copy_, run_underlying hu, Builtin.lenOf, Builtin.firstCells, sizeOf, typeInfo, hq, storeCells]
    | some b => simp [Builtin.copy_, run_underlying hu, Builtin.lenOf, Builtin.firstCells, sizeOf, typeInfo, hq, hi, hm, storeCells, loadCells, loadCellsFrom]

theorem wpList_copy_rowsS {P : Program} {w : World} {ops : Array Oper} {rest : List Oper} {o : Oper} {a : Act} {Q : Exit → Act → World → Prop} (hgd : o.guard = none) (d s : Operand) (dT sT : TypeId)
    (ho : o.op = .call { callee := .builtin .copy, args := #[d, s], argTypes := #[dT, sT] }) (elem : TypeId) (hu : P.underlying dT = some (.slice elem)) (sz : Nat) (hsz : (P.info? elem).map (·.size) = some sz)
    (g dLen dCap : Nat) (sp : Option Addr) (sLen sCap : Nat) (hd : a.eval d = .slice (some ⟨g, 0, none⟩) dLen dCap) (hs : a.eval s = .slice sp sLen sCap)
    (t : TypeId) (N : Nat) (f : Nat → Value) (hg : w.rowIs g t N f) (m : Nat) (hm : Nat.min sLen dLen * sz = m) (hmN : m ≤ N) (S : Nat → Value) (hS1 : ∀ j, (S j).oneCell' = true)
    (hsrc : 0 < m → ∃ b off, sp = some ⟨b, off, none⟩ ∧ ∀ j, j < m → w.cell? ⟨b, off + j, none⟩ = some (S j))
    (h : ∀ w', w'.rowIs g t N (fun j => if j < m then S j else f j) → Below g w w' → w'.heap.size = w.heap.size → wpList P ops Q rest (a.put o.dst (goInt (Nat.min sLen dLen))) w') :
    wpList P ops Q (o :: rest) a w := by
  refine wpList_plain hgd fun K hK => ?_
  by_cases h0 : m = 0
  · have hrun := run_copy_noneS (P := P) w dT sT o.type elem sz ⟨g, 0, none⟩ sp dLen dCap sLen sCap hu hsz (hm.trans h0)
    unfold Oper.wp
    simp [execOp, ho, resolve, invoke, builtin, hd, hs, hrun, Result.andThen]
    exact hK _ _ (h w (hg.congr fun i _ => by rw [if_neg (by omega)]) (Below.refl _ _) rfl)
  · obtain ⟨b, off, rfl, hcell⟩ := hsrc (by omega)
    obtain ⟨cur, hcur, hcn, hcf⟩ := hg
    have hlen : ((List.range m).map S).length = m := by simp
    have hsrc' : ∀ j v, ((List.range m).map S)[j]? = some v → w.cell? ((⟨b, off, none⟩ : Addr).add j) = some v := by
      intro j v hj
      have hjm : j < m := by have := (List.getElem?_eq_some_iff.1 hj).1; simpa using this
      have e : (⟨b, off, none⟩ : Addr).add j = ⟨b, off + j, none⟩ := by
        unfold Addr.add; split <;> simp_all
      rw [e, hcell j hjm]
      simpa [hjm] using hj
    have hrun := run_copy_rowS (P := P) w dT sT o.type elem sz g 0 dLen dCap ⟨b, off, none⟩ sLen sCap cur t ((List.range m).map S) hu hsz hcur (by rw [hlen]; exact hm.symm) hsrc' (by rw [hlen, hcn]; omega)
      (by intro v hv; obtain ⟨j, _, rfl⟩ := List.mem_map.1 hv; exact hS1 j)
    unfold Oper.wp
    simp only [execOp, ho, resolve, invoke, builtin]
    simp [hd, hs, hrun, Result.andThen]
    refine hK _ _ (h _ ⟨_, setRow_heap w g _ _ t _ hcur, ?_, ?_⟩ (below_setRow (Below.refl _ _) (Nat.le_refl _) _) (by simp [World.setRow]))
    · simp [hcn]; omega
    · intro i hi
      by_cases hlt : i < m
      · simp [hlt, List.getElem?_append]
      · have h2 := hcf i hi
        simp [hlt, List.getElem?_append, List.getElem?_drop]
        rw [show m + (i - m) = i by omega]
        exact h2

end Go.Proofs.YtnkgpinadgacgaaDoor

/- Walks of handed (the yard with its carts in a list of their own, with spare room) and of still. -/
namespace Go.Proofs.YtnkgpinadgacgaaDoor
open Go.RowKit M

theorem Tryd.infoCart : (Tryd.prog.info? 87).map (fun i => (i.zero, i.size, i.bytes)) = some (some (.agg #[.int .i64 0, .int .i64 0]), 2, 16) := by kernel_rfl
theorem Tryd.sizeCart : (Tryd.prog.info? 87).map (·.size) = some 2 := by kernel_rfl

/-- The cells of a list of n carts and its spare room. -/
def roomF (n : Nat) (fr tt : Nat → Int) (j : Nat) : Int := if j < n * 2 then (if j % 2 = 0 then fr (j / 2) else tt (j / 2)) else -5

def rowV (k : Nat) (f : Nat → Int) (j : Nat) : Value := .int .i64 (if j < k * 2 then f j else 0)

theorem CartsIn.src {w : World} {b off n : Nat} {fr tt : Nat → Int} (h : CartsIn w b off n fr tt) : ∀ j, j < n * 2 → w.cell? ⟨b, off + j, none⟩ = some (.int .i64 (roomF n fr tt j)) := by
  intro j hj
  have h2 := h (j / 2) (by omega)
  unfold roomF
  rw [if_pos hj]
  by_cases e : j % 2 = 0
  · rw [if_pos e, show off + j = off + j / 2 * 2 by omega]; exact h2.1
  · rw [if_neg e, show off + j = off + j / 2 * 2 + 1 by omega]; exact h2.2

theorem rowV_zero (f : Nat → Int) (N : Nat) (w : World) (t : TypeId) : (w.alloc (.cells (madeCells #[.int .i64 0, .int .i64 0] N) t)).rowIs w.heap.size t N (rowV 0 f) := by
  refine rowIs_made _ _ _ _ fun i _ => ?_
  have : i % 2 = 0 ∨ i % 2 = 1 := by omega
  rcases this with e | e <;> simp [e, rowV]

theorem rowV_at (f : Nat → Int) (N : Nat) (w : World) (t : TypeId) (k : Nat) (hk : k = w.heap.size) : (w.alloc (.cells (madeCells #[.int .i64 0, .int .i64 0] N) t)).rowIs k t N (rowV 0 f) := by
  subst hk; exact rowV_zero f N w t

theorem rowV_copied {w : World} {g n N : Nat} {t : TypeId} {f : Nat → Int} (h : w.rowIs g t N (fun j => if j < n * 2 then .int .i64 (f j) else rowV 0 f j)) : w.rowIs g t N (rowV n f) := by
  refine h.congr fun i _ => ?_
  unfold rowV
  by_cases e : i < n * 2 <;> simp [e]

theorem row_fill {w : World} {g n k N : Nat} {t : TypeId} {fr tt : Nat → Int} (h : w.rowIs g t N (rowV k (roomF n fr tt))) (hk : n ≤ k) :
    ((w.setCell ⟨g, k * 2, none⟩ (.int .i64 (-5))).setCell ⟨g, k * 2 + 1, none⟩ (.int .i64 (-5))).rowIs g t N (rowV (k + 1) (roomF n fr tt)) := by
  refine ((h.set (k * 2) _).set (k * 2 + 1) _).congr fun i _ => ?_
  unfold rowV roomF
  by_cases e1 : i = k * 2 + 1
  · subst e1
    rw [if_pos rfl, if_pos (by omega), if_neg (by omega)]
  · rw [if_neg e1]
    by_cases e2 : i = k * 2
    · subst e2
      rw [if_pos rfl, if_pos (by omega), if_neg (by omega)]
    · rw [if_neg e2]
      by_cases e3 : i < k * 2
      · rw [if_pos e3, if_pos (show i < (k + 1) * 2 by omega)]
      · rw [if_neg e3, if_neg (show ¬ i < (k + 1) * 2 by omega)]

set_option maxRecDepth 100000 in
set_option maxHeartbeats 400000 in
theorem handed_any (ro co bu : Int) (cs : ByteArray) (a : Option Addr) (n cap : Nat) (fr tt : Nat → Int) (w : World) (hn : n * 16 ≤ 140737488351232)
    (ha : 0 < n → ∃ b off, a = some ⟨b, off, none⟩ ∧ CartsIn w b off n fr tt) :
    Calls Tryd.prog 13 #[.agg #[.int .i64 ro, .int .i64 co, .string cs, .slice a n cap, .int .i64 bu]] w fun e w' =>
      ∃ g, e = .returned (.agg #[.int .i64 ro, .int .i64 co, .string cs, .slice (some ⟨g, 0, none⟩) n (n + 8), .int .i64 bu]) ∧ w.heap.size ≤ g ∧ w'.rowIs g 87 ((n + 8) * 2) (rowV (n + 8) (roomF n fr tt)) ∧ Below w.heap.size w w' := by
  have hsrc : 0 < n * 2 → ∃ b off, a = some ⟨b, off, none⟩ ∧ b < w.heap.size ∧ ∀ j, j < n * 2 → w.cell? ⟨b, off + j, none⟩ = some (.int .i64 (roomF n fr tt j)) := by
    intro h
    obtain ⟨b, off, hab, hc⟩ := ha (by omega)
    exact ⟨b, off, hab, World.block_lt_of_cell? _ _ (hc 0 (by omega)).1, hc.src⟩
  have Hsrc := Hid.mk hsrc
  clear hsrc ha
  go_enter Tryd.func13, Tryd.ntmps13
  go_wp2_with (first | (at_make; go_must (refine wpList_make_all _ rfl _ _ 22 rfl 87 _ _ _ Tryd.underlying22 Tryd.infoCart _ _ _ _ (n + 8) rfl rfl (by simp) (by simp) (by omega) (by omega) ?_)) | ((refine wpList_copy_rowsS rfl _ _ _ _ rfl 87 Tryd.underlying22 2 Tryd.sizeCart _ _ _ _ _ _ rfl rfl 87 ((n + 8) * 2) (rowV 0 (roomF n fr tt)) (rowV_at _ _ _ _ _ (by simp)) (n * 2) ?hm ?hmN (fun j => .int .i64 (roomF n fr tt j)) (fun _ => rfl) ?hsrc ?_)))
  case hm => show min n (n + 8) * 2 = n * 2; rw [Nat.min_eq_left (by omega)]
  case hmN => omega
  case hsrc =>
    intro h
    obtain ⟨b, off, hab, hbl, hc⟩ := Hsrc.out h
    exact ⟨b, off, hab, fun j hj => cell_later ((((Below.refl _ _).alloc (Nat.le_refl _) _).alloc (by simp) _).alloc (by simp; omega) _) (hc j hj)⟩
  intro w2 hrow0 hb2 hsz2
  have hrow := rowV_copied hrow0
  have hB := Hid.mk (((((Below.refl _ w).alloc (Nat.le_refl _) _).alloc (by simp) _).alloc (by simp; omega) _).trans (hb2.mono (by omega)) : Below w.heap.size w w2)
  have y0 : ∀ o, w2.cell? ⟨w.heap.size, o, none⟩ = #[Value.int .i64 ro, .int .i64 co, .string cs, .slice a n cap, .int .i64 bu][o]? := by
    intro o
    rw [hb2.cell (p := ⟨w.heap.size, o, none⟩) (by show w.heap.size < _; omega)]; go_simp
  have y00 := y0 0
  have y01 := y0 1
  have y02 := y0 2
  have y03 := y0 3
  have y04 := y0 4
  simp at y00 y01 y02 y03 y04
  have hg0 : ∀ o, w2.frozen? ⟨w.heap.size + 1, o, none⟩ = false := by
    intro o
    rw [hb2.frozen (p := ⟨w.heap.size + 1, o, none⟩) (by show w.heap.size + 1 < _; omega)]; go_simp
  have hgc : ∀ o, w2.cell? ⟨w.heap.size + 1, o, none⟩ = #[Value.int .i64 0, .int .i64 0, .string ⟨#[]⟩, .slice none 0 0, .int .i64 0][o]? := by
    intro o
    rw [hb2.cell (p := ⟨w.heap.size + 1, o, none⟩) (by show w.heap.size + 1 < _; omega)]; go_simp
  have Y0 := Hid.mk y0
  have HF := Hid.mk hg0
  have HC := Hid.mk hgc
  clear y0 y00 y01 y02 y03 y04 hg0 hgc hb2 hrow0 Hsrc
  have HR := Hid.mk hrow
  clear hrow
  go_wp2
  go_loopw [5] (fun s wr => ∃ k : Nat, n ≤ k ∧ k ≤ n + 8 ∧ s = .int .i64 k ∧ wr.rowIs (w.heap.size + 1 + 1) 87 ((n + 8) * 2) (rowV k (roomF n fr tt)) ∧ Below (w.heap.size + 1 + 1) w2 wr) (fun s _ => n + 8 - (intOf s).toNat)
  case atStart => exact ⟨n, Nat.le_refl _, by omega, rfl, HR.out, Below.refl _ _⟩
  case round =>
    obtain ⟨k, hkn, hk, rfl, hrw, hbr⟩ := hrel
    have HW := Hid.mk hrw
    have hsz := hrw.lt
    by_cases hlt : k < n + 8
    · have x1 := hrw.cell (i := k * 2) (by omega)
      have x2 := hrw.cell (i := k * 2 + 1) (by omega)
      have x3 := hrw.frozen
      clear hrw
      go_wp2
      go_roundw
      case rel => exact ⟨k + 1, by omega, by omega, by go_num, row_fill HW.out hkn, (hbr.setCell (by simp) _).setCell (by simp) _⟩
      case measure => simp [intOf]; omega
    · have hd : k = n + 8 := by omega
      have x1 : ∀ o, wr.cell? ⟨w.heap.size, o, none⟩ = #[Value.int .i64 ro, .int .i64 co, .string cs, .slice a n cap, .int .i64 bu][o]? := fun o => (hbr.cell (p := ⟨w.heap.size, o, none⟩) (by show w.heap.size < _; omega)).trans (Y0.out o)
      have x2 : ∀ o, wr.cell? ⟨w.heap.size + 1, o, none⟩ = #[Value.int .i64 0, .int .i64 0, .string ⟨#[]⟩, .slice none 0 0, .int .i64 0][o]? := fun o => (hbr.cell (p := ⟨w.heap.size + 1, o, none⟩) (by show w.heap.size + 1 < _; omega)).trans (HC.out o)
      have x3 : ∀ o, wr.frozen? ⟨w.heap.size + 1, o, none⟩ = false := fun o => (hbr.frozen (p := ⟨w.heap.size + 1, o, none⟩) (by show w.heap.size + 1 < _; omega)).trans (HF.out o)
      have hz1 : w.heap.size + 1 < wr.heap.size := by omega
      have hz0 : w.heap.size < wr.heap.size := by omega
      clear hrw
      go_wp2
      refine bodyPost_ret (v := .agg #[.int .i64 ro, .int .i64 co, .string cs, .slice (some ⟨w.heap.size + 1 + 1, 0, none⟩) n (n + 8), .int .i64 bu]) (by simp [results, Tryd.results13]; go_simp) rfl ⟨w.heap.size + 1 + 1, rfl, by omega, ?_, ?_⟩
      · subst hd
        refine World.rowIs.alloc ?_ _
        iterate 5 refine World.rowIs.setOther ?_ (by show w.heap.size + 1 + 1 ≠ w.heap.size + 1; omega) _
        exact HW.out
      · have h0 := hB.out.trans (hbr.mono (by omega))
        refine Below.alloc ?_ (by simp [World.setCell]; omega) _
        iterate 5 refine Below.setCell ?_ (by show w.heap.size ≤ w.heap.size + 1; omega) _
        exact h0

end Go.Proofs.YtnkgpinadgacgaaDoor

/- Walk of still: the yard that was handed in reads as it did. -/
namespace Go.Proofs.YtnkgpinadgacgaaDoor
open Go.RowKit M

theorem row_cart0 {n k : Nat} {fr tt : Nat → Int} (h : k < n) : rowV (n + 8) (roomF n fr tt) (k * 2) = .int .i64 (fr k) := by
  unfold rowV roomF
  rw [if_pos (show k * 2 < (n + 8) * 2 by omega), if_pos (show k * 2 < n * 2 by omega), if_pos (show k * 2 % 2 = 0 by omega), show k * 2 / 2 = k by omega]

theorem row_cart1 {n k : Nat} {fr tt : Nat → Int} (h : k < n) : rowV (n + 8) (roomF n fr tt) (k * 2 + 1) = .int .i64 (tt k) := by
  unfold rowV roomF
  rw [if_pos (show k * 2 + 1 < (n + 8) * 2 by omega), if_pos (show k * 2 + 1 < n * 2 by omega), if_neg (show ¬ (k * 2 + 1) % 2 = 0 by omega), show (k * 2 + 1) / 2 = k by omega]

theorem row_room0 {n k : Nat} {fr tt : Nat → Int} (h : k < n + 8) (h2 : ¬ k < n) : rowV (n + 8) (roomF n fr tt) (k * 2) = .int .i64 (-5) := by
  unfold rowV roomF
  rw [if_pos (show k * 2 < (n + 8) * 2 by omega), if_neg (show ¬ k * 2 < n * 2 by omega)]

theorem row_room1 {n k : Nat} {fr tt : Nat → Int} (h : k < n + 8) (h2 : ¬ k < n) : rowV (n + 8) (roomF n fr tt) (k * 2 + 1) = .int .i64 (-5) := by
  unfold rowV roomF
  rw [if_pos (show k * 2 + 1 < (n + 8) * 2 by omega), if_neg (show ¬ k * 2 + 1 < n * 2 by omega)]

set_option maxRecDepth 100000 in
set_option maxHeartbeats 400000 in
theorem still_any (ro co bu : Int) (cs : ByteArray) (a : Option Addr) (g n cap : Nat) (fr tt : Nat → Int) (w : World) (hn : n * 16 ≤ 140737488351232)
    (ha : 0 < n → ∃ b off, a = some ⟨b, off, none⟩ ∧ CartsIn w b off n fr tt) (hrow : w.rowIs g 87 ((n + 8) * 2) (rowV (n + 8) (roomF n fr tt))) :
    Calls Tryd.prog 15 #[.agg #[.int .i64 ro, .int .i64 co, .string cs, .slice (some ⟨g, 0, none⟩) n (n + 8), .int .i64 bu], .agg #[.int .i64 ro, .int .i64 co, .string cs, .slice a n cap, .int .i64 bu]] w fun e w' =>
      e = .returned (.bool true) ∧ Below w.heap.size w w' := by
  have hgl := hrow.lt
  have HR := Hid.mk hrow
  have HA := Hid.mk ha
  clear hrow ha
  go_enter Tryd.func15, Tryd.ntmps15
  go_wp2
  go_loopw [7] (fun s wr => ∃ k : Nat, k ≤ n + 8 ∧ s = .int .i64 k ∧ Below (w.heap.size + 2) ((w.alloc (Obj.cells #[.int .i64 ro, .int .i64 co, .string cs, .slice (some ⟨g, 0, none⟩) n (n + 8), .int .i64 bu] 24)).alloc (Obj.cells #[.int .i64 ro, .int .i64 co, .string cs, .slice a n cap, .int .i64 bu] 24)) wr) (fun s _ => n + 8 - (intOf s).toNat)
  case atStart => exact ⟨0, Nat.zero_le _, rfl, Below.refl _ _⟩
  case round =>
    obtain ⟨k, hk, rfl, hbr⟩ := hrel
    have hB := Hid.mk ((((Below.refl _ w).alloc (Nat.le_refl _) _).alloc (by simp) _).trans (hbr.mono (by omega)) : Below w.heap.size w wr)
    have hz1 : w.heap.size + 1 < wr.heap.size := by have := hbr.size; simp at this; omega
    have hz0 : w.heap.size < wr.heap.size := by omega
    have hzg : g < wr.heap.size := by omega
    have HBR := Hid.mk hbr
    by_cases hlt : k < n + 8
    · have c1 := cell_later hB.out (HR.out.cell (i := k * 2) (by omega))
      have c2 := cell_later hB.out (HR.out.cell (i := k * 2 + 1) (by omega))
      by_cases hkn : k < n
      · obtain ⟨b, off, rfl, hcs⟩ := HA.out (by omega)
        have hcs2 := hcs.below hB.out
        have d1 := (hcs2 k hkn).1
        have d2 := (hcs2 k hkn).2
        have hzb : b < wr.heap.size := World.block_lt_of_cell? _ _ d1
        have z3 : wr.cell? ⟨w.heap.size + 1, 3, none⟩ = some (.slice (some ⟨b, off, none⟩) n cap) := by
          rw [hbr.cell (p := ⟨w.heap.size + 1, 3, none⟩) (by show w.heap.size + 1 < _; omega)]; go_simp
        rw [row_cart0 hkn] at c1
        rw [row_cart1 hkn] at c2
        clear hcs hcs2 hbr
        go_wp2
        go_quiet (fail)
        go_wp2
        go_roundw
        case rel => exact ⟨k + 1, by omega, by go_num, below_drewN (HBR.out.alloc (by omega) _) _⟩
        case measure => simp [intOf]; omega
      · rw [row_room0 hlt hkn] at c1
        rw [row_room1 hlt hkn] at c2
        clear hbr
        go_wp2
        go_quiet (fail)
        go_wp2
        go_roundw
        case rel => exact ⟨k + 1, by omega, by go_num, below_drewN (HBR.out.alloc (by omega) _) _⟩
        case measure => simp [intOf]; omega
    · go_wp2
      go_ret
      exact ⟨rfl, hB.out⟩

/-- The handed list's carts lie in memory as carts. -/
theorem row_carts {w : World} {g n : Nat} {t : TypeId} {fr tt : Nat → Int} (h : w.rowIs g t ((n + 8) * 2) (rowV (n + 8) (roomF n fr tt))) : CartsIn w g 0 n fr tt := by
  intro i hi
  have h1 := h.cell (i := i * 2) (by omega)
  have h2 := h.cell (i := i * 2 + 1) (by omega)
  rw [row_cart0 hi] at h1
  rw [row_cart1 hi] at h2
  exact ⟨by simpa using h1, by simpa using h2⟩

theorem rowIs_below {w w' : World} {g : Nat} {t : TypeId} {N : Nat} {f : Nat → Value} (h : w.rowIs g t N f) (hb : Below w.heap.size w w') : w'.rowIs g t N f := h.of_block (hb.block _ h.lt)

theorem opt_below {w w' : World} {a : Option Addr} {n : Nat} {fr tt : Nat → Int} (ha : 0 < n → ∃ b off, a = some ⟨b, off, none⟩ ∧ CartsIn w b off n fr tt) (hb : Below w.heap.size w w') :
    0 < n → ∃ b off, a = some ⟨b, off, none⟩ ∧ CartsIn w' b off n fr tt := by
  intro h
  obtain ⟨b, off, hab, hc⟩ := ha h
  exact ⟨b, off, hab, hc.below hb⟩

end Go.Proofs.YtnkgpinadgacgaaDoor
