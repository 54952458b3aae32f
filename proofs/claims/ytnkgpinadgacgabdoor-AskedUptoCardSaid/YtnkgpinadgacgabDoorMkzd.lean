/- Several texts in one: Dz, Ca, Cb. -/
import Derived.Test.YtnkgpinadgacgabDoorMkl
import Derived.Test.YtnkgpinadgacgabDoorMkj
import Derived.Laws.AppendOwnNone
namespace Go.Proofs.YtnkgpinadgacgabDoor
open Go.RowKit M
/-- A row of empty lists, just made. -/
theorem nilRow (N : Nat) (w : World) (t : TypeId) (k : Nat) (hk : k = w.heap.size) : (w.alloc (.cells (madeCells #[.slice none 0 0] N) t)).rowIs k t N (fun _ => .slice none 0 0) := by
  subst hk
  refine rowIs_made _ _ _ _ fun i _ => ?_
  simp [Nat.mod_one]

theorem Tryd.infoInt2 : (Tryd.prog.info? 3).map (fun i => (i.zero, i.size, i.bytes)) = some (some (.int .i64 0), 1, 8) := by kernel_rfl

/-- A list of natural numbers that the call made. -/
def OwnN (w : World) (base : Nat) (v : Value) (L : List Nat) : Prop := w.ownsRow base 3 1 v L.length (ints (qi L))

theorem OwnN.nil (w : World) (base : Nat) : OwnN w base (.slice none 0 0) [] := ⟨rfl, .inl ⟨rfl, rfl⟩⟩

theorem OwnN.below {w w' : World} {base : Nat} {v : Value} {L : List Nat} (h : OwnN w base v L) (hb : Below w.heap.size w w') : OwnN w' base v L := own_later h hb

theorem OwnN.le {w : World} {base base' : Nat} {v : Value} {L : List Nat} (h : OwnN w base v L) (hb : base' ≤ base) : OwnN w base' v L := own_le h hb

theorem OwnN.form {w : World} {base : Nat} {v : Value} {L : List Nat} (h : OwnN w base v L) : ∃ a cap, v = .slice a L.length cap ∧ (0 < L.length → ∃ g, a = some ⟨g, 0, none⟩) ∧ L.length ≤ cap := own_form h

theorem OwnN.cell {w : World} {base g n cap : Nat} {L : List Nat} (h : OwnN w base (.slice (some ⟨g, 0, none⟩) n cap) L) {i : Nat} (hi : i < L.length) : w.cell? ⟨g, i, none⟩ = some (.int .i64 (L.getD i 0 : Nat)) := by
  obtain ⟨a, cap2, hv, _, _⟩ := h.form
  have e : n = L.length := by cases hv; rfl
  subst e
  rw [own_cell h hi, qi_at hi]

set_option maxRecDepth 100000 in
theorem wpList_pushN {w0 : World} {ops : Array Oper} {rest : List Oper} {o : Oper} {a : Act} {Q : Exit → Act → World → Prop} (hgd : o.guard = none) (s x : Operand)
    (ho : o.op = .call { callee := .builtin .append, args := #[s, x], argTypes := #[22, 22] })
    (base : Nat) (v : Value) (L : List Nat) (y : Nat) (hs : a.eval s = v) (hown : OwnN w0 base v L) (hbase : base ≤ w0.heap.size) (c : Nat)
    (hx : a.eval x = .slice (some ⟨w0.heap.size, 0, none⟩) 1 c) (hL : L.length ≤ 100000000)
    (h : ∀ g cap w', OwnN w' base (.slice (some ⟨g, 0, none⟩) (L ++ [y]).length cap) (L ++ [y]) → Only (fun k => v.ownBlock = some k) w0 w' → (v.ownBlock = some g ∨ w0.heap.size ≤ g) → wpList Tryd.prog ops Q rest (a.put o.dst (.slice (some ⟨g, 0, none⟩) (L ++ [y]).length cap)) w') :
    wpList Tryd.prog ops Q (o :: rest) a (w0.alloc (.cells #[.int .i64 (y : Int)] 3)) := by
  obtain ⟨i0, hi0, hi1, hi2, hi3⟩ := info_parts Tryd.infoInt2
  have hown1 := own_keep (w' := w0.alloc (.cells #[.int .i64 (y : Int)] 3)) hown (fun g _ hg _ => Below.heap_alloc _ _ _ hg)
  refine wpList_append_lies _ hgd s x _ ho base 3 i0 _ 1 8 Tryd.underlying22 hi0 hi1 hi2 hi3 rfl (by omega) v L.length (ints (qi L)) hs hown1 _ 1 c [.int .i64 (y : Int)] hx rfl (fun j u hj => ?_) (fun u hu => ?_) (by omega) (by unfold maxLen; omega) (by omega) (by simp; omega) (w0.heap.size + 1) (by simp) ?_
  · match j, hj with
    | 0, hj => simp at hj; subst hj; simp [Addr.add]
    | j + 1, hj => simp at hj
  · simp at hu; subst hu; rfl
  · intro g cap w' ho9 hg9 hl9 _
    have e1 : (L ++ [y]).length = L.length + 1 := by simp
    rw [e1] at h
    refine h g cap w' ?_ (⟨hg9.os, hg9.tape, hg9.output, Nat.le_trans (by simp) hg9.size, fun k hk hn => ?_⟩) (hl9.imp id (fun e => by omega))
    · unfold OwnN
      rw [← qi_push, e1]; exact ho9
    · rw [hg9.block k (by simp; omega) (fun e => hn e.symm)]
      exact Below.heap_alloc _ _ _ hk

/-- A list of numbers that the call made. -/
def OwnZ (w : World) (base : Nat) (v : Value) (L : List Int) : Prop := w.ownsRow base 3 1 v L.length (ints L)

theorem OwnZ.nil (w : World) (base : Nat) : OwnZ w base (.slice none 0 0) [] := ⟨rfl, .inl ⟨rfl, rfl⟩⟩

theorem OwnZ.below {w w' : World} {base : Nat} {v : Value} {L : List Int} (h : OwnZ w base v L) (hb : Below w.heap.size w w') : OwnZ w' base v L := own_later h hb

theorem OwnZ.le {w : World} {base base' : Nat} {v : Value} {L : List Int} (h : OwnZ w base v L) (hb : base' ≤ base) : OwnZ w base' v L := own_le h hb

theorem OwnZ.form {w : World} {base : Nat} {v : Value} {L : List Int} (h : OwnZ w base v L) : ∃ a cap, v = .slice a L.length cap ∧ (0 < L.length → ∃ g, a = some ⟨g, 0, none⟩) ∧ L.length ≤ cap := own_form h

theorem OwnZ.cell {w : World} {base g n cap : Nat} {L : List Int} (h : OwnZ w base (.slice (some ⟨g, 0, none⟩) n cap) L) {i : Nat} (hi : i < L.length) : w.cell? ⟨g, i, none⟩ = some (.int .i64 (L.getD i 0)) := by
  obtain ⟨a, cap2, hv, _, _⟩ := h.form
  have e : n = L.length := by cases hv; rfl
  subst e
  rw [own_cell h hi]
  simp [ints, List.getD, hi]

set_option maxRecDepth 100000 in
theorem wpList_pushZ {w0 : World} {ops : Array Oper} {rest : List Oper} {o : Oper} {a : Act} {Q : Exit → Act → World → Prop} (hgd : o.guard = none) (s x : Operand)
    (ho : o.op = .call { callee := .builtin .append, args := #[s, x], argTypes := #[22, 22] })
    (base : Nat) (v : Value) (L : List Int) (y : Int) (hs : a.eval s = v) (hown : OwnZ w0 base v L) (hbase : base ≤ w0.heap.size) (c : Nat)
    (hx : a.eval x = .slice (some ⟨w0.heap.size, 0, none⟩) 1 c) (hL : L.length ≤ 100000000)
    (h : ∀ g cap w', OwnZ w' base (.slice (some ⟨g, 0, none⟩) (L ++ [y]).length cap) (L ++ [y]) → Only (fun k => v.ownBlock = some k) w0 w' → (v.ownBlock = some g ∨ w0.heap.size ≤ g) → wpList Tryd.prog ops Q rest (a.put o.dst (.slice (some ⟨g, 0, none⟩) (L ++ [y]).length cap)) w') :
    wpList Tryd.prog ops Q (o :: rest) a (w0.alloc (.cells #[.int .i64 y] 3)) := by
  obtain ⟨i0, hi0, hi1, hi2, hi3⟩ := info_parts Tryd.infoInt2
  have hown1 := own_keep (w' := w0.alloc (.cells #[.int .i64 y] 3)) hown (fun g _ hg _ => Below.heap_alloc _ _ _ hg)
  refine wpList_append_lies _ hgd s x _ ho base 3 i0 _ 1 8 Tryd.underlying22 hi0 hi1 hi2 hi3 rfl (by omega) v L.length (ints L) hs hown1 _ 1 c [.int .i64 y] hx rfl (fun j u hj => ?_) (fun u hu => ?_) (by omega) (by unfold maxLen; omega) (by omega) (by simp; omega) (w0.heap.size + 1) (by simp) ?_
  · match j, hj with
    | 0, hj => simp at hj; subst hj; simp [Addr.add]
    | j + 1, hj => simp at hj
  · simp at hu; subst hu; rfl
  · intro g cap w' ho9 hg9 hl9 _
    have e1 : (L ++ [y]).length = L.length + 1 := by simp
    rw [e1] at h
    refine h g cap w' ?_ (⟨hg9.os, hg9.tape, hg9.output, Nat.le_trans (by simp) hg9.size, fun k hk hn => ?_⟩) (hl9.imp id (fun e => by omega))
    · unfold OwnZ
      rw [show ints (L ++ [y]) = ints L ++ [.int .i64 y] by simp [ints], e1]; exact ho9
    · rw [hg9.block k (by simp; omega) (fun e => hn e.symm)]
      exact Below.heap_alloc _ _ _ hk

/-- A slice of numbers somewhere in memory. -/
structure RowQ (w : World) (s : Value) (q : List Nat) : Prop where
  form : ∃ a c, s = .slice a q.length c ∧ (0 < q.length → ∃ h, a = some ⟨h, 0, none⟩ ∧ ∀ j, j < q.length → w.cell? ⟨h, j, none⟩ = some (.int .i64 (q.getD j 0 : Nat)))
  lt : ∀ h, s.ownBlock = some h → h < w.heap.size

theorem RowQ.only {w w' : World} {S : Nat → Prop} {s : Value} {q : List Nat} (h : RowQ w s q) (ho : Only S w w') (hS : ∀ g, s.ownBlock = some g → ¬ S g) : RowQ w' s q := by
  obtain ⟨a, c, hs, hf⟩ := h.form
  refine ⟨⟨a, c, hs, fun hp => ?_⟩, fun g hg => Nat.lt_of_lt_of_le (h.lt g hg) ho.size⟩
  obtain ⟨b, ha, hc⟩ := hf hp
  refine ⟨b, ha, fun j hj => (ho.cell (p := ⟨b, j, none⟩) (World.block_lt_of_cell? (a := ⟨b, j, none⟩) w (hc j hj)) (hS b (by rw [hs, ha]; rfl))).trans (hc j hj)⟩

theorem RowQ.below {w w' : World} {s : Value} {q : List Nat} (h : RowQ w s q) (hb : Below w.heap.size w w') : RowQ w' s q :=
  h.only (Only.of_below hb : Only (fun _ => False) w w') (fun _ _ e => e)

theorem Tryd.infoSl : (Tryd.prog.info? 22).map (fun i => (i.zero, i.size, i.bytes)) = some (some (.slice none 0 0), 1, 24) := by kernel_rfl

theorem getD_snoc_old {T : Type} {L : List T} {x d : T} {t : Nat} (h : t < L.length) : (L ++ [x]).getD t d = L.getD t d := by
  rw [List.getD_eq_getElem?_getD, List.getD_eq_getElem?_getD, List.getElem?_append_left h]

theorem getD_snoc_new {T : Type} {L : List T} {x d : T} {t : Nat} (h : t = L.length) : (L ++ [x]).getD t d = x := by
  subst h
  rw [List.getD_eq_getElem?_getD, List.getElem?_append_right (Nat.le_refl _), Nat.sub_self]; rfl

theorem cell_block {w w' : World} {b o : Nat} (e : w'.heap[b]? = w.heap[b]?) : w'.cell? ⟨b, o, none⟩ = w.cell? ⟨b, o, none⟩ := World.cell?_of_block (w := w) e

end Go.Proofs.YtnkgpinadgacgabDoor

namespace Go.Proofs.YtnkgpinadgacgabDoor
open Go.RowKit M
namespace M
/-- A fault. -/
structure FaultM where
  level : Int
  cart : Int
  other : Int
  at' : Int

end M
def fcell (x : FaultM) : List Value := [.int .i64 x.level, .int .i64 x.cart, .int .i64 x.other, .int .i64 x.at']

/-- The cells of a list of faults. -/
def faultCells : List FaultM → List Value
  | [] => []
  | x :: r => fcell x ++ faultCells r

theorem faultCells_app : ∀ (F G : List FaultM), faultCells (F ++ G) = faultCells F ++ faultCells G
  | [], G => rfl
  | x :: F, G => by simp [faultCells, faultCells_app F G]

theorem faultCells_len : ∀ F : List FaultM, (faultCells F).length = F.length * 4
  | [] => rfl
  | x :: F => by simp [faultCells, fcell, faultCells_len F]; omega

theorem faultCells_at : ∀ {F : List FaultM} {i : Nat} (h : i < F.length), (faultCells F)[i * 4]? = some (.int .i64 F[i].level) ∧ (faultCells F)[i * 4 + 1]? = some (.int .i64 F[i].cart) ∧ (faultCells F)[i * 4 + 2]? = some (.int .i64 F[i].other) ∧ (faultCells F)[i * 4 + 3]? = some (.int .i64 F[i].at')
  | x :: F, 0, _ => by simp [faultCells, fcell]
  | x :: F, i + 1, h => by
    have ih := faultCells_at (F := F) (i := i) (by simpa using h)
    simp only [faultCells, List.getElem_cons_succ]
    rw [List.getElem?_append_right (by simp [fcell]; omega), List.getElem?_append_right (by simp [fcell]; omega), List.getElem?_append_right (by simp [fcell]; omega), List.getElem?_append_right (by simp [fcell]; omega)]
    simp only [fcell, List.length_cons, List.length_nil]
    rw [show (i + 1) * 4 - (0 + 1 + 1 + 1 + 1) = i * 4 by omega, show (i + 1) * 4 + 1 - (0 + 1 + 1 + 1 + 1) = i * 4 + 1 by omega, show (i + 1) * 4 + 2 - (0 + 1 + 1 + 1 + 1) = i * 4 + 2 by omega, show (i + 1) * 4 + 3 - (0 + 1 + 1 + 1 + 1) = i * 4 + 3 by omega]
    exact ih

theorem fcell_one (x : FaultM) : ∀ u ∈ fcell x, u.oneCell' = true := by
  intro u hu
  simp [fcell] at hu
  rcases hu with rfl | rfl | rfl | rfl <;> rfl

theorem faultCells_one : ∀ (F : List FaultM), ∀ u ∈ faultCells F, u.oneCell' = true
  | [], u, hu => by simp [faultCells] at hu
  | x :: F, u, hu => by
    simp only [faultCells, List.mem_append] at hu
    rcases hu with h | h
    · exact fcell_one x u h
    · exact faultCells_one F u h

/-- A list of faults that the call made. -/
def OwnF (w : World) (base : Nat) (v : Value) (F : List FaultM) : Prop := w.ownsRow base 55 4 v F.length (faultCells F) ∧ (F = [] → v = .slice none 0 0)

theorem OwnF.nil (w : World) (base : Nat) : OwnF w base (.slice none 0 0) [] := ⟨⟨rfl, .inl ⟨rfl, rfl⟩⟩, fun _ => rfl⟩

theorem OwnF.below {w w' : World} {base : Nat} {v : Value} {F : List FaultM} (h : OwnF w base v F) (hb : Below w.heap.size w w') : OwnF w' base v F := ⟨own_later h.1 hb, h.2⟩

theorem OwnF.le {w : World} {base base' : Nat} {v : Value} {F : List FaultM} (h : OwnF w base v F) (hb : base' ≤ base) : OwnF w base' v F := ⟨own_le h.1 hb, h.2⟩

theorem OwnF.form {w : World} {base : Nat} {v : Value} {F : List FaultM} (h : OwnF w base v F) : ∃ a cap, v = .slice a F.length cap ∧ F.length ≤ cap := by
  obtain ⟨a, cap, h1, _, h2⟩ := own_form h.1
  exact ⟨a, cap, h1, h2⟩

/-- What lies in memory of such a list. -/
def FaultsAt (w : World) (v : Value) (F : List FaultM) : Prop :=
  (F = [] ∧ v = .slice none 0 0) ∨ ∃ g cap, v = .slice (some ⟨g, 0, none⟩) F.length cap ∧ g < w.heap.size ∧ ∀ i, (h : i < F.length) → w.cell? ⟨g, i * 4, none⟩ = some (.int .i64 F[i].level) ∧ w.cell? ⟨g, i * 4 + 1, none⟩ = some (.int .i64 F[i].cart) ∧ w.cell? ⟨g, i * 4 + 2, none⟩ = some (.int .i64 F[i].other) ∧ w.cell? ⟨g, i * 4 + 3, none⟩ = some (.int .i64 F[i].at')

theorem OwnF.at {w : World} {base : Nat} {v : Value} {F : List FaultM} (h : OwnF w base v F) : FaultsAt w v F := by
  by_cases e : F = []
  · exact .inl ⟨e, h.2 e⟩
  · have hl : 0 < F.length := by cases F with | nil => exact absurd rfl e | cons x F => simp
    rcases h.1.2 with ⟨_, e2⟩ | ⟨g, cap, cur, hv, _, hh, h4, _, h6, h7⟩
    · omega
    · have hgl : g < w.heap.size := by
        by_cases hg : g < w.heap.size
        · exact hg
        · rw [Array.getElem?_eq_none (by omega)] at hh; cases hh
      refine .inr ⟨g, cap, hv, hgl, fun i hi => ?_⟩
      obtain ⟨c1, c2, c3, c4⟩ := faultCells_at hi
      rw [← h7, List.getElem?_take, if_pos (by omega), Array.getElem?_toList] at c1 c2 c3 c4
      exact ⟨by simpa [World.cell?, hh] using c1, by simpa [World.cell?, hh] using c2, by simpa [World.cell?, hh] using c3, by simpa [World.cell?, hh] using c4⟩

theorem FaultsAt.below {w w' : World} {v : Value} {F : List FaultM} (h : FaultsAt w v F) (hb : Below w.heap.size w w') : FaultsAt w' v F := by
  rcases h with h | ⟨g, cap, h1, h2, h3⟩
  · exact .inl h
  · refine .inr ⟨g, cap, h1, Nat.lt_of_lt_of_le h2 hb.size, fun i hi => ?_⟩
    obtain ⟨c1, c2, c3, c4⟩ := h3 i hi
    exact ⟨cell_later hb c1, cell_later hb c2, cell_later hb c3, cell_later hb c4⟩

theorem Tryd.infoFault : (Tryd.prog.info? 55).map (fun i => (i.zero, i.size, i.bytes)) = some (some (.agg #[.int .i64 0, .int .i64 0, .int .i64 0, .int .i64 0]), 4, 32) := by kernel_rfl

theorem four_fresh (w : World) (f : FaultM) : ∀ j u, (fcell f)[j]? = some u → (w.alloc (.cells #[.int .i64 f.level, .int .i64 f.cart, .int .i64 f.other, .int .i64 f.at'] 55)).cell? ((⟨w.heap.size, 0, none⟩ : Addr).add j) = some u := by
  intro j u h
  unfold fcell at h
  match j, h with
  | 0, h => simp at h; subst h; simp [Addr.add]
  | 1, h => simp at h; subst h; simp [Addr.add]
  | 2, h => simp at h; subst h; simp [Addr.add]
  | 3, h => simp at h; subst h; simp [Addr.add]
  | j + 4, h => simp at h

set_option maxRecDepth 100000 in
theorem wpList_pushF {w0 : World} {ops : Array Oper} {rest : List Oper} {o : Oper} {a : Act} {Q : Exit → Act → World → Prop} (hgd : o.guard = none) (s x : Operand)
    (ho : o.op = .call { callee := .builtin .append, args := #[s, x], argTypes := #[51, 51] })
    (base : Nat) (v : Value) (F : List FaultM) (f : FaultM) (hs : a.eval s = v) (hown : OwnF w0 base v F) (hbase : base ≤ w0.heap.size) (c : Nat)
    (hx : a.eval x = .slice (some ⟨w0.heap.size, 0, none⟩) 1 c) (hF : F.length ≤ 100000000)
    (h : ∀ v' w', OwnF w' base v' (F ++ [f]) → Below base w0 w' → wpList Tryd.prog ops Q rest (a.put o.dst v') w') :
    wpList Tryd.prog ops Q (o :: rest) a (w0.alloc (.cells #[.int .i64 f.level, .int .i64 f.cart, .int .i64 f.other, .int .i64 f.at'] 55)) := by
  obtain ⟨i0, hi0, hi1, hi2, hi3⟩ := info_parts Tryd.infoFault
  have hown1 := own_keep (w' := w0.alloc (.cells #[.int .i64 f.level, .int .i64 f.cart, .int .i64 f.other, .int .i64 f.at'] 55)) hown.1 (fun g _ hg _ => Below.heap_alloc _ _ _ hg)
  refine wpList_append_lies _ hgd s x _ ho base 55 i0 _ 4 32 Tryd.underlying51 hi0 hi1 hi2 hi3 rfl (by omega) v F.length (faultCells F) hs hown1 _ 1 c (fcell f) hx rfl (four_fresh w0 f) (fcell_one f) (by omega) (by unfold maxLen; omega) (by omega) (by simp; omega) (w0.heap.size + 1) (by simp) ?_
  intro g cap w' ho9 hg9 _ _
  refine h _ w' ⟨?_, fun e => ?_⟩ ?_
  · rw [faultCells_app]
    have e1 : (F ++ [f]).length = F.length + 1 := by simp
    have e2 : faultCells [f] = fcell f := by simp [faultCells]
    rw [e1, e2]; exact ho9
  · simp at e
  · exact ((Below.refl base w0).alloc hbase _).grown hg9 (by simp; omega) (fun k hk => (hown1.lt k hk).1)

set_option maxRecDepth 100000 in
theorem wpList_catF {w : World} {ops : Array Oper} {rest : List Oper} {o : Oper} {a : Act} {Q : Exit → Act → World → Prop} (hgd : o.guard = none) (s x : Operand)
    (ho : o.op = .call { callee := .builtin .append, args := #[s, x], argTypes := #[51, 51] })
    (base base2 : Nat) (v v2 : Value) (F G : List FaultM) (hs : a.eval s = v) (hown : OwnF w base v F) (hx : a.eval x = v2) (hown2 : OwnF w base2 v2 G) (hbase : base ≤ w.heap.size) (hF : F.length + G.length ≤ 100000000)
    (h : ∀ v' w', OwnF w' base v' (F ++ G) → Below base w w' → wpList Tryd.prog ops Q rest (a.put o.dst v') w') : wpList Tryd.prog ops Q (o :: rest) a w := by
  obtain ⟨i0, hi0, hi1, hi2, hi3⟩ := info_parts Tryd.infoFault
  by_cases e : G = []
  · have e2 := hown2.2 e
    subst e
    refine wpList_append_own_none hgd s x _ ho base 55 i0 4 Tryd.underlying51 hi0 v F.length (faultCells F) hs hown.1 (by rw [hx, e2]) ?_
    exact h v w (by rw [List.append_nil]; exact hown) (Below.refl _ _)
  · have hl : 0 < G.length := by cases G with | nil => exact absurd rfl e | cons x G => simp
    rcases hown2.at with ⟨e1, _⟩ | ⟨g2, cap2, hv2, hgl, hcells⟩
    · exact absurd e1 e
    · refine wpList_append_lies _ hgd s x _ ho base 55 i0 _ 4 32 Tryd.underlying51 hi0 hi1 hi2 hi3 rfl (by omega) v F.length (faultCells F) hs hown.1 ⟨g2, 0, none⟩ G.length cap2 (faultCells G) (by rw [hx, hv2]) (faultCells_len G) ?_ (faultCells_one G) hl (by unfold maxLen; omega) (by omega) hbase _ rfl ?_
      · intro j u hj
        have hjl : j < G.length * 4 := by
          rw [← faultCells_len]
          by_cases hq : j < (faultCells G).length
          · exact hq
          · rw [List.getElem?_eq_none (by omega)] at hj; cases hj
        have hq : j / 4 < G.length := by omega
        obtain ⟨c1, c2, c3, c4⟩ := hcells (j / 4) hq
        obtain ⟨d1, d2, d3, d4⟩ := faultCells_at hq
        have hm : j % 4 = 0 ∨ j % 4 = 1 ∨ j % 4 = 2 ∨ j % 4 = 3 := by omega
        show w.cell? (Addr.add _ _) = _
        have ea : (⟨g2, 0, none⟩ : Addr).add j = ⟨g2, j, none⟩ := by simp [Addr.add]; try omega
        rw [ea]
        rcases hm with hm | hm | hm | hm
        · rw [show j / 4 * 4 = j by omega] at c1 d1; rw [c1, ← hj, d1]
        · rw [show j / 4 * 4 + 1 = j by omega] at c2 d2; rw [c2, ← hj, d2]
        · rw [show j / 4 * 4 + 2 = j by omega] at c3 d3; rw [c3, ← hj, d3]
        · rw [show j / 4 * 4 + 3 = j by omega] at c4 d4; rw [c4, ← hj, d4]
      · intro g cap w' ho9 hg9 _ _
        refine h _ w' ⟨?_, fun e' => ?_⟩ ((Below.refl base w).grown hg9 hbase (fun k hk => (hown.1.lt k hk).1))
        · rw [faultCells_app, List.length_append]; exact ho9
        · simp [e] at e'

/-- Numbers of a list that came in. -/
def NumsAt (w : World) (a : Option Addr) (n : Nat) (x : Nat → Int) : Prop := 0 < n → ∃ b off, a = some ⟨b, off, none⟩ ∧ ∀ j, j < n → w.cell? ⟨b, off + j, none⟩ = some (.int .i64 (x j))

theorem NumsAt.below {w w' : World} {a : Option Addr} {n : Nat} {x : Nat → Int} (h : NumsAt w a n x) (hb : Below w.heap.size w w') : NumsAt w' a n x := fun h0 => by
  obtain ⟨b, off, ha, hc⟩ := h h0
  exact ⟨b, off, ha, fun j hj => cell_later hb (hc j hj)⟩

/-- Lists of a list that came in: their places, lengths, rooms, numbers. -/
structure PlanM where
  ad : Nat → Option Addr
  len : Nat → Nat
  cap : Nat → Nat
  num : Nat → Nat → Int

def PlanIn (w : World) (b off n : Nat) (p : PlanM) : Prop := ∀ i, i < n → w.cell? ⟨b, off + i, none⟩ = some (.slice (p.ad i) (p.len i) (p.cap i)) ∧ NumsAt w (p.ad i) (p.len i) (p.num i)

theorem PlanIn.below {w w' : World} {b off n : Nat} {p : PlanM} (h : PlanIn w b off n p) (hb : Below w.heap.size w w') : PlanIn w' b off n p := fun i hi => ⟨cell_later hb (h i hi).1, (h i hi).2.below hb⟩

def PlanAt (w : World) (a : Option Addr) (n : Nat) (p : PlanM) : Prop := 0 < n → ∃ b off, a = some ⟨b, off, none⟩ ∧ PlanIn w b off n p

theorem PlanAt.below {w w' : World} {a : Option Addr} {n : Nat} {p : PlanM} (h : PlanAt w a n p) (hb : Below w.heap.size w w') : PlanAt w' a n p := fun h0 => by
  obtain ⟨b, off, ha, hc⟩ := h h0
  exact ⟨b, off, ha, hc.below hb⟩

namespace M
/-- Where a cart is at an instant: it stays where its list ends. -/
def posM (n : Nat) (x : Nat → Int) (t : Nat) : Int := if t < n then x t else x (n - 1)

/-- Do two carts that are at a and b, and then at c and d, have a fault of a level? -/
def pairB (lvl : Nat) (a b c d : Int) : Bool := if lvl = 2 then a == b else (a == d && b == c && !(a == b))

/-- The faults of two carts at the first instants. -/
def timesF (lvl i k : Nat) (x y : Nat → Int) : Nat → List FaultM
  | 0 => []
  | t + 1 => timesF lvl i k x y t ++ (if pairB lvl (x t) (y t) (x (t + 1)) (y (t + 1)) = true then [⟨lvl, i, k, t⟩] else [])

def spanM (n m : Nat) : Nat := if n = 0 ∨ m = 0 then 0 else max n m

/-- The faults of a cart with the carts behind it, as far as the k-th. -/
def othersF (lvl i : Nat) (len : Nat → Nat) (num : Nat → Nat → Int) : Nat → List FaultM
  | 0 => []
  | k + 1 => othersF lvl i len num k ++ (if i < k then timesF lvl i k (posM (len i) (num i)) (posM (len k) (num k)) (spanM (len i) (len k)) else [])

/-- The faults of level 3 or 2. -/
def pairsF (lvl n : Nat) (len : Nat → Nat) (num : Nat → Nat → Int) : Nat → List FaultM
  | 0 => []
  | i + 1 => pairsF lvl n len num i ++ othersF lvl i len num n

theorem othersF_low {lvl i : Nat} {len : Nat → Nat} {num : Nat → Nat → Int} : ∀ {k : Nat}, k ≤ i + 1 → othersF lvl i len num k = []
  | 0, _ => rfl
  | k + 1, h => by
    simp only [othersF]
    rw [othersF_low (by omega), if_neg (by omega)]; rfl

theorem othersF_step {lvl i k : Nat} {len : Nat → Nat} {num : Nat → Nat → Int} (h : i < k) : othersF lvl i len num (k + 1) = othersF lvl i len num k ++ timesF lvl i k (posM (len i) (num i)) (posM (len k) (num k)) (spanM (len i) (len k)) := by
  simp only [othersF]; rw [if_pos h]

theorem timesF_len (lvl i k : Nat) (x y : Nat → Int) : ∀ t, (timesF lvl i k x y t).length ≤ t
  | 0 => by simp [timesF]
  | t + 1 => by
    have := timesF_len lvl i k x y t
    simp only [timesF, List.length_append]
    split <;> simp <;> omega

theorem span_le {n m B : Nat} (hn : n ≤ B) (hm : m ≤ B) : spanM n m ≤ B := by
  unfold spanM
  split
  · omega
  · exact Nat.max_le.2 ⟨hn, hm⟩

theorem othersF_len {lvl i B m : Nat} {len : Nat → Nat} {num : Nat → Nat → Int} (h : ∀ j, j < m → len j ≤ B) (hi : i < m) : ∀ k, k ≤ m → (othersF lvl i len num k).length ≤ k * B
  | 0, _ => by simp [othersF]
  | k + 1, hk => by
    have ih := othersF_len (lvl := lvl) (num := num) h hi k (by omega)
    have h1 := timesF_len lvl i k (posM (len i) (num i)) (posM (len k) (num k)) (spanM (len i) (len k))
    have h2 := span_le (h i hi) (h k (by omega))
    have h3 : (k + 1) * B = k * B + B := Nat.succ_mul k B
    simp only [othersF, List.length_append]
    split
    · omega
    · simp; omega

theorem pairsF_len {lvl B n m : Nat} {len : Nat → Nat} {num : Nat → Nat → Int} (h : ∀ j, j < n → len j ≤ B) : ∀ i, i ≤ n → (pairsF lvl n len num i).length ≤ i * (n * B)
  | 0, _ => by simp [pairsF]
  | i + 1, hi => by
    have ih := pairsF_len (lvl := lvl) (num := num) (m := m) h i (by omega)
    have h1 := othersF_len (lvl := lvl) (num := num) h (show i < n by omega) n (Nat.le_refl _)
    have h3 : (i + 1) * (n * B) = i * (n * B) + n * B := Nat.succ_mul i _
    simp only [pairsF, List.length_append]
    omega

end M
end Go.Proofs.YtnkgpinadgacgabDoor

namespace Go.Proofs.YtnkgpinadgacgabDoor
open Go.RowKit M
set_option maxRecDepth 100000 in
set_option maxHeartbeats 1000000 in
theorem cellAt_any (a : Option Addr) (n cap t : Nat) (x : Nat → Int) (w : World) (hn : 0 < n) (hm : n ≤ 1048576) (hx : NumsAt w a n x) :
    Calls Tryd.prog 87 #[.slice a n cap, .int .i64 t] w fun e w' => e = .returned (.int .i64 (posM n x t)) ∧ w' = w := by
  obtain ⟨b, off, rfl, hc⟩ := hx hn
  have HC := Hid.mk hc
  clear hc hx
  obtain ⟨n1, rfl⟩ : ∃ n1, n = n1 + 1 := ⟨n - 1, by omega⟩
  have hv : IntKind.i64.wrap (((n1 + 1 : Nat) : Int) - 1) = (n1 : Int) := by
    rw [show ((n1 + 1 : Nat) : Int) - 1 = (n1 : Int) by omega]; exact wrap_mid (by omega) (by omega)
  by_cases h : t < n1 + 1
  · have c := HC.out t h
    have hp : Hid (posM (n1 + 1) x t = x t) := by unfold Hid posM; rw [if_pos h]
    have hI : (t : Int) < ((n1 + 1 : Nat) : Int) := by omega
    have hmin : min (t : Int) (n1 : Int) = (t : Int) := by omega
    have hle : (t : Int) ≤ (n1 : Int) := by omega
    go_enter Tryd.func87, Tryd.ntmps87
    go_wp2
    go_ret
    exact ⟨ret_int (by rw [hp.out]), rfl⟩
  · have c := HC.out n1 (by omega)
    have hp : Hid (posM (n1 + 1) x t = x n1) := by unfold Hid posM; rw [if_neg h, Nat.add_sub_cancel]
    have hmin : min (t : Int) (n1 : Int) = (n1 : Int) := by omega
    have hle : ¬ (t : Int) ≤ (n1 : Int) := by omega
    have hl : n1 < n1 + 1 := by omega
    have hlI : (n1 : Int) < ((n1 + 1 : Nat) : Int) := by omega
    go_enter Tryd.func87, Tryd.ntmps87
    go_wp2
    go_ret
    exact ⟨ret_int (by rw [hp.out]), rfl⟩

theorem instants_any (a a2 : Option Addr) (n cap n2 cap2 : Nat) (w : World) :
    Calls Tryd.prog 86 #[.slice a n cap, .slice a2 n2 cap2] w fun e w' => e = .returned (.int .i64 (spanM n n2 : Nat)) ∧ w' = w := by
  by_cases h : n = 0
  · have hs : Hid (spanM n n2 = 0) := by unfold Hid spanM; simp [h]
    have hI : ((n : Int) == 0) = true := by simp [h]
    clear h
    go_enter Tryd.func86, Tryd.ntmps86
    go_wp2
    go_ret
    exact ⟨ret_int (by rw [hs.out]; rfl), rfl⟩
  · have hI : ((n : Int) == 0) = false := by simp; omega
    by_cases h2 : n2 = 0
    · have hs : Hid (spanM n n2 = 0) := by unfold Hid spanM; simp [h2]
      have hI2 : ((n2 : Int) == 0) = true := by simp [h2]
      clear h h2
      go_enter Tryd.func86, Tryd.ntmps86
      go_wp2
      go_ret
      exact ⟨ret_int (by rw [hs.out]; rfl), rfl⟩
    · have hI2 : ((n2 : Int) == 0) = false := by simp; omega
      have hs : Hid (spanM n n2 = max n n2) := by unfold Hid spanM; rw [if_neg (by omega)]
      clear h h2
      go_enter Tryd.func86, Tryd.ntmps86
      go_wp2
      all_goals go_ret
      all_goals exact ⟨ret_int (by rw [hs.out]; omega), rfl⟩

set_option maxRecDepth 100000 in
set_option maxHeartbeats 1000000 in
theorem jmeet_any (a a2 : Option Addr) (n cap n2 cap2 t : Nat) (x y : Nat → Int) (w : World) (hn : 0 < n) (hm : n ≤ 1048576) (hn2 : 0 < n2) (hm2 : n2 ≤ 1048576) (hx : NumsAt w a n x) (hy : NumsAt w a2 n2 y) :
    Calls Tryd.prog 63 #[.slice a n cap, .slice a2 n2 cap2, .int .i64 t] w fun e w' => e = .returned (.bool (posM n x t == posM n2 y t)) ∧ w' = w := by
  have HX := Hid.mk hx
  have HY := Hid.mk hy
  clear hx hy
  go_enter Tryd.func63, Tryd.ntmps63
  go_wp2_with fail
  refine (cellAt_any a n cap t x _ hn hm HX.out).mono ?_
  rintro e w1 ⟨rfl, hw⟩
  have hw := hw.symm
  subst hw
  go_wp2_with fail
  refine (cellAt_any a2 n2 cap2 t y _ hn2 hm2 HY.out).mono ?_
  rintro e w1 ⟨rfl, hw⟩
  have hw := hw.symm
  subst hw
  go_wp2
  go_ret
  exact ⟨rfl, rfl⟩

set_option maxRecDepth 100000 in
set_option maxHeartbeats 2000000 in
theorem jswap_any (a a2 : Option Addr) (n cap n2 cap2 t : Nat) (x y : Nat → Int) (w : World) (hn : 0 < n) (hm : n ≤ 1048576) (hn2 : 0 < n2) (hm2 : n2 ≤ 1048576) (ht : t ≤ 1048576) (hx : NumsAt w a n x) (hy : NumsAt w a2 n2 y) :
    Calls Tryd.prog 62 #[.slice a n cap, .slice a2 n2 cap2, .int .i64 t] w fun e w' => e = .returned (.bool (pairB 3 (posM n x t) (posM n2 y t) (posM n x (t + 1)) (posM n2 y (t + 1)))) ∧ w' = w := by
  have HX := Hid.mk hx
  have HY := Hid.mk hy
  obtain ⟨p, hp⟩ : ∃ p, p = posM n x t := ⟨_, rfl⟩
  obtain ⟨q, hq⟩ : ∃ q, q = posM n2 y t := ⟨_, rfl⟩
  obtain ⟨r, hr⟩ : ∃ r, r = posM n x (t + 1) := ⟨_, rfl⟩
  obtain ⟨s, hs⟩ : ∃ s, s = posM n2 y (t + 1) := ⟨_, rfl⟩
  rw [← hp, ← hq, ← hr, ← hs]
  have C1 : Hid (∀ w', w' = w → Calls Tryd.prog 87 #[.slice a n cap, .int .i64 ((t : Int) + 1)] w' fun e w2 => e = .returned (.int .i64 r) ∧ w2 = w) := fun w' h => by
    subst h; rw [hr]; exact cellAt_any a n cap (t + 1) x _ hn hm HX.out
  have C2 : Hid (∀ w', w' = w → Calls Tryd.prog 87 #[.slice a2 n2 cap2, .int .i64 (t : Int)] w' fun e w2 => e = .returned (.int .i64 q) ∧ w2 = w) := fun w' h => by
    subst h; rw [hq]; exact cellAt_any a2 n2 cap2 t y _ hn2 hm2 HY.out
  have C3 : Hid (∀ w', w' = w → Calls Tryd.prog 87 #[.slice a2 n2 cap2, .int .i64 ((t : Int) + 1)] w' fun e w2 => e = .returned (.int .i64 s) ∧ w2 = w) := fun w' h => by
    subst h; rw [hs]; exact cellAt_any a2 n2 cap2 (t + 1) y _ hn2 hm2 HY.out
  have C4 : Hid (∀ w', w' = w → Calls Tryd.prog 87 #[.slice a n cap, .int .i64 (t : Int)] w' fun e w2 => e = .returned (.int .i64 p) ∧ w2 = w) := fun w' h => by
    subst h; rw [hp]; exact cellAt_any a n cap t x _ hn hm HX.out
  have C5 : Hid (∀ w', w' = w → Calls Tryd.prog 63 #[.slice a n cap, .slice a2 n2 cap2, .int .i64 (t : Int)] w' fun e w2 => e = .returned (.bool (p == q)) ∧ w2 = w) := fun w' h => by
    subst h; rw [hp, hq]; exact jmeet_any a a2 n cap n2 cap2 t x y _ hn hm hn2 hm2 HX.out HY.out
  clear hx hy hp hq hr hs
  go_enter Tryd.func62, Tryd.ntmps62
  go_wp2_with fail
  refine (C1.out _ rfl).mono ?_
  rintro e w1 ⟨rfl, hw⟩
  subst hw
  go_wp2_with fail
  refine (C2.out _ rfl).mono ?_
  rintro e w2 ⟨rfl, hw⟩
  have hw := hw.symm
  subst hw
  by_cases e1 : (r == q) = true
  · go_wp2_with fail
    refine (C3.out _ rfl).mono ?_
    rintro e w2 ⟨rfl, hw⟩
    have hw := hw.symm
    subst hw
    go_wp2_with fail
    refine (C4.out _ rfl).mono ?_
    rintro e w2 ⟨rfl, hw⟩
    have hw := hw.symm
    subst hw
    by_cases e2 : (s == p) = true
    · go_wp2_with fail
      refine (C5.out _ rfl).mono ?_
      rintro e w2 ⟨rfl, hw⟩
      have hw := hw.symm
      subst hw
      have e1' : (q == r) = true := by simp at e1 ⊢; exact e1.symm
      have e2' : (p == s) = true := by simp at e2 ⊢; exact e2.symm
      have R : Hid (pairB 3 p q r s = !(p == q)) := by unfold Hid pairB; rw [if_neg (by decide), e1', e2']; simp
      clear e1' e2'
      go_wp2
      go_ret
      exact ⟨ret_bool R.out.symm, rfl⟩
    · have e2n : (s == p) = false := by simpa using e2
      have e2' : (p == s) = false := by simp at e2 ⊢; exact fun h => e2 h.symm
      have R : Hid (pairB 3 p q r s = false) := by unfold Hid pairB; rw [if_neg (by decide), e2']; simp
      clear e2' e2
      go_wp2
      go_ret
      exact ⟨ret_bool R.out.symm, rfl⟩
  · have e1n : (r == q) = false := by simpa using e1
    have e1' : (q == r) = false := by simp at e1 ⊢; exact fun h => e1 h.symm
    have R : Hid (pairB 3 p q r s = false) := by unfold Hid pairB; rw [if_neg (by decide), e1']; simp
    clear e1' e1
    go_wp2
    go_ret
    exact ⟨ret_bool R.out.symm, rfl⟩

end Go.Proofs.YtnkgpinadgacgabDoor
