/- Several texts in one: Db, Dc. -/
import Derived.Test.YtnkgpinadgacgabDoorMkv
import Derived.Test.YtnkgpinadgacgabDoorMkl
import Derived.Deep.QuietTactic
import Derived.BigQuiet
namespace Go.Proofs.YtnkgpinadgacgabDoor
open Go.RowKit Go.Maps M
theorem Tryd.rowPos : (102 : TypeId) < Tryd.prog.types.size := of_decide_eq_true (by kernel_rfl)

theorem Tryd.deepPos : Tryd.prog.keyTypeAt 3 102 = true := by kernel_rfl

theorem Tryd.lawPos : Keyed Tryd.prog 102 := Keyed.of_law (deep_law_laid Tryd.laidOut0 (m := 3) (by omega) Tryd.rowPos Tryd.deepPos (by rw [Tryd.underlying102]))

theorem Tryd.ktPos : Tryd.prog.keyType 102 = true := by kernel_rfl

theorem Tryd.cellsPos : Tryd.prog.cellsOf 102 = 4 := by kernel_rfl

theorem Tryd.cellsU8 : Tryd.prog.cellsOf 5 = 1 := by kernel_rfl

/-- A position as the program keeps it. -/
def posV (q : List Nat) : Value := .agg #[.int .u8 (q.getD 0 0 : Nat), .int .u8 (q.getD 1 0 : Nat), .int .u8 (q.getD 2 0 : Nat), .int .u8 (q.getD 3 0 : Nat)]

/-- Its cells fit in bytes. -/
def Small (q : List Nat) : Prop := ∀ k, q.getD k 0 < 256

theorem wf_u8 {x : Nat} (h : x < 256) : (Lit.int .u8 (x : Int)).wf = true := by
  simp [Lit.wf, IntKind.min, IntKind.max, IntKind.signed, IntKind.bits]; omega

theorem posKey {q : List Nat} (h : Small q) : ∃ kl, keyOf Tryd.prog 102 (posV q) = some kl := by
  have h0 := wf_u8 (h 0)
  have h1 := wf_u8 (h 1)
  have h2 := wf_u8 (h 2)
  have h3 := wf_u8 (h 3)
  obtain ⟨m, hm⟩ := Tryd.typesSome
  unfold keyOf posV
  generalize q.getD 0 0 = a0 at h0 ⊢
  generalize q.getD 1 0 = a1 at h1 ⊢
  generalize q.getD 2 0 = a2 at h2 ⊢
  generalize q.getD 3 0 = a3 at h3 ⊢
  simp only [Tryd.underlying102]
  rw [if_pos (by simp [Tryd.ktPos, Value.formed, Tryd.underlying102, Tryd.cellsPos]), hm]
  unfold Program.keyLits
  simp only [Tryd.underlying102, Value.cells]
  rw [if_pos (by rw [Tryd.cellsPos]; rfl)]
  simp [List.range, List.range.loop, Tryd.cellsU8, Program.keyLits, Tryd.underlying5, h0, h1, h2, h3]

theorem pos_ext {m : Nat} {q q' : List Nat} (hm : m ≤ 4) (hq : q.length = m) (hq' : q'.length = m) (h : posV q = posV q') : q = q' := by
  unfold posV at h
  simp only [Value.agg.injEq, Array.mk.injEq, List.cons.injEq, Value.int.injEq, true_and, and_true] at h
  obtain ⟨h0, h1, h2, h3⟩ := h
  apply List.ext_getElem (by omega)
  intro i hi hi'
  have e : ∀ (l : List Nat) (hl : i < l.length), l[i] = l.getD i 0 := fun l hl => by rw [List.getD_eq_getElem?_getD, List.getElem?_eq_getElem hl]; rfl
  rw [e q hi, e q' hi']
  have hc : i = 0 ∨ i = 1 ∨ i = 2 ∨ i = 3 := by omega
  rcases hc with rfl | rfl | rfl | rfl <;> omega

/-- Block b is a set of positions of m carts: those of a list, none of which stands there twice. -/
def PosSet (w : World) (b m : Nat) (L : List (List Nat)) : Prop :=
  ∃ D : DataW Unit, w.ownsMap Tryd.prog 102 (unitElem (H := Unit)) b L.length D ∧ Maps.size D = L.length ∧ ∀ q kl, q.length = m → keyOf Tryd.prog 102 (posV q) = some kl → Maps.has D kl = decide (q ∈ L)

theorem PosSet.block {w w' : World} {b m : Nat} {L : List (List Nat)} (h : PosSet w b m L) (e : w'.heap[b]? = w.heap[b]?) : PosSet w' b m L := by
  obtain ⟨D, hD, hf⟩ := h; exact ⟨D, own_map_block hD e, hf⟩

theorem PosSet.lt {w : World} {b m : Nat} {L : List (List Nat)} (h : PosSet w b m L) : b < w.heap.size := by obtain ⟨D, hD, _⟩ := h; exact own_map_lt hD

theorem PosSet.below {w w' : World} {b m : Nat} {L : List (List Nat)} (h : PosSet w b m L) (hb : Below w.heap.size w w') : PosSet w' b m L := h.block (hb.block b h.lt)

theorem posSet_made (w : World) (b m : Nat) (hb : b = w.heap.size) : PosSet (w.alloc (.map #[] 0)) b m [] := by
  subst hb; exact ⟨_, World.ownsMap_made w _ _ _, rfl, fun _ _ _ _ => rfl⟩

theorem posSet_put {w w' : World} {b m : Nat} {L : List (List Nat)} {D : DataW Unit} {q : List Nat} {kl : Lit} {d : DataW Unit} (hm : m ≤ 4) (hown : w.ownsMap Tryd.prog 102 (unitElem (H := Unit)) b L.length D) (hs : Maps.size D = L.length)
    (hf : ∀ q kl, q.length = m → keyOf Tryd.prog 102 (posV q) = some kl → Maps.has D kl = decide (q ∈ L)) (hq : q.length = m) (hn : q ∉ L)
    (hk : keyOf Tryd.prog 102 (posV q) = some kl) (h : w'.ownsMap Tryd.prog 102 (unitElem (H := Unit)) b (L.length + 1) (D.put kl d)) : PosSet w' b m (L ++ [q]) := by
  have hno : Maps.has D kl = false := by rw [hf q kl hq hk]; simpa using hn
  refine ⟨_, by rw [List.length_append]; exact h, ?_, fun q' kl' hq' hk' => ?_⟩
  · rw [size_put (hown.tidy Tryd.lawPos), hno, List.length_append, hs]; rfl
  · by_cases e : kl' = kl
    · subst e
      have e2 : q' = q := pos_ext hm hq' hq (Tryd.lawPos.inj hk' hk)
      subst e2
      rw [has_put_same hown.isMap (Tryd.lawPos.key hk) d]
      simp
    · rw [has_put_other e d, hf q' kl' hq' hk']
      have e2 : q' ≠ q := fun h => by
        subst h
        rw [hk] at hk'
        exact e (Option.some.inj hk').symm
      rw [Bool.eq_iff_iff, decide_eq_true_eq, decide_eq_true_eq, List.mem_append]
      constructor
      · exact Or.inl
      · rintro (h | h)
        · exact h
        · simp at h; exact absurd h e2

section
variable {w : World} {ops : Array Oper} {rest : List Oper} {o : Oper} {a : Act} {Q : Exit → Act → World → Prop}
theorem wpList_look_pos (hg : o.guard = none) (mo x : Operand) (hop : o.op = Op.lookup 98 mo x true) (b m : Nat) (L : List (List Nat)) (hmo : a.eval mo = .map (some b)) (hown : PosSet w b m L) (q : List Nat) (hx : a.eval x = posV q) (hq : q.length = m) (hs : Small q)
    (hK : wpList Tryd.prog ops Q rest (a.put o.dst (.tuple #[.agg #[], .bool (decide (q ∈ L))])) w) : wpList Tryd.prog ops Q (o :: rest) a w := by
  obtain ⟨D, hD, _, hf⟩ := hown
  obtain ⟨kl, hk⟩ := posKey hs
  refine wpList_lookup_own_unit (H := Unit) w hg mo x _ hop 102 90 Tryd.lawPos Tryd.underlying98 (Tryd.zeroUnit w) b _ D hmo hD _ kl hx hk ?_
  rw [hf q kl hq hk]; exact hK

theorem wpList_put_pos (hg : o.guard = none) (mo x v : Operand) (hop : o.op = Op.mapUpdate 98 mo x v) (b m : Nat) (L : List (List Nat)) (hmo : a.eval mo = .map (some b)) (hown : PosSet w b m L) (hn : L.length < maxLen) (hm : m ≤ 4) (q : List Nat) (hx : a.eval x = posV q) (hv : a.eval v = .agg #[]) (hq : q.length = m) (hs : Small q) (hnew : q ∉ L)
    (hK : ∀ w', PosSet w' b m (L ++ [q]) → w.grownBy w' (some b) → wpList Tryd.prog ops Q rest (a.put o.dst undef) w') : wpList Tryd.prog ops Q (o :: rest) a w := by
  obtain ⟨D, hD, hsz, hf⟩ := hown
  obtain ⟨kl, hk⟩ := posKey hs
  refine wpList_mapUpdate_own (H := Unit) w hg mo x v _ hop 102 90 Tryd.lawPos Tryd.underlying98 unitElem b _ D hmo hD hn _ _ kl hx hv hk _ [] unitElem_mk ?_
  intro w' hw' hgw
  exact hK w' (posSet_put hm hD hsz hf hq hnew hk hw') hgw

/-- The same at a literal's entry. -/
theorem wpList_ins_pos (hg : o.guard = none) (mo x v : Operand) (hop : o.op = Op.insert 98 mo x v) (b m : Nat) (L : List (List Nat)) (hmo : a.eval mo = .map (some b)) (hown : PosSet w b m L) (hn : L.length < maxLen) (hm : m ≤ 4) (q : List Nat) (hx : a.eval x = posV q) (hv : a.eval v = .agg #[]) (hq : q.length = m) (hs : Small q) (hnew : q ∉ L)
    (hK : ∀ w', PosSet w' b m (L ++ [q]) → w.grownBy w' (some b) → wpList Tryd.prog ops Q rest (a.put o.dst undef) w') : wpList Tryd.prog ops Q (o :: rest) a w := by
  obtain ⟨D, hD, hsz, hf⟩ := hown
  obtain ⟨kl, hk⟩ := posKey hs
  refine wpList_plain hg fun K' hK' => ?_
  obtain ⟨w', hrun, r1, r2⟩ := hD.update Tryd.lawPos Tryd.underlying98 hn hk (unitElem_mk (H := Unit))
  unfold Oper.wp
  simp [execOp, hop, hmo, hx, hv, hrun, Result.andThen]
  exact hK' _ _ (hK w' (posSet_put hm hD hsz hf hq hnew hk r1) r2)

theorem wpList_len_pos (hg : o.guard = none) (mo : Operand) (hop : o.op = Op.call { callee := Callee.builtin Builtin.len, args := #[mo], argTypes := #[98] }) (b m : Nat) (L : List (List Nat)) (hmo : a.eval mo = .map (some b)) (hown : PosSet w b m L)
    (hK : wpList Tryd.prog ops Q rest (a.put o.dst (.int .i64 (L.length : Nat))) w) : wpList Tryd.prog ops Q (o :: rest) a w := by
  obtain ⟨D, hD, hsz, hf⟩ := hown
  refine wpList_len_own (H := Unit) (w := w) hg mo 98 hop 102 90 Tryd.underlying98 _ b _ D hmo hD ?_
  rw [hsz]; exact hK

end

def pcell (q : List Nat) : List Value := [.int .u8 (q.getD 0 0 : Nat), .int .u8 (q.getD 1 0 : Nat), .int .u8 (q.getD 2 0 : Nat), .int .u8 (q.getD 3 0 : Nat)]

def posCells : List (List Nat) → List Value
  | [] => []
  | q :: r => pcell q ++ posCells r

theorem posCells_app : ∀ (F G : List (List Nat)), posCells (F ++ G) = posCells F ++ posCells G
  | [], G => rfl
  | x :: F, G => by simp [posCells, posCells_app F G]

theorem posCells_at : ∀ {F : List (List Nat)} {i : Nat} (h : i < F.length), (posCells F)[i * 4]? = some (.int .u8 (F[i].getD 0 0 : Nat)) ∧ (posCells F)[i * 4 + 1]? = some (.int .u8 (F[i].getD 1 0 : Nat)) ∧ (posCells F)[i * 4 + 2]? = some (.int .u8 (F[i].getD 2 0 : Nat)) ∧ (posCells F)[i * 4 + 3]? = some (.int .u8 (F[i].getD 3 0 : Nat))
  | x :: F, 0, _ => by simp [posCells, pcell]
  | x :: F, i + 1, h => by
    have ih := posCells_at (F := F) (i := i) (by simpa using h)
    simp only [posCells, List.getElem_cons_succ]
    rw [List.getElem?_append_right (by simp [pcell]; omega), List.getElem?_append_right (by simp [pcell]; omega), List.getElem?_append_right (by simp [pcell]; omega), List.getElem?_append_right (by simp [pcell]; omega)]
    simp only [pcell, List.length_cons, List.length_nil]
    rw [show (i + 1) * 4 - (0 + 1 + 1 + 1 + 1) = i * 4 by omega, show (i + 1) * 4 + 1 - (0 + 1 + 1 + 1 + 1) = i * 4 + 1 by omega, show (i + 1) * 4 + 2 - (0 + 1 + 1 + 1 + 1) = i * 4 + 2 by omega, show (i + 1) * 4 + 3 - (0 + 1 + 1 + 1 + 1) = i * 4 + 3 by omega]
    exact ih

theorem pcell_one (x : List Nat) : ∀ u ∈ pcell x, u.oneCell' = true := by
  intro u hu
  simp [pcell] at hu
  rcases hu with rfl | rfl | rfl | rfl <;> rfl

/-- A list of positions that the call made. -/
def OwnP (w : World) (base : Nat) (v : Value) (F : List (List Nat)) : Prop := w.ownsRow base 102 4 v F.length (posCells F)

theorem OwnP.nil (w : World) (base : Nat) : OwnP w base (.slice none 0 0) [] := ⟨rfl, .inl ⟨rfl, rfl⟩⟩

theorem OwnP.below {w w' : World} {base : Nat} {v : Value} {F : List (List Nat)} (h : OwnP w base v F) (hb : Below w.heap.size w w') : OwnP w' base v F := own_later h hb

theorem OwnP.le {w : World} {base base' : Nat} {v : Value} {F : List (List Nat)} (h : OwnP w base v F) (hb : base' ≤ base) : OwnP w base' v F := own_le h hb

theorem OwnP.form {w : World} {base : Nat} {v : Value} {F : List (List Nat)} (h : OwnP w base v F) : ∃ a cap, v = .slice a F.length cap ∧ (0 < F.length → ∃ g, a = some ⟨g, 0, none⟩) ∧ F.length ≤ cap := own_form h

theorem OwnP.cells {w : World} {base g n cap : Nat} {F : List (List Nat)} (h : OwnP w base (.slice (some ⟨g, 0, none⟩) n cap) F) {i : Nat} (hi : i < F.length) :
    w.cell? ⟨g, i * 4, none⟩ = some (.int .u8 (F[i].getD 0 0 : Nat)) ∧ w.cell? ⟨g, i * 4 + 1, none⟩ = some (.int .u8 (F[i].getD 1 0 : Nat)) ∧ w.cell? ⟨g, i * 4 + 2, none⟩ = some (.int .u8 (F[i].getD 2 0 : Nat)) ∧ w.cell? ⟨g, i * 4 + 3, none⟩ = some (.int .u8 (F[i].getD 3 0 : Nat)) := by
  rcases h.2 with ⟨h0, _⟩ | ⟨g', cap', cur, hv, _, hh, h4, _, h6, h7⟩
  · cases h0
  · cases hv
    obtain ⟨c1, c2, c3, c4⟩ := posCells_at hi
    rw [← h7, List.getElem?_take, if_pos (by omega), Array.getElem?_toList] at c1 c2 c3 c4
    exact ⟨by simpa [World.cell?, hh] using c1, by simpa [World.cell?, hh] using c2, by simpa [World.cell?, hh] using c3, by simpa [World.cell?, hh] using c4⟩

theorem Tryd.infoPos : (Tryd.prog.info? 102).map (fun i => (i.zero, i.size, i.bytes)) = some (some (.agg #[.int .u8 0, .int .u8 0, .int .u8 0, .int .u8 0]), 4, 4) := by kernel_rfl

theorem four_freshP (w : World) (q : List Nat) : ∀ j u, (pcell q)[j]? = some u → (w.alloc (.cells #[.int .u8 (q.getD 0 0 : Nat), .int .u8 (q.getD 1 0 : Nat), .int .u8 (q.getD 2 0 : Nat), .int .u8 (q.getD 3 0 : Nat)] 102)).cell? ((⟨w.heap.size, 0, none⟩ : Addr).add j) = some u := by
  intro j u h
  unfold pcell at h
  match j, h with
  | 0, h => simp at h; subst h; simp [Addr.add]
  | 1, h => simp at h; subst h; simp [Addr.add]
  | 2, h => simp at h; subst h; simp [Addr.add]
  | 3, h => simp at h; subst h; simp [Addr.add]
  | j + 4, h => simp at h

set_option maxRecDepth 100000 in
theorem wpList_pushP {w0 : World} {ops : Array Oper} {rest : List Oper} {o : Oper} {a : Act} {Q : Exit → Act → World → Prop} (hgd : o.guard = none) (s x : Operand)
    (ho : o.op = .call { callee := .builtin .append, args := #[s, x], argTypes := #[144, 144] })
    (base : Nat) (v : Value) (F : List (List Nat)) (q : List Nat) (a0 a1 a2 a3 : Nat) (h0 : a0 = q.getD 0 0) (h1 : a1 = q.getD 1 0) (h2 : a2 = q.getD 2 0) (h3 : a3 = q.getD 3 0) (hs : a.eval s = v) (hown : OwnP w0 base v F) (hbase : base ≤ w0.heap.size) (c : Nat)
    (hx : a.eval x = .slice (some ⟨w0.heap.size, 0, none⟩) 1 c) (hF : F.length ≤ 100000000)
    (h : ∀ g cap w', OwnP w' base (.slice (some ⟨g, 0, none⟩) (F ++ [q]).length cap) (F ++ [q]) → Only (fun k => v.ownBlock = some k) w0 w' → (v.ownBlock = some g ∨ w0.heap.size ≤ g) → wpList Tryd.prog ops Q rest (a.put o.dst (.slice (some ⟨g, 0, none⟩) (F ++ [q]).length cap)) w') :
    wpList Tryd.prog ops Q (o :: rest) a (w0.alloc (.cells #[.int .u8 (a0 : Int), .int .u8 (a1 : Int), .int .u8 (a2 : Int), .int .u8 (a3 : Int)] 102)) := by
  subst h0 h1 h2 h3
  obtain ⟨i0, hi0, hi1, hi2, hi3⟩ := info_parts Tryd.infoPos
  have hown1 := own_keep (w' := w0.alloc (.cells #[.int .u8 (q.getD 0 0 : Nat), .int .u8 (q.getD 1 0 : Nat), .int .u8 (q.getD 2 0 : Nat), .int .u8 (q.getD 3 0 : Nat)] 102)) hown (fun g _ hg _ => Below.heap_alloc _ _ _ hg)
  refine wpList_append_lies _ hgd s x _ ho base 102 i0 _ 4 4 Tryd.underlying144 hi0 hi1 hi2 hi3 rfl (by omega) v F.length (posCells F) hs hown1 _ 1 c (pcell q) hx rfl (four_freshP w0 q) (pcell_one q) (by omega) (by unfold maxLen; omega) (by omega) (by simp; omega) (w0.heap.size + 1) (by simp) ?_
  intro g cap w' ho9 hg9 hl9 _
  have e1 : (F ++ [q]).length = F.length + 1 := by simp
  have e2 : posCells [q] = pcell q := by simp [posCells]
  rw [e1] at h
  refine h g cap w' ?_ ?_ (hl9.imp id (fun e => by omega))
  · unfold OwnP
    rw [posCells_app, e1, e2]; exact ho9
  · refine ⟨hg9.os, hg9.tape, hg9.output, Nat.le_trans (by simp) hg9.size, fun k hk hn => ?_⟩
    rw [hg9.block k (by simp; omega) (fun e => hn e.symm)]
    exact Below.heap_alloc _ _ _ hk

theorem own_oneP (w : World) (q : List Nat) (k : Nat) (hk : k = w.heap.size) : OwnP (w.alloc (.cells #[.int .u8 (q.getD 0 0 : Nat), .int .u8 (q.getD 1 0 : Nat), .int .u8 (q.getD 2 0 : Nat), .int .u8 (q.getD 3 0 : Nat)] 102)) k (.slice (some ⟨k, 0, none⟩) 1 1) [q] := by
  subst hk
  refine ⟨rfl, .inr ⟨w.heap.size, 1, #[.int .u8 (q.getD 0 0 : Nat), .int .u8 (q.getD 1 0 : Nat), .int .u8 (q.getD 2 0 : Nat), .int .u8 (q.getD 3 0 : Nat)], rfl, Nat.le_refl _, ?_, Nat.le_refl _, by unfold maxLen; omega, rfl, rfl⟩⟩
  show (w.heap.push _)[w.heap.size]? = _
  simp

end Go.Proofs.YtnkgpinadgacgabDoor

namespace Go.Proofs.YtnkgpinadgacgabDoor
open Go.RowKit M
theorem fit_hit {p q : List Nat} {i k : Nat} (hk : k < i) (h : clashB p q i k = true) : fitB p q i = false := by
  unfold fitB; rw [anyB_of h hk]; rfl

theorem fit_miss {p q : List Nat} {i : Nat} (h : ∀ k, k < i → clashB p q i k = false) : fitB p q i = true := by
  unfold fitB; rw [anyB_false.2 h]; rfl

theorem pos_cell {w : World} {b : Nat} {q : List Nat} (h : ∀ o, w.cell? ⟨b, o, none⟩ = #[Value.int .u8 (q.getD 0 0 : Nat), .int .u8 (q.getD 1 0 : Nat), .int .u8 (q.getD 2 0 : Nat), .int .u8 (q.getD 3 0 : Nat)][o]?) {k : Nat} (hk : k < 4) : w.cell? ⟨b, k, none⟩ = some (.int .u8 (q.getD k 0 : Nat)) := by
  have hc : k = 0 ∨ k = 1 ∨ k = 2 ∨ k = 3 := by omega
  rcases hc with rfl | rfl | rfl | rfl <;> rw [h] <;> rfl

set_option maxRecDepth 100000 in
set_option maxHeartbeats 2000000 in
theorem fits_any (p q : List Nat) (i : Nat) (w : World) (hi : i < 4) :
    Calls Tryd.prog 100 #[posV p, posV q, .int .i64 i] w fun e w' => e = .returned (.bool (fitB p q i)) ∧ Below w.heap.size w w' := by
  obtain ⟨a0, ha0⟩ : ∃ v, v = p.getD 0 0 := ⟨_, rfl⟩
  obtain ⟨a1, ha1⟩ : ∃ v, v = p.getD 1 0 := ⟨_, rfl⟩
  obtain ⟨a2, ha2⟩ : ∃ v, v = p.getD 2 0 := ⟨_, rfl⟩
  obtain ⟨a3, ha3⟩ : ∃ v, v = p.getD 3 0 := ⟨_, rfl⟩
  obtain ⟨b0, hb0⟩ : ∃ v, v = q.getD 0 0 := ⟨_, rfl⟩
  obtain ⟨b1, hb1⟩ : ∃ v, v = q.getD 1 0 := ⟨_, rfl⟩
  obtain ⟨b2, hb2⟩ : ∃ v, v = q.getD 2 0 := ⟨_, rfl⟩
  obtain ⟨b3, hb3⟩ : ∃ v, v = q.getD 3 0 := ⟨_, rfl⟩
  unfold posV
  rw [← ha0, ← ha1, ← ha2, ← ha3, ← hb0, ← hb1, ← hb2, ← hb3]
  have HA := Hid.mk (And.intro ha0 (And.intro ha1 (And.intro ha2 ha3)))
  have HQ := Hid.mk (And.intro hb0 (And.intro hb1 (And.intro hb2 hb3)))
  clear ha0 ha1 ha2 ha3 hb0 hb1 hb2 hb3
  go_enter Tryd.func100, Tryd.ntmps100
  go_wp2
  have B0 : Hid (Below w.heap.size w ((w.alloc (Obj.cells #[Value.int .u8 (a0 : Nat), .int .u8 (a1 : Nat), .int .u8 (a2 : Nat), .int .u8 (a3 : Nat)] 102)).alloc (Obj.cells #[Value.int .u8 (b0 : Nat), .int .u8 (b1 : Nat), .int .u8 (b2 : Nat), .int .u8 (b3 : Nat)] 102))) := ((Below.refl _ w).alloc (Nat.le_refl _) _).alloc (by simp) _
  have x0 : ∀ o, ((w.alloc (Obj.cells #[Value.int .u8 (a0 : Nat), .int .u8 (a1 : Nat), .int .u8 (a2 : Nat), .int .u8 (a3 : Nat)] 102)).alloc (Obj.cells #[Value.int .u8 (b0 : Nat), .int .u8 (b1 : Nat), .int .u8 (b2 : Nat), .int .u8 (b3 : Nat)] 102)).cell? ⟨w.heap.size, o, none⟩ = #[Value.int .u8 (a0 : Nat), .int .u8 (a1 : Nat), .int .u8 (a2 : Nat), .int .u8 (a3 : Nat)][o]? := by
    intro o; go_simp
  have x1 : ∀ o, ((w.alloc (Obj.cells #[Value.int .u8 (a0 : Nat), .int .u8 (a1 : Nat), .int .u8 (a2 : Nat), .int .u8 (a3 : Nat)] 102)).alloc (Obj.cells #[Value.int .u8 (b0 : Nat), .int .u8 (b1 : Nat), .int .u8 (b2 : Nat), .int .u8 (b3 : Nat)] 102)).cell? ⟨w.heap.size + 1, o, none⟩ = #[Value.int .u8 (b0 : Nat), .int .u8 (b1 : Nat), .int .u8 (b2 : Nat), .int .u8 (b3 : Nat)][o]? := by
    intro o; go_simp
  have hz : ((w.alloc (Obj.cells #[Value.int .u8 (a0 : Nat), .int .u8 (a1 : Nat), .int .u8 (a2 : Nat), .int .u8 (a3 : Nat)] 102)).alloc (Obj.cells #[Value.int .u8 (b0 : Nat), .int .u8 (b1 : Nat), .int .u8 (b2 : Nat), .int .u8 (b3 : Nat)] 102)).heap.size = w.heap.size + 2 := by simp
  generalize ((w.alloc (Obj.cells #[Value.int .u8 (a0 : Nat), .int .u8 (a1 : Nat), .int .u8 (a2 : Nat), .int .u8 (a3 : Nat)] 102)).alloc (Obj.cells #[Value.int .u8 (b0 : Nat), .int .u8 (b1 : Nat), .int .u8 (b2 : Nat), .int .u8 (b3 : Nat)] 102)) = w0 at *
  have C0 : Hid (∀ k, k < 4 → w0.cell? ⟨w.heap.size, k, none⟩ = some (.int .u8 (p.getD k 0 : Nat))) := fun k hk => pos_cell (q := p) (by intro o; rw [x0, HA.out.1, HA.out.2.1, HA.out.2.2.1, HA.out.2.2.2]) hk
  have C1 : Hid (∀ k, k < 4 → w0.cell? ⟨w.heap.size + 1, k, none⟩ = some (.int .u8 (q.getD k 0 : Nat))) := fun k hk => pos_cell (q := q) (by intro o; rw [x1, HQ.out.1, HQ.out.2.1, HQ.out.2.2.1, HQ.out.2.2.2]) hk
  have HZ := Hid.mk hz
  clear x0 x1 hz
  go_loopw [11] (fun v11 wr => ∃ k : Nat, k ≤ i ∧ v11 = .int .i64 k ∧ (∀ j, j < k → clashB p q i j = false) ∧ Below w0.heap.size w0 wr) (fun v11 _ => i - (intOf v11).toNat)
  case atStart => exact ⟨0, Nat.zero_le _, rfl, fun j hj => absurd hj (Nat.not_lt_zero j), Below.refl _ _⟩
  case round =>
    obtain ⟨k, hk, rfl, hmiss, hbr⟩ := hrel
    have HM := Hid.mk hmiss
    have HB := Hid.mk hbr
    by_cases hlt : k < i
    · have hz := HZ.out
      have ha := (hbr.cell (p := ⟨w.heap.size + 1, i, none⟩) (by show w.heap.size + 1 < _; omega)).trans (C1.out i hi)
      have hb := (hbr.cell (p := ⟨w.heap.size + 1, k, none⟩) (by show w.heap.size + 1 < _; omega)).trans (C1.out k (by omega))
      have hc := (hbr.cell (p := ⟨w.heap.size, k, none⟩) (by show w.heap.size < _; omega)).trans (C0.out k (by omega))
      have hd := (hbr.cell (p := ⟨w.heap.size, i, none⟩) (by show w.heap.size < _; omega)).trans (C0.out i hi)
      have hiI : (i : Int) < 4 := by omega
      have hkI : (k : Int) < 4 := by omega
      have hk4 : k < 4 := by omega
      obtain ⟨va, hva⟩ : ∃ v, v = q.getD i 0 := ⟨_, rfl⟩
      obtain ⟨vb, hvb⟩ : ∃ v, v = q.getD k 0 := ⟨_, rfl⟩
      obtain ⟨vc, hvc⟩ : ∃ v, v = p.getD k 0 := ⟨_, rfl⟩
      obtain ⟨vd, hvd⟩ : ∃ v, v = p.getD i 0 := ⟨_, rfl⟩
      rw [← hva] at ha
      rw [← hvb] at hb
      rw [← hvc] at hc
      rw [← hvd] at hd
      have CL : Hid (clashB p q i k = ((va == vb) || (va == vc && vb == vd))) := by unfold Hid clashB; rw [hva, hvb, hvc, hvd]
      clear hva hvb hvc hvd hmiss hbr hz
      by_cases e2 : va = vc
      · have e2' : (((va : Nat) : Int) == ((vc : Nat) : Int)) = true := by simp [e2]
        by_cases e1 : va = vb
        · have e1' : (((va : Nat) : Int) == ((vb : Nat) : Int)) = true := by simp [e1]
          have RES : Hid (fitB p q i = false) := fit_hit hlt (by rw [CL.out]; simp [e1])
          have HW : Hid (Below w.heap.size w wr) := B0.out.trans (HB.out.mono (by have := HZ.out; omega))
          clear e1 e2
          go_wp2_with fail
          go_quiet (fail)
          go_wp2_with fail
          go_quiet (fail)
          go_wp2
          go_ret
          exact ⟨ret_bool RES.out.symm, below_drewN HW.out _⟩
        · have e1' : (((va : Nat) : Int) == ((vb : Nat) : Int)) = false := by simp; omega
          by_cases e3 : vb = vd
          · have e3' : (((vb : Nat) : Int) == ((vd : Nat) : Int)) = true := by simp [e3]
            have RES : Hid (fitB p q i = false) := fit_hit hlt (by rw [CL.out]; simp [e2, e3])
            have HW : Hid (Below w.heap.size w wr) := B0.out.trans (HB.out.mono (by have := HZ.out; omega))
            clear e1 e2 e3
            go_wp2_with fail
            go_quiet (fail)
            go_wp2_with fail
            go_quiet (fail)
            go_wp2
            go_ret
            exact ⟨ret_bool RES.out.symm, below_drewN HW.out _⟩
          · have e3' : (((vb : Nat) : Int) == ((vd : Nat) : Int)) = false := by simp; omega
            have RES : Hid (clashB p q i k = false) := by unfold Hid; rw [CL.out]; simp [e1, e3]
            clear e1 e2 e3
            go_wp2_with fail
            go_quiet (fail)
            go_wp2_with fail
            go_quiet (fail)
            go_wp2
            go_roundw
            case rel => exact ⟨k + 1, by omega, by go_num, upto_step RES.out HM.out, below_drewN HB.out _⟩
            case measure => simp [intOf]; omega
      · have e2' : (((va : Nat) : Int) == ((vc : Nat) : Int)) = false := by simp; omega
        by_cases e1 : va = vb
        · have e1' : (((va : Nat) : Int) == ((vb : Nat) : Int)) = true := by simp [e1]
          have RES : Hid (fitB p q i = false) := fit_hit hlt (by rw [CL.out]; simp [e1])
          have HW : Hid (Below w.heap.size w wr) := B0.out.trans (HB.out.mono (by have := HZ.out; omega))
          clear e1 e2
          go_wp2_with fail
          go_quiet (fail)
          go_wp2_with fail
          go_quiet (fail)
          go_wp2
          go_ret
          exact ⟨ret_bool RES.out.symm, below_drewN HW.out _⟩
        · have e1' : (((va : Nat) : Int) == ((vb : Nat) : Int)) = false := by simp; omega
          have RES : Hid (clashB p q i k = false) := by unfold Hid; rw [CL.out]; simp [e1, e2]
          clear e1 e2
          go_wp2_with fail
          go_quiet (fail)
          go_wp2_with fail
          go_quiet (fail)
          go_wp2
          go_roundw
          case rel => exact ⟨k + 1, by omega, by go_num, upto_step RES.out HM.out, below_drewN HB.out _⟩
          case measure => simp [intOf]; omega
    · have RES : Hid (fitB p q i = true) := fit_miss fun j hj => HM.out j (by omega)
      have HW : Hid (Below w.heap.size w wr) := B0.out.trans (HB.out.mono (by have := HZ.out; omega))
      clear hmiss hbr
      go_wp2
      go_ret
      exact ⟨ret_bool RES.out.symm, HW.out⟩

/-- The cells that a list of carts names. -/
def cellsOf (f : Nat → Int) (m : Nat) : List Nat := (List.range m).map fun k => (f k).toNat

theorem cellsOf_len (f : Nat → Int) (m : Nat) : (cellsOf f m).length = m := by simp [cellsOf]

theorem cellsOf_at {f : Nat → Int} {m k : Nat} (h : k < m) : (cellsOf f m).getD k 0 = (f k).toNat := by
  unfold cellsOf
  rw [List.getD_eq_getElem?_getD, List.getElem?_map, List.getElem?_range h]; rfl

theorem cellsOf_out {f : Nat → Int} {m k : Nat} (h : ¬ k < m) : (cellsOf f m).getD k 0 = 0 := by
  rw [List.getD_eq_getElem?_getD, List.getElem?_eq_none (by rw [cellsOf_len]; omega)]; rfl

theorem u8_wrap {x : Int} (h0 : 0 ≤ x) (h1 : x < 256) : IntKind.u8.wrap x = x := by
  simp [IntKind.wrap, IntKind.signed, IntKind.bits]; omega

end Go.Proofs.YtnkgpinadgacgabDoor
