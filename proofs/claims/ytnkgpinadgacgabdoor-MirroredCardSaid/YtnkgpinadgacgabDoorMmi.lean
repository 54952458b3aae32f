/- Several texts in one: Bh, Bi, Db. -/
import Derived.Test.YtnkgpinadgacgabDoorMmf
import Derived.Deep.RegionHeld3
import Derived.Deep.DeepCutAuto
import Derived.Test.YtnkgpinadgacgabDoorMmd
import Derived.Test.YtnkgpinadgacgabDoorMmb
import Derived.Test.YtnkgpinadgacgabDoorMme
import Derived.Deep.RegionLaw
import Derived.Deep.AppendLies
import Derived.Deep.QuietTactic
import Derived.BigQuiet
import Derived.BigRegion
namespace Go.Proofs.YtnkgpinadgacgabDoor
open Go.RowKit M
end Go.Proofs.YtnkgpinadgacgabDoor

/- Walks of the document's RulesRight, given. -/
namespace Go.Proofs.YtnkgpinadgacgabDoor
open Go.RowKit M
end Go.Proofs.YtnkgpinadgacgabDoor

/- Walks of the document's first and ahead. -/
namespace Go.Proofs.YtnkgpinadgacgabDoor
open Go.RowKit M
end Go.Proofs.YtnkgpinadgacgabDoor

/- Walk of the document's ahead: where a cart can be an instant later. -/
namespace Go.Proofs.YtnkgpinadgacgabDoor
open Go.RowKit M
end Go.Proofs.YtnkgpinadgacgabDoor

/- Walk of the document's Least: the least cost of a path that keeps the rules. -/
namespace Go.Proofs.YtnkgpinadgacgabDoor
open Go.RowKit M
end Go.Proofs.YtnkgpinadgacgabDoor

/- Walk of the document's Keeps, at a path that keeps the rules. -/
namespace Go.Proofs.YtnkgpinadgacgabDoor
open Go.RowKit M
def natV (p : Nat → Nat) : Nat → Value := fun i => .int .i64 (p i : Nat)

theorem wrap_mid {x : Int} (h1 : -9223372036854775808 ≤ x) (h2 : x ≤ 9223372036854775807) : IntKind.i64.wrap x = x := by rw [IntKind.wrap_i64]; omega

end Go.Proofs.YtnkgpinadgacgabDoor

namespace Go.Proofs.YtnkgpinadgacgabDoor.M
section
variable {N : Nat} {rch : Nat → Nat → Bool} {goes : Nat → Nat → Nat → Bool} {fr tt : Nat} {S : Int} {st : Nat → Int}

end
end Go.Proofs.YtnkgpinadgacgabDoor.M

/- Plain facts on a heap in a row: what order it keeps, how one rises, how one sinks, the first is the foremost. No program is named here. -/
namespace Go.Proofs.YtnkgpinadgacgabDoor.M
abbrev Spot := Nat × Nat

section
variable {key : Spot → Int} {n : Nat} {it : Nat → Spot}
def swapIt (it : Nat → Spot) (a b : Nat) : Nat → Spot := fun i => if i = a then it b else if i = b then it a else it i

def Mem (n : Nat) (it : Nat → Spot) (p : Spot) : Prop := ∃ i, i < n ∧ it i = p

/-- The last in the first's place. -/
def popIt (it : Nat → Spot) (n : Nat) : Nat → Spot := fun i => if i = 0 then it (n - 1) else it i

def pushIt (it : Nat → Spot) (n : Nat) (p : Spot) : Nat → Spot := fun i => if i = n then p else it i

end
end Go.Proofs.YtnkgpinadgacgabDoor.M

/- Plain facts: one cart's search over a yard under rules is such a search; what the map of what was seen tells; what the search's answer says. -/
namespace Go.Proofs.YtnkgpinadgacgabDoor
open M Go.RowKit
theorem free_lt {cs : ByteArray} {c : Nat} (h : freeB cs c = true) : c < cs.size := by
  by_cases e : c < cs.size
  · exact e
  · rw [freeB_out (by omega)] at h; cases h

end Go.Proofs.YtnkgpinadgacgabDoor

/- Laws on lists of whatever elements that the call itself made: what keeps them; what an append leaves. -/
namespace Go.Proofs.YtnkgpinadgacgabDoor
open Go.RowKit
/-- A block of cells that is known, behind a store into one. -/
theorem box_set {w : World} {b i : Nat} {cells cells' : Array Value} {v : Value} (h : ∀ o, w.cell? ⟨b, o, none⟩ = cells[o]?) (hi : i < cells.size) (he : cells' = cells.setIfInBounds i v) : ∀ o, (w.setCell ⟨b, i, none⟩ v).cell? ⟨b, o, none⟩ = cells'[o]? := by
  subst he
  intro o
  by_cases e : o = i
  · subst e
    rw [World.cell?_setCell_same' _ _ _ (by rw [h]; simp [hi])]
    simp [hi]
  · rw [World.cell?_setCell_other _ _ _ _ (by intro hh; cases hh; exact e rfl), h o, Array.getElem?_setIfInBounds, if_neg (fun hh => e hh.symm)]

theorem own_form {w : World} {base n : Nat} {e : TypeId} {size : Nat} {v : Value} {xs : List Value} (h : w.ownsRow base e size v n xs) : ∃ a cap, v = .slice a n cap ∧ (0 < n → ∃ g, a = some ⟨g, 0, none⟩) ∧ n ≤ cap := by
  rcases h.2 with ⟨e1, e2⟩ | ⟨g, cap', cur, e1, e2, _, h4, _⟩
  · subst e2; exact ⟨none, 0, e1, fun h0 => absurd h0 (Nat.lt_irrefl 0), Nat.le_refl 0⟩
  · exact ⟨_, cap', e1, fun _ => ⟨g, rfl⟩, h4⟩

theorem own_keep {w w' : World} {base n : Nat} {e : TypeId} {size : Nat} {v : Value} {xs : List Value} (h : w.ownsRow base e size v n xs) (hk : ∀ g, base ≤ g → g < w.heap.size → v.ownBlock = some g → w'.heap[g]? = w.heap[g]?) : w'.ownsRow base e size v n xs := by
  refine ⟨h.1, ?_⟩
  rcases h.2 with h0 | ⟨g, cap, cur, hv, hg, hh, r⟩
  · exact .inl h0
  · refine .inr ⟨g, cap, cur, hv, hg, ?_, r⟩
    rw [hk g hg (h.lt g (by rw [hv]; rfl)).2 (by rw [hv]; rfl)]; exact hh

theorem own_later {w w' : World} {base n : Nat} {e : TypeId} {size : Nat} {v : Value} {xs : List Value} (h : w.ownsRow base e size v n xs) (hb : Below w.heap.size w w') : w'.ownsRow base e size v n xs := own_keep h fun g _ hg _ => hb.block g hg

theorem own_le {w : World} {base base' n : Nat} {e : TypeId} {size : Nat} {v : Value} {xs : List Value} (h : w.ownsRow base e size v n xs) (hb : base' ≤ base) : w.ownsRow base' e size v n xs :=
  ⟨h.1, h.2.elim Or.inl (fun ⟨g, cap, cur, hv, hg, r⟩ => Or.inr ⟨g, cap, cur, hv, Nat.le_trans hb hg, r⟩)⟩

theorem grow_cell {w pre w1 : World} {row : Option Nat} {b o : Nat} {v : Value} (h : w.cell? ⟨b, o, none⟩ = some v) (hp : Below w.heap.size w pre) (hg : pre.grownBy w1 row) (n : ∀ k, row = some k → b ≠ k) : w1.cell? ⟨b, o, none⟩ = some v := by
  have h2 := cell_later hp h
  rw [World.cell?_of_block (w := pre) (a := ⟨b, o, none⟩) (hg.block _ (World.block_lt_of_cell? _ _ h2) (fun e => n _ e.symm rfl))]; exact h2

theorem grow_frozen {w pre w1 : World} {row : Option Nat} {b o : Nat} (h : w.frozen? ⟨b, o, none⟩ = false) (hb : b < w.heap.size) (hp : Below w.heap.size w pre) (hg : pre.grownBy w1 row) (n : ∀ k, row = some k → b ≠ k) : w1.frozen? ⟨b, o, none⟩ = false := by
  rw [World.frozen?_of_block (w := pre) (a := ⟨b, o, none⟩) (hg.block _ (Nat.lt_of_lt_of_le hb hp.size) (fun e => n _ e.symm rfl)), hp.frozen (p := ⟨b, o, none⟩) hb]; exact h

theorem two_oneCell (u v : Int) : ∀ x ∈ [Value.int .i64 u, Value.int .i64 v], x.oneCell' = true := by
  intro x hx
  simp at hx
  rcases hx with rfl | rfl <;> rfl

theorem own2_cap {w : World} {base m cc : Nat} {e : TypeId} {size : Nat} {ac : Option Addr} {xs : List Value} (h : w.ownsRow base e size (.slice ac m cc) m xs) : m ≤ cc := by
  rcases h.2 with ⟨e1, e2⟩ | ⟨g, cap', cur, hv, _, _, h4, _⟩
  · omega
  · cases hv; exact h4

theorem grown_pre {w pre w1 : World} {row : Option Nat} (_ : pre.grownBy w1 row) (hp : Below w.heap.size w pre) : Below w.heap.size w pre ∧ True := ⟨hp, trivial⟩

end Go.Proofs.YtnkgpinadgacgabDoor

/- A heap of spots in memory; walks of the function that orders it, and of swap. -/
namespace Go.Proofs.YtnkgpinadgacgabDoor
open Go.RowKit M
end Go.Proofs.YtnkgpinadgacgabDoor

/- Walk of swap: two places of a heap's row change their spots. -/
namespace Go.Proofs.YtnkgpinadgacgabDoor
open Go.RowKit M
end Go.Proofs.YtnkgpinadgacgabDoor

/- Walk of rise: one rises in the heap till its parent is no further back. -/
namespace Go.Proofs.YtnkgpinadgacgabDoor
open Go.RowKit M
/-- What a heap's spots are. -/
def Fine (N n : Nat) (it : Nat → Spot) : Prop := ∀ p, Mem n it p → p.1 < N ∧ p.2 ≤ 100000

end Go.Proofs.YtnkgpinadgacgabDoor

/- Walk of sink: one sinks in the heap till no child is ahead of it. -/
namespace Go.Proofs.YtnkgpinadgacgabDoor
open Go.RowKit M
end Go.Proofs.YtnkgpinadgacgabDoor

namespace Go.Proofs.YtnkgpinadgacgabDoor
open Go.RowKit Go.Maps M
theorem Tryd.rowPos : (102 : TypeId) < Tryd.prog.types.size := of_decide_eq_true (by kernel_rfl)

theorem Tryd.deepPos : Tryd.prog.keyTypeAt 3 102 = true := by kernel_rfl

theorem Tryd.lawPos : Keyed Tryd.prog 102 := Keyed.of_law (deep_law_laid Tryd.laidOut0 (m := 3) (by omega) Tryd.rowPos Tryd.deepPos (by rw [Tryd.underlying102]))

theorem Tryd.ktPos : Tryd.prog.keyType 102 = true := by kernel_rfl

theorem Tryd.cellsPos : Tryd.prog.cellsOf 102 = 4 := by kernel_rfl

theorem Tryd.cellsU8 : Tryd.prog.cellsOf 5 = 1 := by kernel_rfl

/-- A position as the program keeps it. -/
def posV (q : List Nat) : Value := .agg #[.int .u8 (q.getD 0 0 : Nat), .int .u8 (q.getD 1 0 : Nat), .int .u8 (q.getD 2 0 : Nat), .int .u8 (q.getD 3 0 : Nat)]

/-- Its cells fit in bytes. -/
def Small (q : List Nat) : Prop := ∀ k, q.getD k 0 < 256

theorem wf_u8 {x : Nat} (h : x < 256) : (Lit.int .u8 (x : Int)).wf = true := by
  simp [Lit.wf, IntKind.min, IntKind.max, IntKind.signed, IntKind.bits]; omega

theorem posKey {q : List Nat} (h : Small q) : ∃ kl, keyOf Tryd.prog 102 (posV q) = some kl := by
  have h0 := wf_u8 (h 0)
  have h1 := wf_u8 (h 1)
  have h2 := wf_u8 (h 2)
  have h3 := wf_u8 (h 3)
  obtain ⟨m, hm⟩ := Tryd.typesSome
  unfold keyOf posV
  generalize q.getD 0 0 = a0 at h0 ⊢
  generalize q.getD 1 0 = a1 at h1 ⊢
  generalize q.getD 2 0 = a2 at h2 ⊢
  generalize q.getD 3 0 = a3 at h3 ⊢
  simp only [Tryd.underlying102]
  rw [if_pos (by simp [Tryd.ktPos, Value.formed, Tryd.underlying102, Tryd.cellsPos]), hm]
  unfold Program.keyLits
  simp only [Tryd.underlying102, Value.cells]
  rw [if_pos (by rw [Tryd.cellsPos]; rfl)]
  simp [List.range, List.range.loop, Tryd.cellsU8, Program.keyLits, Tryd.underlying5, h0, h1, h2, h3]

theorem pos_ext {m : Nat} {q q' : List Nat} (hm : m ≤ 4) (hq : q.length = m) (hq' : q'.length = m) (h : posV q = posV q') : q = q' := by
  unfold posV at h
  simp only [Value.agg.injEq, Array.mk.injEq, List.cons.injEq, Value.int.injEq, true_and, and_true] at h
  obtain ⟨h0, h1, h2, h3⟩ := h
  apply List.ext_getElem (by omega)
  intro i hi hi'
  have e : ∀ (l : List Nat) (hl : i < l.length), l[i] = l.getD i 0 := fun l hl => by rw [List.getD_eq_getElem?_getD, List.getElem?_eq_getElem hl]; rfl
  rw [e q hi, e q' hi']
  have hc : i = 0 ∨ i = 1 ∨ i = 2 ∨ i = 3 := by omega
  rcases hc with rfl | rfl | rfl | rfl <;> omega

/-- Block b is a set of positions of m carts: those of a list, none of which stands there twice. -/
def PosSet (w : World) (b m : Nat) (L : List (List Nat)) : Prop :=
  ∃ D : DataW Unit, w.ownsMap Tryd.prog 102 (unitElem (H := Unit)) b L.length D ∧ Maps.size D = L.length ∧ ∀ q kl, q.length = m → keyOf Tryd.prog 102 (posV q) = some kl → Maps.has D kl = decide (q ∈ L)

theorem PosSet.block {w w' : World} {b m : Nat} {L : List (List Nat)} (h : PosSet w b m L) (e : w'.heap[b]? = w.heap[b]?) : PosSet w' b m L := by
  obtain ⟨D, hD, hf⟩ := h; exact ⟨D, own_map_block hD e, hf⟩

theorem PosSet.lt {w : World} {b m : Nat} {L : List (List Nat)} (h : PosSet w b m L) : b < w.heap.size := by obtain ⟨D, hD, _⟩ := h; exact own_map_lt hD

theorem PosSet.below {w w' : World} {b m : Nat} {L : List (List Nat)} (h : PosSet w b m L) (hb : Below w.heap.size w w') : PosSet w' b m L := h.block (hb.block b h.lt)

theorem posSet_made (w : World) (b m : Nat) (hb : b = w.heap.size) : PosSet (w.alloc (.map #[] 0)) b m [] := by
  subst hb; exact ⟨_, World.ownsMap_made w _ _ _, rfl, fun _ _ _ _ => rfl⟩

theorem posSet_put {w w' : World} {b m : Nat} {L : List (List Nat)} {D : DataW Unit} {q : List Nat} {kl : Lit} {d : DataW Unit} (hm : m ≤ 4) (hown : w.ownsMap Tryd.prog 102 (unitElem (H := Unit)) b L.length D) (hs : Maps.size D = L.length)
    (hf : ∀ q kl, q.length = m → keyOf Tryd.prog 102 (posV q) = some kl → Maps.has D kl = decide (q ∈ L)) (hq : q.length = m) (hn : q ∉ L)
    (hk : keyOf Tryd.prog 102 (posV q) = some kl) (h : w'.ownsMap Tryd.prog 102 (unitElem (H := Unit)) b (L.length + 1) (D.put kl d)) : PosSet w' b m (L ++ [q]) := by
  have hno : Maps.has D kl = false := by rw [hf q kl hq hk]; simpa using hn
  refine ⟨_, by rw [List.length_append]; exact h, ?_, fun q' kl' hq' hk' => ?_⟩
  · rw [size_put (hown.tidy Tryd.lawPos), hno, List.length_append, hs]; rfl
  · by_cases e : kl' = kl
    · subst e
      have e2 : q' = q := pos_ext hm hq' hq (Tryd.lawPos.inj hk' hk)
      subst e2
      rw [has_put_same hown.isMap (Tryd.lawPos.key hk) d]
      simp
    · rw [has_put_other e d, hf q' kl' hq' hk']
      have e2 : q' ≠ q := fun h => by
        subst h
        rw [hk] at hk'
        exact e (Option.some.inj hk').symm
      rw [Bool.eq_iff_iff, decide_eq_true_eq, decide_eq_true_eq, List.mem_append]
      constructor
      · exact Or.inl
      · rintro (h | h)
        · exact h
        · simp at h; exact absurd h e2

section
variable {w : World} {ops : Array Oper} {rest : List Oper} {o : Oper} {a : Act} {Q : Exit → Act → World → Prop}
theorem wpList_look_pos (hg : o.guard = none) (mo x : Operand) (hop : o.op = Op.lookup 98 mo x true) (b m : Nat) (L : List (List Nat)) (hmo : a.eval mo = .map (some b)) (hown : PosSet w b m L) (q : List Nat) (hx : a.eval x = posV q) (hq : q.length = m) (hs : Small q)
    (hK : wpList Tryd.prog ops Q rest (a.put o.dst (.tuple #[.agg #[], .bool (decide (q ∈ L))])) w) : wpList Tryd.prog ops Q (o :: rest) a w := by
  obtain ⟨D, hD, _, hf⟩ := hown
  obtain ⟨kl, hk⟩ := posKey hs
  refine wpList_lookup_own_unit (H := Unit) w hg mo x _ hop 102 90 Tryd.lawPos Tryd.underlying98 (Tryd.zeroUnit w) b _ D hmo hD _ kl hx hk ?_
  rw [hf q kl hq hk]; exact hK

theorem wpList_put_pos (hg : o.guard = none) (mo x v : Operand) (hop : o.op = Op.mapUpdate 98 mo x v) (b m : Nat) (L : List (List Nat)) (hmo : a.eval mo = .map (some b)) (hown : PosSet w b m L) (hn : L.length < maxLen) (hm : m ≤ 4) (q : List Nat) (hx : a.eval x = posV q) (hv : a.eval v = .agg #[]) (hq : q.length = m) (hs : Small q) (hnew : q ∉ L)
    (hK : ∀ w', PosSet w' b m (L ++ [q]) → w.grownBy w' (some b) → wpList Tryd.prog ops Q rest (a.put o.dst undef) w') : wpList Tryd.prog ops Q (o :: rest) a w := by
  obtain ⟨D, hD, hsz, hf⟩ := hown
  obtain ⟨kl, hk⟩ := posKey hs
  refine wpList_mapUpdate_own (H := Unit) w hg mo x v _ hop 102 90 Tryd.lawPos Tryd.underlying98 unitElem b _ D hmo hD hn _ _ kl hx hv hk _ [] unitElem_mk ?_
  intro w' hw' hgw
  exact hK w' (posSet_put hm hD hsz hf hq hnew hk hw') hgw

/-- The same at a literal's entry. -/
theorem wpList_ins_pos (hg : o.guard = none) (mo x v : Operand) (hop : o.op = Op.insert 98 mo x v) (b m : Nat) (L : List (List Nat)) (hmo : a.eval mo = .map (some b)) (hown : PosSet w b m L) (hn : L.length < maxLen) (hm : m ≤ 4) (q : List Nat) (hx : a.eval x = posV q) (hv : a.eval v = .agg #[]) (hq : q.length = m) (hs : Small q) (hnew : q ∉ L)
    (hK : ∀ w', PosSet w' b m (L ++ [q]) → w.grownBy w' (some b) → wpList Tryd.prog ops Q rest (a.put o.dst undef) w') : wpList Tryd.prog ops Q (o :: rest) a w := by
  obtain ⟨D, hD, hsz, hf⟩ := hown
  obtain ⟨kl, hk⟩ := posKey hs
  refine wpList_plain hg fun K' hK' => ?_
  obtain ⟨w', hrun, r1, r2⟩ := hD.update Tryd.lawPos Tryd.underlying98 hn hk (unitElem_mk (H := Unit))
  unfold Oper.wp
  simp [execOp, hop, hmo, hx, hv, hrun, Result.andThen]
  exact hK' _ _ (hK w' (posSet_put hm hD hsz hf hq hnew hk r1) r2)

theorem wpList_len_pos (hg : o.guard = none) (mo : Operand) (hop : o.op = Op.call { callee := Callee.builtin Builtin.len, args := #[mo], argTypes := #[98] }) (b m : Nat) (L : List (List Nat)) (hmo : a.eval mo = .map (some b)) (hown : PosSet w b m L)
    (hK : wpList Tryd.prog ops Q rest (a.put o.dst (.int .i64 (L.length : Nat))) w) : wpList Tryd.prog ops Q (o :: rest) a w := by
  obtain ⟨D, hD, hsz, hf⟩ := hown
  refine wpList_len_own (H := Unit) (w := w) hg mo 98 hop 102 90 Tryd.underlying98 _ b _ D hmo hD ?_
  rw [hsz]; exact hK

end

def pcell (q : List Nat) : List Value := [.int .u8 (q.getD 0 0 : Nat), .int .u8 (q.getD 1 0 : Nat), .int .u8 (q.getD 2 0 : Nat), .int .u8 (q.getD 3 0 : Nat)]

def posCells : List (List Nat) → List Value
  | [] => []
  | q :: r => pcell q ++ posCells r

theorem posCells_app : ∀ (F G : List (List Nat)), posCells (F ++ G) = posCells F ++ posCells G
  | [], G => rfl
  | x :: F, G => by simp [posCells, posCells_app F G]

theorem posCells_at : ∀ {F : List (List Nat)} {i : Nat} (h : i < F.length), (posCells F)[i * 4]? = some (.int .u8 (F[i].getD 0 0 : Nat)) ∧ (posCells F)[i * 4 + 1]? = some (.int .u8 (F[i].getD 1 0 : Nat)) ∧ (posCells F)[i * 4 + 2]? = some (.int .u8 (F[i].getD 2 0 : Nat)) ∧ (posCells F)[i * 4 + 3]? = some (.int .u8 (F[i].getD 3 0 : Nat))
  | x :: F, 0, _ => by simp [posCells, pcell]
  | x :: F, i + 1, h => by
    have ih := posCells_at (F := F) (i := i) (by simpa using h)
    simp only [posCells, List.getElem_cons_succ]
    rw [List.getElem?_append_right (by simp [pcell]; omega), List.getElem?_append_right (by simp [pcell]; omega), List.getElem?_append_right (by simp [pcell]; omega), List.getElem?_append_right (by simp [pcell]; omega)]
    simp only [pcell, List.length_cons, List.length_nil]
    rw [show (i + 1) * 4 - (0 + 1 + 1 + 1 + 1) = i * 4 by omega, show (i + 1) * 4 + 1 - (0 + 1 + 1 + 1 + 1) = i * 4 + 1 by omega, show (i + 1) * 4 + 2 - (0 + 1 + 1 + 1 + 1) = i * 4 + 2 by omega, show (i + 1) * 4 + 3 - (0 + 1 + 1 + 1 + 1) = i * 4 + 3 by omega]
    exact ih

theorem pcell_one (x : List Nat) : ∀ u ∈ pcell x, u.oneCell' = true := by
  intro u hu
  simp [pcell] at hu
  rcases hu with rfl | rfl | rfl | rfl <;> rfl

/-- A list of positions that the call made. -/
def OwnP (w : World) (base : Nat) (v : Value) (F : List (List Nat)) : Prop := w.ownsRow base 102 4 v F.length (posCells F)

theorem OwnP.nil (w : World) (base : Nat) : OwnP w base (.slice none 0 0) [] := ⟨rfl, .inl ⟨rfl, rfl⟩⟩

theorem OwnP.below {w w' : World} {base : Nat} {v : Value} {F : List (List Nat)} (h : OwnP w base v F) (hb : Below w.heap.size w w') : OwnP w' base v F := own_later h hb

theorem OwnP.le {w : World} {base base' : Nat} {v : Value} {F : List (List Nat)} (h : OwnP w base v F) (hb : base' ≤ base) : OwnP w base' v F := own_le h hb

theorem OwnP.form {w : World} {base : Nat} {v : Value} {F : List (List Nat)} (h : OwnP w base v F) : ∃ a cap, v = .slice a F.length cap ∧ (0 < F.length → ∃ g, a = some ⟨g, 0, none⟩) ∧ F.length ≤ cap := own_form h

theorem OwnP.cells {w : World} {base g n cap : Nat} {F : List (List Nat)} (h : OwnP w base (.slice (some ⟨g, 0, none⟩) n cap) F) {i : Nat} (hi : i < F.length) :
    w.cell? ⟨g, i * 4, none⟩ = some (.int .u8 (F[i].getD 0 0 : Nat)) ∧ w.cell? ⟨g, i * 4 + 1, none⟩ = some (.int .u8 (F[i].getD 1 0 : Nat)) ∧ w.cell? ⟨g, i * 4 + 2, none⟩ = some (.int .u8 (F[i].getD 2 0 : Nat)) ∧ w.cell? ⟨g, i * 4 + 3, none⟩ = some (.int .u8 (F[i].getD 3 0 : Nat)) := by
  rcases h.2 with ⟨h0, _⟩ | ⟨g', cap', cur, hv, _, hh, h4, _, h6, h7⟩
  · cases h0
  · cases hv
    obtain ⟨c1, c2, c3, c4⟩ := posCells_at hi
    rw [← h7, List.getElem?_take, if_pos (by omega), Array.getElem?_toList] at c1 c2 c3 c4
    exact ⟨by simpa [World.cell?, hh] using c1, by simpa [World.cell?, hh] using c2, by simpa [World.cell?, hh] using c3, by simpa [World.cell?, hh] using c4⟩

theorem Tryd.infoPos : (Tryd.prog.info? 102).map (fun i => (i.zero, i.size, i.bytes)) = some (some (.agg #[.int .u8 0, .int .u8 0, .int .u8 0, .int .u8 0]), 4, 4) := by kernel_rfl

theorem four_freshP (w : World) (q : List Nat) : ∀ j u, (pcell q)[j]? = some u → (w.alloc (.cells #[.int .u8 (q.getD 0 0 : Nat), .int .u8 (q.getD 1 0 : Nat), .int .u8 (q.getD 2 0 : Nat), .int .u8 (q.getD 3 0 : Nat)] 102)).cell? ((⟨w.heap.size, 0, none⟩ : Addr).add j) = some u := by
  intro j u h
  unfold pcell at h
  match j, h with
  | 0, h => simp at h; subst h; simp [Addr.add]
  | 1, h => simp at h; subst h; simp [Addr.add]
  | 2, h => simp at h; subst h; simp [Addr.add]
  | 3, h => simp at h; subst h; simp [Addr.add]
  | j + 4, h => simp at h

set_option maxRecDepth 100000 in
theorem wpList_pushP {w0 : World} {ops : Array Oper} {rest : List Oper} {o : Oper} {a : Act} {Q : Exit → Act → World → Prop} (hgd : o.guard = none) (s x : Operand)
    (ho : o.op = .call { callee := .builtin .append, args := #[s, x], argTypes := #[144, 144] })
    (base : Nat) (v : Value) (F : List (List Nat)) (q : List Nat) (a0 a1 a2 a3 : Nat) (h0 : a0 = q.getD 0 0) (h1 : a1 = q.getD 1 0) (h2 : a2 = q.getD 2 0) (h3 : a3 = q.getD 3 0) (hs : a.eval s = v) (hown : OwnP w0 base v F) (hbase : base ≤ w0.heap.size) (c : Nat)
    (hx : a.eval x = .slice (some ⟨w0.heap.size, 0, none⟩) 1 c) (hF : F.length ≤ 100000000)
    (h : ∀ g cap w', OwnP w' base (.slice (some ⟨g, 0, none⟩) (F ++ [q]).length cap) (F ++ [q]) → Only (fun k => v.ownBlock = some k) w0 w' → (v.ownBlock = some g ∨ w0.heap.size ≤ g) → wpList Tryd.prog ops Q rest (a.put o.dst (.slice (some ⟨g, 0, none⟩) (F ++ [q]).length cap)) w') :
    wpList Tryd.prog ops Q (o :: rest) a (w0.alloc (.cells #[.int .u8 (a0 : Int), .int .u8 (a1 : Int), .int .u8 (a2 : Int), .int .u8 (a3 : Int)] 102)) := by
  subst h0 h1 h2 h3
  obtain ⟨i0, hi0, hi1, hi2, hi3⟩ := info_parts Tryd.infoPos
  have hown1 := own_keep (w' := w0.alloc (.cells #[.int .u8 (q.getD 0 0 : Nat), .int .u8 (q.getD 1 0 : Nat), .int .u8 (q.getD 2 0 : Nat), .int .u8 (q.getD 3 0 : Nat)] 102)) hown (fun g _ hg _ => Below.heap_alloc _ _ _ hg)
  refine wpList_append_lies _ hgd s x _ ho base 102 i0 _ 4 4 Tryd.underlying144 hi0 hi1 hi2 hi3 rfl (by omega) v F.length (posCells F) hs hown1 _ 1 c (pcell q) hx rfl (four_freshP w0 q) (pcell_one q) (by omega) (by unfold maxLen; omega) (by omega) (by simp; omega) (w0.heap.size + 1) (by simp) ?_
  intro g cap w' ho9 hg9 hl9 _
  have e1 : (F ++ [q]).length = F.length + 1 := by simp
  have e2 : posCells [q] = pcell q := by simp [posCells]
  rw [e1] at h
  refine h g cap w' ?_ ?_ (hl9.imp id (fun e => by omega))
  · unfold OwnP
    rw [posCells_app, e1, e2]; exact ho9
  · refine ⟨hg9.os, hg9.tape, hg9.output, Nat.le_trans (by simp) hg9.size, fun k hk hn => ?_⟩
    rw [hg9.block k (by simp; omega) (fun e => hn e.symm)]
    exact Below.heap_alloc _ _ _ hk

theorem own_oneP (w : World) (q : List Nat) (k : Nat) (hk : k = w.heap.size) : OwnP (w.alloc (.cells #[.int .u8 (q.getD 0 0 : Nat), .int .u8 (q.getD 1 0 : Nat), .int .u8 (q.getD 2 0 : Nat), .int .u8 (q.getD 3 0 : Nat)] 102)) k (.slice (some ⟨k, 0, none⟩) 1 1) [q] := by
  subst hk
  refine ⟨rfl, .inr ⟨w.heap.size, 1, #[.int .u8 (q.getD 0 0 : Nat), .int .u8 (q.getD 1 0 : Nat), .int .u8 (q.getD 2 0 : Nat), .int .u8 (q.getD 3 0 : Nat)], rfl, Nat.le_refl _, ?_, Nat.le_refl _, by unfold maxLen; omega, rfl, rfl⟩⟩
  show (w.heap.push _)[w.heap.size]? = _
  simp

end Go.Proofs.YtnkgpinadgacgabDoor
