/- Several texts in one: Bg, Bh, Bi. -/
import Derived.Test.YtnkgpinadgacgabDoorMjb
import Derived.Test.YtnkgpinadgacgabDoorRows
import Derived.Maps.OwnSet
import Derived.DeepKeys4
import Derived.WalkSmall
import Derived.Test.YtnkgpinadgacgabDoorMjd
import Derived.Test.YtnkgpinadgacgabDoorMjc
import Derived.Deep.RegionHeld3
import Derived.Deep.DeepCutAuto
import Derived.Test.YtnkgpinadgacgabDoorMja
import Derived.Deep.RegionLaw
import Derived.Deep.AppendLies
import Derived.Deep.QuietTactic
import Derived.BigQuiet
import Derived.BigRegion
namespace Go.Proofs.YtnkgpinadgacgabDoor
open Go.RowKit Go.Maps
theorem Tryd.laidOut0 : laidOutB Tryd.prog = true := by kernel_rfl

theorem Tryd.rowSpot : (102 : TypeId) < Tryd.prog.types.size := of_decide_eq_true (by kernel_rfl)

theorem Tryd.typesSome : ∃ m, Tryd.prog.types.size = m + 1 := by
  have h : (102 : Nat) < Tryd.prog.types.size := Tryd.rowSpot
  exact ⟨Tryd.prog.types.size - 1, by omega⟩

theorem Tryd.zeroUnit (w : World) : (zeroValue 90).run Tryd.prog w = .ok (.agg #[]) w := by kernel_rfl

theorem own_map_block {w w' : World} {P : Program} {k : TypeId} {R : Value → Option (DataW Unit × List MemPlace)} {b n : Nat} {D : DataW Unit} (h : w.ownsMap P k R b n D) (e : w'.heap[b]? = w.heap[b]?) : w'.ownsMap P k R b n D := by
  obtain ⟨es, clock, hb, r⟩ := h
  exact ⟨es, clock, e.trans hb, r⟩

theorem own_map_lt {w : World} {P : Program} {k : TypeId} {R : Value → Option (DataW Unit × List MemPlace)} {b n : Nat} {D : DataW Unit} (h : w.ownsMap P k R b n D) : b < w.heap.size := by
  obtain ⟨es, clock, hb, _⟩ := h
  exact (Array.getElem?_eq_some_iff.1 hb).1

section
variable {w : World} {ops : Array Oper} {rest : List Oper} {o : Oper} {a : Act} {Q : Exit → Act → World → Prop}
end
end Go.Proofs.YtnkgpinadgacgabDoor

/- What a call has turned: some blocks, and nothing else that was there. -/
namespace Go.Proofs.YtnkgpinadgacgabDoor
open Go.RowKit
/-- Of the blocks that were there only those of S may have turned. -/
structure Only (S : Nat → Prop) (w w' : World) : Prop where
  os : w'.os = w.os
  tape : w'.tape = w.tape
  output : w'.output = w.output
  size : w.heap.size ≤ w'.heap.size
  block : ∀ k, k < w.heap.size → ¬ S k → w'.heap[k]? = w.heap[k]?

theorem Only.refl (S : Nat → Prop) (w : World) : Only S w w := ⟨rfl, rfl, rfl, Nat.le_refl _, fun _ _ _ => rfl⟩

theorem Only.trans {S S' : Nat → Prop} {a b c : World} (h : Only S a b) (k : Only S' b c) (hs : ∀ i, i < a.heap.size → S' i → S i) : Only S a c :=
  ⟨k.os.trans h.os, k.tape.trans h.tape, k.output.trans h.output, Nat.le_trans h.size k.size, fun i hi hn => (k.block i (Nat.lt_of_lt_of_le hi h.size) (fun e => hn (hs i hi e))).trans (h.block i hi hn)⟩

theorem Only.of_below {S : Nat → Prop} {w w' : World} (h : Below w.heap.size w w') : Only S w w' := ⟨h.os, h.tape, h.output, h.size, fun k hk _ => h.block k hk⟩

theorem Only.of_grown {w w' : World} {b : Nat} (h : w.grownBy w' (some b)) : Only (fun k => k = b) w w' := ⟨h.os, h.tape, h.output, h.size, fun k hk hn => h.block k hk (fun e => hn (Option.some.inj e))⟩

theorem Only.alloc {S : Nat → Prop} {a w : World} (h : Only S a w) (o : Obj) : Only S a (w.alloc o) :=
  h.trans (Only.of_below ((Below.refl _ _).alloc (Nat.le_refl _) _) : Only (fun _ => False) w _) (fun _ _ e => e.elim)

theorem Only.setCell {S : Nat → Prop} {a w : World} (h : Only S a w) {p : Addr} (hp : p.block < a.heap.size → S p.block) (u : Value) : Only S a (w.setCell p u) := by
  have h2 : Only (fun k => k = p.block) w (w.setCell p u) := ⟨rfl, rfl, rfl, by simp, fun k _ hn => Below.heap_setCell w p u k hn⟩
  exact h.trans h2 (fun i hi e => by subst e; exact hp hi)

theorem Only.drew {S : Nat → Prop} {a w : World} (h : Only S a w) : Only S a w.drew := ⟨h.os, h.tape, h.output, h.size, h.block⟩

theorem Only.drewN {S : Nat → Prop} {a w : World} (h : Only S a w) (n : Nat) : Only S a (w.drewN n) := ⟨h.os, h.tape, h.output, h.size, h.block⟩

theorem Only.mono {S S' : Nat → Prop} {a w : World} (h : Only S a w) (hs : ∀ i, i < a.heap.size → S i → S' i) : Only S' a w := ⟨h.os, h.tape, h.output, h.size, fun k hk hn => h.block k hk (fun e => hn (hs k hk e))⟩

theorem Only.below {S : Nat → Prop} {a w : World} (h : Only S a w) {B : Nat} (hB : B ≤ a.heap.size) (hs : ∀ i, S i → B ≤ i) : Below B a w :=
  ⟨h.os, h.tape, h.output, h.size, fun k hk => h.block k (Nat.lt_of_lt_of_le hk hB) (fun e => by have := hs k e; omega)⟩

theorem Only.cell {S : Nat → Prop} {a w : World} (h : Only S a w) {p : Addr} (hp : p.block < a.heap.size) (hn : ¬ S p.block) : w.cell? p = a.cell? p := World.cell?_of_block (w := a) (h.block p.block hp hn)

theorem Only.frozen {S : Nat → Prop} {a w : World} (h : Only S a w) {p : Addr} (hp : p.block < a.heap.size) (hn : ¬ S p.block) : w.frozen? p = a.frozen? p := World.frozen?_of_block (w := a) (h.block p.block hp hn)

/-- What lay below B, where only blocks from B on may have turned. -/
theorem below_only {B : Nat} {a b c : World} {S : Nat → Prop} (h : Below B a b) (k : Only S b c) (hB : B ≤ b.heap.size) (hs : ∀ i, S i → B ≤ i) : Below B a c := h.trans (k.below hB hs)

end Go.Proofs.YtnkgpinadgacgabDoor

/- Plain facts on rules: when a cart may be on a cell, when it may go; where it can have come; when it may stay for ever. No program is named here. -/
namespace Go.Proofs.YtnkgpinadgacgabDoor.M
/-- A rule. -/
structure RuleM where
  kind : Int
  cell : Int
  next : Int
  at' : Int

/-- The rule forbids to be on a cell at an instant. -/
def brkOn (r : RuleM) (c t : Int) : Bool := r.at' == t && (r.kind == 0 && r.cell == c || r.kind == 2 && !(r.cell == c))

/-- The rule forbids to go from a to b at an instant. -/
def brkGo (r : RuleM) (a b t : Int) : Bool := r.kind == 1 && r.at' == t && r.cell == a && r.next == b

/-- The rules let a cart be on a cell at an instant. -/
def onM (n : Nat) (R : Nat → RuleM) (c t : Int) : Bool := !anyB (fun i => brkOn (R i) c t) n

def noWayM (n : Nat) (R : Nat → RuleM) (a b t : Int) : Bool := anyB (fun i => brkGo (R i) a b t) n

theorem anyB_false {p : Nat → Bool} {n : Nat} : anyB p n = false ↔ ∀ i, i < n → p i = false := by
  constructor
  · intro h i hi
    cases e : p i with
    | false => rfl
    | true => rw [anyB_of e hi] at h; cases h
  · intro h
    cases e : anyB p n with
    | false => rfl
    | true => obtain ⟨i, hi, hp⟩ := anyB_true e; rw [h i hi] at hp; cases hp

theorem anyB_iff {p : Nat → Bool} {n : Nat} : anyB p n = true ↔ ∃ i, i < n ∧ p i = true :=
  ⟨anyB_true, fun ⟨_, hi, hp⟩ => anyB_of hp hi⟩

end Go.Proofs.YtnkgpinadgacgabDoor.M

/- Rules in memory; walks of the document's on, goes, stays. -/
namespace Go.Proofs.YtnkgpinadgacgabDoor
open Go.RowKit M
theorem upto_step {p : Nat → Bool} {k : Nat} (hb : p k = false) (hg : ∀ j, j < k → p j = false) : ∀ j, j < k + 1 → p j = false := by
  intro j hj
  by_cases e : j = k
  · subst e; exact hb
  · exact hg j (by omega)

end Go.Proofs.YtnkgpinadgacgabDoor

namespace Go.Proofs.YtnkgpinadgacgabDoor
open Go.RowKit M
end Go.Proofs.YtnkgpinadgacgabDoor

/- Walks of the document's RulesRight, given. -/
namespace Go.Proofs.YtnkgpinadgacgabDoor
open Go.RowKit M
end Go.Proofs.YtnkgpinadgacgabDoor

/- Walks of the document's first and ahead. -/
namespace Go.Proofs.YtnkgpinadgacgabDoor
open Go.RowKit M
end Go.Proofs.YtnkgpinadgacgabDoor

/- Walk of the document's ahead: where a cart can be an instant later. -/
namespace Go.Proofs.YtnkgpinadgacgabDoor
open Go.RowKit M
end Go.Proofs.YtnkgpinadgacgabDoor

/- Walk of the document's Least: the least cost of a path that keeps the rules. -/
namespace Go.Proofs.YtnkgpinadgacgabDoor
open Go.RowKit M
end Go.Proofs.YtnkgpinadgacgabDoor

/- Walk of the document's Keeps, at a path that keeps the rules. -/
namespace Go.Proofs.YtnkgpinadgacgabDoor
open Go.RowKit M
def natV (p : Nat → Nat) : Nat → Value := fun i => .int .i64 (p i : Nat)

theorem wrap_mid {x : Int} (h1 : -9223372036854775808 ≤ x) (h2 : x ≤ 9223372036854775807) : IntKind.i64.wrap x = x := by rw [IntKind.wrap_i64]; omega

end Go.Proofs.YtnkgpinadgacgabDoor

namespace Go.Proofs.YtnkgpinadgacgabDoor.M
section
variable {N : Nat} {rch : Nat → Nat → Bool} {goes : Nat → Nat → Nat → Bool} {fr tt : Nat} {S : Int} {st : Nat → Int}

end
end Go.Proofs.YtnkgpinadgacgabDoor.M

/- Plain facts on a heap in a row: what order it keeps, how one rises, how one sinks, the first is the foremost. No program is named here. -/
namespace Go.Proofs.YtnkgpinadgacgabDoor.M
abbrev Spot := Nat × Nat

section
variable {key : Spot → Int} {n : Nat} {it : Nat → Spot}
def swapIt (it : Nat → Spot) (a b : Nat) : Nat → Spot := fun i => if i = a then it b else if i = b then it a else it i

def Mem (n : Nat) (it : Nat → Spot) (p : Spot) : Prop := ∃ i, i < n ∧ it i = p

/-- The last in the first's place. -/
def popIt (it : Nat → Spot) (n : Nat) : Nat → Spot := fun i => if i = 0 then it (n - 1) else it i

def pushIt (it : Nat → Spot) (n : Nat) (p : Spot) : Nat → Spot := fun i => if i = n then p else it i

end
end Go.Proofs.YtnkgpinadgacgabDoor.M

/- Plain facts: one cart's search over a yard under rules is such a search; what the map of what was seen tells; what the search's answer says. -/
namespace Go.Proofs.YtnkgpinadgacgabDoor
open M Go.RowKit
theorem free_lt {cs : ByteArray} {c : Nat} (h : freeB cs c = true) : c < cs.size := by
  by_cases e : c < cs.size
  · exact e
  · rw [freeB_out (by omega)] at h; cases h

end Go.Proofs.YtnkgpinadgacgabDoor

/- Laws on lists of whatever elements that the call itself made: what keeps them; what an append leaves. -/
namespace Go.Proofs.YtnkgpinadgacgabDoor
open Go.RowKit
/-- A block of cells that is known, behind a store into one. -/
theorem box_set {w : World} {b i : Nat} {cells cells' : Array Value} {v : Value} (h : ∀ o, w.cell? ⟨b, o, none⟩ = cells[o]?) (hi : i < cells.size) (he : cells' = cells.setIfInBounds i v) : ∀ o, (w.setCell ⟨b, i, none⟩ v).cell? ⟨b, o, none⟩ = cells'[o]? := by
  subst he
  intro o
  by_cases e : o = i
  · subst e
    rw [World.cell?_setCell_same' _ _ _ (by rw [h]; simp [hi])]
    simp [hi]
  · rw [World.cell?_setCell_other _ _ _ _ (by intro hh; cases hh; exact e rfl), h o, Array.getElem?_setIfInBounds, if_neg (fun hh => e hh.symm)]

theorem own_form {w : World} {base n : Nat} {e : TypeId} {size : Nat} {v : Value} {xs : List Value} (h : w.ownsRow base e size v n xs) : ∃ a cap, v = .slice a n cap ∧ (0 < n → ∃ g, a = some ⟨g, 0, none⟩) ∧ n ≤ cap := by
  rcases h.2 with ⟨e1, e2⟩ | ⟨g, cap', cur, e1, e2, _, h4, _⟩
  · subst e2; exact ⟨none, 0, e1, fun h0 => absurd h0 (Nat.lt_irrefl 0), Nat.le_refl 0⟩
  · exact ⟨_, cap', e1, fun _ => ⟨g, rfl⟩, h4⟩

theorem own_keep {w w' : World} {base n : Nat} {e : TypeId} {size : Nat} {v : Value} {xs : List Value} (h : w.ownsRow base e size v n xs) (hk : ∀ g, base ≤ g → g < w.heap.size → v.ownBlock = some g → w'.heap[g]? = w.heap[g]?) : w'.ownsRow base e size v n xs := by
  refine ⟨h.1, ?_⟩
  rcases h.2 with h0 | ⟨g, cap, cur, hv, hg, hh, r⟩
  · exact .inl h0
  · refine .inr ⟨g, cap, cur, hv, hg, ?_, r⟩
    rw [hk g hg (h.lt g (by rw [hv]; rfl)).2 (by rw [hv]; rfl)]; exact hh

theorem own_later {w w' : World} {base n : Nat} {e : TypeId} {size : Nat} {v : Value} {xs : List Value} (h : w.ownsRow base e size v n xs) (hb : Below w.heap.size w w') : w'.ownsRow base e size v n xs := own_keep h fun g _ hg _ => hb.block g hg

theorem own_le {w : World} {base base' n : Nat} {e : TypeId} {size : Nat} {v : Value} {xs : List Value} (h : w.ownsRow base e size v n xs) (hb : base' ≤ base) : w.ownsRow base' e size v n xs :=
  ⟨h.1, h.2.elim Or.inl (fun ⟨g, cap, cur, hv, hg, r⟩ => Or.inr ⟨g, cap, cur, hv, Nat.le_trans hb hg, r⟩)⟩

theorem grow_cell {w pre w1 : World} {row : Option Nat} {b o : Nat} {v : Value} (h : w.cell? ⟨b, o, none⟩ = some v) (hp : Below w.heap.size w pre) (hg : pre.grownBy w1 row) (n : ∀ k, row = some k → b ≠ k) : w1.cell? ⟨b, o, none⟩ = some v := by
  have h2 := cell_later hp h
  rw [World.cell?_of_block (w := pre) (a := ⟨b, o, none⟩) (hg.block _ (World.block_lt_of_cell? _ _ h2) (fun e => n _ e.symm rfl))]; exact h2

theorem grow_frozen {w pre w1 : World} {row : Option Nat} {b o : Nat} (h : w.frozen? ⟨b, o, none⟩ = false) (hb : b < w.heap.size) (hp : Below w.heap.size w pre) (hg : pre.grownBy w1 row) (n : ∀ k, row = some k → b ≠ k) : w1.frozen? ⟨b, o, none⟩ = false := by
  rw [World.frozen?_of_block (w := pre) (a := ⟨b, o, none⟩) (hg.block _ (Nat.lt_of_lt_of_le hb hp.size) (fun e => n _ e.symm rfl)), hp.frozen (p := ⟨b, o, none⟩) hb]; exact h

theorem two_oneCell (u v : Int) : ∀ x ∈ [Value.int .i64 u, Value.int .i64 v], x.oneCell' = true := by
  intro x hx
  simp at hx
  rcases hx with rfl | rfl <;> rfl

theorem own2_cap {w : World} {base m cc : Nat} {e : TypeId} {size : Nat} {ac : Option Addr} {xs : List Value} (h : w.ownsRow base e size (.slice ac m cc) m xs) : m ≤ cc := by
  rcases h.2 with ⟨e1, e2⟩ | ⟨g, cap', cur, hv, _, _, h4, _⟩
  · omega
  · cases hv; exact h4

theorem grown_pre {w pre w1 : World} {row : Option Nat} (_ : pre.grownBy w1 row) (hp : Below w.heap.size w pre) : Below w.heap.size w pre ∧ True := ⟨hp, trivial⟩

end Go.Proofs.YtnkgpinadgacgabDoor

/- A heap of spots in memory; walks of the function that orders it, and of swap. -/
namespace Go.Proofs.YtnkgpinadgacgabDoor
open Go.RowKit M
end Go.Proofs.YtnkgpinadgacgabDoor

/- Walk of swap: two places of a heap's row change their spots. -/
namespace Go.Proofs.YtnkgpinadgacgabDoor
open Go.RowKit M
end Go.Proofs.YtnkgpinadgacgabDoor

/- Walk of rise: one rises in the heap till its parent is no further back. -/
namespace Go.Proofs.YtnkgpinadgacgabDoor
open Go.RowKit M
/-- What a heap's spots are. -/
def Fine (N n : Nat) (it : Nat → Spot) : Prop := ∀ p, Mem n it p → p.1 < N ∧ p.2 ≤ 100000

end Go.Proofs.YtnkgpinadgacgabDoor

/- Walk of sink: one sinks in the heap till no child is ahead of it. -/
namespace Go.Proofs.YtnkgpinadgacgabDoor
open Go.RowKit M
end Go.Proofs.YtnkgpinadgacgabDoor
