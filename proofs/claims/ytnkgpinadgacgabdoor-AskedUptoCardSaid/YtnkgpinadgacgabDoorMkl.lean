/- Several texts in one: Bh, Bi, Op. -/
import Derived.Test.YtnkgpinadgacgabDoorMke
import Derived.Deep.RegionHeld3
import Derived.Deep.DeepCutAuto
import Derived.Test.YtnkgpinadgacgabDoorMkc
import Derived.Test.YtnkgpinadgacgabDoorMkb
import Derived.Test.YtnkgpinadgacgabDoorMkd
import Derived.Deep.RegionLaw
import Derived.Deep.AppendLies
import Derived.Deep.QuietTactic
import Derived.BigQuiet
import Derived.BigRegion
import Derived.ProofKit
import Derived.SizedLaws
import Derived.Deep.SlicePairs
import Derived.Deep.Fields
import Derived.Lib.SmallJoins
namespace Go.Proofs.YtnkgpinadgacgabDoor
open Go.RowKit M
end Go.Proofs.YtnkgpinadgacgabDoor

/- Walks of the document's RulesRight, given. -/
namespace Go.Proofs.YtnkgpinadgacgabDoor
open Go.RowKit M
end Go.Proofs.YtnkgpinadgacgabDoor

/- Walks of the document's first and ahead. -/
namespace Go.Proofs.YtnkgpinadgacgabDoor
open Go.RowKit M
end Go.Proofs.YtnkgpinadgacgabDoor

/- Walk of the document's ahead: where a cart can be an instant later. -/
namespace Go.Proofs.YtnkgpinadgacgabDoor
open Go.RowKit M
end Go.Proofs.YtnkgpinadgacgabDoor

/- Walk of the document's Least: the least cost of a path that keeps the rules. -/
namespace Go.Proofs.YtnkgpinadgacgabDoor
open Go.RowKit M
end Go.Proofs.YtnkgpinadgacgabDoor

/- Walk of the document's Keeps, at a path that keeps the rules. -/
namespace Go.Proofs.YtnkgpinadgacgabDoor
open Go.RowKit M
def natV (p : Nat → Nat) : Nat → Value := fun i => .int .i64 (p i : Nat)

theorem wrap_mid {x : Int} (h1 : -9223372036854775808 ≤ x) (h2 : x ≤ 9223372036854775807) : IntKind.i64.wrap x = x := by rw [IntKind.wrap_i64]; omega

end Go.Proofs.YtnkgpinadgacgabDoor

namespace Go.Proofs.YtnkgpinadgacgabDoor.M
section
variable {N : Nat} {rch : Nat → Nat → Bool} {goes : Nat → Nat → Nat → Bool} {fr tt : Nat} {S : Int} {st : Nat → Int}

end
end Go.Proofs.YtnkgpinadgacgabDoor.M

/- Plain facts on a heap in a row: what order it keeps, how one rises, how one sinks, the first is the foremost. No program is named here. -/
namespace Go.Proofs.YtnkgpinadgacgabDoor.M
abbrev Spot := Nat × Nat

section
variable {key : Spot → Int} {n : Nat} {it : Nat → Spot}
def swapIt (it : Nat → Spot) (a b : Nat) : Nat → Spot := fun i => if i = a then it b else if i = b then it a else it i

def Mem (n : Nat) (it : Nat → Spot) (p : Spot) : Prop := ∃ i, i < n ∧ it i = p

/-- The last in the first's place. -/
def popIt (it : Nat → Spot) (n : Nat) : Nat → Spot := fun i => if i = 0 then it (n - 1) else it i

def pushIt (it : Nat → Spot) (n : Nat) (p : Spot) : Nat → Spot := fun i => if i = n then p else it i

end
end Go.Proofs.YtnkgpinadgacgabDoor.M

/- Plain facts: one cart's search over a yard under rules is such a search; what the map of what was seen tells; what the search's answer says. -/
namespace Go.Proofs.YtnkgpinadgacgabDoor
open M Go.RowKit
theorem free_lt {cs : ByteArray} {c : Nat} (h : freeB cs c = true) : c < cs.size := by
  by_cases e : c < cs.size
  · exact e
  · rw [freeB_out (by omega)] at h; cases h

end Go.Proofs.YtnkgpinadgacgabDoor

/- Laws on lists of whatever elements that the call itself made: what keeps them; what an append leaves. -/
namespace Go.Proofs.YtnkgpinadgacgabDoor
open Go.RowKit
/-- A block of cells that is known, behind a store into one. -/
theorem box_set {w : World} {b i : Nat} {cells cells' : Array Value} {v : Value} (h : ∀ o, w.cell? ⟨b, o, none⟩ = cells[o]?) (hi : i < cells.size) (he : cells' = cells.setIfInBounds i v) : ∀ o, (w.setCell ⟨b, i, none⟩ v).cell? ⟨b, o, none⟩ = cells'[o]? := by
  subst he
  intro o
  by_cases e : o = i
  · subst e
    rw [World.cell?_setCell_same' _ _ _ (by rw [h]; simp [hi])]
    simp [hi]
  · rw [World.cell?_setCell_other _ _ _ _ (by intro hh; cases hh; exact e rfl), h o, Array.getElem?_setIfInBounds, if_neg (fun hh => e hh.symm)]

theorem own_form {w : World} {base n : Nat} {e : TypeId} {size : Nat} {v : Value} {xs : List Value} (h : w.ownsRow base e size v n xs) : ∃ a cap, v = .slice a n cap ∧ (0 < n → ∃ g, a = some ⟨g, 0, none⟩) ∧ n ≤ cap := by
  rcases h.2 with ⟨e1, e2⟩ | ⟨g, cap', cur, e1, e2, _, h4, _⟩
  · subst e2; exact ⟨none, 0, e1, fun h0 => absurd h0 (Nat.lt_irrefl 0), Nat.le_refl 0⟩
  · exact ⟨_, cap', e1, fun _ => ⟨g, rfl⟩, h4⟩

theorem own_keep {w w' : World} {base n : Nat} {e : TypeId} {size : Nat} {v : Value} {xs : List Value} (h : w.ownsRow base e size v n xs) (hk : ∀ g, base ≤ g → g < w.heap.size → v.ownBlock = some g → w'.heap[g]? = w.heap[g]?) : w'.ownsRow base e size v n xs := by
  refine ⟨h.1, ?_⟩
  rcases h.2 with h0 | ⟨g, cap, cur, hv, hg, hh, r⟩
  · exact .inl h0
  · refine .inr ⟨g, cap, cur, hv, hg, ?_, r⟩
    rw [hk g hg (h.lt g (by rw [hv]; rfl)).2 (by rw [hv]; rfl)]; exact hh

theorem own_later {w w' : World} {base n : Nat} {e : TypeId} {size : Nat} {v : Value} {xs : List Value} (h : w.ownsRow base e size v n xs) (hb : Below w.heap.size w w') : w'.ownsRow base e size v n xs := own_keep h fun g _ hg _ => hb.block g hg

theorem own_le {w : World} {base base' n : Nat} {e : TypeId} {size : Nat} {v : Value} {xs : List Value} (h : w.ownsRow base e size v n xs) (hb : base' ≤ base) : w.ownsRow base' e size v n xs :=
  ⟨h.1, h.2.elim Or.inl (fun ⟨g, cap, cur, hv, hg, r⟩ => Or.inr ⟨g, cap, cur, hv, Nat.le_trans hb hg, r⟩)⟩

theorem grow_cell {w pre w1 : World} {row : Option Nat} {b o : Nat} {v : Value} (h : w.cell? ⟨b, o, none⟩ = some v) (hp : Below w.heap.size w pre) (hg : pre.grownBy w1 row) (n : ∀ k, row = some k → b ≠ k) : w1.cell? ⟨b, o, none⟩ = some v := by
  have h2 := cell_later hp h
  rw [World.cell?_of_block (w := pre) (a := ⟨b, o, none⟩) (hg.block _ (World.block_lt_of_cell? _ _ h2) (fun e => n _ e.symm rfl))]; exact h2

theorem grow_frozen {w pre w1 : World} {row : Option Nat} {b o : Nat} (h : w.frozen? ⟨b, o, none⟩ = false) (hb : b < w.heap.size) (hp : Below w.heap.size w pre) (hg : pre.grownBy w1 row) (n : ∀ k, row = some k → b ≠ k) : w1.frozen? ⟨b, o, none⟩ = false := by
  rw [World.frozen?_of_block (w := pre) (a := ⟨b, o, none⟩) (hg.block _ (Nat.lt_of_lt_of_le hb hp.size) (fun e => n _ e.symm rfl)), hp.frozen (p := ⟨b, o, none⟩) hb]; exact h

theorem two_oneCell (u v : Int) : ∀ x ∈ [Value.int .i64 u, Value.int .i64 v], x.oneCell' = true := by
  intro x hx
  simp at hx
  rcases hx with rfl | rfl <;> rfl

theorem own2_cap {w : World} {base m cc : Nat} {e : TypeId} {size : Nat} {ac : Option Addr} {xs : List Value} (h : w.ownsRow base e size (.slice ac m cc) m xs) : m ≤ cc := by
  rcases h.2 with ⟨e1, e2⟩ | ⟨g, cap', cur, hv, _, _, h4, _⟩
  · omega
  · cases hv; exact h4

theorem grown_pre {w pre w1 : World} {row : Option Nat} (_ : pre.grownBy w1 row) (hp : Below w.heap.size w pre) : Below w.heap.size w pre ∧ True := ⟨hp, trivial⟩

end Go.Proofs.YtnkgpinadgacgabDoor

/- A heap of spots in memory; walks of the function that orders it, and of swap. -/
namespace Go.Proofs.YtnkgpinadgacgabDoor
open Go.RowKit M
end Go.Proofs.YtnkgpinadgacgabDoor

/- Walk of swap: two places of a heap's row change their spots. -/
namespace Go.Proofs.YtnkgpinadgacgabDoor
open Go.RowKit M
end Go.Proofs.YtnkgpinadgacgabDoor

/- Walk of rise: one rises in the heap till its parent is no further back. -/
namespace Go.Proofs.YtnkgpinadgacgabDoor
open Go.RowKit M
/-- What a heap's spots are. -/
def Fine (N n : Nat) (it : Nat → Spot) : Prop := ∀ p, Mem n it p → p.1 < N ∧ p.2 ≤ 100000

end Go.Proofs.YtnkgpinadgacgabDoor

/- Walk of sink: one sinks in the heap till no child is ahead of it. -/
namespace Go.Proofs.YtnkgpinadgacgabDoor
open Go.RowKit M
end Go.Proofs.YtnkgpinadgacgabDoor

namespace Go.Proofs.YtnkgpinadgacgabDoor
open Go.ChangeShapes Go.WideShapes Go.ChangeAt Go.RowKit Go.Deep Go.Joins
theorem Tryd.own : ownKnob Tryd.prog.godebug = none := by kernel_rfl

theorem Tryd.laidOut : laidOutB Tryd.prog = true := by kernel_rfl

theorem Tryd.cellsInt : Tryd.prog.cellsOf 3 = 1 := by kernel_rfl

theorem Tryd.cellsString : Tryd.prog.cellsOf 9 = 1 := by kernel_rfl

theorem array5 {α : Type} {cs : Array α} (h : cs.size = 5) : ∃ c0 c1 c2 c3 c4, cs = #[c0, c1, c2, c3, c4] := by
  obtain ⟨l⟩ := cs
  match l, h with
  | [c0, c1, c2, c3, c4], _ => exact ⟨c0, c1, c2, c3, c4, rfl⟩

theorem list5 {α : Type} {l : List α} (h : l.length = 5) : ∃ c0 c1 c2 c3 c4, l = [c0, c1, c2, c3, c4] := by
  match l, h with
  | [c0, c1, c2, c3, c4], _ => exact ⟨c0, c1, c2, c3, c4, rfl⟩

end Go.Proofs.YtnkgpinadgacgabDoor
