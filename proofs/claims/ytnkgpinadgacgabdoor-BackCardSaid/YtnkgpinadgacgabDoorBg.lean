/- Maps whose keys are structs of numbers, which the call itself makes: sets of spots, sets of steps, numbers by spots: what is there, as a plain function. -/
import Derived.Test.YtnkgpinadgacgabDoorBb
import Derived.Test.YtnkgpinadgacgabDoorRows
import Derived.Maps.OwnSet
import Derived.DeepKeys4
import Derived.WalkSmall
import Derived.Test.YtnkgpinadgacgabDoorBd
import Derived.Test.YtnkgpinadgacgabDoorBc
namespace Go.Proofs.YtnkgpinadgacgabDoor
open Go.RowKit Go.Maps
theorem Tryd.laidOut0 : laidOutB Tryd.prog = true := by kernel_rfl

theorem Tryd.rowSpot : (102 : TypeId) < Tryd.prog.types.size := of_decide_eq_true (by kernel_rfl)

theorem Tryd.typesSome : ∃ m, Tryd.prog.types.size = m + 1 := by
  have h : (102 : Nat) < Tryd.prog.types.size := Tryd.rowSpot
  exact ⟨Tryd.prog.types.size - 1, by omega⟩

theorem Tryd.zeroUnit (w : World) : (zeroValue 90).run Tryd.prog w = .ok (.agg #[]) w := by kernel_rfl

theorem own_map_block {w w' : World} {P : Program} {k : TypeId} {R : Value → Option (DataW Unit × List MemPlace)} {b n : Nat} {D : DataW Unit} (h : w.ownsMap P k R b n D) (e : w'.heap[b]? = w.heap[b]?) : w'.ownsMap P k R b n D := by
  obtain ⟨es, clock, hb, r⟩ := h
  exact ⟨es, clock, e.trans hb, r⟩

theorem own_map_lt {w : World} {P : Program} {k : TypeId} {R : Value → Option (DataW Unit × List MemPlace)} {b n : Nat} {D : DataW Unit} (h : w.ownsMap P k R b n D) : b < w.heap.size := by
  obtain ⟨es, clock, hb, _⟩ := h
  exact (Array.getElem?_eq_some_iff.1 hb).1

section
variable {w : World} {ops : Array Oper} {rest : List Oper} {o : Oper} {a : Act} {Q : Exit → Act → World → Prop}
end
end Go.Proofs.YtnkgpinadgacgabDoor

/- What a call has turned: some blocks, and nothing else that was there. -/
namespace Go.Proofs.YtnkgpinadgacgabDoor
open Go.RowKit
/-- Of the blocks that were there only those of S may have turned. -/
structure Only (S : Nat → Prop) (w w' : World) : Prop where
  os : w'.os = w.os
  tape : w'.tape = w.tape
  output : w'.output = w.output
  size : w.heap.size ≤ w'.heap.size
  block : ∀ k, k < w.heap.size → ¬ S k → w'.heap[k]? = w.heap[k]?

theorem Only.refl (S : Nat → Prop) (w : World) : Only S w w := ⟨rfl, rfl, rfl, Nat.le_refl _, fun _ _ _ => rfl⟩

theorem Only.trans {S S' : Nat → Prop} {a b c : World} (h : Only S a b) (k : Only S' b c) (hs : ∀ i, i < a.heap.size → S' i → S i) : Only S a c :=
  ⟨k.os.trans h.os, k.tape.trans h.tape, k.output.trans h.output, Nat.le_trans h.size k.size, fun i hi hn => (k.block i (Nat.lt_of_lt_of_le hi h.size) (fun e => hn (hs i hi e))).trans (h.block i hi hn)⟩

theorem Only.of_below {S : Nat → Prop} {w w' : World} (h : Below w.heap.size w w') : Only S w w' := ⟨h.os, h.tape, h.output, h.size, fun k hk _ => h.block k hk⟩

theorem Only.of_grown {w w' : World} {b : Nat} (h : w.grownBy w' (some b)) : Only (fun k => k = b) w w' := ⟨h.os, h.tape, h.output, h.size, fun k hk hn => h.block k hk (fun e => hn (Option.some.inj e))⟩

theorem Only.alloc {S : Nat → Prop} {a w : World} (h : Only S a w) (o : Obj) : Only S a (w.alloc o) :=
  h.trans (Only.of_below ((Below.refl _ _).alloc (Nat.le_refl _) _) : Only (fun _ => False) w _) (fun _ _ e => e.elim)

theorem Only.setCell {S : Nat → Prop} {a w : World} (h : Only S a w) {p : Addr} (hp : p.block < a.heap.size → S p.block) (u : Value) : Only S a (w.setCell p u) := by
  have h2 : Only (fun k => k = p.block) w (w.setCell p u) := ⟨rfl, rfl, rfl, by simp, fun k _ hn => Below.heap_setCell w p u k hn⟩
  exact h.trans h2 (fun i hi e => by subst e; exact hp hi)

theorem Only.drew {S : Nat → Prop} {a w : World} (h : Only S a w) : Only S a w.drew := ⟨h.os, h.tape, h.output, h.size, h.block⟩

theorem Only.drewN {S : Nat → Prop} {a w : World} (h : Only S a w) (n : Nat) : Only S a (w.drewN n) := ⟨h.os, h.tape, h.output, h.size, h.block⟩

theorem Only.mono {S S' : Nat → Prop} {a w : World} (h : Only S a w) (hs : ∀ i, i < a.heap.size → S i → S' i) : Only S' a w := ⟨h.os, h.tape, h.output, h.size, fun k hk hn => h.block k hk (fun e => hn (hs k hk e))⟩

theorem Only.below {S : Nat → Prop} {a w : World} (h : Only S a w) {B : Nat} (hB : B ≤ a.heap.size) (hs : ∀ i, S i → B ≤ i) : Below B a w :=
  ⟨h.os, h.tape, h.output, h.size, fun k hk => h.block k (Nat.lt_of_lt_of_le hk hB) (fun e => by have := hs k e; omega)⟩

theorem Only.cell {S : Nat → Prop} {a w : World} (h : Only S a w) {p : Addr} (hp : p.block < a.heap.size) (hn : ¬ S p.block) : w.cell? p = a.cell? p := World.cell?_of_block (w := a) (h.block p.block hp hn)

theorem Only.frozen {S : Nat → Prop} {a w : World} (h : Only S a w) {p : Addr} (hp : p.block < a.heap.size) (hn : ¬ S p.block) : w.frozen? p = a.frozen? p := World.frozen?_of_block (w := a) (h.block p.block hp hn)

/-- What lay below B, where only blocks from B on may have turned. -/
theorem below_only {B : Nat} {a b c : World} {S : Nat → Prop} (h : Below B a b) (k : Only S b c) (hB : B ≤ b.heap.size) (hs : ∀ i, S i → B ≤ i) : Below B a c := h.trans (k.below hB hs)

end Go.Proofs.YtnkgpinadgacgabDoor

/- Plain facts on rules: when a cart may be on a cell, when it may go; where it can have come; when it may stay for ever. No program is named here. -/
namespace Go.Proofs.YtnkgpinadgacgabDoor.M
/-- A rule. -/
structure RuleM where
  kind : Int
  cell : Int
  next : Int
  at' : Int

/-- The rule forbids to be on a cell at an instant. -/
def brkOn (r : RuleM) (c t : Int) : Bool := r.at' == t && (r.kind == 0 && r.cell == c || r.kind == 2 && !(r.cell == c))

/-- The rule forbids to go from a to b at an instant. -/
def brkGo (r : RuleM) (a b t : Int) : Bool := r.kind == 1 && r.at' == t && r.cell == a && r.next == b

/-- The rules let a cart be on a cell at an instant. -/
def onM (n : Nat) (R : Nat → RuleM) (c t : Int) : Bool := !anyB (fun i => brkOn (R i) c t) n

def noWayM (n : Nat) (R : Nat → RuleM) (a b t : Int) : Bool := anyB (fun i => brkGo (R i) a b t) n

theorem anyB_false {p : Nat → Bool} {n : Nat} : anyB p n = false ↔ ∀ i, i < n → p i = false := by
  constructor
  · intro h i hi
    cases e : p i with
    | false => rfl
    | true => rw [anyB_of e hi] at h; cases h
  · intro h
    cases e : anyB p n with
    | false => rfl
    | true => obtain ⟨i, hi, hp⟩ := anyB_true e; rw [h i hi] at hp; cases hp

theorem anyB_iff {p : Nat → Bool} {n : Nat} : anyB p n = true ↔ ∃ i, i < n ∧ p i = true :=
  ⟨anyB_true, fun ⟨_, hi, hp⟩ => anyB_of hp hi⟩

end Go.Proofs.YtnkgpinadgacgabDoor.M

/- Rules in memory; walks of the document's on, goes, stays. -/
namespace Go.Proofs.YtnkgpinadgacgabDoor
open Go.RowKit M
theorem upto_step {p : Nat → Bool} {k : Nat} (hb : p k = false) (hg : ∀ j, j < k → p j = false) : ∀ j, j < k + 1 → p j = false := by
  intro j hj
  by_cases e : j = k
  · subst e; exact hb
  · exact hg j (by omega)

end Go.Proofs.YtnkgpinadgacgabDoor
