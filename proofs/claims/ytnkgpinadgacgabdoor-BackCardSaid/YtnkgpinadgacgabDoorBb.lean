/- Laws on slices whose elements have several cells: make, copy; a whole-row view of the slice that was made. -/
import Derived.WalkKit
import Derived.WalkSpells
import Derived.Deep.OwnRows
import Derived.Laws.CopyOwn
import Derived.Test.YtnkgpinadgacgabDoorBa
namespace Go.Proofs.YtnkgpinadgacgabDoor
open Go.RowKit
theorem wpList_make_all {P : Program} (w : World) {ops : Array Oper} {rest : List Oper} {o : Oper} {a : Act} {Q : Exit → Act → World → Prop}
    (hg : o.guard = none) (l c : Operand) (t : TypeId) (hop : o.op = Op.makeSlice t l c)
    (e : TypeId) (z : Value) (size bytes : Nat) (h1 : P.underlying t = some (.slice e)) (hinfo : (P.info? e).map (fun i => (i.zero, i.size, i.bytes)) = some (some z, size, bytes))
    (kl kc : IntKind) (L C : Int) (n : Nat) (hl : a.eval l = .int kl L) (hc : a.eval c = .int kc C) (hL : L = (n : Int)) (hC : C = (n : Int)) (b2 : bytes * n ≤ 281474976710656) (b3 : n ≤ 9223372036854775807)
    (hK : wpList P ops Q rest (a.put o.dst (.slice (some ⟨w.heap.size, 0, none⟩) n n)) (w.alloc (.cells (madeCells z.cells (n * size)) e))) :
    wpList P ops Q (o :: rest) a w := by
  obtain ⟨i, h2, h3, h4, h5⟩ := info_parts hinfo
  refine wpList_plain hg fun K hK' => ?_
  have hb' : (i.bytes : Int) * (n : Int) ≤ 281474976710656 := by
    have h : ((i.bytes * n : Nat) : Int) ≤ 281474976710656 := by rw [h5]; omega
    rwa [Int.natCast_mul] at h
  have hrun := run_make (P := P) w t e i z h1 h2 h3 kl kc n n (by omega) (Int.le_refl _) hb' (by omega)
  simp only [Int.toNat_natCast, h4] at hrun
  subst hL
  subst hC
  unfold Oper.wp
  simp [execOp, hop, hl, hc, hrun, Result.andThen]
  exact hK' _ _ hK

theorem rowIs_made {w : World} (zs : Array Value) (n : Nat) (t : TypeId) (f : Nat → Value) (h : ∀ i, i < n → zs[i % zs.size]! = f i) : (w.alloc (.cells (madeCells zs n) t)).rowIs w.heap.size t n f := by
  have := World.rowIs_alloc w (madeCells zs n) t f (fun i hi => by rw [size_madeCells] at hi; simp [madeCells, hi, h i hi])
  rwa [size_madeCells] at this

end Go.Proofs.YtnkgpinadgacgabDoor

/- Walks of handed (the yard with its carts in a list of their own, with spare room) and of still. -/
namespace Go.Proofs.YtnkgpinadgacgabDoor
open Go.RowKit M
theorem Tryd.infoCart : (Tryd.prog.info? 49).map (fun i => (i.zero, i.size, i.bytes)) = some (some (.agg #[.int .i64 0, .int .i64 0]), 2, 16) := by kernel_rfl

/-- The cells of a list of n carts and its spare room. -/
def roomF (n : Nat) (fr tt : Nat → Int) (j : Nat) : Int := if j < n * 2 then (if j % 2 = 0 then fr (j / 2) else tt (j / 2)) else -5

theorem CartsIn.src {w : World} {b off n : Nat} {fr tt : Nat → Int} (h : CartsIn w b off n fr tt) : ∀ j, j < n * 2 → w.cell? ⟨b, off + j, none⟩ = some (.int .i64 (roomF n fr tt j)) := by
  intro j hj
  have h2 := h (j / 2) (by omega)
  unfold roomF
  rw [if_pos hj]
  by_cases e : j % 2 = 0
  · rw [if_pos e, show off + j = off + j / 2 * 2 by omega]; exact h2.1
  · rw [if_neg e, show off + j = off + j / 2 * 2 + 1 by omega]; exact h2.2

end Go.Proofs.YtnkgpinadgacgabDoor

/- Walk of still: the yard that was handed in reads as it did. -/
namespace Go.Proofs.YtnkgpinadgacgabDoor
open Go.RowKit M
theorem rowIs_below {w w' : World} {g : Nat} {t : TypeId} {N : Nat} {f : Nat → Value} (h : w.rowIs g t N f) (hb : Below w.heap.size w w') : w'.rowIs g t N f := h.of_block (hb.block _ h.lt)

theorem opt_below {w w' : World} {a : Option Addr} {n : Nat} {fr tt : Nat → Int} (ha : 0 < n → ∃ b off, a = some ⟨b, off, none⟩ ∧ CartsIn w b off n fr tt) (hb : Below w.heap.size w w') :
    0 < n → ∃ b off, a = some ⟨b, off, none⟩ ∧ CartsIn w' b off n fr tt := by
  intro h
  obtain ⟨b, off, hab, hc⟩ := ha h
  exact ⟨b, off, hab, hc.below hb⟩

end Go.Proofs.YtnkgpinadgacgabDoor
