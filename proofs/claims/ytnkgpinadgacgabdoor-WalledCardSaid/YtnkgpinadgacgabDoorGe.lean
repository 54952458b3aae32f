/- States of the search as keys of maps. -/
import Derived.Test.YtnkgpinadgacgabDoorGd
import Derived.Test.YtnkgpinadgacgabDoorDb
namespace Go.Proofs.YtnkgpinadgacgabDoor
open Go.RowKit Go.Maps M
theorem Tryd.rowState : (108 : TypeId) < Tryd.prog.types.size := of_decide_eq_true (by kernel_rfl)

theorem Tryd.deepState : Tryd.prog.keyTypeAt 4 108 = true := by kernel_rfl

theorem Tryd.ktState : Tryd.prog.keyType 108 = true := by kernel_rfl

theorem Tryd.cellsState : Tryd.prog.cellsOf 108 = 8 := by kernel_rfl

theorem Tryd.lawState : Keyed Tryd.prog 108 := Keyed.of_law (deep_law_laid Tryd.laidOut0 (m := 4) (by omega) Tryd.rowState Tryd.deepState (by rw [Tryd.underlying108]))

theorem Tryd.cellsB4 : Tryd.prog.cellsOf 106 = 4 := by kernel_rfl

theorem Tryd.cellsBl : Tryd.prog.cellsOf 4 = 1 := by kernel_rfl

/-- A state as the program keeps it. -/
def stV (p : List Nat) (u : List Bool) : Value := .agg #[.int .u8 (p.getD 0 0 : Nat), .int .u8 (p.getD 1 0 : Nat), .int .u8 (p.getD 2 0 : Nat), .int .u8 (p.getD 3 0 : Nat), .bool (u.getD 0 false), .bool (u.getD 1 false), .bool (u.getD 2 false), .bool (u.getD 3 false)]

theorem st_ext {p p' : List Nat} {u u' : List Bool} {m : Nat} (hm : m ≤ 4) (hp : p.length = m) (hp' : p'.length = m) (hu : u.length = m) (hu' : u'.length = m) (h : stV p u = stV p' u') : p = p' ∧ u = u' := by
  unfold stV at h
  simp only [Value.agg.injEq, Array.mk.injEq, List.cons.injEq, Value.int.injEq, Value.bool.injEq, true_and, and_true] at h
  obtain ⟨h0, h1, h2, h3, h4, h5, h6, h7⟩ := h
  constructor
  · apply List.ext_getElem (by omega)
    intro i hi hi'
    have e : ∀ (l : List Nat) (hl : i < l.length), l[i] = l.getD i 0 := fun l hl => by rw [List.getD_eq_getElem?_getD, List.getElem?_eq_getElem hl]; rfl
    rw [e p hi, e p' hi']
    have hc : i = 0 ∨ i = 1 ∨ i = 2 ∨ i = 3 := by omega
    rcases hc with rfl | rfl | rfl | rfl <;> omega
  · apply List.ext_getElem (by omega)
    intro i hi hi'
    have e : ∀ (l : List Bool) (hl : i < l.length), l[i] = l.getD i false := fun l hl => by rw [List.getD_eq_getElem?_getD, List.getElem?_eq_getElem hl]; rfl
    rw [e u hi, e u' hi']
    have hc : i = 0 ∨ i = 1 ∨ i = 2 ∨ i = 3 := by omega
    rcases hc with rfl | rfl | rfl | rfl <;> assumption

theorem stKey {p : List Nat} {u : List Bool} (h : Small p) : ∃ kl, keyOf Tryd.prog 108 (stV p u) = some kl := by
  have h0 := wf_u8 (h 0)
  have h1 := wf_u8 (h 1)
  have h2 := wf_u8 (h 2)
  have h3 := wf_u8 (h 3)
  obtain ⟨m, hm⟩ : ∃ m, Tryd.prog.types.size = m + 3 := ⟨Tryd.prog.types.size - 3, by have h9 : (108 : Nat) < Tryd.prog.types.size := Tryd.rowState; omega⟩
  unfold keyOf stV
  generalize p.getD 0 0 = a0 at h0 ⊢
  generalize p.getD 1 0 = a1 at h1 ⊢
  generalize p.getD 2 0 = a2 at h2 ⊢
  generalize p.getD 3 0 = a3 at h3 ⊢
  generalize u.getD 0 false = b0
  generalize u.getD 1 false = b1
  generalize u.getD 2 false = b2
  generalize u.getD 3 false = b3
  simp only [Tryd.underlying108]
  rw [if_pos (by simp [Tryd.ktState, Value.formed, Tryd.underlying108, Tryd.cellsState]), hm]
  unfold Program.keyLits
  simp only [Tryd.underlying108, Value.cells]
  rw [if_pos (by refine ⟨by rw [Tryd.cellsState]; rfl, by kernel_rfl⟩)]
  simp [List.range, List.range.loop, Tryd.cellsPos, Tryd.cellsB4, Tryd.cellsU8, Tryd.cellsBl, Program.keyLits, Tryd.underlying102, Tryd.underlying106, Tryd.underlying5, Tryd.underlying4, h0, h1, h2, h3]

end Go.Proofs.YtnkgpinadgacgabDoor
