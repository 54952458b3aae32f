/- The document's table while it is filled. -/
import Derived.Test.YtnkgpinadgacgaaDoorDq
namespace Go.Proofs.YtnkgpinadgacgaaDoor
open Go.RowKit M

/-- The boxed table while it is filled. -/
structure TabAt (w : World) (T : Nat) (ro co bu : Int) (cs : ByteArray) (ac : Option Addr) (m cc : Nat) (V5 V6 : Value) (cnt : Nat) : Prop where
  cells : ∀ o, w.cell? ⟨T, o, none⟩ = #[Value.int .i64 ro, .int .i64 co, .string cs, .slice ac m cc, .int .i64 bu, V5, V6, .int .i64 cnt][o]?
  frozen : ∀ o, w.frozen? ⟨T, o, none⟩ = false

theorem TabAt.lt {w : World} {T : Nat} {ro co bu : Int} {cs : ByteArray} {ac : Option Addr} {m cc cnt : Nat} {V5 V6 : Value} (h : TabAt w T ro co bu cs ac m cc V5 V6 cnt) : T < w.heap.size := World.block_lt_of_cell? (u := .int .i64 ro) (a := ⟨T, 0, none⟩) w (h.cells 0)

theorem TabAt.only {w w' : World} {T : Nat} {S : Nat → Prop} {ro co bu : Int} {cs : ByteArray} {ac : Option Addr} {m cc cnt : Nat} {V5 V6 : Value} (h : TabAt w T ro co bu cs ac m cc V5 V6 cnt) (ho : Only S w w') (hS : ¬ S T) : TabAt w' T ro co bu cs ac m cc V5 V6 cnt :=
  ⟨fun o => (ho.cell (p := ⟨T, o, none⟩) h.lt hS).trans (h.cells o), fun o => (ho.frozen (p := ⟨T, o, none⟩) h.lt hS).trans (h.frozen o)⟩

theorem TabAt.below {w w' : World} {T : Nat} {ro co bu : Int} {cs : ByteArray} {ac : Option Addr} {m cc cnt : Nat} {V5 V6 : Value} (h : TabAt w T ro co bu cs ac m cc V5 V6 cnt) (hb : Below w.heap.size w w') : TabAt w' T ro co bu cs ac m cc V5 V6 cnt :=
  h.only (Only.of_below hb : Only (fun _ => False) w w') (fun h => h)

theorem TabAt.set6 {w : World} {T : Nat} {ro co bu : Int} {cs : ByteArray} {ac : Option Addr} {m cc cnt : Nat} {V5 V6 V : Value} (h : TabAt w T ro co bu cs ac m cc V5 V6 cnt) : TabAt (w.setCell ⟨T, 6, none⟩ V) T ro co bu cs ac m cc V5 V cnt := by
  refine ⟨fun o => ?_, fun o => by rw [World.frozen?_setCell]; exact h.frozen o⟩
  by_cases e : o = 6
  · subst e
    rw [World.cell?_setCell_same' _ _ _ (by rw [h.cells 6]; rfl)]; rfl
  · rw [World.cell?_setCell_other _ _ _ _ (by intro hh; cases hh; exact e rfl), h.cells o]
    match o, e with
    | 0, _ => rfl
    | 1, _ => rfl
    | 2, _ => rfl
    | 3, _ => rfl
    | 4, _ => rfl
    | 5, _ => rfl
    | 7, _ => rfl
    | n + 8, _ => simp

theorem TabAt.set5 {w : World} {T : Nat} {ro co bu : Int} {cs : ByteArray} {ac : Option Addr} {m cc cnt : Nat} {V5 V6 V : Value} (h : TabAt w T ro co bu cs ac m cc V5 V6 cnt) : TabAt (w.setCell ⟨T, 5, none⟩ V) T ro co bu cs ac m cc V V6 cnt := by
  refine ⟨fun o => ?_, fun o => by rw [World.frozen?_setCell]; exact h.frozen o⟩
  by_cases e : o = 5
  · subst e
    rw [World.cell?_setCell_same' _ _ _ (by rw [h.cells 5]; rfl)]; rfl
  · rw [World.cell?_setCell_other _ _ _ _ (by intro hh; cases hh; exact e rfl), h.cells o]
    match o, e with
    | 0, _ => rfl
    | 1, _ => rfl
    | 2, _ => rfl
    | 3, _ => rfl
    | 4, _ => rfl
    | 6, _ => rfl
    | 7, _ => rfl
    | n + 8, _ => simp

theorem TabAt.set7 {w : World} {T : Nat} {ro co bu : Int} {cs : ByteArray} {ac : Option Addr} {m cc cnt n7 : Nat} {V5 V6 : Value} (h : TabAt w T ro co bu cs ac m cc V5 V6 cnt) : TabAt (w.setCell ⟨T, 7, none⟩ (.int .i64 n7)) T ro co bu cs ac m cc V5 V6 n7 := by
  refine ⟨fun o => ?_, fun o => by rw [World.frozen?_setCell]; exact h.frozen o⟩
  by_cases e : o = 7
  · subst e
    rw [World.cell?_setCell_same' _ _ _ (by rw [h.cells 7]; rfl)]; rfl
  · rw [World.cell?_setCell_other _ _ _ _ (by intro hh; cases hh; exact e rfl), h.cells o]
    match o, e with
    | 0, _ => rfl
    | 1, _ => rfl
    | 2, _ => rfl
    | 3, _ => rfl
    | 4, _ => rfl
    | 5, _ => rfl
    | 6, _ => rfl
    | n + 8, _ => simp

end Go.Proofs.YtnkgpinadgacgaaDoor
