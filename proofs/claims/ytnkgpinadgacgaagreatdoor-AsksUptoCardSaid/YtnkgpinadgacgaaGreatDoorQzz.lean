/- Bv. -/
import Derived.Test.YtnkgpinadgacgaaGreatDoorQi
import Derived.Carry
import Derived.Test.YtnkgpinadgacgaaGreatDoorCards
import Derived.OpenShut
import Derived.Lib.LaidTab
set_option maxRecDepth 1000000
namespace Go.Proofs.YtnkgpinadgacgaaGreatDoor
section
open Go.ChangeShapes Go.WideShapes Go.ChangeAt Go.RowKit Go.Deep Go.Joins
end
section
open Go.ChangeShapes Go.WideShapes Go.ChangeAt Go.RowKit
theorem bulk_one {H : Type} (d : DataW H) : 1 <= Rows.uptoBulk d := by
 cases d with
 | lit l => cases l <;> simp [Rows.uptoBulk]
 | nil => simp [Rows.uptoBulk]
 | ptr d => simp [Rows.uptoBulk]
 | slice elems spare => simp [Rows.uptoBulk]
 | agg parts => simp [Rows.uptoBulk]
 | iface t d => simp [Rows.uptoBulk]
 | map entries => simp [Rows.uptoBulk]
 | held h => simp [Rows.uptoBulk]
theorem bulk_part {H : Type} {d : DataW H} : ∀ {l : List (DataW H)}, d ∈ l -> Rows.uptoBulk d <= Rows.uptoBulkAll l
 | x :: r, h => by
   simp only [Rows.uptoBulkAll]; cases List.mem_cons.1 h with
   | inl e => subst e; omega
   | inr e => have := bulk_part e; omega
theorem bulk_len {H : Type} : ∀ (l : List (DataW H)), l.length <= Rows.uptoBulkAll l
 | [] => by simp [Rows.uptoBulkAll]
 | x :: r => by
   have := bulk_one x; have := bulk_len r; simp only [Rows.uptoBulkAll, List.length_cons]; omega
section
variable {H : Type} {enc : TypeId × Value → H} {P : Program} {w : World} {base : Nat} {spare : Nat → Bool} {held : Bool}
end
end
section
open Go.ChangeShapes Go.WideShapes Go.ChangeAt Go.RowKit
theorem Tryz.gSides : Tryz.prog.globalNamed "yard/grid.sides" = some 1 := by kernel_rfl
theorem Tryz.gSidesType : (Tryz.prog.globals[1]?).map (·.type) = some 184 := by kernel_rfl
theorem Tryz.cellsSides : Tryz.prog.cellsOf 184 = 8 := by kernel_rfl
theorem Tryz.cellsSide : Tryz.prog.cellsOf 183 = 2 := by kernel_rfl
theorem Tryz.cellsI : Tryz.prog.cellsOf 3 = 1 := by kernel_rfl
theorem list8 {α : Type} {l : List α} (h : l.length = 8) : ∃ c0 c1 c2 c3 c4 c5 c6 c7, l = [c0, c1, c2, c3, c4, c5, c6, c7] := by
 match l, h with
 | [c0, c1, c2, c3, c4, c5, c6, c7], _ => exact ⟨c0, c1, c2, c3, c4, c5, c6, c7, rfl⟩
theorem list4 {α : Type} {l : List α} (h : l.length = 4) : ∃ c0 c1 c2 c3, l = [c0, c1, c2, c3] := by
 match l, h with
 | [c0, c1, c2, c3], _ => exact ⟨c0, c1, c2, c3, rfl⟩
theorem list2 {α : Type} {l : List α} (h : l.length = 2) : ∃ c0 c1, l = [c0, c1] := by
 match l, h with
 | [c0, c1], _ => exact ⟨c0, c1, rfl⟩
theorem side_open {H : Type} {enc : TypeId × Value -> H} {w : World} {base : Nat} {sp : Nat -> Bool} {held : Bool} {fuel : Nat} {u v : Value} {x y : Int} {p : List MemPlace}
 (h : DataW.trod enc Tryz.prog w base sp held fuel 183 [u, v] = some (.agg [.lit (.int .i64 x), .lit (.int .i64 y)], p)) : u = .int .i64 x ∧ v = .int .i64 y := by
 obtain ⟨xs, m, _, hx, _, hxl, hfs⟩ := DataW.trod_struct Tryz.underlying183 h; obtain ⟨x0, x1, rfl⟩ := list2 hxl; have g0 := hfs 0 _ rfl; have g1 := hfs 1 _ rfl; simp [Tryz.cellsI] at g0 g1
 obtain ⟨n0, e0, d0, _⟩ := DataW.trod_int Tryz.underlying3 g0; obtain ⟨n1, e1, d1, _⟩ := DataW.trod_int Tryz.underlying3 g1; simp only [List.cons.injEq, and_true] at e0 e1; subst e0 e1; simp [d0, d1] at hx
 obtain ⟨⟨h1, h2⟩, _⟩ := hx; rw [h1, h2]; exact ⟨rfl, rfl⟩
theorem sides_of_laid {W : World} (h : laidMet Tryz.prog [("yard/grid.sides", Rows.laid_yard_grid_sides)] W) : SidesIn W := by
 obtain ⟨ps, ⟨g', t', cs, fuel, p, q, hg', ht', hvar, hd, _, _⟩, _⟩ := h; obtain rfl := Option.some.inj (Tryz.gSides.symm.trans hg'); obtain rfl := Option.some.inj (Tryz.gSidesType.symm.trans ht'); obtain ⟨xs, m, _, hx, hcl, hxl, hel⟩ := DataW.trod_array Tryz.underlying184 hd; rw [Tryz.cellsSides] at hcl; obtain ⟨c0, c1, c2, c3, c4, c5, c6, c7, hcs⟩ := list8 hcl; obtain ⟨x0, x1, x2, x3, rfl⟩ := list4 hxl; rw [hcs, Tryz.cellsSide] at hel; have e0 := hel 0 (by omega); have e1 := hel 1 (by omega); have e2 := hel 2 (by omega); have e3 := hel 3 (by omega); simp at e0 e1 e2 e3
 have hd' : x0.1 = .agg [.lit (.int .i64 (-1)), .lit (.int .i64 0)] ∧ x1.1 = .agg [.lit (.int .i64 1), .lit (.int .i64 0)] ∧ x2.1 = .agg [.lit (.int .i64 0), .lit (.int .i64 (-1))] ∧ x3.1 = .agg [.lit (.int .i64 0), .lit (.int .i64 1)] := by
  have := congrArg Prod.fst hx; simp [Rows.laid_yard_grid_sides] at this
  exact ⟨this.1.symm, this.2.1.symm, this.2.2.1.symm, this.2.2.2.symm⟩
 obtain ⟨d0, d1, d2, d3⟩ := hd'; obtain ⟨y0, z0⟩ := x0; obtain ⟨y1, z1⟩ := x1; obtain ⟨y2, z2⟩ := x2; obtain ⟨y3, z3⟩ := x3; simp only at d0 d1 d2 d3; subst d0 d1 d2 d3; obtain ⟨a0, a1⟩ := side_open e0; obtain ⟨a2, a3⟩ := side_open e1; obtain ⟨a4, a5⟩ := side_open e2; obtain ⟨a6, a7⟩ := side_open e3; have hc : ∀ i, W.cell? ⟨1, i, none⟩ = [c0, c1, c2, c3, c4, c5, c6, c7][i]? := by
  intro i; rw [World.var?_cell Tryz.gSides hvar i, <- hcs, Array.getElem?_toList]
 refine ⟨?_, ?_, ?_, ?_, ?_, ?_, ?_, ?_⟩ <;> rw [hc] <;> simp [a0, a1, a2, a3, a4, a5, a6, a7]
end
end Go.Proofs.YtnkgpinadgacgaaGreatDoor
