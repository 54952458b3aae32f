/- A list of rules that came in, opened: each rule's four numbers; they lie in memory; how long it may be. -/
import Derived.Test.YtnkgpinadgacgabDoorOp
import Derived.Test.YtnkgpinadgacgabDoorBh
import Derived.Test.YtnkgpinadgacgabDoorBe
import Derived.Test.YtnkgpinadgacgabDoorBg
import Derived.Test.YtnkgpinadgacgabDoorBa
import Derived.Carry
import Derived.Test.YtnkgpinadgacgabDoorCards
import Derived.Test.YtnkgpinadgacgabDoorBd
import Derived.ProofKit
import Derived.OpenShut
import Derived.Lib.LaidTab
namespace Go.Proofs.YtnkgpinadgacgabDoor
open Go.ChangeShapes Go.WideShapes Go.ChangeAt Go.RowKit Go.Deep Go.Joins
theorem listOf4 {α : Type} {l : List α} (h : l.length = 4) : ∃ c0 c1 c2 c3, l = [c0, c1, c2, c3] := by
  match l, h with
  | [c0, c1, c2, c3], _ => exact ⟨c0, c1, c2, c3, rfl⟩

end Go.Proofs.YtnkgpinadgacgabDoor

/- What the bound on what comes in gives: bulk of parts, of lists, of texts; five arguments opened and shut. -/
namespace Go.Proofs.YtnkgpinadgacgabDoor
open Go.ChangeShapes Go.WideShapes Go.ChangeAt Go.RowKit
theorem bulk_one {H : Type} (d : DataW H) : 1 ≤ Rows.uptoBulk d := by
  cases d with
  | lit l => cases l <;> simp [Rows.uptoBulk]
  | nil => simp [Rows.uptoBulk]
  | ptr d => simp [Rows.uptoBulk]
  | slice elems spare => simp [Rows.uptoBulk]
  | agg parts => simp [Rows.uptoBulk]
  | iface t d => simp [Rows.uptoBulk]
  | map entries => simp [Rows.uptoBulk]
  | held h => simp [Rows.uptoBulk]

theorem bulk_part {H : Type} {d : DataW H} : ∀ {l : List (DataW H)}, d ∈ l → Rows.uptoBulk d ≤ Rows.uptoBulkAll l
  | x :: r, h => by
    simp only [Rows.uptoBulkAll]
    cases List.mem_cons.1 h with
    | inl e => subst e; omega
    | inr e => have := bulk_part e; omega

theorem bulk_len {H : Type} : ∀ (l : List (DataW H)), l.length ≤ Rows.uptoBulkAll l
  | [] => by simp [Rows.uptoBulkAll]
  | x :: r => by
    have := bulk_one x
    have := bulk_len r
    simp only [Rows.uptoBulkAll, List.length_cons]; omega

section
variable {H : Type} {enc : TypeId × Value → H} {P : Program} {w : World} {base : Nat} {spare : Nat → Bool} {held : Bool}
theorem trodAll_five {t t1 t2 t3 t4 : TypeId} {args : Array Value} {ds : List (DataW H)} {ps : List MemPlace} (h : DataW.TrodAll enc P w base spare held [t, t1, t2, t3, t4] args.toList ds ps) :
    ∃ v v1 v2 v3 v4 d d1 d2 d3 d4 p p1 p2 p3 p4, args = #[v, v1, v2, v3, v4] ∧ ds = [d, d1, d2, d3, d4] ∧ ps = p ++ (p1 ++ (p2 ++ (p3 ++ p4))) ∧ DataW.Trod enc P w base spare held t v d p ∧ DataW.Trod enc P w base spare held t1 v1 d1 p1 ∧ DataW.Trod enc P w base spare held t2 v2 d2 p2 ∧ DataW.Trod enc P w base spare held t3 v3 d3 p3 ∧ DataW.Trod enc P w base spare held t4 v4 d4 p4 := by
  obtain ⟨v, vs, d, ds', p, q, hargs, rfl, rfl, hd, hrest⟩ := trodAll_cons h
  obtain ⟨v1, vs1, d1, ds1, p1, q1, rfl, rfl, rfl, hd1, hrest1⟩ := trodAll_cons hrest
  obtain ⟨v2, vs2, d2, ds2, p2, q2, rfl, rfl, rfl, hd2, hrest2⟩ := trodAll_cons hrest1
  obtain ⟨v3, vs3, d3, ds3, p3, q3, rfl, rfl, rfl, hd3, hrest3⟩ := trodAll_cons hrest2
  obtain ⟨v4, vs4, d4, ds4, p4, q4, rfl, rfl, rfl, hd4, hrest4⟩ := trodAll_cons hrest3
  obtain ⟨rfl, rfl, rfl⟩ := trodAll_nil hrest4
  exact ⟨v, v1, v2, v3, v4, d, d1, d2, d3, d4, p, p1, p2, p3, p4, by cases args; simp_all, rfl, by simp, hd, hd1, hd2, hd3, hd4⟩

theorem trodAll_mk5 {t t1 t2 t3 t4 : TypeId} {v v1 v2 v3 v4 : Value} {d d1 d2 d3 d4 : DataW H} {p p1 p2 p3 p4 : List MemPlace} (h : DataW.Trod enc P w base spare held t v d p) (h1 : DataW.Trod enc P w base spare held t1 v1 d1 p1)
    (h2 : DataW.Trod enc P w base spare held t2 v2 d2 p2) (h3 : DataW.Trod enc P w base spare held t3 v3 d3 p3) (h4 : DataW.Trod enc P w base spare held t4 v4 d4 p4) : DataW.TrodAll enc P w base spare held [t, t1, t2, t3, t4] [v, v1, v2, v3, v4] [d, d1, d2, d3, d4] (p ++ (p1 ++ (p2 ++ (p3 ++ p4)))) :=
  ⟨p, _, h, ⟨p1, _, h1, ⟨p2, _, h2, ⟨p3, _, h3, ⟨p4, [], h4, rfl, by simp⟩, rfl⟩, rfl⟩, rfl⟩, rfl⟩

end
end Go.Proofs.YtnkgpinadgacgabDoor

/- What the row's list gives: the table of the four sides lies in memory. -/
namespace Go.Proofs.YtnkgpinadgacgabDoor
open Go.ChangeShapes Go.WideShapes Go.ChangeAt Go.RowKit
theorem Tryd.gSides : Tryd.prog.globalNamed "yard/grid.sides" = some 0 := by kernel_rfl

theorem Tryd.gSidesType : (Tryd.prog.globals[0]?).map (·.type) = some 174 := by kernel_rfl

theorem Tryd.cellsSides : Tryd.prog.cellsOf 174 = 8 := by kernel_rfl

theorem Tryd.cellsSide : Tryd.prog.cellsOf 173 = 2 := by kernel_rfl

theorem Tryd.cellsI : Tryd.prog.cellsOf 3 = 1 := by kernel_rfl

theorem list8 {α : Type} {l : List α} (h : l.length = 8) : ∃ c0 c1 c2 c3 c4 c5 c6 c7, l = [c0, c1, c2, c3, c4, c5, c6, c7] := by
  match l, h with
  | [c0, c1, c2, c3, c4, c5, c6, c7], _ => exact ⟨c0, c1, c2, c3, c4, c5, c6, c7, rfl⟩

theorem list4 {α : Type} {l : List α} (h : l.length = 4) : ∃ c0 c1 c2 c3, l = [c0, c1, c2, c3] := by
  match l, h with
  | [c0, c1, c2, c3], _ => exact ⟨c0, c1, c2, c3, rfl⟩

theorem list2 {α : Type} {l : List α} (h : l.length = 2) : ∃ c0 c1, l = [c0, c1] := by
  match l, h with
  | [c0, c1], _ => exact ⟨c0, c1, rfl⟩

/-- One side: its two cells. -/
theorem side_open {H : Type} {enc : TypeId × Value → H} {w : World} {base : Nat} {sp : Nat → Bool} {held : Bool} {fuel : Nat} {u v : Value} {x y : Int} {p : List MemPlace}
    (h : DataW.trod enc Tryd.prog w base sp held fuel 173 [u, v] = some (.agg [.lit (.int .i64 x), .lit (.int .i64 y)], p)) : u = .int .i64 x ∧ v = .int .i64 y := by
  obtain ⟨xs, m, _, hx, _, hxl, hfs⟩ := DataW.trod_struct Tryd.underlying173 h
  obtain ⟨x0, x1, rfl⟩ := list2 hxl
  have g0 := hfs 0 _ rfl
  have g1 := hfs 1 _ rfl
  simp [Tryd.cellsI] at g0 g1
  obtain ⟨n0, e0, d0, _⟩ := DataW.trod_int Tryd.underlying3 g0
  obtain ⟨n1, e1, d1, _⟩ := DataW.trod_int Tryd.underlying3 g1
  simp only [List.cons.injEq, and_true] at e0 e1
  subst e0 e1
  simp [d0, d1] at hx
  obtain ⟨⟨h1, h2⟩, _⟩ := hx
  rw [h1, h2]; exact ⟨rfl, rfl⟩

set_option maxRecDepth 100000 in
theorem sides_of_laid {W : World} (h : laidMet Tryd.prog [("yard/grid.sides", Rows.laid_yard_grid_sides)] W) : SidesIn W := by
  obtain ⟨ps, ⟨g', t', cs, fuel, p, q, hg', ht', hvar, hd, _, _⟩, _⟩ := h
  obtain rfl := Option.some.inj (Tryd.gSides.symm.trans hg')
  obtain rfl := Option.some.inj (Tryd.gSidesType.symm.trans ht')
  obtain ⟨xs, m, _, hx, hcl, hxl, hel⟩ := DataW.trod_array Tryd.underlying174 hd
  rw [Tryd.cellsSides] at hcl
  obtain ⟨c0, c1, c2, c3, c4, c5, c6, c7, hcs⟩ := list8 hcl
  obtain ⟨x0, x1, x2, x3, rfl⟩ := list4 hxl
  rw [hcs, Tryd.cellsSide] at hel
  have e0 := hel 0 (by omega)
  have e1 := hel 1 (by omega)
  have e2 := hel 2 (by omega)
  have e3 := hel 3 (by omega)
  simp at e0 e1 e2 e3
  have hd' : x0.1 = .agg [.lit (.int .i64 (-1)), .lit (.int .i64 0)] ∧ x1.1 = .agg [.lit (.int .i64 1), .lit (.int .i64 0)] ∧ x2.1 = .agg [.lit (.int .i64 0), .lit (.int .i64 (-1))] ∧ x3.1 = .agg [.lit (.int .i64 0), .lit (.int .i64 1)] := by
    have := congrArg Prod.fst hx
    simp [Rows.laid_yard_grid_sides] at this
    exact ⟨this.1.symm, this.2.1.symm, this.2.2.1.symm, this.2.2.2.symm⟩
  obtain ⟨d0, d1, d2, d3⟩ := hd'
  obtain ⟨y0, z0⟩ := x0
  obtain ⟨y1, z1⟩ := x1
  obtain ⟨y2, z2⟩ := x2
  obtain ⟨y3, z3⟩ := x3
  simp only at d0 d1 d2 d3
  subst d0 d1 d2 d3
  obtain ⟨a0, a1⟩ := side_open e0
  obtain ⟨a2, a3⟩ := side_open e1
  obtain ⟨a4, a5⟩ := side_open e2
  obtain ⟨a6, a7⟩ := side_open e3
  have hc : ∀ i, W.cell? ⟨0, i, none⟩ = [c0, c1, c2, c3, c4, c5, c6, c7][i]? := by
    intro i
    rw [World.var?_cell Tryd.gSides hvar i, ← hcs, Array.getElem?_toList]
  refine ⟨?_, ?_, ?_, ?_, ?_, ?_, ?_, ?_⟩ <;> rw [hc] <;> simp [a0, a1, a2, a3, a4, a5, a6, a7]

end Go.Proofs.YtnkgpinadgacgabDoor
