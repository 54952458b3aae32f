/- A list of rules that came in, opened: each rule's four numbers; they lie in memory; how long it may be. -/
import Derived.Test.YtnkgpinadgacgaaDoorOp
import Derived.Test.YtnkgpinadgacgaaDoorBk
import Derived.Test.YtnkgpinadgacgaaDoorCards
import Derived.Test.YtnkgpinadgacgaaDoorBd
import Derived.ProofKit
import Derived.OpenShut
import Derived.Lib.LaidTab
namespace Go.Proofs.YtnkgpinadgacgaaDoor
open Go.ChangeShapes Go.WideShapes Go.ChangeAt Go.RowKit Go.Deep Go.Joins

theorem Tryd.cellsRule : Tryd.prog.cellsOf 101 = 4 := by kernel_rfl
theorem Tryd.bytesRule : Tryd.prog.bytesOf 101 = 32 := by kernel_rfl

theorem listOf4 {α : Type} {l : List α} (h : l.length = 4) : ∃ c0 c1 c2 c3, l = [c0, c1, c2, c3] := by
  match l, h with
  | [c0, c1, c2, c3], _ => exact ⟨c0, c1, c2, c3, rfl⟩

/-- One rule, read off its four cells. -/
theorem open_rule {H : Type} {enc : TypeId × Value → H} {W : World} {fuel : Nat} {cs : List Value} {y : DataW H × List MemPlace} (h : DataW.trod enc Tryd.prog W 0 (fun _ => true) true fuel 101 cs = some y) :
    ∃ R : M.RuleM, cs = [.int .i64 R.kind, .int .i64 R.cell, .int .i64 R.next, .int .i64 R.at'] ∧ i64B R.kind ∧ i64B R.cell ∧ i64B R.next ∧ i64B R.at' := by
  obtain ⟨xs, m, _, _, hl, hxl, hfs⟩ := DataW.trod_struct Tryd.underlying101 h
  obtain ⟨c0, c1, c2, c3, rfl⟩ := listOf4 (hl.trans Tryd.cellsRule)
  obtain ⟨x0, x1, x2, x3, rfl⟩ := listOf4 hxl
  have g0 := hfs 0 _ rfl
  have g1 := hfs 1 _ rfl
  have g2 := hfs 2 _ rfl
  have g3 := hfs 3 _ rfl
  simp [Tryd.cellsInt] at g0 g1 g2 g3
  obtain ⟨n0, e0, _, w0⟩ := DataW.trod_int Tryd.underlying3 g0
  obtain ⟨n1, e1, _, w1⟩ := DataW.trod_int Tryd.underlying3 g1
  obtain ⟨n2, e2, _, w2⟩ := DataW.trod_int Tryd.underlying3 g2
  obtain ⟨n3, e3, _, w3⟩ := DataW.trod_int Tryd.underlying3 g3
  simp only [List.cons.injEq, and_true] at e0 e1 e2 e3
  subst e0 e1 e2 e3
  exact ⟨⟨n0, n1, n2, n3⟩, rfl, w0, w1, w2, w3⟩

set_option maxRecDepth 100000 in
theorem open_rulesI {H : Type} {enc : TypeId × Value → H} {W : World} {r : Reach} {b0 : Nat} {v : Value} {d : DataW H} {p : List MemPlace}
    (hv : Value.okWide Tryd.prog W r b0 38 v) (h : DataW.Trod enc Tryd.prog W 0 (fun _ => true) true 38 v d p) (hsz : (DataW.weights Tryd.prog 38 d).all (· ≤ reachBytes) = true) :
    ∃ (a : Option Addr) (n cap : Nat) (R : Nat → M.RuleM), v = .slice a n cap ∧ n * 32 ≤ 140737488351232 ∧ (∀ i, i < n → i64B (R i).kind ∧ i64B (R i).cell ∧ i64B (R i).next ∧ i64B (R i).at') ∧ RulesAt W a n R := by
  obtain ⟨a, n, cap, rfl⟩ := okWide_slice Tryd.underlying38 hv
  obtain ⟨fuel, hf⟩ := h
  rcases open_slice Tryd.underlying38 hf with ⟨e, _⟩ | ⟨a', len, cap', q, k, D, Pl, e, _, hl, hm, hq, hx, hall⟩
  · simp [Value.cells] at e
    obtain ⟨rfl, rfl, rfl⟩ := e
    exact ⟨none, 0, 0, fun _ => ⟨0, 0, 0, 0⟩, rfl, by omega, fun i hi => absurd hi (Nat.not_lt_zero i), fun h0 => absurd h0 (Nat.lt_irrefl 0)⟩
  · simp [Value.cells] at e
    obtain ⟨rfl, rfl, rfl⟩ := e
    simp only [ite_true] at hq
    subst hq
    have hw : (n + (q - n)) * 32 ≤ reachBytes := by
      simp only [Prod.mk.injEq] at hx
      have hmem : (n + (q - n)) * 32 ∈ DataW.weights Tryd.prog 38 d := by
        rw [hx.1]
        simp [DataW.weights, Tryd.underlying38, Tryd.bytesRule]
      have := List.all_eq_true.1 hsz _ hmem
      simpa using this
    have hrules : ∀ i, i < q → ∃ R : M.RuleM, (i64B R.kind ∧ i64B R.cell ∧ i64B R.next ∧ i64B R.at') ∧ W.cell? (a'.add (i * 4)) = some (.int .i64 R.kind) ∧ W.cell? (a'.add (i * 4 + 1)) = some (.int .i64 R.cell) ∧ W.cell? (a'.add (i * 4 + 2)) = some (.int .i64 R.next) ∧ W.cell? (a'.add (i * 4 + 3)) = some (.int .i64 R.at') := by
      intro i hi
      obtain ⟨cs', hc, ht⟩ := hall i hi
      rw [Tryd.cellsRule] at hc
      obtain ⟨_, hlen, hcell⟩ := World.cells?_some hc
      obtain ⟨R, rfl, hw⟩ := open_rule ht
      have e0 := hcell 0 (by omega)
      have e1 := hcell 1 (by omega)
      have e2 := hcell 2 (by omega)
      have e3 := hcell 3 (by omega)
      rw [add_add] at e0 e1 e2 e3
      exact ⟨R, hw, by simpa using e0, by simpa using e1, by simpa using e2, by simpa using e3⟩
    haveI : Inhabited M.RuleM := ⟨⟨0, 0, 0, 0⟩⟩
    obtain ⟨X, hX⟩ := choose_lt hrules
    refine ⟨some a', n, q, X, rfl, by unfold reachBytes at hw; omega, fun i hi => (hX i (by omega)).1, fun h0 => ?_⟩
    obtain ⟨b, off, spot⟩ := a'
    have hc0 := (hX 0 (by omega)).2.1
    simp only [Nat.zero_mul, Addr.add, if_true] at hc0
    have hspot := World.cell?_spot hc0
    subst hspot
    refine ⟨b, off, rfl, fun i hi => ?_⟩
    obtain ⟨_, h1, h2, h3, h4⟩ := hX i (by omega)
    rw [add_plain] at h1 h2 h3 h4
    exact ⟨h1, by simpa [Nat.add_assoc] using h2, by simpa [Nat.add_assoc] using h3, by simpa [Nat.add_assoc] using h4⟩

set_option maxRecDepth 100000 in
theorem open_rules {H : Type} {enc : TypeId × Value → H} {W : World} {r : Reach} {b0 : Nat} {v : Value} {d : DataW H} {p : List MemPlace}
    (hv : Value.okWide Tryd.prog W r b0 38 v) (h : DataW.Trod enc Tryd.prog W 0 (fun _ => true) true 38 v d p) (hsz : (DataW.weights Tryd.prog 38 d).all (· ≤ reachBytes) = true) :
    ∃ (a : Option Addr) (n cap : Nat) (R : Nat → M.RuleM), v = .slice a n cap ∧ n * 32 ≤ 140737488351232 ∧ RulesWf n R ∧ RulesAt W a n R := by
  obtain ⟨a, n, cap, R, h1, h2, h3, h4⟩ := open_rulesI hv h hsz
  exact ⟨a, n, cap, R, h1, h2, fun i hi => (h3 i hi).2.2.1, h4⟩

end Go.Proofs.YtnkgpinadgacgaaDoor

/- What the bound on what comes in gives: bulk of parts, of lists, of texts; five arguments opened and shut. -/
namespace Go.Proofs.YtnkgpinadgacgaaDoor
open Go.ChangeShapes Go.WideShapes Go.ChangeAt Go.RowKit

theorem bulk_one {H : Type} (d : DataW H) : 1 ≤ Rows.uptoBulk d := by
  cases d with
  | lit l => cases l <;> simp [Rows.uptoBulk]
  | nil => simp [Rows.uptoBulk]
  | ptr d => simp [Rows.uptoBulk]
  | slice elems spare => simp [Rows.uptoBulk]
  | agg parts => simp [Rows.uptoBulk]
  | iface t d => simp [Rows.uptoBulk]
  | map entries => simp [Rows.uptoBulk]
  | held h => simp [Rows.uptoBulk]

theorem bulk_part {H : Type} {d : DataW H} : ∀ {l : List (DataW H)}, d ∈ l → Rows.uptoBulk d ≤ Rows.uptoBulkAll l
  | x :: r, h => by
    simp only [Rows.uptoBulkAll]
    cases List.mem_cons.1 h with
    | inl e => subst e; omega
    | inr e => have := bulk_part e; omega

theorem bulk_len {H : Type} : ∀ (l : List (DataW H)), l.length ≤ Rows.uptoBulkAll l
  | [] => by simp [Rows.uptoBulkAll]
  | x :: r => by
    have := bulk_one x
    have := bulk_len r
    simp only [Rows.uptoBulkAll, List.length_cons]; omega

theorem bulk_text {H : Type} {s : ByteArray} {l : List (DataW H)} (h : DataW.lit (.string s.data.toList) ∈ l) (hk : Rows.uptoSmall H l = true) : s.size ≤ 1048576 := by
  have h1 : Rows.uptoBulkAll l ≤ 1048576 := of_decide_eq_true hk
  have h2 := bulk_part h
  have h3 : Rows.uptoBulk (DataW.lit (H := H) (.string s.data.toList)) = s.data.toList.length + 1 := by simp [Rows.uptoBulk]
  have e : s.data.toList.length = s.size := by rw [Array.length_toList]; rfl
  omega

section
variable {H : Type} {enc : TypeId × Value → H} {P : Program} {w : World} {base : Nat} {spare : Nat → Bool} {held : Bool}

theorem trodAll_five {t t1 t2 t3 t4 : TypeId} {args : Array Value} {ds : List (DataW H)} {ps : List MemPlace} (h : DataW.TrodAll enc P w base spare held [t, t1, t2, t3, t4] args.toList ds ps) :
    ∃ v v1 v2 v3 v4 d d1 d2 d3 d4 p p1 p2 p3 p4, args = #[v, v1, v2, v3, v4] ∧ ds = [d, d1, d2, d3, d4] ∧ ps = p ++ (p1 ++ (p2 ++ (p3 ++ p4))) ∧ DataW.Trod enc P w base spare held t v d p ∧ DataW.Trod enc P w base spare held t1 v1 d1 p1 ∧ DataW.Trod enc P w base spare held t2 v2 d2 p2 ∧ DataW.Trod enc P w base spare held t3 v3 d3 p3 ∧ DataW.Trod enc P w base spare held t4 v4 d4 p4 := by
  obtain ⟨v, vs, d, ds', p, q, hargs, rfl, rfl, hd, hrest⟩ := trodAll_cons h
  obtain ⟨v1, vs1, d1, ds1, p1, q1, rfl, rfl, rfl, hd1, hrest1⟩ := trodAll_cons hrest
  obtain ⟨v2, vs2, d2, ds2, p2, q2, rfl, rfl, rfl, hd2, hrest2⟩ := trodAll_cons hrest1
  obtain ⟨v3, vs3, d3, ds3, p3, q3, rfl, rfl, rfl, hd3, hrest3⟩ := trodAll_cons hrest2
  obtain ⟨v4, vs4, d4, ds4, p4, q4, rfl, rfl, rfl, hd4, hrest4⟩ := trodAll_cons hrest3
  obtain ⟨rfl, rfl, rfl⟩ := trodAll_nil hrest4
  exact ⟨v, v1, v2, v3, v4, d, d1, d2, d3, d4, p, p1, p2, p3, p4, by cases args; simp_all, rfl, by simp, hd, hd1, hd2, hd3, hd4⟩

theorem trodAll_mk5 {t t1 t2 t3 t4 : TypeId} {v v1 v2 v3 v4 : Value} {d d1 d2 d3 d4 : DataW H} {p p1 p2 p3 p4 : List MemPlace} (h : DataW.Trod enc P w base spare held t v d p) (h1 : DataW.Trod enc P w base spare held t1 v1 d1 p1)
    (h2 : DataW.Trod enc P w base spare held t2 v2 d2 p2) (h3 : DataW.Trod enc P w base spare held t3 v3 d3 p3) (h4 : DataW.Trod enc P w base spare held t4 v4 d4 p4) : DataW.TrodAll enc P w base spare held [t, t1, t2, t3, t4] [v, v1, v2, v3, v4] [d, d1, d2, d3, d4] (p ++ (p1 ++ (p2 ++ (p3 ++ p4)))) :=
  ⟨p, _, h, ⟨p1, _, h1, ⟨p2, _, h2, ⟨p3, _, h3, ⟨p4, [], h4, rfl, by simp⟩, rfl⟩, rfl⟩, rfl⟩, rfl⟩
end

end Go.Proofs.YtnkgpinadgacgaaDoor

/- What the row's list gives: the table of the four sides lies in memory. -/
namespace Go.Proofs.YtnkgpinadgacgaaDoor
open Go.ChangeShapes Go.WideShapes Go.ChangeAt Go.RowKit

theorem Tryd.gSides : Tryd.prog.globalNamed "yard/grid.sides" = some 0 := by kernel_rfl
theorem Tryd.gSidesType : (Tryd.prog.globals[0]?).map (·.type) = some 261 := by kernel_rfl
theorem Tryd.cellsSides : Tryd.prog.cellsOf 261 = 8 := by kernel_rfl
theorem Tryd.cellsSide : Tryd.prog.cellsOf 260 = 2 := by kernel_rfl
theorem Tryd.cellsI : Tryd.prog.cellsOf 3 = 1 := by kernel_rfl

theorem list8 {α : Type} {l : List α} (h : l.length = 8) : ∃ c0 c1 c2 c3 c4 c5 c6 c7, l = [c0, c1, c2, c3, c4, c5, c6, c7] := by
  match l, h with
  | [c0, c1, c2, c3, c4, c5, c6, c7], _ => exact ⟨c0, c1, c2, c3, c4, c5, c6, c7, rfl⟩

theorem list4 {α : Type} {l : List α} (h : l.length = 4) : ∃ c0 c1 c2 c3, l = [c0, c1, c2, c3] := by
  match l, h with
  | [c0, c1, c2, c3], _ => exact ⟨c0, c1, c2, c3, rfl⟩

theorem list2 {α : Type} {l : List α} (h : l.length = 2) : ∃ c0 c1, l = [c0, c1] := by
  match l, h with
  | [c0, c1], _ => exact ⟨c0, c1, rfl⟩

/-- One side: its two cells. -/
theorem side_open {H : Type} {enc : TypeId × Value → H} {w : World} {base : Nat} {sp : Nat → Bool} {held : Bool} {fuel : Nat} {u v : Value} {x y : Int} {p : List MemPlace}
    (h : DataW.trod enc Tryd.prog w base sp held fuel 260 [u, v] = some (.agg [.lit (.int .i64 x), .lit (.int .i64 y)], p)) : u = .int .i64 x ∧ v = .int .i64 y := by
  obtain ⟨xs, m, _, hx, _, hxl, hfs⟩ := DataW.trod_struct Tryd.underlying260 h
  obtain ⟨x0, x1, rfl⟩ := list2 hxl
  have g0 := hfs 0 _ rfl
  have g1 := hfs 1 _ rfl
  simp [Tryd.cellsI] at g0 g1
  obtain ⟨n0, e0, d0, _⟩ := DataW.trod_int Tryd.underlying3 g0
  obtain ⟨n1, e1, d1, _⟩ := DataW.trod_int Tryd.underlying3 g1
  simp only [List.cons.injEq, and_true] at e0 e1
  subst e0 e1
  simp [d0, d1] at hx
  obtain ⟨⟨h1, h2⟩, _⟩ := hx
  rw [h1, h2]; exact ⟨rfl, rfl⟩

set_option maxRecDepth 100000 in
theorem sides_of_laid {W : World} (h : laidMet Tryd.prog [("yard/grid.sides", Rows.laid_yard_grid_sides)] W) : SidesIn W := by
  obtain ⟨ps, ⟨g', t', cs, fuel, p, q, hg', ht', hvar, hd, _, _⟩, _⟩ := h
  obtain rfl := Option.some.inj (Tryd.gSides.symm.trans hg')
  obtain rfl := Option.some.inj (Tryd.gSidesType.symm.trans ht')
  obtain ⟨xs, m, _, hx, hcl, hxl, hel⟩ := DataW.trod_array Tryd.underlying261 hd
  rw [Tryd.cellsSides] at hcl
  obtain ⟨c0, c1, c2, c3, c4, c5, c6, c7, hcs⟩ := list8 hcl
  obtain ⟨x0, x1, x2, x3, rfl⟩ := list4 hxl
  rw [hcs, Tryd.cellsSide] at hel
  have e0 := hel 0 (by omega)
  have e1 := hel 1 (by omega)
  have e2 := hel 2 (by omega)
  have e3 := hel 3 (by omega)
  simp at e0 e1 e2 e3
  have hd' : x0.1 = .agg [.lit (.int .i64 (-1)), .lit (.int .i64 0)] ∧ x1.1 = .agg [.lit (.int .i64 1), .lit (.int .i64 0)] ∧ x2.1 = .agg [.lit (.int .i64 0), .lit (.int .i64 (-1))] ∧ x3.1 = .agg [.lit (.int .i64 0), .lit (.int .i64 1)] := by
    have := congrArg Prod.fst hx
    simp [Rows.laid_yard_grid_sides] at this
    exact ⟨this.1.symm, this.2.1.symm, this.2.2.1.symm, this.2.2.2.symm⟩
  obtain ⟨d0, d1, d2, d3⟩ := hd'
  obtain ⟨y0, z0⟩ := x0
  obtain ⟨y1, z1⟩ := x1
  obtain ⟨y2, z2⟩ := x2
  obtain ⟨y3, z3⟩ := x3
  simp only at d0 d1 d2 d3
  subst d0 d1 d2 d3
  obtain ⟨a0, a1⟩ := side_open e0
  obtain ⟨a2, a3⟩ := side_open e1
  obtain ⟨a4, a5⟩ := side_open e2
  obtain ⟨a6, a7⟩ := side_open e3
  have hc : ∀ i, W.cell? ⟨0, i, none⟩ = [c0, c1, c2, c3, c4, c5, c6, c7][i]? := by
    intro i
    rw [World.var?_cell Tryd.gSides hvar i, ← hcs, Array.getElem?_toList]
  refine ⟨?_, ?_, ?_, ?_, ?_, ?_, ?_, ?_⟩ <;> rw [hc] <;> simp [a0, a1, a2, a3, a4, a5, a6, a7]

end Go.Proofs.YtnkgpinadgacgaaDoor
