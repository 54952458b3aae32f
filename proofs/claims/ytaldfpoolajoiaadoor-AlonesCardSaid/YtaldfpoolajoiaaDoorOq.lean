/- A list of rules that came in, opened: each rule's four numbers; they lie in memory; how long it may be. -/
import Derived.Test.YtaldfpoolajoiaaDoorOp
import Derived.Test.YtaldfpoolajoiaaDoorSe
namespace Go.Proofs.YtaldfpoolajoiaaDoor
open Go.ChangeShapes Go.WideShapes Go.ChangeAt Go.RowKit Go.Deep Go.Joins

theorem Tryd.cellsRule : Tryd.prog.cellsOf 77 = 4 := by kernel_rfl
theorem Tryd.bytesRule : Tryd.prog.bytesOf 77 = 32 := by kernel_rfl

theorem listOf4 {α : Type} {l : List α} (h : l.length = 4) : ∃ c0 c1 c2 c3, l = [c0, c1, c2, c3] := by
  match l, h with
  | [c0, c1, c2, c3], _ => exact ⟨c0, c1, c2, c3, rfl⟩

/-- One rule, read off its four cells. -/
theorem open_rule {H : Type} {enc : TypeId × Value → H} {W : World} {fuel : Nat} {cs : List Value} {y : DataW H × List MemPlace} (h : DataW.trod enc Tryd.prog W 0 (fun _ => true) true fuel 77 cs = some y) :
    ∃ R : M.RuleM, cs = [.int .i64 R.kind, .int .i64 R.cell, .int .i64 R.next, .int .i64 R.at'] ∧ i64B R.next := by
  obtain ⟨xs, m, _, _, hl, hxl, hfs⟩ := DataW.trod_struct Tryd.underlying77 h
  obtain ⟨c0, c1, c2, c3, rfl⟩ := listOf4 (hl.trans Tryd.cellsRule)
  obtain ⟨x0, x1, x2, x3, rfl⟩ := listOf4 hxl
  have g0 := hfs 0 _ rfl
  have g1 := hfs 1 _ rfl
  have g2 := hfs 2 _ rfl
  have g3 := hfs 3 _ rfl
  simp [Tryd.cellsInt] at g0 g1 g2 g3
  obtain ⟨n0, e0, _, _⟩ := DataW.trod_int Tryd.underlying3 g0
  obtain ⟨n1, e1, _, _⟩ := DataW.trod_int Tryd.underlying3 g1
  obtain ⟨n2, e2, _, w2⟩ := DataW.trod_int Tryd.underlying3 g2
  obtain ⟨n3, e3, _, _⟩ := DataW.trod_int Tryd.underlying3 g3
  simp only [List.cons.injEq, and_true] at e0 e1 e2 e3
  subst e0 e1 e2 e3
  exact ⟨⟨n0, n1, n2, n3⟩, rfl, w2⟩

set_option maxRecDepth 100000 in
theorem open_rules {H : Type} {enc : TypeId × Value → H} {W : World} {r : Reach} {b0 : Nat} {v : Value} {d : DataW H} {p : List MemPlace}
    (hv : Value.okWide Tryd.prog W r b0 38 v) (h : DataW.Trod enc Tryd.prog W 0 (fun _ => true) true 38 v d p) (hsz : (DataW.weights Tryd.prog 38 d).all (· ≤ reachBytes) = true) :
    ∃ (a : Option Addr) (n cap : Nat) (R : Nat → M.RuleM), v = .slice a n cap ∧ n * 32 ≤ 140737488351232 ∧ RulesWf n R ∧ RulesAt W a n R := by
  obtain ⟨a, n, cap, rfl⟩ := okWide_slice Tryd.underlying38 hv
  obtain ⟨fuel, hf⟩ := h
  rcases open_slice Tryd.underlying38 hf with ⟨e, _⟩ | ⟨a', len, cap', q, k, D, Pl, e, _, hl, hm, hq, hx, hall⟩
  · simp [Value.cells] at e
    obtain ⟨rfl, rfl, rfl⟩ := e
    exact ⟨none, 0, 0, fun _ => ⟨0, 0, 0, 0⟩, rfl, by omega, fun i hi => absurd hi (Nat.not_lt_zero i), fun h0 => absurd h0 (Nat.lt_irrefl 0)⟩
  · simp [Value.cells] at e
    obtain ⟨rfl, rfl, rfl⟩ := e
    simp only [ite_true] at hq
    subst hq
    have hw : (n + (q - n)) * 32 ≤ reachBytes := by
      simp only [Prod.mk.injEq] at hx
      have hmem : (n + (q - n)) * 32 ∈ DataW.weights Tryd.prog 38 d := by
        rw [hx.1]
        simp [DataW.weights, Tryd.underlying38, Tryd.bytesRule]
      have := List.all_eq_true.1 hsz _ hmem
      simpa using this
    have hrules : ∀ i, i < q → ∃ R : M.RuleM, i64B R.next ∧ W.cell? (a'.add (i * 4)) = some (.int .i64 R.kind) ∧ W.cell? (a'.add (i * 4 + 1)) = some (.int .i64 R.cell) ∧ W.cell? (a'.add (i * 4 + 2)) = some (.int .i64 R.next) ∧ W.cell? (a'.add (i * 4 + 3)) = some (.int .i64 R.at') := by
      intro i hi
      obtain ⟨cs', hc, ht⟩ := hall i hi
      rw [Tryd.cellsRule] at hc
      obtain ⟨_, hlen, hcell⟩ := World.cells?_some hc
      obtain ⟨R, rfl, hw⟩ := open_rule ht
      have e0 := hcell 0 (by omega)
      have e1 := hcell 1 (by omega)
      have e2 := hcell 2 (by omega)
      have e3 := hcell 3 (by omega)
      rw [add_add] at e0 e1 e2 e3
      exact ⟨R, hw, by simpa using e0, by simpa using e1, by simpa using e2, by simpa using e3⟩
    haveI : Inhabited M.RuleM := ⟨⟨0, 0, 0, 0⟩⟩
    obtain ⟨X, hX⟩ := choose_lt hrules
    refine ⟨some a', n, q, X, rfl, by unfold reachBytes at hw; omega, fun i hi => (hX i (by omega)).1, fun h0 => ?_⟩
    obtain ⟨b, off, spot⟩ := a'
    have hc0 := (hX 0 (by omega)).2.1
    simp only [Nat.zero_mul, Addr.add, if_true] at hc0
    have hspot := World.cell?_spot hc0
    subst hspot
    refine ⟨b, off, rfl, fun i hi => ?_⟩
    obtain ⟨_, h1, h2, h3, h4⟩ := hX i (by omega)
    rw [add_plain] at h1 h2 h3 h4
    exact ⟨h1, by simpa [Nat.add_assoc] using h2, by simpa [Nat.add_assoc] using h3, by simpa [Nat.add_assoc] using h4⟩

end Go.Proofs.YtaldfpoolajoiaaDoor
