/- A yard that came in, opened: its five fields; its carts lie in memory; how great it may be. -/
import Derived.Test.YtnkgpinadgacgaaDoorBa
import Derived.ProofKit
import Derived.SizedLaws
import Derived.Deep.SlicePairs
import Derived.Deep.Fields
import Derived.Lib.SmallJoins
namespace Go.Proofs.YtnkgpinadgacgaaDoor
open Go.ChangeShapes Go.WideShapes Go.ChangeAt Go.RowKit Go.Deep Go.Joins

theorem Tryd.own : ownKnob Tryd.prog.godebug = none := by kernel_rfl
theorem Tryd.laidOut : laidOutB Tryd.prog = true := by kernel_rfl
theorem Tryd.cellsYard : Tryd.prog.cellsOf 24 = 5 := by kernel_rfl
theorem Tryd.cellsCart : Tryd.prog.cellsOf 87 = 2 := by kernel_rfl
theorem Tryd.cellsInt : Tryd.prog.cellsOf 3 = 1 := by kernel_rfl
theorem Tryd.cellsString : Tryd.prog.cellsOf 9 = 1 := by kernel_rfl
theorem Tryd.cellsCarts : Tryd.prog.cellsOf 22 = 1 := by kernel_rfl
theorem Tryd.bytesCart : Tryd.prog.bytesOf 87 = 16 := by kernel_rfl

theorem array5 {α : Type} {cs : Array α} (h : cs.size = 5) : ∃ c0 c1 c2 c3 c4, cs = #[c0, c1, c2, c3, c4] := by
  obtain ⟨l⟩ := cs
  match l, h with
  | [c0, c1, c2, c3, c4], _ => exact ⟨c0, c1, c2, c3, c4, rfl⟩

theorem list5 {α : Type} {l : List α} (h : l.length = 5) : ∃ c0 c1 c2 c3 c4, l = [c0, c1, c2, c3, c4] := by
  match l, h with
  | [c0, c1, c2, c3, c4], _ => exact ⟨c0, c1, c2, c3, c4, rfl⟩

set_option maxRecDepth 100000 in
theorem open_yard {H : Type} {enc : TypeId × Value → H} {W : World} {r : Reach} {b0 : Nat} {v : Value} {d : DataW H} {p : List MemPlace}
    (hv : Value.okWide Tryd.prog W r b0 24 v) (h : DataW.Trod enc Tryd.prog W 0 (fun _ => true) true 24 v d p) (hsz : (DataW.weights Tryd.prog 24 d).all (· ≤ reachBytes) = true) :
    ∃ (ro co bu : Int) (cs : ByteArray) (a : Option Addr) (n cap : Nat) (fr tt : Nat → Int), v = .agg #[.int .i64 ro, .int .i64 co, .string cs, .slice a n cap, .int .i64 bu] ∧ cs.size ≤ maxLen ∧ n * 16 ≤ 140737488351232 ∧
      (0 < n → ∃ b off, a = some ⟨b, off, none⟩ ∧ CartsIn W b off n fr tt) := by
  obtain ⟨cs, rfl, hcs⟩ := okWide_struct Tryd.underlying24 hv
  obtain ⟨c0, c1, c2, c3, c4, rfl⟩ := array5 (hcs.trans Tryd.cellsYard)
  obtain ⟨fuel, hf⟩ := h
  obtain ⟨xs, m, _, hx, _, hxl, hfs⟩ := DataW.trod_struct Tryd.underlying24 hf
  obtain ⟨x0, x1, x2, x3, x4, rfl⟩ := list5 hxl
  have g0 := hfs 0 _ rfl
  have g1 := hfs 1 _ rfl
  have g2 := hfs 2 _ rfl
  have g3 := hfs 3 _ rfl
  have g4 := hfs 4 _ rfl
  simp [Value.cells, Tryd.cellsInt, Tryd.cellsString, Tryd.cellsCarts] at g0 g1 g2 g3 g4
  obtain ⟨ro, e0, _, _⟩ := DataW.trod_int Tryd.underlying3 g0
  obtain ⟨co, e1, _, _⟩ := DataW.trod_int Tryd.underlying3 g1
  obtain ⟨s, e2, _, hs⟩ := DataW.trod_string Tryd.underlying9 g2
  obtain ⟨bu, e4, _, _⟩ := DataW.trod_int Tryd.underlying3 g4
  simp only [List.cons.injEq, and_true] at e0 e1 e2 e4
  subst e0 e1 e2 e4
  rcases open_slice_pairs Tryd.underlying22 Tryd.underlying87 Tryd.cellsCart rfl rfl Tryd.cellsInt Tryd.cellsInt g3 with ⟨e3, _⟩ | ⟨a, len, cap, q, k, V0, V1, D0, D1, P0, P1, e3, _, hl, hm, hq, hx3, hall⟩
  · simp only [List.cons.injEq, and_true] at e3
    subst e3
    exact ⟨ro, co, bu, s, none, 0, 0, fun _ => 0, fun _ => 0, rfl, hs, by omega, fun h => absurd h (Nat.lt_irrefl 0)⟩
  · simp only [List.cons.injEq, and_true] at e3
    subst e3
    simp only [ite_true] at hq
    subst hq
    have hw : (len + (q - len)) * 16 ≤ reachBytes := by
      simp only [Prod.mk.injEq] at hx
      have hmem : (len + (q - len)) * 16 ∈ DataW.weights Tryd.prog 24 d := by
        rw [hx.1]
        simp [DataW.weights, DataW.weightsEach, Tryd.underlying24, Tryd.underlying22, hx3, Tryd.bytesCart]
      have := List.all_eq_true.1 hsz _ hmem
      simpa using this
    have hints : ∀ i, i < q → ∃ x : Int × Int, V0 i = .int .i64 x.1 ∧ V1 i = .int .i64 x.2 := by
      intro i hi
      obtain ⟨_, _, t0, t1⟩ := hall i hi
      obtain ⟨f, e0, _, _⟩ := DataW.trod_int Tryd.underlying3 t0
      obtain ⟨t, e1, _, _⟩ := DataW.trod_int Tryd.underlying3 t1
      exact ⟨(f, t), by simpa using e0, by simpa using e1⟩
    obtain ⟨X, hX⟩ := choose_lt hints
    refine ⟨ro, co, bu, s, some a, len, q, fun i => (X i).1, fun i => (X i).2, rfl, hs, by unfold reachBytes at hw; omega, fun h0 => ?_⟩
    obtain ⟨b, off, spot⟩ := a
    have hc0 := (hall 0 (by omega)).1
    simp only [Nat.zero_mul, Addr.add, if_true] at hc0
    have hspot := World.cell?_spot hc0
    subst hspot
    refine ⟨b, off, rfl, fun i hi => ?_⟩
    obtain ⟨h1, h2, _, _⟩ := hall i (by omega)
    rw [add_plain] at h1 h2
    rw [(hX i (by omega)).1] at h1
    rw [(hX i (by omega)).2] at h2
    exact ⟨h1, by simpa [Nat.add_assoc] using h2⟩

end Go.Proofs.YtnkgpinadgacgaaDoor
