/- A list of lists of numbers that came in, opened: each list's numbers; they lie in memory; how long they may be. -/
import Derived.Test.YtnkgpinadgacgaaDoorCa
import Derived.Test.YtnkgpinadgacgaaDoorBv
import Derived.Deep.Matrix
namespace Go.Proofs.YtnkgpinadgacgaaDoor
open Go.ChangeShapes Go.WideShapes Go.ChangeAt Go.RowKit Go.Deep

theorem Tryd.cellsIntList : Tryd.prog.cellsOf 26 = 1 := by kernel_rfl

theorem lits_count {H : Type} (k : IntKind) (zs : List Int) : zs.length ≤ Rows.uptoBulkAll (lits (H := H) k zs) := by
  have h := bulk_len (lits (H := H) k zs)
  simpa [lits] using h

theorem row_bulk {H : Type} {k : IntKind} {A : Option Addr} {L C : Nat} {zs : List Int} (hL : L ≤ C) (hz : zs.length = C) (hA : A = none → C = 0) : L ≤ Rows.uptoBulk (intRow (H := H) k A L zs) := by
  cases A with
  | none => have := hA rfl; omega
  | some a =>
    have h := lits_count (H := H) k (zs.take L)
    rw [List.length_take] at h
    simp only [intRow, Rows.uptoBulk]
    omega

set_option maxRecDepth 100000 in
theorem open_plan {H : Type} {enc : TypeId × Value → H} {W : World} {r : Reach} {b0 : Nat} {v : Value} {d : DataW H} {p : List MemPlace}
    (hv : Value.okWide Tryd.prog W r b0 35 v) (h : DataW.Trod enc Tryd.prog W 0 (fun _ => true) true 35 v d p) (hk : Rows.uptoBulk d ≤ 1048576) :
    ∃ (a : Option Addr) (n cap : Nat) (P : PlanM), v = .slice a n cap ∧ n ≤ 1048576 ∧ (∀ i, i < n → P.len i ≤ 1048576) ∧ PlanAt W a n P := by
  obtain ⟨a, n, cap, rfl⟩ := okWide_slice Tryd.underlying35 hv
  obtain ⟨fuel, hf⟩ := h
  rcases open_int_rows Tryd.underlying35 Tryd.underlying26 Tryd.underlying3 Tryd.cellsIntList Tryd.cellsInt hf with ⟨e, _⟩ | ⟨a', len, cap', A, L, C, Z, e, _, hl, _, hx, hrow⟩
  · simp [Value.cells] at e
    obtain ⟨rfl, rfl, rfl⟩ := e
    exact ⟨none, 0, 0, ⟨fun _ => none, fun _ => 0, fun _ => 0, fun _ _ => 0⟩, rfl, by omega, fun i hi => absurd hi (Nat.not_lt_zero i), fun h0 => absurd h0 (Nat.lt_irrefl 0)⟩
  · simp [Value.cells] at e
    obtain ⟨rfl, rfl, rfl⟩ := e
    simp only [Prod.mk.injEq] at hx
    rw [hx.1] at hk
    have hn : n ≤ 1048576 := by
      have h1 := bulk_len ((List.range n).map fun r => intRow (H := H) .i64 (A r) (L r) (Z r))
      rw [List.length_map, List.length_range] at h1
      simp only [Rows.uptoBulk] at hk
      omega
    have hlen : ∀ i, i < n → L i ≤ 1048576 := by
      intro i hi
      obtain ⟨_, r1, r2, r3, _, r5, _⟩ := hrow i (by omega)
      have h1 := row_bulk (H := H) (k := .i64) r1 r3 r5
      have h2 : intRow (H := H) .i64 (A i) (L i) (Z i) ∈ (List.range n).map fun r => intRow (H := H) .i64 (A r) (L r) (Z r) := List.mem_map.2 ⟨i, List.mem_range.2 hi, rfl⟩
      have h3 := bulk_part h2
      simp only [Rows.uptoBulk] at hk
      omega
    refine ⟨some a', n, cap, ⟨A, L, C, fun r c => (Z r).getD c 0⟩, rfl, hn, hlen, fun h0 => ?_⟩
    obtain ⟨b, off, spot⟩ := a'
    have hc0 := (hrow 0 (by omega)).1
    simp only [Addr.add, if_true] at hc0
    have hspot := World.cell?_spot hc0
    subst hspot
    refine ⟨b, off, rfl, fun i hi => ?_⟩
    obtain ⟨c1, r1, _, _, _, r5, r6⟩ := hrow i (by omega)
    rw [add_plain] at c1
    refine ⟨c1, fun hpos => ?_⟩
    cases hA : A i with
    | none => have h5 := r5 hA; have hp : 0 < L i := hpos; omega
    | some q =>
      obtain ⟨bq, oq, sq⟩ := q
      have hcell := (r6 _ hA).2
      have hp : 0 < L i := hpos
      have hc0 := hcell 0 (by omega)
      simp only [Addr.add, if_true] at hc0
      have hspot := World.cell?_spot hc0
      subst hspot
      refine ⟨bq, oq, hA, fun j hj => ?_⟩
      have hj' : j < L i := hj
      have c := hcell j (by omega)
      rw [add_plain] at c
      exact c

end Go.Proofs.YtnkgpinadgacgaaDoor
