/- For every raw yard and every two numbers the law Steps answers true, and the raw yard reads afterwards as it did. No condition but the card's own: the table of the four sides is laid as the program's text lays it. -/
import Derived.Test.YtaldfpoolajoiaaDoorTie
import Derived.Test.YtaldfpoolajoiaaDoorXf
import Derived.Test.YtaldfpoolajoiaaDoorXd
import Derived.Test.YtaldfpoolajoiaaDoorOp
import Derived.Test.YtaldfpoolajoiaaDoorSi
import Derived.Deep.DeepHandedRow
namespace Go.Proofs.YtaldfpoolajoiaaDoor
open Go.ChangeShapes Go.WideShapes Go.ChangeAt Go.RowKit Go.Deep Go.Joins

theorem Tryd.cellsInts : Tryd.prog.cellsOf 26 = 1 := by kernel_rfl
theorem Tryd.cellsRaw : Tryd.prog.cellsOf 53 = 5 := by kernel_rfl
theorem Tryd.bytesInt : Tryd.prog.bytesOf 3 = 8 := by kernel_rfl

set_option maxRecDepth 100000 in
theorem open_raw {H : Type} {enc : TypeId × Value → H} {W : World} {r : Reach} {b0 : Nat} {v : Value} {d : DataW H} {p : List MemPlace}
    (hv : Value.okWide Tryd.prog W r b0 53 v) (h : DataW.Trod enc Tryd.prog W 0 (fun _ => true) true 53 v d p) (hsz : (DataW.weights Tryd.prog 53 d).all (· ≤ reachBytes) = true) :
    ∃ (rr rc rb : Int) (s : ByteArray) (a : Option Addr) (n cap : Nat) (x : Nat → Int), v = .agg #[.int .i64 rr, .int .i64 rc, .string s, .slice a n cap, .int .i64 rb] ∧ s.size ≤ maxLen ∧ n ≤ 17592186044415 ∧
      (Lit.int .i64 rr).wf = true ∧ (Lit.int .i64 rc).wf = true ∧ (Lit.int .i64 rb).wf = true ∧
      ((∀ i, i < n → (Lit.int .i64 (x i)).wf = true) ∧ (0 < n → ∃ b off, a = some ⟨b, off, none⟩ ∧ ∀ i, i < n → W.cell? ⟨b, off + i, none⟩ = some (.int .i64 (x i)))) := by
  obtain ⟨cs, rfl, hcs⟩ := okWide_struct Tryd.underlying53 hv
  obtain ⟨c0, c1, c2, c3, c4, rfl⟩ := array5 (hcs.trans Tryd.cellsRaw)
  obtain ⟨fuel, hf⟩ := h
  obtain ⟨xs, m, _, hx, _, hxl, hfs⟩ := DataW.trod_struct Tryd.underlying53 hf
  obtain ⟨x0, x1, x2, x3, x4, rfl⟩ := list5 hxl
  have g0 := hfs 0 _ rfl
  have g1 := hfs 1 _ rfl
  have g2 := hfs 2 _ rfl
  have g3 := hfs 3 _ rfl
  have g4 := hfs 4 _ rfl
  simp [Value.cells, Tryd.cellsInt, Tryd.cellsString, Tryd.cellsInts] at g0 g1 g2 g3 g4
  obtain ⟨rr, e0, _, w0⟩ := DataW.trod_int Tryd.underlying3 g0
  obtain ⟨rc, e1, _, w1⟩ := DataW.trod_int Tryd.underlying3 g1
  obtain ⟨s, e2, _, hs⟩ := DataW.trod_string Tryd.underlying9 g2
  obtain ⟨rb, e4, _, w4⟩ := DataW.trod_int Tryd.underlying3 g4
  simp only [List.cons.injEq, and_true] at e0 e1 e2 e4
  subst e0 e1 e2 e4
  rcases open_slice1 Tryd.underlying26 Tryd.cellsInt g3 with ⟨e3, _⟩ | ⟨a, len, cap, q, k, V, D, P, e3, _, hl, hm, hq, hx3, hall⟩
  · simp only [List.cons.injEq, and_true] at e3
    subst e3
    exact ⟨rr, rc, rb, s, none, 0, 0, fun _ => 0, rfl, hs, by omega, w0, w1, w4, fun i h => absurd h (Nat.not_lt_zero i), fun h => absurd h (Nat.lt_irrefl 0)⟩
  · simp only [List.cons.injEq, and_true] at e3
    subst e3
    simp only [ite_true] at hq
    subst hq
    have hw : (len + (q - len)) * 8 ≤ reachBytes := by
      simp only [Prod.mk.injEq] at hx
      have hmem : (len + (q - len)) * 8 ∈ DataW.weights Tryd.prog 53 d := by
        rw [hx.1]
        simp [DataW.weights, DataW.weightsEach, Tryd.underlying53, Tryd.underlying26, hx3, Tryd.bytesInt]
      have := List.all_eq_true.1 hsz _ hmem
      simpa using this
    have hints : ∀ i, i < q → ∃ x : Int, V i = .int .i64 x ∧ (Lit.int .i64 x).wf = true := by
      intro i hi
      obtain ⟨_, t0⟩ := hall i hi
      obtain ⟨f, e0, _, wf⟩ := DataW.trod_int Tryd.underlying3 t0
      exact ⟨f, by simpa using e0, wf⟩
    obtain ⟨X, hX⟩ := choose_lt hints
    refine ⟨rr, rc, rb, s, some a, len, q, X, rfl, hs, by unfold reachBytes at hw; omega, w0, w1, w4, fun i hi => (hX i (by omega)).2, fun h0 => ?_⟩
    obtain ⟨b, off, spot⟩ := a
    have hc0 := (hall 0 (by omega)).1
    simp only [Addr.add, if_true] at hc0
    have hspot := World.cell?_spot hc0
    subst hspot
    refine ⟨b, off, rfl, fun i hi => ?_⟩
    have h1 := (hall i (by omega)).1
    rw [add_plain] at h1
    rw [(hX i (by omega)).1] at h1
    exact h1

theorem shapes : Shapes := fun rr rc rb s a n cap x w hs hn h0 h1 h2 hx => shaped_any rr rc rb s a n cap x w hs hn h0 h1 h2 hx

def stepsArgs : Array Value := #[.agg #[.int .i64 0, .int .i64 0, .string ⟨#[]⟩, .slice none 0 0, .int .i64 0], .int .i64 0, .int .i64 0]

theorem steps_laid (os : Os) : laidMet Tryd.prog Rows.stepsRow.laid ((({ World.holding Tryd.prog os ⟨#[], #[], []⟩ with heap := (World.holding Tryd.prog os ⟨#[], #[], []⟩).heap.modify 0 fun | .cells _ t frozen => .cells sidesV t frozen | o => o } : World)).forCall (fun _ _ => 0) ⟨#[], stepsArgs, []⟩).memory :=
  laidMet_of_run' 8 (by kernel_rfl) (by kernel_rfl)

theorem steps_reads (os : Os) {H : Type} (enc : TypeId × Value → H) : ∃ places, DataW.whole enc Tryd.prog ((({ World.holding Tryd.prog os ⟨#[], #[], []⟩ with heap := (World.holding Tryd.prog os ⟨#[], #[], []⟩).heap.modify 0 fun | .cells _ t frozen => .cells sidesV t frozen | o => o } : World)).forCall (fun _ _ => 0) ⟨#[], stepsArgs, []⟩).memory Tryd.f6.params.toList Rows.stepsSpec.vars false stepsArgs.toList 8 =
    some ([.agg [.lit (.int .i64 0), .lit (.int .i64 0), .lit (.string []), .nil, .lit (.int .i64 0)], .lit (.int .i64 0), .lit (.int .i64 0)], [], places) :=
  ⟨[], by kernel_rfl⟩

set_option maxRecDepth 100000 in
theorem steps_lifted (os : Os) (started : os.Started) (H : Type) (enc : TypeId × Value → H) (F : Stop.Interp) :
    ReturnsInHanded {} Tryd.checked os 6 .any ((OpenSpec.ofChange Rows.stepsSpec).preRow enc Tryd.prog Tryd.f6 Rows.stepsRow.domain false Rows.stepsRow.laid) (((OpenSpec.ofChange Rows.stepsSpec).at F).post enc Tryd.prog Tryd.f6 false true false false) := by
  obtain ⟨places, hx⟩ := steps_reads os enc
  refine returnsInHanded_of_row (C := Tryd.checked) (s := OpenSpec.ofChange Rows.stepsSpec) Tryd.own started (by kernel_rfl) Tryd.func6
    (witness_row_at (enc := enc) (C := Tryd.checked) false ({ World.holding Tryd.prog os ⟨#[], #[], []⟩ with heap := (World.holding Tryd.prog os ⟨#[], #[], []⟩).heap.modify 0 fun | .cells _ t frozen => .cells sidesV t frozen | o => o } : World) stepsArgs rfl (by kernel_rfl) (by kernel_rfl) (by kernel_rfl)
      (OpenSpec.preRow_of_cond 8 hx (by kernel_rfl) (fun k hk => by cases hk) (by kernel_rfl) (steps_laid os))) ?_
  intro W base args ds gs before hval0 hW _ _ hsz0 hL _ _
  have hval : ∀ (j : Nat) t v, Tryd.f6.params[j]? = some t → args[j]? = some v → Value.okWide Tryd.prog W .any base t v := hval0
  have hsz : (DataW.weightsEach Tryd.prog (Tryd.f6.params.toList ++ Rows.stepsSpec.plain.varTypes Tryd.prog) (ds ++ gs)).all (· ≤ reachBytes) = true := hsz0
  have hsd : SidesIn W := sides_of_laid hL
  have hW' := hW
  obtain ⟨p, q, hA0, hV, rfl, hfz, hnd⟩ := hW
  have hA : DataW.TrodAll enc Tryd.prog W 0 (fun _ => true) true Tryd.f6.params.toList args.toList ds p := hA0
  rw [Tryd.params6] at hA hval hsz
  obtain ⟨v0, v1, v2, d0, d1, d2, p0, p1, p2, hargs, rfl, rfl, h0, h1, h2⟩ := trodAll_three hA
  obtain rfl : args = #[v0, v1, v2] := by cases args; simp_all
  obtain ⟨rfl, rfl⟩ := trodVars_none hV
  have hw0 : (DataW.weights Tryd.prog 53 d0).all (· ≤ reachBytes) = true := by
    refine List.all_eq_true.2 fun x hx => List.all_eq_true.1 hsz x ?_
    exact DataW.weights_mem_each (j := 0) rfl rfl x hx
  have h0k := h0
  obtain ⟨at1, rfl, rfl, rfl, wc1⟩ := open_int Tryd.underlying3 (hval 1 3 v1 rfl rfl) h1
  obtain ⟨at2, rfl, rfl, rfl, wc2⟩ := open_int Tryd.underlying3 (hval 2 3 v2 rfl rfl) h2
  have hlt : ∀ x ∈ p0, x.block < W.heap.size := fun x hx => by simpa using hW'.lt x (by simpa using hx)
  obtain ⟨rr, rc, rb, s, a, n, cap, x, rfl, hcs, hn, w0, w1, w4, hxx⟩ := open_raw (hval 0 53 v0 rfl rfl) h0 hw0
  clear hA0 hval0
  simp only [List.append_nil] at hW'
  refine (steps_any shapes rr rc rb at1 at2 s a n cap x W hcs hn hsd w0 w1 w4 wc1 wc2 hxx).mono fun e W' ⟨he, hb⟩ => ?_
  subst he
  exact ⟨_, rfl, _, _, _, [], p0 ++ ([] ++ []), [], hW', trodAll_mk1 (shut_bool Tryd.underlying4 true), trodAll_mk3 (Below.trod Tryd.laidOut (by kernel_rfl) (of_decide_eq_true (by kernel_rfl)) h0k hb hlt) (shut_int Tryd.underlying3 wc1) (shut_int Tryd.underlying3 wc2), rfl, hb.frame _, fun h => by cases h⟩

theorem steps_said : Rows.StepsSaid :=
  OpenClaim.holds_of_cond 6 Tryd.f6 rfl rfl rfl rfl rfl rfl rfl ⟨rfl, rfl, rfl, rfl, rfl⟩ rfl rfl rfl rfl rfl (by kernel_rfl) Tryd.func6 (by kernel_rfl)
    (of_decide_eq_true (by kernel_rfl)) (by unfold Func.isWrapper; rw [if_neg (of_decide_eq_false (by kernel_rfl))]; exact ⟨rfl, rfl⟩)
    (fun os started H enc _ F => by rw [OpenClaim.pre_eq_preRow]; exact steps_lifted os started H enc F)

theorem steps_plain (f : FuncId) (fn : Func) (hf : Tryd.pinned.checked.prog.funcNamed "yard/yardkeep.Steps" = some f) (hfn : Tryd.pinned.checked.prog.funcs[f]? = some fn) :
    false = Tryd.pinned.checked.prog.looks [] ∧ ∀ (j : Nat) t, fn.params[j]? = some t → Tryd.pinned.checked.prog.wantsStandIn t = false := by
  obtain rfl : f = 6 := Option.some.inj ((show Tryd.prog.funcNamed "yard/yardkeep.Steps" = some 6 by kernel_rfl).symm.trans hf) |>.symm
  obtain rfl : fn = Tryd.f6 := (Option.some.inj (Tryd.func6.symm.trans hfn)).symm
  refine ⟨by kernel_rfl, fun j t ht => ?_⟩
  rw [Tryd.params6] at ht
  have hm := Array.mem_of_getElem? ht
  simp only [List.mem_toArray, List.mem_cons, List.not_mem_nil, or_false] at hm
  rcases hm with rfl | rfl | rfl
  · exact (show Tryd.prog.wantsStandIn 53 = false by kernel_rfl)
  · exact (show Tryd.prog.wantsStandIn 3 = false by kernel_rfl)
  · exact (show Tryd.prog.wantsStandIn 3 = false by kernel_rfl)

theorem steps_card : Rows.StepsCardSaid :=
  Claim7.holds_tied_plain_at .later [] _ _ _ _ steps_said (fun _ h => by cases h) (by kernel_rfl) (fun _ h => by cases h) steps_row_tie rfl ⟨rfl, rfl⟩ (by kernel_rfl) rfl steps_plain (by kernel_rfl)

end Go.Proofs.YtaldfpoolajoiaaDoor
