/- For every yard, every list of lists and every level, all together of bulk at most 1048576, the law Judges answers true: both answers of Judge tell the document's error, or its faults in their order, and share no room, and what was handed in reads afterwards as it did. Its other condition is the card's own: the table of the four sides is laid as the program's text lays it. -/
import Derived.Test.YtnkgpinadgacgaaDoorTie
import Derived.Test.YtnkgpinadgacgaaDoorCq
import Derived.Test.YtnkgpinadgacgaaDoorOu
import Derived.Test.YtnkgpinadgacgaaDoorBv
import Derived.Test.YtnkgpinadgacgaaDoorOp
import Derived.Deep.DeepHandedRow
namespace Go.Proofs.YtnkgpinadgacgaaDoor
open Go.ChangeShapes Go.WideShapes Go.ChangeAt Go.RowKit Go.Deep

def judgesArgs : Array Value := #[.agg #[.int .i64 0, .int .i64 0, .string ⟨#[]⟩, .slice none 0 0, .int .i64 0], .slice none 0 0, .int .i64 0]

theorem judges_laid (os : Os) : laidMet Tryd.prog Rows.judgesUptoRow.laid ((({ World.holding Tryd.prog os ⟨#[], #[], []⟩ with heap := (World.holding Tryd.prog os ⟨#[], #[], []⟩).heap.modify 0 fun | .cells _ t frozen => .cells sidesV t frozen | o => o } : World)).forCall (fun _ _ => 0) ⟨#[], judgesArgs, []⟩).memory :=
  laidMet_of_run' 8 (by kernel_rfl) (by kernel_rfl)

theorem judges_reads (os : Os) {H : Type} (enc : TypeId × Value → H) : ∃ places, DataW.whole enc Tryd.prog ((({ World.holding Tryd.prog os ⟨#[], #[], []⟩ with heap := (World.holding Tryd.prog os ⟨#[], #[], []⟩).heap.modify 0 fun | .cells _ t frozen => .cells sidesV t frozen | o => o } : World)).forCall (fun _ _ => 0) ⟨#[], judgesArgs, []⟩).memory Tryd.f6.params.toList Rows.judgesSpec.vars false judgesArgs.toList 8 =
    some ([.agg [.lit (.int .i64 0), .lit (.int .i64 0), .lit (.string []), .nil, .lit (.int .i64 0)], .nil, .lit (.int .i64 0)], [], places) :=
  ⟨[], by kernel_rfl⟩

set_option maxRecDepth 100000 in
theorem judges_lifted (os : Os) (started : os.Started) (H : Type) (enc : TypeId × Value → H) (F : Stop.Interp) :
    ReturnsInHanded {} Tryd.checked os 6 .any ((Rows.OpenSpec.upto Rows.judgesSpec).preRow enc Tryd.prog Tryd.f6 Rows.judgesUptoRow.domain false Rows.judgesUptoRow.laid) (((Rows.OpenSpec.upto Rows.judgesSpec).at F).post enc Tryd.prog Tryd.f6 false true false false) := by
  obtain ⟨places, hx⟩ := judges_reads os enc
  refine returnsInHanded_of_row (C := Tryd.checked) (s := Rows.OpenSpec.upto Rows.judgesSpec) Tryd.own started (by kernel_rfl) Tryd.func6
    (witness_row_at (enc := enc) (C := Tryd.checked) false ({ World.holding Tryd.prog os ⟨#[], #[], []⟩ with heap := (World.holding Tryd.prog os ⟨#[], #[], []⟩).heap.modify 0 fun | .cells _ t frozen => .cells sidesV t frozen | o => o } : World) judgesArgs rfl (by kernel_rfl) (by kernel_rfl) (by kernel_rfl)
      (OpenSpec.preRow_of_cond 8 hx (by kernel_rfl) (fun k hk => by cases hk; kernel_rfl) (by kernel_rfl) (judges_laid os))) ?_
  intro W base args ds gs before hval0 hW _ hcond hsz0 hL _ _
  have hval : ∀ (j : Nat) t v, Tryd.f6.params[j]? = some t → args[j]? = some v → Value.okWide Tryd.prog W .any base t v := hval0
  have hsz : (DataW.weightsEach Tryd.prog (Tryd.f6.params.toList ++ Rows.judgesSpec.plain.varTypes Tryd.prog) (ds ++ gs)).all (· ≤ reachBytes) = true := hsz0
  have hsmall : Rows.uptoSmall H (ds ++ gs) = true := hcond _ rfl
  have hsd : SidesIn W := sides_of_laid hL
  have hW' := hW
  obtain ⟨p, q, hA0, hV, rfl, hfz, hnd⟩ := hW
  have hA : DataW.TrodAll enc Tryd.prog W 0 (fun _ => true) true Tryd.f6.params.toList args.toList ds p := hA0
  rw [Tryd.params6] at hA hval hsz
  obtain ⟨v0, v1, v2, d0, d1, d2, p0, p1, p2, hargs, rfl, rfl, h0, h1, h2⟩ := trodAll_three hA
  obtain rfl : args = #[v0, v1, v2] := by cases args; simp_all
  obtain ⟨rfl, rfl⟩ := trodVars_none hV
  have hw0 : (DataW.weights Tryd.prog 24 d0).all (· ≤ reachBytes) = true := by
    refine List.all_eq_true.2 fun x hx => List.all_eq_true.1 hsz x ?_
    exact DataW.weights_mem_each (j := 0) rfl rfl x hx
  have hbk : Rows.uptoBulk d1 ≤ 1048576 := by
    have h : Rows.uptoBulkAll ([d0, d1, d2] ++ []) ≤ 1048576 := of_decide_eq_true hsmall
    have h2 := bulk_part (d := d1) (l := [d0, d1, d2] ++ []) (by simp)
    omega
  have h0k := h0
  have h1k := h1
  obtain ⟨lvl, rfl, rfl, rfl, wc⟩ := open_int Tryd.underlying3 (hval 2 3 v2 rfl rfl) h2
  have hlt : ∀ x ∈ p0, x.block < W.heap.size := fun x hx => by simpa using hW'.lt x (by simp [hx])
  have hlt1 : ∀ x ∈ p1, x.block < W.heap.size := fun x hx => by simpa using hW'.lt x (by simp [hx])
  obtain ⟨ro, co, bu, cs, a, m, cap, fr, tt, rfl, hcs, hm, ha⟩ := open_yard (hval 0 24 v0 rfl rfl) h0 hw0
  obtain ⟨ap, n, capp, P, rfl, hn, hB, hp⟩ := open_plan (hval 1 35 v1 rfl rfl) h1 hbk
  clear hA0 hval0
  simp only [List.append_nil] at hW'
  refine (judges_any ro co bu cs a m cap fr tt ap n capp P lvl W hcs hm hsd ha hn hB hp).mono fun e W' ⟨he, hb⟩ => ?_
  subst he
  exact ⟨_, rfl, _, _, _, [], p0 ++ (p1 ++ []), [], hW', trodAll_mk1 (shut_bool Tryd.underlying4 true), trodAll_mk3 (Below.trod Tryd.laidOut (by kernel_rfl) (of_decide_eq_true (by kernel_rfl)) h0k hb hlt) (Below.trod Tryd.laidOut (by kernel_rfl) (of_decide_eq_true (by kernel_rfl)) h1k hb hlt1) (shut_int Tryd.underlying3 wc), rfl, hb.frame _, fun h => by cases h⟩

theorem judges_said : Rows.JudgesUptoSaid :=
  OpenClaim.holds_of_cond 6 Tryd.f6 rfl rfl rfl rfl rfl rfl rfl ⟨rfl, rfl, rfl, rfl, rfl⟩ rfl rfl rfl rfl rfl (by kernel_rfl) Tryd.func6 (by kernel_rfl)
    (of_decide_eq_true (by kernel_rfl)) (by unfold Func.isWrapper; rw [if_neg (of_decide_eq_false (by kernel_rfl))]; exact ⟨rfl, rfl⟩)
    (fun os started H enc _ F => by rw [OpenClaim.pre_eq_preRow]; exact judges_lifted os started H enc F)

theorem judges_plain (f : FuncId) (fn : Func) (hf : Tryd.pinned.checked.prog.funcNamed "yard/yardlaw.Judges" = some f) (hfn : Tryd.pinned.checked.prog.funcs[f]? = some fn) :
    false = Tryd.pinned.checked.prog.looks [] ∧ ∀ (j : Nat) t, fn.params[j]? = some t → Tryd.pinned.checked.prog.wantsStandIn t = false := by
  obtain rfl : f = 6 := Option.some.inj ((show Tryd.prog.funcNamed "yard/yardlaw.Judges" = some 6 by kernel_rfl).symm.trans hf) |>.symm
  obtain rfl : fn = Tryd.f6 := (Option.some.inj (Tryd.func6.symm.trans hfn)).symm
  refine ⟨by kernel_rfl, fun j t ht => ?_⟩
  rw [Tryd.params6] at ht
  have hm := Array.mem_of_getElem? ht
  simp only [List.mem_toArray, List.mem_cons, List.not_mem_nil, or_false] at hm
  rcases hm with rfl | rfl | rfl
  · exact (show Tryd.prog.wantsStandIn 24 = false by kernel_rfl)
  · exact (show Tryd.prog.wantsStandIn 35 = false by kernel_rfl)
  · exact (show Tryd.prog.wantsStandIn 3 = false by kernel_rfl)

theorem judges_card : Rows.JudgesUptoCardSaid :=
  Claim7.holds_tied_plain_at .later [] _ _ _ _ judges_said (fun _ h => by cases h) (by kernel_rfl) (fun _ h => by cases h) judgesUpto_row_tie rfl ⟨rfl, rfl⟩ (by kernel_rfl) rfl judges_plain (by kernel_rfl)

end Go.Proofs.YtnkgpinadgacgaaDoor
