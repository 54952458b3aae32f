/- For every yard, every number of a cart, every list of rules and every cost the law Layered answers true, and what was handed in reads afterwards as it did: Layers tells the document's error, or for each moment the cells that the document's paths of that cost pass. No condition but the card's own: the table of the four sides is laid as the program's text lays it. -/
import Derived.Test.YtnkgpinadgacgaaDoorTie
import Derived.Test.YtnkgpinadgacgaaDoorEv
import Derived.Test.YtnkgpinadgacgaaDoorBv
import Derived.Deep.DeepHandedRow
namespace Go.Proofs.YtnkgpinadgacgaaDoor
open Go.ChangeShapes Go.WideShapes Go.ChangeAt Go.RowKit

theorem layered_any (ro co bu : Int) (cs : ByteArray) (a : Option Addr) (m cap : Nat) (fr tt : Nat → Int) (k cost : Int) (ar : Option Addr) (n capr : Nat) (R : Nat → M.RuleM) (w : World) (hs : cs.size ≤ maxLen) (hm : m * 16 ≤ 140737488351232) (hn : n * 32 ≤ 140737488351232) (hsd : SidesIn w)
    (ha : 0 < m → ∃ b off, a = some ⟨b, off, none⟩ ∧ CartsIn w b off m fr tt) (har : RulesAt w ar n R) (hwf : RulesWf n R) :
    Calls Tryd.prog 5 #[.agg #[.int .i64 ro, .int .i64 co, .string cs, .slice a m cap, .int .i64 bu], .int .i64 k, .slice ar n capr, .int .i64 cost] w fun e w' =>
      e = .returned (.bool true) ∧ Below w.heap.size w w' := by
  by_cases he : loneE ro co bu cs m fr tt k n R cost = 0
  · have hc0 : 0 ≤ cost ∧ cost ≤ 60 := by
      unfold loneE at he
      by_cases h1 : (M.checkM ro co cs m fr tt bu).1 = 0
      · rw [if_pos h1] at he
        by_cases h2 : 0 ≤ k ∧ k < m ∧ 0 ≤ cost ∧ cost ≤ 60
        · exact ⟨h2.2.2.1, h2.2.2.2⟩
        · rw [if_neg h2] at he; omega
      · rw [if_neg h1] at he; exact absurd he h1
    rw [loneE_given hc0.1 hc0.2] at he
    obtain ⟨g1, g2, g3, _⟩ := given_side he
    obtain ⟨k', rfl⟩ := Int.eq_ofNat_of_zero_le g2
    obtain ⟨T, rfl⟩ := Int.eq_ofNat_of_zero_le hc0.1
    have hk : k' < m := by omega
    obtain ⟨ff, fc⟩ := (carts_free g1).2 k' hk
    obtain ⟨b, off, rfl, hcs⟩ := ha (by omega)
    have pos : ∀ x : Int, M.freeB cs x = true → 0 ≤ x := fun x hx => by
      by_cases h : 0 ≤ x
      · exact h
      · rw [M.freeB_out (by omega)] at hx; cases hx
    obtain ⟨f, hf⟩ := Int.eq_ofNat_of_zero_le (pos _ ff)
    obtain ⟨c, hc⟩ := Int.eq_ofNat_of_zero_le (pos _ fc)
    exact layered_ok ro co bu cs b off m cap fr tt k' f c T ar n capr R w hm hn hsd (by omega) hcs har hwf he hf hc
  · exact layered_err ro co bu cs a m cap fr tt k cost ar n capr R w hs hm hn ha har he

def layeredArgs : Array Value := #[.agg #[.int .i64 0, .int .i64 0, .string ⟨#[]⟩, .slice none 0 0, .int .i64 0], .int .i64 0, .slice none 0 0, .int .i64 0]

theorem layered_laid (os : Os) : laidMet Tryd.prog Rows.layeredRow.laid ((({ World.holding Tryd.prog os ⟨#[], #[], []⟩ with heap := (World.holding Tryd.prog os ⟨#[], #[], []⟩).heap.modify 0 fun | .cells _ t frozen => .cells sidesV t frozen | o => o } : World)).forCall (fun _ _ => 0) ⟨#[], layeredArgs, []⟩).memory :=
  laidMet_of_run' 8 (by kernel_rfl) (by kernel_rfl)

theorem layered_reads (os : Os) {H : Type} (enc : TypeId × Value → H) : ∃ places, DataW.whole enc Tryd.prog ((({ World.holding Tryd.prog os ⟨#[], #[], []⟩ with heap := (World.holding Tryd.prog os ⟨#[], #[], []⟩).heap.modify 0 fun | .cells _ t frozen => .cells sidesV t frozen | o => o } : World)).forCall (fun _ _ => 0) ⟨#[], layeredArgs, []⟩).memory Tryd.f5.params.toList Rows.layeredSpec.vars false layeredArgs.toList 8 =
    some ([.agg [.lit (.int .i64 0), .lit (.int .i64 0), .lit (.string []), .nil, .lit (.int .i64 0)], .lit (.int .i64 0), .nil, .lit (.int .i64 0)], [], places) :=
  ⟨[], by kernel_rfl⟩

set_option maxRecDepth 100000 in
theorem layered_lifted (os : Os) (started : os.Started) (H : Type) (enc : TypeId × Value → H) (F : Stop.Interp) :
    ReturnsInHanded {} Tryd.checked os 5 .any ((OpenSpec.ofChange Rows.layeredSpec).preRow enc Tryd.prog Tryd.f5 Rows.layeredRow.domain false Rows.layeredRow.laid) (((OpenSpec.ofChange Rows.layeredSpec).at F).post enc Tryd.prog Tryd.f5 false true false false) := by
  obtain ⟨places, hx⟩ := layered_reads os enc
  refine returnsInHanded_of_row (C := Tryd.checked) (s := OpenSpec.ofChange Rows.layeredSpec) Tryd.own started (by kernel_rfl) Tryd.func5
    (witness_row_at (enc := enc) (C := Tryd.checked) false ({ World.holding Tryd.prog os ⟨#[], #[], []⟩ with heap := (World.holding Tryd.prog os ⟨#[], #[], []⟩).heap.modify 0 fun | .cells _ t frozen => .cells sidesV t frozen | o => o } : World) layeredArgs rfl (by kernel_rfl) (by kernel_rfl) (by kernel_rfl)
      (OpenSpec.preRow_of_cond 8 hx (by kernel_rfl) (fun k hk => by cases hk) (by kernel_rfl) (layered_laid os))) ?_
  intro W base args ds gs before hval0 hW _ _ hsz0 hL _ _
  have hval : ∀ (j : Nat) t v, Tryd.f5.params[j]? = some t → args[j]? = some v → Value.okWide Tryd.prog W .any base t v := hval0
  have hsz : (DataW.weightsEach Tryd.prog (Tryd.f5.params.toList ++ Rows.layeredSpec.plain.varTypes Tryd.prog) (ds ++ gs)).all (· ≤ reachBytes) = true := hsz0
  have hsd : SidesIn W := sides_of_laid hL
  have hW' := hW
  obtain ⟨p, q, hA0, hV, rfl, hfz, hnd⟩ := hW
  have hA : DataW.TrodAll enc Tryd.prog W 0 (fun _ => true) true Tryd.f5.params.toList args.toList ds p := hA0
  rw [Tryd.params5] at hA hval hsz
  obtain ⟨v0, v1, v2, v3, d0, d1, d2, d3, p0, p1, p2, p3, hargs, rfl, rfl, h0, h1, h2, h3⟩ := trodAll_four hA
  obtain rfl : args = #[v0, v1, v2, v3] := hargs
  obtain ⟨rfl, rfl⟩ := trodVars_none hV
  have hw0 : (DataW.weights Tryd.prog 24 d0).all (· ≤ reachBytes) = true := by
    refine List.all_eq_true.2 fun x hx => List.all_eq_true.1 hsz x ?_
    exact DataW.weights_mem_each (j := 0) rfl rfl x hx
  have hw2 : (DataW.weights Tryd.prog 38 d2).all (· ≤ reachBytes) = true := by
    refine List.all_eq_true.2 fun x hx => List.all_eq_true.1 hsz x ?_
    exact DataW.weights_mem_each (j := 2) rfl rfl x hx
  have h0k := h0
  have h2k := h2
  obtain ⟨cell, rfl, rfl, rfl, wc⟩ := open_int Tryd.underlying3 (hval 1 3 v1 rfl rfl) h1
  obtain ⟨cost, rfl, rfl, rfl, wt⟩ := open_int Tryd.underlying3 (hval 3 3 v3 rfl rfl) h3
  have hlt : ∀ x ∈ p0, x.block < W.heap.size := fun x hx => by simpa using hW'.lt x (by simp [hx])
  have hlt2 : ∀ x ∈ p2, x.block < W.heap.size := fun x hx => by simpa using hW'.lt x (by simp [hx])
  obtain ⟨ro, co, bu, cs, a, n, cap, fr, tt, rfl, hcs, hn, ha⟩ := open_yard (hval 0 24 v0 rfl rfl) h0 hw0
  obtain ⟨ar, nr, capr, R, rfl, hnr, hwf, har⟩ := open_rules (hval 2 38 v2 rfl rfl) h2 hw2
  clear hA0 hval0
  simp only [List.append_nil] at hW'
  refine (layered_any ro co bu cs a n cap fr tt cell cost ar nr capr R W hcs hn hnr hsd ha har hwf).mono fun e W' ⟨he, hb⟩ => ?_
  subst he
  have ht := trodAll_mk4 (Below.trod Tryd.laidOut (by kernel_rfl) (of_decide_eq_true (by kernel_rfl)) h0k hb hlt) (shut_int (enc := enc) (P := Tryd.prog) (w := W') (base := 0) (spare := fun b => decide (b < W.heap.size)) (held := true) Tryd.underlying3 wc) (Below.trod Tryd.laidOut (by kernel_rfl) (of_decide_eq_true (by kernel_rfl)) h2k hb hlt2) (shut_int (enc := enc) (P := Tryd.prog) (w := W') (base := 0) (spare := fun b => decide (b < W.heap.size)) (held := true) Tryd.underlying3 wt)
  simp only [List.append_nil, List.nil_append] at ht
  exact ⟨_, rfl, _, _, _, [], p0 ++ p2, [], hW', trodAll_mk1 (shut_bool Tryd.underlying4 true), ht, rfl, hb.frame _, fun h => by cases h⟩

theorem layered_said : Rows.LayeredSaid :=
  OpenClaim.holds_of_cond 5 Tryd.f5 rfl rfl rfl rfl rfl rfl rfl ⟨rfl, rfl, rfl, rfl, rfl⟩ rfl rfl rfl rfl rfl (by kernel_rfl) Tryd.func5 (by kernel_rfl)
    (of_decide_eq_true (by kernel_rfl)) (by unfold Func.isWrapper; rw [if_neg (of_decide_eq_false (by kernel_rfl))]; exact ⟨rfl, rfl⟩)
    (fun os started H enc _ F => by rw [OpenClaim.pre_eq_preRow]; exact layered_lifted os started H enc F)

theorem layered_plain (f : FuncId) (fn : Func) (hf : Tryd.pinned.checked.prog.funcNamed "yard/yardlaw.Layered" = some f) (hfn : Tryd.pinned.checked.prog.funcs[f]? = some fn) :
    false = Tryd.pinned.checked.prog.looks [] ∧ ∀ (j : Nat) t, fn.params[j]? = some t → Tryd.pinned.checked.prog.wantsStandIn t = false := by
  obtain rfl : f = 5 := Option.some.inj ((show Tryd.prog.funcNamed "yard/yardlaw.Layered" = some 5 by kernel_rfl).symm.trans hf) |>.symm
  obtain rfl : fn = Tryd.f5 := (Option.some.inj (Tryd.func5.symm.trans hfn)).symm
  refine ⟨by kernel_rfl, fun j t ht => ?_⟩
  rw [Tryd.params5] at ht
  have hm := Array.mem_of_getElem? ht
  simp only [List.mem_toArray, List.mem_cons, List.not_mem_nil, or_false] at hm
  rcases hm with rfl | rfl | rfl | rfl
  · exact (show Tryd.prog.wantsStandIn 24 = false by kernel_rfl)
  · exact (show Tryd.prog.wantsStandIn 3 = false by kernel_rfl)
  · exact (show Tryd.prog.wantsStandIn 38 = false by kernel_rfl)
  · exact (show Tryd.prog.wantsStandIn 3 = false by kernel_rfl)

theorem layered_card : Rows.LayeredCardSaid :=
  Claim7.holds_tied_plain_at .later [] _ _ _ _ layered_said (fun _ h => by cases h) (by kernel_rfl) (fun _ h => by cases h) layered_row_tie rfl ⟨rfl, rfl⟩ (by kernel_rfl) rfl layered_plain (by kernel_rfl)

end Go.Proofs.YtnkgpinadgacgaaDoor
