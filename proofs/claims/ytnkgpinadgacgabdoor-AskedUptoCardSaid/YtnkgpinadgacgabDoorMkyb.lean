/- For every list of texts and every raw yard, all together of bulk at most 1048576, the law Asked answers true, and what was handed in reads afterwards as it did. Its other conditions are the card's own: the three tables of the library and the table of the four sides are laid as the texts lay them. -/
import Derived.Test.YtnkgpinadgacgabDoorTie
import Derived.Test.YtnkgpinadgacgabDoorMkya
import Derived.Deep.Strs
import Derived.Test.YtnkgpinadgacgabDoorMkm
import Derived.Deep.DeepHandedRow
namespace Go.Proofs.YtnkgpinadgacgabDoor
open Go.ChangeShapes Go.WideShapes Go.ChangeAt Go.RowKit Go.Deep Go.Joins

/-- A table's cells, of its datum. -/
noncomputable def litsV : DataW Unit → Array Value
  | .agg l => (l.map fun | .lit (.int k z) => Value.int k z | _ => undef).toArray
  | _ => #[]

noncomputable def setV (w : World) (g : Nat) (v : Array Value) : World := { w with heap := w.heap.modify g fun | .cells _ t frozen => .cells v t frozen | o => o }

/-- A world in which the four tables lie. -/
noncomputable def tabW (os : Os) : World := setV (setV (setV (setV (World.holding Tryd.prog os ⟨#[], #[], []⟩) 1 (litsV Rows.laid_internal_strconv_uint64pow10)) 2 (litsV Rows.laid_math_bits_deBruijn32tab)) 3 (litsV Rows.laid_math_bits_deBruijn64tab)) 0 sidesV

theorem Tryd.gPow : Tryd.prog.globalNamed "internal/strconv.uint64pow10" = some 1 := by kernel_rfl
theorem Tryd.gPowType : (Tryd.prog.globals[1]?).map (·.type) = some 186 := by kernel_rfl
theorem Tryd.cellsPow : Tryd.prog.cellsOf 186 = 20 := by kernel_rfl
theorem Tryd.cellsU64 : Tryd.prog.cellsOf 179 = 1 := by kernel_rfl

theorem tabs_of_laid {W : World} {n1 n2 : String} {d1 d2 : DataW Unit} (h : laidMet Tryd.prog [(n1, d1), (n2, d2), ("internal/strconv.uint64pow10", Rows.laid_internal_strconv_uint64pow10), ("yard/grid.sides", Rows.laid_yard_grid_sides)] W) : Lib.TabIs Tryd.prog W "internal/strconv.uint64pow10" .u64 Lib.pow10Tab ∧ SidesIn W := by
  obtain ⟨ps, ⟨_, _, _, _, _, q1, _, _, _, _, ⟨_, _, _, _, _, q2, _, _, _, _, ⟨g', t', cs, fuel, p, q, hg', ht', hvar, hd, hrest, e3⟩, e2⟩, e1⟩, hnd, hall⟩ := h
  obtain rfl := Option.some.inj (Tryd.gPow.symm.trans hg')
  obtain rfl := Option.some.inj (Tryd.gPowType.symm.trans ht')
  have hd' : DataW.trod (fun _ => ()) Tryd.prog W 0 (fun _ => true) false fuel 186 cs.toList = some (Lib.tabData .u64 Lib.pow10Tab, p) := hd
  refine ⟨?_, ?_⟩
  · unfold Lib.TabIs
    rw [hvar, ← Lib.cells_of_tab Tryd.underlying186 Tryd.underlying179 Tryd.cellsU64 Tryd.cellsPow hd']
  · have hsub : ∀ x ∈ q, x ∈ ps := fun x hx => by
      rw [e1, e2, e3]
      simp [hx]
    have hndq : q.Nodup := by
      rw [e1, e2, e3] at hnd
      exact (List.nodup_append.1 (List.nodup_append.1 (List.nodup_append.1 hnd).2.1).2.1).2.1
    exact sides_of_laid ⟨q, hrest, hndq, fun b off hb => hall b off (hsub _ hb)⟩

set_option maxRecDepth 100000 in
/-- Texts that came in, opened; how long they may be. -/
theorem open_textsB {H : Type} {enc : TypeId × Value → H} {W : World} {r : Reach} {b0 : Nat} {v : Value} {d : DataW H} {p : List MemPlace}
    (hv : Value.okWide Tryd.prog W r b0 25 v) (h : DataW.Trod enc Tryd.prog W 0 (fun _ => true) true 25 v d p) (hk : Rows.uptoBulk d ≤ 1048576) :
    ∃ (a : Option Addr) (n cap : Nat) (S : Nat → ByteArray), v = .slice a n cap ∧ n ≤ 1048576 ∧ (∀ i, i < n → (S i).size ≤ 1048576) ∧ StrsIn W a n S := by
  obtain ⟨a0, len, cap, rfl⟩ := okWide_slice Tryd.underlying25 hv
  obtain ⟨fuel, hf⟩ := h
  rcases open_strs Tryd.underlying25 Tryd.underlying9 Tryd.cellsString hf with ⟨e, _⟩ | ⟨a, len', cap', m, Sx, e, _, hl, hm, hmm, hxe, hall⟩
  · simp [Value.cells] at e
    obtain ⟨rfl, rfl, rfl⟩ := e
    exact ⟨none, 0, 0, fun _ => ⟨#[]⟩, rfl, Nat.zero_le _, fun _ h => absurd h (Nat.not_lt_zero _), fun h => absurd h (Nat.lt_irrefl 0)⟩
  · simp [Value.cells] at e
    obtain ⟨rfl, rfl, rfl⟩ := e
    simp only [Prod.mk.injEq] at hxe
    rw [hxe.1] at hk
    simp only [Rows.uptoBulk] at hk
    simp only [ite_true] at hmm
    subst hmm
    have hn : len ≤ 1048576 := by
      have h1 := bulk_len ((List.range len).map fun i => (DataW.lit (.string (Sx i).data.toList) : DataW H))
      rw [List.length_map, List.length_range] at h1
      omega
    refine ⟨some a, len, m, Sx, rfl, hn, fun i hi => ?_, fun hpos => ?_⟩
    · have hmem : (DataW.lit (.string (Sx i).data.toList) : DataW H) ∈ (List.range len).map fun i => (DataW.lit (.string (Sx i).data.toList) : DataW H) := List.mem_map.2 ⟨i, List.mem_range.2 hi, rfl⟩
      have h1 := bulk_part hmem
      simp only [Rows.uptoBulk] at h1
      have h2 := Lib.size_eq (Sx i)
      omega
    · obtain ⟨b, off, spot⟩ := a
      have hc0 := (hall 0 (by omega)).1
      simp only [Addr.add] at hc0
      have hspot := World.cell?_spot hc0
      subst hspot
      refine ⟨b, off, rfl, fun i hi => ?_⟩
      have h1 := (hall i (by omega)).1
      rw [add_plain] at h1
      exact h1

def askedArgs : Array Value := #[.slice none 0 0, .agg #[.int .i64 0, .int .i64 0, .string ⟨#[]⟩, .slice none 0 0, .int .i64 0]]

theorem asked_laid (os : Os) : laidMet Tryd.prog Rows.askedUptoRow.laid (((tabW os)).forCall (fun _ _ => 0) ⟨#[], askedArgs, []⟩).memory :=
  laidMet_of_run' 8 (by kernel_rfl) (by kernel_rfl)

theorem asked_reads (os : Os) {H : Type} (enc : TypeId × Value → H) : ∃ places, DataW.whole enc Tryd.prog (((tabW os)).forCall (fun _ _ => 0) ⟨#[], askedArgs, []⟩).memory Tryd.f9.params.toList Rows.askedSpec.vars false askedArgs.toList 8 =
    some ([.nil, .agg [.lit (.int .i64 0), .lit (.int .i64 0), .lit (.string []), .nil, .lit (.int .i64 0)]], [], places) :=
  ⟨[], by kernel_rfl⟩

set_option maxRecDepth 100000 in
theorem asked_lifted (os : Os) (started : os.Started) (H : Type) (enc : TypeId × Value → H) (F : Stop.Interp) :
    ReturnsInHanded {} Tryd.checked os 9 .any ((Rows.OpenSpec.upto Rows.askedSpec).preRow enc Tryd.prog Tryd.f9 Rows.askedUptoRow.domain false Rows.askedUptoRow.laid) (((Rows.OpenSpec.upto Rows.askedSpec).at F).post enc Tryd.prog Tryd.f9 false true false false) := by
  obtain ⟨places, hx⟩ := asked_reads os enc
  refine returnsInHanded_of_row (C := Tryd.checked) (s := Rows.OpenSpec.upto Rows.askedSpec) Tryd.own started (by kernel_rfl) Tryd.func9
    (witness_row_at (enc := enc) (C := Tryd.checked) false (tabW os) askedArgs rfl (by kernel_rfl) (by kernel_rfl) (by kernel_rfl)
      (OpenSpec.preRow_of_cond 8 hx (by kernel_rfl) (fun k hk => by cases hk; kernel_rfl) (by kernel_rfl) (asked_laid os))) ?_
  intro W base args ds gs before hval0 hW _ hcond hsz0 hL _ _
  have hval : ∀ (j : Nat) t v, Tryd.f9.params[j]? = some t → args[j]? = some v → Value.okWide Tryd.prog W .any base t v := hval0
  have hsz : (DataW.weightsEach Tryd.prog (Tryd.f9.params.toList ++ Rows.askedSpec.plain.varTypes Tryd.prog) (ds ++ gs)).all (· ≤ reachBytes) = true := hsz0
  obtain ⟨hT, hsd⟩ := tabs_of_laid hL
  have hsmall : Rows.uptoSmall H (ds ++ gs) = true := hcond _ rfl
  have hW' := hW
  obtain ⟨p, q, hA0, hV, rfl, hfz, hnd⟩ := hW
  have hA : DataW.TrodAll enc Tryd.prog W 0 (fun _ => true) true Tryd.f9.params.toList args.toList ds p := hA0
  rw [Tryd.params9] at hA hval hsz
  obtain ⟨v0, v1, d0, d1, p0, p1, hargs, rfl, rfl, h0, h1⟩ := trodAll_two hA
  obtain rfl : args = #[v0, v1] := by cases args; simp_all
  obtain ⟨rfl, rfl⟩ := trodVars_none hV
  have hw1 : (DataW.weights Tryd.prog 24 d1).all (· ≤ reachBytes) = true := by
    refine List.all_eq_true.2 fun x hx => List.all_eq_true.1 hsz x ?_
    exact DataW.weights_mem_each (j := 1) rfl rfl x hx
  have hbk : Rows.uptoBulk d0 ≤ 1048576 := by
    have h : Rows.uptoBulkAll ([d0, d1] ++ []) ≤ 1048576 := of_decide_eq_true hsmall
    have h2 := bulk_part (d := d0) (l := [d0, d1] ++ []) (by simp)
    omega
  have h0k := h0
  have h1k := h1
  have hlt0 : ∀ x ∈ p0, x.block < W.heap.size := fun x hx => hW'.lt x (by simp [hx])
  have hlt1 : ∀ x ∈ p1, x.block < W.heap.size := fun x hx => hW'.lt x (by simp [hx])
  obtain ⟨ap, ns, cps, S, rfl, hns, hS, hst⟩ := open_textsB (hval 0 25 v0 rfl rfl) h0 hbk
  obtain ⟨rr, rc, rb, s, a, n, cap, x, rfl, hcs, hn, w0, w1, w4, hxx⟩ := open_raw (hval 1 24 v1 rfl rfl) h1 hw1
  clear hA0 hval0
  simp only [List.append_nil] at hW'
  refine (asked_any shapes rr rc rb s a n cap x ap ns cps S W hcs hn hns hS hT hsd w0 w1 w4 hxx hst).mono fun e W' ⟨he, hb⟩ => ?_
  subst he
  exact ⟨_, rfl, _, _, _, [], p0 ++ p1, [], hW', trodAll_mk1 (shut_bool Tryd.underlying4 true), trodAll_mk2 (Below.trod Tryd.laidOut (by kernel_rfl) (of_decide_eq_true (by kernel_rfl)) h0k hb hlt0) (Below.trod Tryd.laidOut (by kernel_rfl) (of_decide_eq_true (by kernel_rfl)) h1k hb hlt1), rfl, hb.frame _, fun h => by cases h⟩

theorem asked_said : Rows.AskedUptoSaid :=
  OpenClaim.holds_of_cond 9 Tryd.f9 rfl rfl rfl rfl rfl rfl rfl ⟨rfl, rfl, rfl, rfl, rfl⟩ rfl rfl rfl rfl rfl (by kernel_rfl) Tryd.func9 (by kernel_rfl)
    (of_decide_eq_true (by kernel_rfl)) (by unfold Func.isWrapper; rw [if_neg (of_decide_eq_false (by kernel_rfl))]; exact ⟨rfl, rfl⟩)
    (fun os started H enc _ F => by rw [OpenClaim.pre_eq_preRow]; exact asked_lifted os started H enc F)

theorem asked_plain (f : FuncId) (fn : Func) (hf : Tryd.pinned.checked.prog.funcNamed "yard/yardkeep.Asked" = some f) (hfn : Tryd.pinned.checked.prog.funcs[f]? = some fn) :
    false = Tryd.pinned.checked.prog.looks [] ∧ ∀ (j : Nat) t, fn.params[j]? = some t → Tryd.pinned.checked.prog.wantsStandIn t = false := by
  obtain rfl : f = 9 := Option.some.inj ((show Tryd.prog.funcNamed "yard/yardkeep.Asked" = some 9 by kernel_rfl).symm.trans hf) |>.symm
  obtain rfl : fn = Tryd.f9 := (Option.some.inj (Tryd.func9.symm.trans hfn)).symm
  refine ⟨by kernel_rfl, fun j t ht => ?_⟩
  rw [Tryd.params9] at ht
  have hm := Array.mem_of_getElem? ht
  simp only [List.mem_toArray, List.mem_cons, List.not_mem_nil, or_false] at hm
  rcases hm with rfl | rfl
  · exact (show Tryd.prog.wantsStandIn 25 = false by kernel_rfl)
  · exact (show Tryd.prog.wantsStandIn 24 = false by kernel_rfl)

theorem asked_card : Rows.AskedUptoCardSaid :=
  Claim7.holds_tied_plain_at .later [] _ _ _ _ asked_said (fun _ h => by cases h) (by kernel_rfl) (fun _ h => by cases h) askedUpto_row_tie rfl ⟨rfl, rfl⟩ (by kernel_rfl) rfl asked_plain (by kernel_rfl)

end Go.Proofs.YtnkgpinadgacgabDoor
