/- For every list of texts and every list of numbers, all together of bulk at most 1048576, the law Asks answers true, and what was handed in reads afterwards as it did: each answer of each session is what the document says of its request, and what was asked before is answered the same. Its other conditions are the card's own: the three tables of the library and the table of the four sides are laid as the texts lay them. -/
import Derived.Test.YtnkgpinadgacgaaGreatDoorTie
import Derived.Test.YtnkgpinadgacgaaGreatDoorQzy
import Derived.Deep.Strs
import Derived.Test.YtnkgpinadgacgaaGreatDoorQzz
import Derived.Deep.DeepHandedRow
set_option maxRecDepth 1000000
namespace Go.Proofs.YtnkgpinadgacgaaGreatDoor
section
open Go.ChangeShapes Go.WideShapes Go.ChangeAt Go.RowKit Go.Deep Go.Joins
theorem Tryz.ownZ : ownKnob Tryz.prog.godebug = none := by kernel_rfl
theorem Tryz.laidOutZ : laidOutB Tryz.prog = true := by kernel_rfl
theorem Tryz.cellsIntZ : Tryz.prog.cellsOf 3 = 1 := by kernel_rfl
noncomputable def litsV : DataW Unit -> Array Value
 | .agg l => (l.map fun | .lit (.int k z) => Value.int k z | _ => undef).toArray
 | _ => #[]
noncomputable def setV (w : World) (g : Nat) (v : Array Value) : World := { w with heap := w.heap.modify g fun | .cells _ t frozen => .cells v t frozen | o => o }
noncomputable def tabW (os : Os) : World := setV (setV (setV (setV (World.holding Tryz.prog os ⟨#[], #[], []⟩) 0 (litsV Rows.laid_internal_strconv_uint64pow10)) 2 (litsV Rows.laid_math_bits_deBruijn32tab)) 3 (litsV Rows.laid_math_bits_deBruijn64tab)) 1 sidesV
theorem Tryz.gPow : Tryz.prog.globalNamed "internal/strconv.uint64pow10" = some 0 := by kernel_rfl
theorem Tryz.gPowType : (Tryz.prog.globals[0]?).map (·.type) = some 178 := by kernel_rfl
theorem Tryz.cellsPow : Tryz.prog.cellsOf 178 = 20 := by kernel_rfl
theorem Tryz.cellsU64 : Tryz.prog.cellsOf 169 = 1 := by kernel_rfl
theorem tabs_of_laid {W : World} {n1 n2 : String} {d1 d2 : DataW Unit} (h : laidMet Tryz.prog [(n1, d1), (n2, d2), ("internal/strconv.uint64pow10", Rows.laid_internal_strconv_uint64pow10), ("yard/grid.sides", Rows.laid_yard_grid_sides)] W) : Lib.TabIs Tryz.prog W "internal/strconv.uint64pow10" .u64 Lib.pow10Tab ∧ SidesIn W := by
 obtain ⟨ps, ⟨_, _, _, _, _, q1, _, _, _, _, ⟨_, _, _, _, _, q2, _, _, _, _, ⟨g', t', cs, fuel, p, q, hg', ht', hvar, hd, hrest, e3⟩, e2⟩, e1⟩, hnd, hall⟩ := h; obtain rfl := Option.some.inj (Tryz.gPow.symm.trans hg'); obtain rfl := Option.some.inj (Tryz.gPowType.symm.trans ht'); have hd' : DataW.trod (fun _ => ()) Tryz.prog W 0 (fun _ => true) false fuel 178 cs.toList = some (Lib.tabData .u64 Lib.pow10Tab, p) := hd; refine ⟨?_, ?_⟩
 . unfold Lib.TabIs; rw [hvar, <- Lib.cells_of_tab Tryz.underlying178 Tryz.underlying169 Tryz.cellsU64 Tryz.cellsPow hd']
 . have hsub : ∀ x ∈ q, x ∈ ps := fun x hx => by
    rw [e1, e2, e3]; simp [hx]
   have hndq : q.Nodup := by
    rw [e1, e2, e3] at hnd; exact (List.nodup_append.1 (List.nodup_append.1 (List.nodup_append.1 hnd).2.1).2.1).2.1
   exact sides_of_laid ⟨q, hrest, hndq, fun b off hb => hall b off (hsub _ hb)⟩
theorem open_textsB {H : Type} {enc : TypeId × Value -> H} {W : World} {r : Reach} {b0 : Nat} {v : Value} {d : DataW H} {p : List MemPlace}
 (hv : Value.okWide Tryz.prog W r b0 22 v) (h : DataW.Trod enc Tryz.prog W 0 (fun _ => true) true 22 v d p) (hk : Rows.uptoBulk d <= 1048576) :
 ∃ (a : Option Addr) (n cap : Nat) (S : Nat -> ByteArray), v = .slice a n cap ∧ n <= 1048576 ∧ (∀ i, i < n -> (S i).size <= 1048576) ∧ StrsW W a n S := by
 obtain ⟨a0, len, cap, rfl⟩ := okWide_slice Tryz.underlying22 hv; obtain ⟨fuel, hf⟩ := h; rcases open_strs Tryz.underlying22 Tryz.underlying9 Tryz.cellsString hf with ⟨e, _⟩ | ⟨a, len', cap', m, Sx, e, _, hl, hm, hmm, hxe, hall⟩
 . simp [Value.cells] at e
   obtain ⟨rfl, rfl, rfl⟩ := e; exact ⟨none, 0, 0, fun _ => ⟨#[]⟩, rfl, Nat.zero_le _, fun _ h => absurd h (Nat.not_lt_zero _), fun h => absurd h (Nat.lt_irrefl 0)⟩
 . simp [Value.cells] at e
   obtain ⟨rfl, rfl, rfl⟩ := e; simp only [Prod.mk.injEq] at hxe; rw [hxe.1] at hk; simp only [Rows.uptoBulk] at hk; simp only [ite_true] at hmm; subst hmm; have hn : len <= 1048576 := by
    have h1 := bulk_len ((List.range len).map fun i => (DataW.lit (.string (Sx i).data.toList) : DataW H)); rw [List.length_map, List.length_range] at h1; omega
   refine ⟨some a, len, m, Sx, rfl, hn, fun i hi => ?_, fun hpos => ?_⟩
   . have hmem : (DataW.lit (.string (Sx i).data.toList) : DataW H) ∈ (List.range len).map fun i => (DataW.lit (.string (Sx i).data.toList) : DataW H) := List.mem_map.2 ⟨i, List.mem_range.2 hi, rfl⟩
     have h1 := bulk_part hmem; simp only [Rows.uptoBulk] at h1; have h2 := Lib.size_eq (Sx i); omega
   . obtain ⟨b, off, spot⟩ := a; have hc0 := (hall 0 (by omega)).1; simp only [Addr.add] at hc0; have hspot := World.cell?_spot hc0; subst hspot; refine ⟨b, off, rfl, fun i hi => ?_⟩; have h1 := (hall i (by omega)).1; rw [add_plain] at h1; exact h1
theorem open_intsU {H : Type} {enc : TypeId × Value -> H} {W : World} {r : Reach} {b0 : Nat} {v : Value} {d : DataW H} {p : List MemPlace}
 (hv : Value.okWide Tryz.prog W r b0 23 v) (h : DataW.Trod enc Tryz.prog W 0 (fun _ => true) true 23 v d p) (hk : Rows.uptoBulk d <= 1048576) :
 ∃ (a : Option Addr) (n cap : Nat) (x : Nat -> Int), v = .slice a n cap ∧ n <= 1048576 ∧ (∀ i, i < n -> -9223372036854775808 <= x i ∧ x i <= 9223372036854775807) ∧ (0 < n -> ∃ b off, a = some ⟨b, off, none⟩ ∧ ∀ i, i < n -> W.cell? ⟨b, off + i, none⟩ = some (.int .i64 (x i))) := by
 obtain ⟨a0, len, cap, rfl⟩ := okWide_slice Tryz.underlying23 hv; obtain ⟨fuel, hf⟩ := h; rcases Go.ChangeShapes.open_ints Tryz.underlying23 Tryz.underlying3 Tryz.cellsIntZ hf with ⟨e, _⟩ | ⟨a, len', cap', zs, e, _, hl, hm, hzl, hxe, hall, hwf⟩
 . simp [Value.cells] at e
   obtain ⟨rfl, rfl, rfl⟩ := e; exact ⟨none, 0, 0, fun _ => 0, rfl, Nat.zero_le _, fun _ h => absurd h (Nat.not_lt_zero _), fun h => absurd h (Nat.lt_irrefl 0)⟩
 . simp [Value.cells] at e
   obtain ⟨rfl, rfl, rfl⟩ := e; simp only [Prod.mk.injEq] at hxe; rw [hxe.1] at hk; simp only [Rows.uptoBulk] at hk; simp only [ite_true] at hzl; have hn : len <= 1048576 := by
    have h1 := bulk_len (H := H) (lits .i64 (zs.take len)); have h2 : (lits (H := H) .i64 (zs.take len)).length = len := by simp [lits]; omega
    omega
   refine ⟨some a, len, cap, fun i => zs.getD i 0, rfl, hn, fun i hi => ?_, fun hpos => ?_⟩
   . have hi2 : i < zs.length := by omega
     have h1 := hwf (zs.getD i 0) (by rw [zg, List.getElem?_eq_getElem hi2]; exact List.getElem_mem hi2); have h1b : (decide (IntKind.i64.min <= zs.getD i 0) && decide (zs.getD i 0 <= IntKind.i64.max)) = true := h1; simp only [Bool.and_eq_true, decide_eq_true_eq] at h1b; obtain ⟨h2, h3⟩ := h1b; have h4 : IntKind.i64.min = -9223372036854775808 := by rfl
     have h5 : IntKind.i64.max = 9223372036854775807 := by rfl
     exact ⟨by rw [<- h4]; exact h2, by rw [<- h5]; exact h3⟩
   . obtain ⟨b, off, spot⟩ := a; have hc0 := hall 0 (by omega); simp only [Addr.add] at hc0; have hspot := World.cell?_spot hc0; subst hspot; refine ⟨b, off, rfl, fun i hi => ?_⟩; have h1 := hall i (by omega); rw [add_plain] at h1; exact h1
def asksArgs : Array Value := #[.slice none 0 0, .slice none 0 0]
theorem asks_laid (os : Os) : laidMet Tryz.prog Rows.asksUptoRow.laid (((tabW os)).forCall (fun _ _ => 0) ⟨#[], asksArgs, []⟩).memory :=
 laidMet_of_run' 8 (by kernel_rfl) (by kernel_rfl)
theorem asks_reads (os : Os) {H : Type} (enc : TypeId × Value -> H) : ∃ places, DataW.whole enc Tryz.prog (((tabW os)).forCall (fun _ _ => 0) ⟨#[], asksArgs, []⟩).memory Tryz.f3.params.toList Rows.asksSpec.vars false asksArgs.toList 8 =
 some ([.nil, .nil], [], places) :=
 ⟨[], by kernel_rfl⟩
theorem asks_lifted (os : Os) (started : os.Started) (H : Type) (enc : TypeId × Value -> H) (F : Stop.Interp) :
 ReturnsInHanded {} Tryz.checked os 3 .any ((Rows.OpenSpec.upto Rows.asksSpec).preRow enc Tryz.prog Tryz.f3 Rows.asksUptoRow.domain false Rows.asksUptoRow.laid) (((Rows.OpenSpec.upto Rows.asksSpec).at F).post enc Tryz.prog Tryz.f3 false true false false) := by
 obtain ⟨places, hx⟩ := asks_reads os enc; refine returnsInHanded_of_row (C := Tryz.checked) (s := Rows.OpenSpec.upto Rows.asksSpec) Tryz.ownZ started (by kernel_rfl) Tryz.func3
  (witness_row_at (enc := enc) (C := Tryz.checked) false (tabW os) asksArgs rfl (by kernel_rfl) (by kernel_rfl) (by kernel_rfl)
   (OpenSpec.preRow_of_cond 8 hx (by kernel_rfl) (fun k hk => by cases hk; kernel_rfl) (by kernel_rfl) (asks_laid os))) ?_
 intro W base args ds gs before hval0 hW _ hcond hsz0 hL _ _; have hval : ∀ (j : Nat) t v, Tryz.f3.params[j]? = some t -> args[j]? = some v -> Value.okWide Tryz.prog W .any base t v := hval0; have hsz : (DataW.weightsEach Tryz.prog (Tryz.f3.params.toList ++ Rows.asksSpec.plain.varTypes Tryz.prog) (ds ++ gs)).all (· <= reachBytes) = true := hsz0; obtain ⟨hT, hsd⟩ := tabs_of_laid hL; have hsmall : Rows.uptoSmall H (ds ++ gs) = true := hcond _ rfl; have hW' := hW; obtain ⟨p, q, hA0, hV, rfl, hfz, hnd⟩ := hW
 have hA : DataW.TrodAll enc Tryz.prog W 0 (fun _ => true) true Tryz.f3.params.toList args.toList ds p := hA0; rw [Tryz.params3] at hA hval hsz; obtain ⟨v0, v1, d0, d1, p0, p1, hargs, rfl, rfl, h0, h1⟩ := trodAll_two hA; obtain rfl : args = #[v0, v1] := by cases args; simp_all
 obtain ⟨rfl, rfl⟩ := trodVars_none hV; have hall : Rows.uptoBulkAll ([d0, d1] ++ []) <= 1048576 := of_decide_eq_true hsmall; have hbk0 : Rows.uptoBulk d0 <= 1048576 := by
  have h2 := bulk_part (d := d0) (l := [d0, d1] ++ []) (by simp); omega
 have hbk1 : Rows.uptoBulk d1 <= 1048576 := by
  have h2 := bulk_part (d := d1) (l := [d0, d1] ++ []) (by simp); omega
 have h0k := h0; have h1k := h1; have hlt0 : ∀ x ∈ p0, x.block < W.heap.size := fun x hx => hW'.lt x (by simp [hx])
 have hlt1 : ∀ x ∈ p1, x.block < W.heap.size := fun x hx => hW'.lt x (by simp [hx])
 obtain ⟨ap, ns, cps, S, rfl, hns, hS, hst⟩ := open_textsB (hval 0 22 v0 rfl rfl) h0 hbk0; obtain ⟨aw, nt, cpt, x, rfl, hnt, hx, hxc⟩ := open_intsU (hval 1 23 v1 rfl rfl) h1 hbk1; clear hA0 hval0; simp only [List.append_nil] at hW'; refine (asks_any ap aw ns cps nt cpt S x W hns hnt hS hT hsd hst hx hxc).mono fun e W' ⟨he, hb⟩ => ?_
 subst he; exact ⟨_, rfl, _, _, _, [], p0 ++ p1, [], hW', trodAll_mk1 (shut_bool Tryz.underlying4 true), trodAll_mk2 (Below.trod Tryz.laidOutZ (by kernel_rfl) (of_decide_eq_true (by kernel_rfl)) h0k hb hlt0) (Below.trod Tryz.laidOutZ (by kernel_rfl) (of_decide_eq_true (by kernel_rfl)) h1k hb hlt1), rfl, hb.frame _, fun h => by cases h⟩
theorem asks_said : Rows.AsksUptoSaid :=
 OpenClaim.holds_of_cond 3 Tryz.f3 rfl rfl rfl rfl rfl rfl rfl ⟨rfl, rfl, rfl, rfl, rfl⟩ rfl rfl rfl rfl rfl (by kernel_rfl) Tryz.func3 (by kernel_rfl)
  (of_decide_eq_true (by kernel_rfl)) (by unfold Func.isWrapper; rw [if_neg (of_decide_eq_false (by kernel_rfl))]; exact ⟨rfl, rfl⟩)
  (fun os started H enc _ F => by rw [OpenClaim.pre_eq_preRow]; exact asks_lifted os started H enc F)
theorem asks_plain (f : FuncId) (fn : Func) (hf : Tryz.pinned.checked.prog.funcNamed "yard/yardlaw.Asks" = some f) (hfn : Tryz.pinned.checked.prog.funcs[f]? = some fn) :
 false = Tryz.pinned.checked.prog.looks [] ∧ ∀ (j : Nat) t, fn.params[j]? = some t -> Tryz.pinned.checked.prog.wantsStandIn t = false := by
 obtain rfl : f = 3 := Option.some.inj ((show Tryz.prog.funcNamed "yard/yardlaw.Asks" = some 3 by kernel_rfl).symm.trans hf) |>.symm; obtain rfl : fn = Tryz.f3 := (Option.some.inj (Tryz.func3.symm.trans hfn)).symm; refine ⟨by kernel_rfl, fun j t ht => ?_⟩; rw [Tryz.params3] at ht; have hm := Array.mem_of_getElem? ht; simp only [List.mem_toArray, List.mem_cons, List.not_mem_nil, or_false] at hm; rcases hm with rfl | rfl
 . exact (show Tryz.prog.wantsStandIn 22 = false by kernel_rfl)
 . exact (show Tryz.prog.wantsStandIn 23 = false by kernel_rfl)
theorem asks_card : Rows.AsksUptoCardSaid :=
 Claim7.holds_tied_plain_at .later [] _ _ _ _ asks_said (fun _ h => by cases h) (by kernel_rfl) (fun _ h => by cases h) asksUpto_row_tie rfl ⟨rfl, rfl⟩ (by kernel_rfl) rfl asks_plain (by kernel_rfl)
end
end Go.Proofs.YtnkgpinadgacgaaGreatDoor
