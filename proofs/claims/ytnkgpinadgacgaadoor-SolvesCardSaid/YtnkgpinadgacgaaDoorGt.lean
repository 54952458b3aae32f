/- What the search has seen: a map from states to what is known of them, as a plain function. -/
import Derived.Test.YtnkgpinadgacgaaDoorQi
import Derived.Test.YtnkgpinadgacgaaDoorQl
namespace Go.Proofs.YtnkgpinadgacgaaDoor
open Go.RowKit Go.Maps M SM
/-- The cells of a state, and of what is known of one. -/
def stL (x : St) : List Value := [.int .u8 (x.1.getD 0 0 : Nat), .int .u8 (x.1.getD 1 0 : Nat), .int .u8 (x.1.getD 2 0 : Nat), .int .u8 (x.1.getD 3 0 : Nat), .bool (x.2.getD 0 false), .bool (x.2.getD 1 false), .bool (x.2.getD 2 false), .bool (x.2.getD 3 false)]

def fdL (v : Nat × St) : List Value := .int .i64 (v.1 : Nat) :: stL v.2

theorem stL_len (x : St) : (stL x).length = 8 := rfl

theorem fdL_len (v : Nat × St) : (fdL v).length = 9 := rfl

theorem stV_is (x : St) : stV x.1 x.2 = .agg (stL x).toArray := rfl

theorem stL_one (x : St) : ∀ v ∈ stL x, v.oneCell' = true := by
  intro v hv
  unfold stL at hv
  simp only [List.mem_cons, List.not_mem_nil, or_false] at hv
  rcases hv with rfl | rfl | rfl | rfl | rfl | rfl | rfl | rfl <;> rfl

theorem fdL_one (x : Nat × St) : ∀ v ∈ fdL x, v.oneCell' = true := by
  intro v hv
  unfold fdL at hv
  rcases List.mem_cons.1 hv with rfl | h
  · rfl
  · exact stL_one _ v h

theorem Tryd.sizeState : (Tryd.prog.info? 185).map (·.size) = some 8 := by kernel_rfl

theorem Tryd.sizeFound : (Tryd.prog.info? 188).map (·.size) = some 9 := by kernel_rfl

theorem Tryd.zeroFound (w : World) : (zeroValue 188).run Tryd.prog w = .ok (.agg (fdL (0, ([], []))).toArray) w := by kernel_rfl

/-- An element reads as itself. -/
def heldE (v : Value) : Option (DataW Value × List MemPlace) := some (.held v, [])

theorem ownG_block {H : Type} {w w' : World} {P : Program} {k : TypeId} {R : Value → Option (DataW H × List MemPlace)} {b n : Nat} {D : DataW H} (h : w.ownsMap P k R b n D) (e : w'.heap[b]? = w.heap[b]?) : w'.ownsMap P k R b n D := by
  obtain ⟨es, clock, hb, r⟩ := h
  exact ⟨es, clock, e.trans hb, r⟩

theorem ownG_lt {H : Type} {w : World} {P : Program} {k : TypeId} {R : Value → Option (DataW H × List MemPlace)} {b n : Nat} {D : DataW H} (h : w.ownsMap P k R b n D) : b < w.heap.size := by
  obtain ⟨es, clock, hb, r⟩ := h
  exact (Array.getElem?_eq_some_iff.1 hb).1

/-- States of m carts. -/
def Lens (m : Nat) (x : St) : Prop := x.1.length = m ∧ x.2.length = m

/-- Block b tells what is known of states of m carts. -/
def SeenMap (w : World) (b m n : Nat) (f : St → Option (Nat × St)) : Prop :=
  ∃ D : DataW Value, w.ownsMap Tryd.prog 185 heldE b n D ∧ ∀ x kl, Lens m x → keyOf Tryd.prog 185 (stV x.1 x.2) = some kl → Maps.has D kl = (f x).isSome ∧ ∀ v, f x = some v → ∀ z, D.atKey kl z = .held (.agg (fdL v).toArray)

section
variable {w w' : World} {b m n : Nat} {f : St → Option (Nat × St)}
theorem SeenMap.block (h : SeenMap w b m n f) (e : w'.heap[b]? = w.heap[b]?) : SeenMap w' b m n f := by
  obtain ⟨D, hD, hf⟩ := h; exact ⟨D, ownG_block hD e, hf⟩

theorem SeenMap.lt (h : SeenMap w b m n f) : b < w.heap.size := by obtain ⟨D, hD, _⟩ := h; exact ownG_lt hD

theorem SeenMap.more {n' : Nat} (h : SeenMap w b m n f) (e : n ≤ n') : SeenMap w b m n' f := by
  obtain ⟨D, hD, hf⟩ := h; exact ⟨D, hD.mono e, hf⟩

theorem seen_made (w : World) (b m : Nat) (hb : b = w.heap.size) : SeenMap (w.alloc (.map #[] 0)) b m 0 (fun _ => none) := by
  subst hb; exact ⟨_, World.ownsMap_made w _ _ _, fun _ _ _ _ => ⟨rfl, fun _ h => by cases h⟩⟩

/-- What is known of a state is looked up. -/
theorem run_look_seen (h : SeenMap w b m n f) {x : St} (hx : Lens m x) (hs : Small x.1) (c : Bool) :
    (Instr.lookup 193 (.map (some b)) (.agg (stL x).toArray) c).run Tryd.prog w = .ok (if c then .tuple #[.agg (fdL ((f x).getD (0, ([], [])))).toArray, .bool (f x).isSome] else .agg (fdL ((f x).getD (0, ([], [])))).toArray) w := by
  obtain ⟨D, ⟨es, clock, hb, F, _, rfl⟩, hf⟩ := h
  obtain ⟨kl, hk⟩ := stKey (p := x.1) (u := x.2) hs
  obtain ⟨g1, g2⟩ := hf x kl hx hk
  rcases Maps.fit_look c Tryd.lawState Tryd.underlying193 (Tryd.zeroFound w) hb F hk with ⟨hrun, _, hat⟩ | ⟨e0, y, _, _, hrun, hRv, hat, _⟩
  · rw [Maps.has_false_of_atKey hat] at g1
    have e : f x = none := by
      cases hh : f x with
      | none => rfl
      | some v => rw [hh] at g1; cases g1
    rw [← stV_is, hrun, e]; rfl
  · rw [Maps.has_true_of_atKey hat] at g1
    obtain ⟨v, hv⟩ := Option.isSome_iff_exists.1 g1.symm
    have h2 := g2 v hv .nil
    rw [hat .nil] at h2
    have h3 : y = (.held e0.val, []) := (Option.some.inj hRv).symm
    rw [h3] at h2
    have h4 : e0.val = .agg (fdL v).toArray := DataW.held.inj h2
    rw [← stV_is, hrun, hv, h4]; rfl

/-- What is known of a state is written. -/
theorem run_put_seen (h : SeenMap w b m n f) (hn : n < maxLen) (hm : m ≤ 4) {x y : St} {c : Nat} (hx : Lens m x) (hs : Small x.1) :
    ∃ w', (Instr.mapUpdate 193 (.map (some b)) (.agg (stL x).toArray) (.agg (fdL (c, y)).toArray)).run Tryd.prog w = .ok () w' ∧ SeenMap w' b m (n + 1) (seenPutS f x c y) ∧ w.grownBy w' (some b) := by
  obtain ⟨D, hD, hf⟩ := h
  obtain ⟨kl, hk⟩ := stKey (p := x.1) (u := x.2) hs
  obtain ⟨w', hrun, h1, h2⟩ := hD.update Tryd.lawState Tryd.underlying193 hn hk (val := .agg (fdL (c, y)).toArray) (d := .held (.agg (fdL (c, y)).toArray)) (ps := []) rfl
  refine ⟨w', hrun, ⟨_, h1, fun x' kl' hx' hk' => ?_⟩, h2⟩
  unfold seenPutS
  by_cases e : kl' = kl
  · subst e
    have e1 := st_ext hm hx'.1 hx.1 hx'.2 hx.2 (Tryd.lawState.inj hk' hk)
    have e2 : x' = x := Prod.ext e1.1 e1.2
    subst e2
    rw [if_pos rfl, has_put_same hD.isMap (Tryd.lawState.key hk) _]
    refine ⟨rfl, fun v hv z => ?_⟩
    cases hv
    exact atKey_put_same hD.isMap (Tryd.lawState.key hk) _ _
  · have hne : x' ≠ x := fun h => by
      subst h
      rw [hk] at hk'
      exact e (Option.some.inj hk').symm
    rw [if_neg hne, has_put_other e _]
    obtain ⟨g1, g2⟩ := hf x' kl' hx' hk'
    exact ⟨g1, fun v hv z => by rw [atKey_put_other e]; exact g2 v hv z⟩

/-- In a region that draws: what is known of a state may be looked up first. -/
theorem yields_look_seen {ops : Array Oper} {S : World → Prop} {o : Oper} {a : Act} (hw : Region.wanted o (yielded ops a.tmps) = true) (mo xo : Operand) (c : Bool) (hop : o.op = Op.lookup 193 mo xo c) {x : St} (hm : a.eval mo = .map (some b)) (hxo : a.eval xo = .agg (stL x).toArray)
    (hS : ∀ u, S u → SeenMap u b m n f) (hx : Lens m x) (hs : Small x.1) : YieldsIf Tryd.prog ops S o (if c then .tuple #[.agg (fdL ((f x).getD (0, ([], [])))).toArray, .bool (f x).isSome] else .agg (fdL ((f x).getD (0, ([], [])))).toArray) a :=
  .inl ⟨hw, fun u hu => by
    have h := run_look_seen (hS u hu) hx hs c
    simp [execOp, hop, hm, hxo, h, Result.andThen]⟩

/-- In a region that draws: what is known is written, where that alone may come up. -/
theorem any_put_seen {md : Region.Mode} {ops : Array Oper} {Q : Exit → Act → World → Prop} {i : Nat} {o : Oper} {fu : Nat} {listed : Array Bool} {a : Act} (ho : ops[i]? = some o) (hr : Region.ready md ops listed = [i]) (hg : o.guard = none) (mo xo vo : Operand)
    (hop : o.op = Op.mapUpdate 193 mo xo vo) {x y : St} {c : Nat} (hmo : a.eval mo = .map (some b)) (hxo : a.eval xo = .agg (stL x).toArray) (hvo : a.eval vo = .agg (fdL (c, y)).toArray) (h : SeenMap w b m n f) (hn : n < maxLen) (hm : m ≤ 4) (hx : Lens m x) (hs : Small x.1)
    (hK : ∀ w', SeenMap w' b m (n + 1) (seenPutS f x c y) → w.grownBy w' (some b) → wpAny Tryd.prog md ops Q fu (listed.setIfInBounds i true) (a.put o.dst undef) w') : wpAny Tryd.prog md ops Q (fu + 1) listed a w := by
  refine LM.any_one ho hr hg fun K hK' => ?_
  obtain ⟨w', hrun, r1, r2⟩ := run_put_seen h hn hm (y := y) (c := c) hx hs
  unfold Oper.wp
  simp [execOp, hop, hmo, hxo, hvo, hrun, Result.andThen]
  exact hK' _ _ (hK w' r1 r2)

end
end Go.Proofs.YtnkgpinadgacgaaDoor
