/- Sets of cells in maps keyed by numbers: what is there, as a plain function. -/
import Derived.Test.YtnkgpinadgacgaaDoorBl
import Derived.Maps.RangeWalk
namespace Go.Proofs.YtnkgpinadgacgaaDoor
open Go.RowKit Go.Maps

theorem Tryd.lawInt : Keyed Tryd.prog 3 := int_keyed Tryd.underlying3

theorem cellKey {c : Nat} (h : c ≤ 1000000) : keyOf Tryd.prog 3 (.int .i64 (c : Int)) = some (.int .i64 (c : Int)) :=
  keyOf_int_mk Tryd.underlying3 (i64B_small (by omega) (by omega))

/-- Block b is a set of cells: f tells which. -/
def CellSet (w : World) (b : Nat) (f : Nat → Bool) : Prop :=
  ∃ D : DataW Unit, w.ownsMap Tryd.prog 3 (unitElem (H := Unit)) b (Maps.size D) D ∧ (∀ kl, Maps.has D kl = true → ∃ c : Nat, c < 36 ∧ kl = .int .i64 (c : Int)) ∧ ∀ c : Nat, c < 36 → Maps.has D (.int .i64 (c : Int)) = f c

theorem own_fit {w : World} {P : Program} {k : TypeId} {R : Value → Option (DataW Unit × List MemPlace)} {b n : Nat} {D : DataW Unit} (h : w.ownsMap P k R b n D) : w.ownsMap P k R b (Maps.size D) D := by
  obtain ⟨es, clock, hb, F, hs, hD⟩ := h
  refine ⟨es, clock, hb, F, ?_, hD⟩
  rw [hD]
  show es.size ≤ List.length _
  rw [(Go.WideShapes.sorted_perm _).length_eq, List.length_map]
  simp

theorem nodup_below : ∀ (n : Nat) (l : List Nat), l.Nodup → (∀ x ∈ l, x < n) → l.length ≤ n := nodup_lt_length

def litNat : Lit → Nat
  | .int _ x => x.toNat
  | _ => 0

/-- A set of cells below 36 has 36 entries at the most. -/
theorem cells_size {w : World} {b n : Nat} {D : DataW Unit} (h : w.ownsMap Tryd.prog 3 (unitElem (H := Unit)) b n D) (hk : ∀ kl, Maps.has D kl = true → ∃ c : Nat, c < 36 ∧ kl = .int .i64 (c : Int)) : Maps.size D ≤ 36 := by
  obtain ⟨es, rfl, hp, hl⟩ := h.entries Tryd.lawInt
  have hin : ∀ p ∈ es, ∃ c : Nat, c < 36 ∧ p.1 = .int .i64 (c : Int) := fun p hm => hk p.1 (by
    rw [Maps.has_eq, List.any_eq_true]
    exact ⟨p, hm, WideAt.sameKey_self (hl p hm)⟩)
  have h2 : (es.map fun p => litNat p.1).length ≤ 36 := by
    refine nodup_below 36 _ ?_ fun x hx => ?_
    · rw [List.Nodup, List.pairwise_map]
      refine hp.imp_of_mem fun {p q} hpm hqm hne e => ?_
      obtain ⟨c, _, e1⟩ := hin p hpm
      obtain ⟨d, _, e2⟩ := hin q hqm
      rw [e1, e2] at e hne
      simp [litNat] at e
      exact hne (by rw [e])
    · obtain ⟨p, hpm, rfl⟩ := List.mem_map.1 hx
      obtain ⟨c, hc, e1⟩ := hin p hpm
      rw [e1]; simpa [litNat] using hc
  rw [List.length_map] at h2
  exact h2

theorem CellSet.block {w w' : World} {b : Nat} {f : Nat → Bool} (h : CellSet w b f) (e : w'.heap[b]? = w.heap[b]?) : CellSet w' b f := by
  obtain ⟨D, hD, hf⟩ := h; exact ⟨D, own_map_block hD e, hf⟩
theorem CellSet.lt {w : World} {b : Nat} {f : Nat → Bool} (h : CellSet w b f) : b < w.heap.size := by obtain ⟨D, hD, _⟩ := h; exact own_map_lt hD
theorem CellSet.below {w w' : World} {b : Nat} {f : Nat → Bool} (h : CellSet w b f) (hb : Below w.heap.size w w') : CellSet w' b f := h.block (hb.block b h.lt)
theorem CellSet.same {w : World} {b : Nat} {f f' : Nat → Bool} (h : CellSet w b f) (e : ∀ c, c < 36 → f c = f' c) : CellSet w b f' := by
  obtain ⟨D, hD, hk, hf⟩ := h; exact ⟨D, hD, hk, fun c hc => by rw [hf c hc, e c hc]⟩

theorem cellSet_made (w : World) (b : Nat) (hb : b = w.heap.size) : CellSet (w.alloc (.map #[] 0)) b (fun _ => false) := by
  subst hb; exact ⟨.map [], World.ownsMap_made w _ _ _, fun kl h => (by cases h), fun _ _ => rfl⟩

section
variable {w : World} {ops : Array Oper} {rest : List Oper} {o : Oper} {a : Act} {Q : Exit → Act → World → Prop}

theorem wpList_put_cell (hg : o.guard = none) (m x v : Operand) (hop : o.op = Op.mapUpdate 166 m x v) (b : Nat) (f : Nat → Bool) (hm : a.eval m = .map (some b)) (hown : CellSet w b f) (c : Nat) (hc : c < 36) (hx : a.eval x = .int .i64 (c : Int)) (hv : a.eval v = .agg #[])
    (hK : ∀ w', CellSet w' b (fun z => f z || z == c) → w.grownBy w' (some b) → wpList Tryd.prog ops Q rest (a.put o.dst undef) w') : wpList Tryd.prog ops Q (o :: rest) a w := by
  obtain ⟨D, hD, hk, hf⟩ := hown
  have hkey := cellKey (c := c) (by omega)
  have hsz := cells_size hD hk
  refine wpList_mapUpdate_own (H := Unit) w hg m x v _ hop 3 171 Tryd.lawInt Tryd.underlying166 unitElem b _ D hm hD (by unfold maxLen; omega) _ _ _ hx hv hkey _ [] unitElem_mk ?_
  intro w' hw' hgw
  refine hK w' ⟨_, own_fit hw', fun kl hkl => ?_, fun z hz => ?_⟩ hgw
  · by_cases e : kl = .int .i64 (c : Int)
    · exact ⟨c, hc, e⟩
    · rw [has_put_other e] at hkl
      exact hk kl hkl
  · by_cases e : z = c
    · subst e
      rw [has_put_same hD.isMap (Tryd.lawInt.key hkey)]
      simp
    · rw [has_put_other (by intro h; injection h with _ h; exact e (by omega)), hf z hz]
      simp [e]

theorem wpList_look_cell (hg : o.guard = none) (m x : Operand) (hop : o.op = Op.lookup 166 m x true) (b : Nat) (f : Nat → Bool) (hm : a.eval m = .map (some b)) (hown : CellSet w b f) (c : Nat) (hc : c < 36) (hx : a.eval x = .int .i64 (c : Int))
    (hK : wpList Tryd.prog ops Q rest (a.put o.dst (.tuple #[.agg #[], .bool (f c)])) w) : wpList Tryd.prog ops Q (o :: rest) a w := by
  obtain ⟨D, hD, hk, hf⟩ := hown
  refine wpList_lookup_own_unit (H := Unit) w hg m x _ hop 3 171 Tryd.lawInt Tryd.underlying166 (Tryd.zeroUnit w) b _ D hm hD _ _ hx (cellKey (by omega)) ?_
  rw [hf c hc]; exact hK

theorem wpList_len_cell (hg : o.guard = none) (mo : Operand) (hop : o.op = Op.call { callee := Callee.builtin Builtin.len, args := #[mo], argTypes := #[166] }) (b : Nat) (f : Nat → Bool) (hmo : a.eval mo = .map (some b)) (hown : CellSet w b f)
    (hK : ∀ s : Nat, s ≤ 36 → (s = 0 ↔ ∀ c, c < 36 → f c = false) → wpList Tryd.prog ops Q rest (a.put o.dst (.int .i64 (s : Nat))) w) : wpList Tryd.prog ops Q (o :: rest) a w := by
  obtain ⟨D, hD, hk, hf⟩ := hown
  refine wpList_len_own (H := Unit) (w := w) hg mo 166 hop 3 171 Tryd.underlying166 _ b _ D hmo hD ?_
  refine hK _ (cells_size hD hk) ?_
  obtain ⟨es, rfl, hp, hl⟩ := hD.entries Tryd.lawInt
  rw [Maps.size_eq]
  constructor
  · intro h c hc
    rw [← hf c hc, Maps.has_eq, List.length_eq_zero_iff.1 h]; rfl
  · intro h
    cases es with
    | nil => rfl
    | cons p es =>
      exfalso
      have hp1 : Maps.has (.map (p :: es)) p.1 = true := by
        rw [Maps.has_eq, List.any_eq_true]
        exact ⟨p, by simp, WideAt.sameKey_self (hl p (by simp))⟩
      obtain ⟨c, hc, e⟩ := hk _ hp1
      rw [e, hf c hc, h c hc] at hp1
      cases hp1
end

end Go.Proofs.YtnkgpinadgacgaaDoor
