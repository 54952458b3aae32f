/- Maps whose keys are structs of numbers, which the call itself makes: sets of spots, sets of steps, numbers by spots: what is there, as a plain function. -/
import Derived.Test.YtaldfpoolajoiaaDoorLa
import Derived.Test.YtaldfpoolajoiaaDoorRows
import Derived.Maps.OwnSet
import Derived.DeepKeys4
import Derived.WalkSmall
namespace Go.Proofs.YtaldfpoolajoiaaDoor
open Go.RowKit Go.Maps

theorem Tryd.laidOut0 : laidOutB Tryd.prog = true := by kernel_rfl
theorem Tryd.rowSpot : (130 : TypeId) < Tryd.prog.types.size := of_decide_eq_true (by kernel_rfl)
theorem Tryd.rowStep : (110 : TypeId) < Tryd.prog.types.size := of_decide_eq_true (by kernel_rfl)
theorem Tryd.deepSpot : Tryd.prog.keyTypeAt 3 130 = true := by kernel_rfl
theorem Tryd.deepStep : Tryd.prog.keyTypeAt 3 110 = true := by kernel_rfl
theorem Tryd.lawSpot : Keyed Tryd.prog 130 := Keyed.of_law (deep_law_laid Tryd.laidOut0 (m := 3) (by omega) Tryd.rowSpot Tryd.deepSpot (by rw [Tryd.underlying130]))
theorem Tryd.lawStep : Keyed Tryd.prog 110 := Keyed.of_law (deep_law_laid Tryd.laidOut0 (m := 3) (by omega) Tryd.rowStep Tryd.deepStep (by rw [Tryd.underlying110]))
theorem Tryd.ktSpot : Tryd.prog.keyType 130 = true := by kernel_rfl
theorem Tryd.ktStep : Tryd.prog.keyType 110 = true := by kernel_rfl
theorem Tryd.cellsSpot : Tryd.prog.cellsOf 130 = 2 := by kernel_rfl
theorem Tryd.cellsStep : Tryd.prog.cellsOf 110 = 3 := by kernel_rfl
theorem Tryd.cellsInt0 : Tryd.prog.cellsOf 3 = 1 := by kernel_rfl
theorem Tryd.typesSome : ∃ m, Tryd.prog.types.size = m + 1 := by
  have h : (130 : Nat) < Tryd.prog.types.size := Tryd.rowSpot
  exact ⟨Tryd.prog.types.size - 1, by omega⟩
theorem Tryd.zeroUnit (w : World) : (zeroValue 120).run Tryd.prog w = .ok (.agg #[]) w := by kernel_rfl
theorem Tryd.zeroInt (w : World) : (zeroValue 3).run Tryd.prog w = .ok (.int .i64 0) w := by kernel_rfl

def i64B (c : Int) : Prop := (Lit.int .i64 c).wf = true

theorem i64B_small {c : Int} (h0 : -1000000 ≤ c) (h1 : c ≤ 1000000) : i64B c := WalkArith.wf_i64 (by omega)

theorem spotKey {c t : Int} (hc : i64B c) (ht : i64B t) : ∃ kl, keyOf Tryd.prog 130 (.agg #[.int .i64 c, .int .i64 t]) = some kl := by
  unfold i64B at hc ht
  obtain ⟨m, hm⟩ := Tryd.typesSome
  unfold keyOf
  simp only [Tryd.underlying130]
  rw [if_pos (by simp [Tryd.ktSpot, Value.formed, Tryd.underlying130, Tryd.cellsSpot]), hm]
  unfold Program.keyLits
  simp only [Tryd.underlying130, Value.cells]
  rw [if_pos (by refine ⟨by rw [Tryd.cellsSpot]; rfl, by kernel_rfl⟩)]
  simp [Tryd.cellsInt0, Program.keyLits, Tryd.underlying3, hc, ht]

theorem stepKey {a b t : Int} (ha : i64B a) (hb : i64B b) (ht : i64B t) : ∃ kl, keyOf Tryd.prog 110 (.agg #[.int .i64 a, .int .i64 b, .int .i64 t]) = some kl := by
  unfold i64B at ha hb ht
  obtain ⟨m, hm⟩ := Tryd.typesSome
  unfold keyOf
  simp only [Tryd.underlying110]
  rw [if_pos (by simp [Tryd.ktStep, Value.formed, Tryd.underlying110, Tryd.cellsStep]), hm]
  unfold Program.keyLits
  simp only [Tryd.underlying110, Value.cells]
  rw [if_pos (by refine ⟨by rw [Tryd.cellsStep]; rfl, by kernel_rfl⟩)]
  simp [Tryd.cellsInt0, Program.keyLits, Tryd.underlying3, ha, hb, ht]

theorem spotKey_inj {c t c' t' : Int} {kl : Lit} (h : keyOf Tryd.prog 130 (.agg #[.int .i64 c, .int .i64 t]) = some kl) (h' : keyOf Tryd.prog 130 (.agg #[.int .i64 c', .int .i64 t']) = some kl) : c = c' ∧ t = t' := by
  have := Tryd.lawSpot.inj h h'
  simpa using this

theorem stepKey_inj {a b t a' b' t' : Int} {kl : Lit} (h : keyOf Tryd.prog 110 (.agg #[.int .i64 a, .int .i64 b, .int .i64 t]) = some kl) (h' : keyOf Tryd.prog 110 (.agg #[.int .i64 a', .int .i64 b', .int .i64 t']) = some kl) : a = a' ∧ b = b' ∧ t = t' := by
  have := Tryd.lawStep.inj h h'
  simpa using this

/-- Block b is a set of spots: f tells which. -/
def SpotSet (w : World) (b n : Nat) (f : Int → Int → Bool) : Prop :=
  ∃ D : DataW Unit, w.ownsMap Tryd.prog 130 (unitElem (H := Unit)) b n D ∧ ∀ c t kl, keyOf Tryd.prog 130 (.agg #[.int .i64 c, .int .i64 t]) = some kl → Maps.has D kl = f c t

/-- Block b is a set of steps: f tells which. -/
def StepSet (w : World) (b n : Nat) (f : Int → Int → Int → Bool) : Prop :=
  ∃ D : DataW Unit, w.ownsMap Tryd.prog 110 (unitElem (H := Unit)) b n D ∧ ∀ a c t kl, keyOf Tryd.prog 110 (.agg #[.int .i64 a, .int .i64 c, .int .i64 t]) = some kl → Maps.has D kl = f a c t

/-- Block b tells numbers by spots. -/
def SpotMap (w : World) (b n : Nat) (f : Int → Int → Option Int) : Prop :=
  ∃ D : DataW Unit, w.ownsMap Tryd.prog 130 (plainElem (H := Unit) Tryd.prog 3) b n D ∧ ∀ c t kl, keyOf Tryd.prog 130 (.agg #[.int .i64 c, .int .i64 t]) = some kl → Maps.has D kl = (f c t).isSome ∧ ∀ x, f c t = some x → D.atKey kl (.lit (.int .i64 0)) = .lit (.int .i64 x)

theorem own_map_block {w w' : World} {P : Program} {k : TypeId} {R : Value → Option (DataW Unit × List MemPlace)} {b n : Nat} {D : DataW Unit} (h : w.ownsMap P k R b n D) (e : w'.heap[b]? = w.heap[b]?) : w'.ownsMap P k R b n D := by
  obtain ⟨es, clock, hb, r⟩ := h
  exact ⟨es, clock, e.trans hb, r⟩

theorem own_map_lt {w : World} {P : Program} {k : TypeId} {R : Value → Option (DataW Unit × List MemPlace)} {b n : Nat} {D : DataW Unit} (h : w.ownsMap P k R b n D) : b < w.heap.size := by
  obtain ⟨es, clock, hb, _⟩ := h
  exact (Array.getElem?_eq_some_iff.1 hb).1

theorem SpotSet.block {w w' : World} {b n : Nat} {f : Int → Int → Bool} (h : SpotSet w b n f) (e : w'.heap[b]? = w.heap[b]?) : SpotSet w' b n f := by
  obtain ⟨D, hD, hf⟩ := h; exact ⟨D, own_map_block hD e, hf⟩
theorem StepSet.block {w w' : World} {b n : Nat} {f : Int → Int → Int → Bool} (h : StepSet w b n f) (e : w'.heap[b]? = w.heap[b]?) : StepSet w' b n f := by
  obtain ⟨D, hD, hf⟩ := h; exact ⟨D, own_map_block hD e, hf⟩
theorem SpotMap.block {w w' : World} {b n : Nat} {f : Int → Int → Option Int} (h : SpotMap w b n f) (e : w'.heap[b]? = w.heap[b]?) : SpotMap w' b n f := by
  obtain ⟨D, hD, hf⟩ := h; exact ⟨D, own_map_block hD e, hf⟩
theorem SpotSet.lt {w : World} {b n : Nat} {f : Int → Int → Bool} (h : SpotSet w b n f) : b < w.heap.size := by obtain ⟨D, hD, _⟩ := h; exact own_map_lt hD
theorem StepSet.lt {w : World} {b n : Nat} {f : Int → Int → Int → Bool} (h : StepSet w b n f) : b < w.heap.size := by obtain ⟨D, hD, _⟩ := h; exact own_map_lt hD
theorem SpotMap.lt {w : World} {b n : Nat} {f : Int → Int → Option Int} (h : SpotMap w b n f) : b < w.heap.size := by obtain ⟨D, hD, _⟩ := h; exact own_map_lt hD

theorem SpotSet.same {w : World} {b n : Nat} {f f' : Int → Int → Bool} (h : SpotSet w b n f) (e : ∀ c t, f c t = f' c t) : SpotSet w b n f' := by
  obtain ⟨D, hD, hf⟩ := h; exact ⟨D, hD, fun c t kl hk => by rw [hf c t kl hk, e]⟩
theorem StepSet.same {w : World} {b n : Nat} {f f' : Int → Int → Int → Bool} (h : StepSet w b n f) (e : ∀ a c t, f a c t = f' a c t) : StepSet w b n f' := by
  obtain ⟨D, hD, hf⟩ := h; exact ⟨D, hD, fun a c t kl hk => by rw [hf a c t kl hk, e]⟩
theorem SpotMap.same {w : World} {b n : Nat} {f f' : Int → Int → Option Int} (h : SpotMap w b n f) (e : ∀ c t, f c t = f' c t) : SpotMap w b n f' := by
  obtain ⟨D, hD, hf⟩ := h; exact ⟨D, hD, fun c t kl hk => by rw [← e]; exact hf c t kl hk⟩
theorem SpotSet.more {w : World} {b n n' : Nat} {f : Int → Int → Bool} (h : SpotSet w b n f) (e : n ≤ n') : SpotSet w b n' f := by obtain ⟨D, hD, hf⟩ := h; exact ⟨D, hD.mono e, hf⟩
theorem StepSet.more {w : World} {b n n' : Nat} {f : Int → Int → Int → Bool} (h : StepSet w b n f) (e : n ≤ n') : StepSet w b n' f := by obtain ⟨D, hD, hf⟩ := h; exact ⟨D, hD.mono e, hf⟩

theorem spotSet_made (w : World) (b : Nat) (hb : b = w.heap.size) : SpotSet (w.alloc (.map #[] 0)) b 0 (fun _ _ => false) := by
  subst hb; exact ⟨_, World.ownsMap_made w _ _ _, fun _ _ _ _ => rfl⟩
theorem stepSet_made (w : World) (b : Nat) (hb : b = w.heap.size) : StepSet (w.alloc (.map #[] 0)) b 0 (fun _ _ _ => false) := by
  subst hb; exact ⟨_, World.ownsMap_made w _ _ _, fun _ _ _ _ _ => rfl⟩
theorem spotMap_made (w : World) (b : Nat) (hb : b = w.heap.size) : SpotMap (w.alloc (.map #[] 0)) b 0 (fun _ _ => none) := by
  subst hb; exact ⟨_, World.ownsMap_made w _ _ _, fun _ _ _ _ => ⟨rfl, fun _ h => by cases h⟩⟩

theorem spotSet_put {w w' : World} {b n n' : Nat} {f : Int → Int → Bool} {D : DataW Unit} {c t : Int} {kl : Lit} {d : DataW Unit} (hown : w.ownsMap Tryd.prog 130 (unitElem (H := Unit)) b n D) (hf : ∀ c t kl, keyOf Tryd.prog 130 (.agg #[.int .i64 c, .int .i64 t]) = some kl → Maps.has D kl = f c t)
    (hk : keyOf Tryd.prog 130 (.agg #[.int .i64 c, .int .i64 t]) = some kl) (h : w'.ownsMap Tryd.prog 130 (unitElem (H := Unit)) b n' (D.put kl d)) : SpotSet w' b n' (fun c' t' => f c' t' || (c' == c && t' == t)) := by
  refine ⟨_, h, fun c' t' kl' hk' => ?_⟩
  by_cases e : kl' = kl
  · subst e
    obtain ⟨e1, e2⟩ := spotKey_inj hk' hk
    rw [has_put_same hown.isMap (Tryd.lawSpot.key hk) d]
    simp [e1, e2]
  · rw [has_put_other e d, hf c' t' kl' hk']
    have : (c' == c && t' == t) = false := by
      cases h : (c' == c && t' == t) with
      | false => rfl
      | true =>
        simp only [Bool.and_eq_true, beq_iff_eq] at h
        rw [h.1, h.2, hk] at hk'
        exact absurd (Option.some.inj hk').symm e
    simp only [this, Bool.or_false]

theorem stepSet_put {w w' : World} {b n n' : Nat} {f : Int → Int → Int → Bool} {D : DataW Unit} {a c t : Int} {kl : Lit} {d : DataW Unit} (hown : w.ownsMap Tryd.prog 110 (unitElem (H := Unit)) b n D) (hf : ∀ a c t kl, keyOf Tryd.prog 110 (.agg #[.int .i64 a, .int .i64 c, .int .i64 t]) = some kl → Maps.has D kl = f a c t)
    (hk : keyOf Tryd.prog 110 (.agg #[.int .i64 a, .int .i64 c, .int .i64 t]) = some kl) (h : w'.ownsMap Tryd.prog 110 (unitElem (H := Unit)) b n' (D.put kl d)) : StepSet w' b n' (fun a' c' t' => f a' c' t' || (a' == a && c' == c && t' == t)) := by
  refine ⟨_, h, fun a' c' t' kl' hk' => ?_⟩
  by_cases e : kl' = kl
  · subst e
    obtain ⟨e1, e2, e3⟩ := stepKey_inj hk' hk
    rw [has_put_same hown.isMap (Tryd.lawStep.key hk) d]
    simp [e1, e2, e3]
  · rw [has_put_other e d, hf a' c' t' kl' hk']
    have : (a' == a && c' == c && t' == t) = false := by
      cases h : (a' == a && c' == c && t' == t) with
      | false => rfl
      | true =>
        simp only [Bool.and_eq_true, beq_iff_eq] at h
        rw [h.1.1, h.1.2, h.2, hk] at hk'
        exact absurd (Option.some.inj hk').symm e
    simp only [this, Bool.or_false]

def mapPut (f : Int → Int → Option Int) (c t x : Int) : Int → Int → Option Int := fun c' t' => if c' = c ∧ t' = t then some x else f c' t'

theorem spotMap_put {w w' : World} {b n n' : Nat} {f : Int → Int → Option Int} {D : DataW Unit} {c t x : Int} {kl : Lit} (hown : w.ownsMap Tryd.prog 130 (plainElem (H := Unit) Tryd.prog 3) b n D)
    (hf : ∀ c t kl, keyOf Tryd.prog 130 (.agg #[.int .i64 c, .int .i64 t]) = some kl → Maps.has D kl = (f c t).isSome ∧ ∀ x, f c t = some x → D.atKey kl (.lit (.int .i64 0)) = .lit (.int .i64 x))
    (hk : keyOf Tryd.prog 130 (.agg #[.int .i64 c, .int .i64 t]) = some kl) (h : w'.ownsMap Tryd.prog 130 (plainElem (H := Unit) Tryd.prog 3) b n' (D.put kl (.lit (.int .i64 x)))) : SpotMap w' b n' (mapPut f c t x) := by
  refine ⟨_, h, fun c' t' kl' hk' => ?_⟩
  unfold mapPut
  by_cases e : kl' = kl
  · subst e
    obtain ⟨e1, e2⟩ := spotKey_inj hk' hk
    rw [if_pos ⟨e1, e2⟩, has_put_same hown.isMap (Tryd.lawSpot.key hk) _]
    refine ⟨rfl, fun y hy => ?_⟩
    cases hy
    exact atKey_put_same hown.isMap (Tryd.lawSpot.key hk) _ _
  · have : ¬ (c' = c ∧ t' = t) := fun h => by
      rw [h.1, h.2, hk] at hk'
      exact e (Option.some.inj hk').symm
    rw [if_neg this, has_put_other e _]
    obtain ⟨g1, g2⟩ := hf c' t' kl' hk'
    exact ⟨g1, fun y hy => by rw [atKey_put_other e]; exact g2 y hy⟩

section
variable {w : World} {ops : Array Oper} {rest : List Oper} {o : Oper} {a : Act} {Q : Exit → Act → World → Prop}

theorem wpList_look_spot (hg : o.guard = none) (m x : Operand) (hop : o.op = Op.lookup 100 m x true) (b n : Nat) (f : Int → Int → Bool) (hm : a.eval m = .map (some b)) (hown : SpotSet w b n f) (c t : Int) (hx : a.eval x = .agg #[.int .i64 c, .int .i64 t]) (hc : i64B c) (ht : i64B t)
    (hK : wpList Tryd.prog ops Q rest (a.put o.dst (.tuple #[.agg #[], .bool (f c t)])) w) : wpList Tryd.prog ops Q (o :: rest) a w := by
  obtain ⟨D, hD, hf⟩ := hown
  obtain ⟨kl, hk⟩ := spotKey hc ht
  refine wpList_lookup_own_unit (H := Unit) w hg m x _ hop 130 120 Tryd.lawSpot Tryd.underlying100 (Tryd.zeroUnit w) b n D hm hD _ kl hx hk ?_
  rw [hf c t kl hk]; exact hK

theorem wpList_look_step (hg : o.guard = none) (m x : Operand) (hop : o.op = Op.lookup 101 m x true) (b n : Nat) (f : Int → Int → Int → Bool) (hm : a.eval m = .map (some b)) (hown : StepSet w b n f) (p c t : Int) (hx : a.eval x = .agg #[.int .i64 p, .int .i64 c, .int .i64 t]) (hp : i64B p) (hc : i64B c) (ht : i64B t)
    (hK : wpList Tryd.prog ops Q rest (a.put o.dst (.tuple #[.agg #[], .bool (f p c t)])) w) : wpList Tryd.prog ops Q (o :: rest) a w := by
  obtain ⟨D, hD, hf⟩ := hown
  obtain ⟨kl, hk⟩ := stepKey hp hc ht
  refine wpList_lookup_own_unit (H := Unit) w hg m x _ hop 110 120 Tryd.lawStep Tryd.underlying101 (Tryd.zeroUnit w) b n D hm hD _ kl hx hk ?_
  rw [hf p c t kl hk]; exact hK

theorem wpList_put_spot (hg : o.guard = none) (m x v : Operand) (hop : o.op = Op.mapUpdate 100 m x v) (b n : Nat) (f : Int → Int → Bool) (hm : a.eval m = .map (some b)) (hown : SpotSet w b n f) (hn : n < maxLen) (c t : Int) (hx : a.eval x = .agg #[.int .i64 c, .int .i64 t]) (hv : a.eval v = .agg #[]) (hc : i64B c) (ht : i64B t)
    (hK : ∀ w', SpotSet w' b (n + 1) (fun c' t' => f c' t' || (c' == c && t' == t)) → w.grownBy w' (some b) → wpList Tryd.prog ops Q rest (a.put o.dst undef) w') : wpList Tryd.prog ops Q (o :: rest) a w := by
  obtain ⟨D, hD, hf⟩ := hown
  obtain ⟨kl, hk⟩ := spotKey hc ht
  refine wpList_mapUpdate_own (H := Unit) w hg m x v _ hop 130 120 Tryd.lawSpot Tryd.underlying100 unitElem b n D hm hD hn _ _ kl hx hv hk _ [] unitElem_mk ?_
  intro w' hw' hgw
  exact hK w' (spotSet_put hD hf hk hw') hgw

theorem wpList_put_step (hg : o.guard = none) (m x v : Operand) (hop : o.op = Op.mapUpdate 101 m x v) (b n : Nat) (f : Int → Int → Int → Bool) (hm : a.eval m = .map (some b)) (hown : StepSet w b n f) (hn : n < maxLen) (p c t : Int) (hx : a.eval x = .agg #[.int .i64 p, .int .i64 c, .int .i64 t]) (hv : a.eval v = .agg #[]) (hp : i64B p) (hc : i64B c) (ht : i64B t)
    (hK : ∀ w', StepSet w' b (n + 1) (fun a' c' t' => f a' c' t' || (a' == p && c' == c && t' == t)) → w.grownBy w' (some b) → wpList Tryd.prog ops Q rest (a.put o.dst undef) w') : wpList Tryd.prog ops Q (o :: rest) a w := by
  obtain ⟨D, hD, hf⟩ := hown
  obtain ⟨kl, hk⟩ := stepKey hp hc ht
  refine wpList_mapUpdate_own (H := Unit) w hg m x v _ hop 110 120 Tryd.lawStep Tryd.underlying101 unitElem b n D hm hD hn _ _ kl hx hv hk _ [] unitElem_mk ?_
  intro w' hw' hgw
  exact hK w' (stepSet_put hD hf hk hw') hgw

theorem wpList_look_map (hg : o.guard = none) (m x : Operand) (hop : o.op = Op.lookup 135 m x true) (b n : Nat) (f : Int → Int → Option Int) (hm : a.eval m = .map (some b)) (hown : SpotMap w b n f) (c t : Int) (hx : a.eval x = .agg #[.int .i64 c, .int .i64 t]) (hc : i64B c) (ht : i64B t)
    (hK : ∀ y, wpList Tryd.prog ops Q rest (a.put o.dst (.tuple #[.int .i64 y, .bool (f c t).isSome])) w) : wpList Tryd.prog ops Q (o :: rest) a w := by
  obtain ⟨D, hD, hf⟩ := hown
  obtain ⟨kl, hk⟩ := spotKey hc ht
  refine wpList_lookup_own_ok_int (H := Unit) w hg m x _ hop 130 3 .i64 Tryd.lawSpot Tryd.underlying135 Tryd.underlying3 (Tryd.zeroInt w) b n D hm hD _ kl hx hk ?_
  intro y _ _
  rw [(hf c t kl hk).1]; exact hK y

theorem wpList_get_map (hg : o.guard = none) (m x : Operand) (hop : o.op = Op.lookup 135 m x false) (b n : Nat) (f : Int → Int → Option Int) (hm : a.eval m = .map (some b)) (hown : SpotMap w b n f) (c t y : Int) (hx : a.eval x = .agg #[.int .i64 c, .int .i64 t]) (hc : i64B c) (ht : i64B t) (hy : f c t = some y)
    (hK : wpList Tryd.prog ops Q rest (a.put o.dst (.int .i64 y)) w) : wpList Tryd.prog ops Q (o :: rest) a w := by
  obtain ⟨D, hD, hf⟩ := hown
  obtain ⟨kl, hk⟩ := spotKey hc ht
  refine wpList_lookup_own_int (H := Unit) w hg m x _ hop 130 3 .i64 Tryd.lawSpot Tryd.underlying135 Tryd.underlying3 (Tryd.zeroInt w) b n D hm hD _ kl hx hk ?_
  intro z hz _
  rw [(hf c t kl hk).2 y hy] at hz
  cases hz
  exact hK

theorem wpList_put_map (hg : o.guard = none) (m x v : Operand) (hop : o.op = Op.mapUpdate 135 m x v) (b n : Nat) (f : Int → Int → Option Int) (hm : a.eval m = .map (some b)) (hown : SpotMap w b n f) (hn : n < maxLen) (c t y : Int) (hx : a.eval x = .agg #[.int .i64 c, .int .i64 t]) (hv : a.eval v = .int .i64 y) (hc : i64B c) (ht : i64B t) (hy : i64B y)
    (hK : ∀ w', SpotMap w' b (n + 1) (mapPut f c t y) → w.grownBy w' (some b) → wpList Tryd.prog ops Q rest (a.put o.dst undef) w') : wpList Tryd.prog ops Q (o :: rest) a w := by
  obtain ⟨D, hD, hf⟩ := hown
  obtain ⟨kl, hk⟩ := spotKey hc ht
  refine wpList_mapUpdate_own (H := Unit) w hg m x v _ hop 130 3 Tryd.lawSpot Tryd.underlying135 _ b n D hm hD hn _ _ kl hx hv hk _ [] (plainElem_int Tryd.underlying3 hy) ?_
  intro w' hw' hgw
  exact hK w' (spotMap_put hD hf hk hw') hgw

/-- The same at a literal's entry. -/
theorem wpList_ins_map (hg : o.guard = none) (m x v : Operand) (hop : o.op = Op.insert 135 m x v) (b n : Nat) (f : Int → Int → Option Int) (hm : a.eval m = .map (some b)) (hown : SpotMap w b n f) (hn : n < maxLen) (c t y : Int) (hx : a.eval x = .agg #[.int .i64 c, .int .i64 t]) (hv : a.eval v = .int .i64 y) (hc : i64B c) (ht : i64B t) (hy : i64B y)
    (hK : ∀ w', SpotMap w' b (n + 1) (mapPut f c t y) → w.grownBy w' (some b) → wpList Tryd.prog ops Q rest (a.put o.dst undef) w') : wpList Tryd.prog ops Q (o :: rest) a w := by
  obtain ⟨D, hD, hf⟩ := hown
  obtain ⟨kl, hk⟩ := spotKey hc ht
  refine wpList_plain hg fun K' hK' => ?_
  obtain ⟨w', hrun, r1, r2⟩ := hD.update Tryd.lawSpot Tryd.underlying135 hn hk (plainElem_int Tryd.underlying3 hy)
  unfold Oper.wp
  simp [execOp, hop, hm, hx, hv, hrun, Result.andThen]
  exact hK' _ _ (hK w' (spotMap_put hD hf hk r1) r2)

end

end Go.Proofs.YtaldfpoolajoiaaDoor
