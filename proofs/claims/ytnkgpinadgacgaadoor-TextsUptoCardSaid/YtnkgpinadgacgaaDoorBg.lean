/- Maps whose keys are structs of numbers, which the call itself makes: sets of spots, sets of steps, numbers by spots: what is there, as a plain function. -/
import Derived.Test.YtnkgpinadgacgaaDoorBb
import Derived.Test.YtnkgpinadgacgaaDoorRows
import Derived.Maps.OwnSet
import Derived.DeepKeys4
import Derived.WalkSmall
import Derived.Test.YtnkgpinadgacgaaDoorBd
import Derived.Test.YtnkgpinadgacgaaDoorBc
namespace Go.Proofs.YtnkgpinadgacgaaDoor
open Go.RowKit Go.Maps

theorem Tryd.laidOut0 : laidOutB Tryd.prog = true := by kernel_rfl
theorem Tryd.rowSpot : (225 : TypeId) < Tryd.prog.types.size := of_decide_eq_true (by kernel_rfl)
theorem Tryd.rowStep : (161 : TypeId) < Tryd.prog.types.size := of_decide_eq_true (by kernel_rfl)
theorem Tryd.deepSpot : Tryd.prog.keyTypeAt 3 225 = true := by kernel_rfl
theorem Tryd.deepStep : Tryd.prog.keyTypeAt 3 161 = true := by kernel_rfl
theorem Tryd.lawSpot : Keyed Tryd.prog 225 := Keyed.of_law (deep_law_laid Tryd.laidOut0 (m := 3) (by omega) Tryd.rowSpot Tryd.deepSpot (by rw [Tryd.underlying225]))
theorem Tryd.lawStep : Keyed Tryd.prog 161 := Keyed.of_law (deep_law_laid Tryd.laidOut0 (m := 3) (by omega) Tryd.rowStep Tryd.deepStep (by rw [Tryd.underlying161]))
theorem Tryd.ktSpot : Tryd.prog.keyType 225 = true := by kernel_rfl
theorem Tryd.ktStep : Tryd.prog.keyType 161 = true := by kernel_rfl
theorem Tryd.cellsSpot : Tryd.prog.cellsOf 225 = 2 := by kernel_rfl
theorem Tryd.cellsStep : Tryd.prog.cellsOf 161 = 3 := by kernel_rfl
theorem Tryd.cellsInt0 : Tryd.prog.cellsOf 3 = 1 := by kernel_rfl
theorem Tryd.typesSome : ∃ m, Tryd.prog.types.size = m + 1 := by
  have h : (225 : Nat) < Tryd.prog.types.size := Tryd.rowSpot
  exact ⟨Tryd.prog.types.size - 1, by omega⟩
theorem Tryd.zeroUnit (w : World) : (zeroValue 171).run Tryd.prog w = .ok (.agg #[]) w := by kernel_rfl
theorem Tryd.zeroInt (w : World) : (zeroValue 3).run Tryd.prog w = .ok (.int .i64 0) w := by kernel_rfl

def i64B (c : Int) : Prop := (Lit.int .i64 c).wf = true

theorem i64B_small {c : Int} (h0 : -1000000 ≤ c) (h1 : c ≤ 1000000) : i64B c := WalkArith.wf_i64 (by omega)

theorem spotKey {c t : Int} (hc : i64B c) (ht : i64B t) : ∃ kl, keyOf Tryd.prog 225 (.agg #[.int .i64 c, .int .i64 t]) = some kl := by
  unfold i64B at hc ht
  obtain ⟨m, hm⟩ := Tryd.typesSome
  unfold keyOf
  simp only [Tryd.underlying225]
  rw [if_pos (by simp [Tryd.ktSpot, Value.formed, Tryd.underlying225, Tryd.cellsSpot]), hm]
  unfold Program.keyLits
  simp only [Tryd.underlying225, Value.cells]
  rw [if_pos (by refine ⟨by rw [Tryd.cellsSpot]; rfl, by kernel_rfl⟩)]
  simp [Tryd.cellsInt0, Program.keyLits, Tryd.underlying3, hc, ht]

theorem stepKey {a b t : Int} (ha : i64B a) (hb : i64B b) (ht : i64B t) : ∃ kl, keyOf Tryd.prog 161 (.agg #[.int .i64 a, .int .i64 b, .int .i64 t]) = some kl := by
  unfold i64B at ha hb ht
  obtain ⟨m, hm⟩ := Tryd.typesSome
  unfold keyOf
  simp only [Tryd.underlying161]
  rw [if_pos (by simp [Tryd.ktStep, Value.formed, Tryd.underlying161, Tryd.cellsStep]), hm]
  unfold Program.keyLits
  simp only [Tryd.underlying161, Value.cells]
  rw [if_pos (by refine ⟨by rw [Tryd.cellsStep]; rfl, by kernel_rfl⟩)]
  simp [Tryd.cellsInt0, Program.keyLits, Tryd.underlying3, ha, hb, ht]

theorem spotKey_inj {c t c' t' : Int} {kl : Lit} (h : keyOf Tryd.prog 225 (.agg #[.int .i64 c, .int .i64 t]) = some kl) (h' : keyOf Tryd.prog 225 (.agg #[.int .i64 c', .int .i64 t']) = some kl) : c = c' ∧ t = t' := by
  have := Tryd.lawSpot.inj h h'
  simpa using this

theorem stepKey_inj {a b t a' b' t' : Int} {kl : Lit} (h : keyOf Tryd.prog 161 (.agg #[.int .i64 a, .int .i64 b, .int .i64 t]) = some kl) (h' : keyOf Tryd.prog 161 (.agg #[.int .i64 a', .int .i64 b', .int .i64 t']) = some kl) : a = a' ∧ b = b' ∧ t = t' := by
  have := Tryd.lawStep.inj h h'
  simpa using this

/-- Block b is a set of spots: f tells which. -/
def SpotSet (w : World) (b n : Nat) (f : Int → Int → Bool) : Prop :=
  ∃ D : DataW Unit, w.ownsMap Tryd.prog 225 (unitElem (H := Unit)) b n D ∧ ∀ c t kl, keyOf Tryd.prog 225 (.agg #[.int .i64 c, .int .i64 t]) = some kl → Maps.has D kl = f c t

/-- Block b is a set of steps: f tells which. -/
def StepSet (w : World) (b n : Nat) (f : Int → Int → Int → Bool) : Prop :=
  ∃ D : DataW Unit, w.ownsMap Tryd.prog 161 (unitElem (H := Unit)) b n D ∧ ∀ a c t kl, keyOf Tryd.prog 161 (.agg #[.int .i64 a, .int .i64 c, .int .i64 t]) = some kl → Maps.has D kl = f a c t

/-- Block b tells numbers by spots. -/
def SpotMap (w : World) (b n : Nat) (f : Int → Int → Option Int) : Prop :=
  ∃ D : DataW Unit, w.ownsMap Tryd.prog 225 (plainElem (H := Unit) Tryd.prog 3) b n D ∧ ∀ c t kl, keyOf Tryd.prog 225 (.agg #[.int .i64 c, .int .i64 t]) = some kl → Maps.has D kl = (f c t).isSome ∧ ∀ x, f c t = some x → D.atKey kl (.lit (.int .i64 0)) = .lit (.int .i64 x)

theorem own_map_block {w w' : World} {P : Program} {k : TypeId} {R : Value → Option (DataW Unit × List MemPlace)} {b n : Nat} {D : DataW Unit} (h : w.ownsMap P k R b n D) (e : w'.heap[b]? = w.heap[b]?) : w'.ownsMap P k R b n D := by
  obtain ⟨es, clock, hb, r⟩ := h
  exact ⟨es, clock, e.trans hb, r⟩

theorem own_map_lt {w : World} {P : Program} {k : TypeId} {R : Value → Option (DataW Unit × List MemPlace)} {b n : Nat} {D : DataW Unit} (h : w.ownsMap P k R b n D) : b < w.heap.size := by
  obtain ⟨es, clock, hb, _⟩ := h
  exact (Array.getElem?_eq_some_iff.1 hb).1

theorem SpotSet.block {w w' : World} {b n : Nat} {f : Int → Int → Bool} (h : SpotSet w b n f) (e : w'.heap[b]? = w.heap[b]?) : SpotSet w' b n f := by
  obtain ⟨D, hD, hf⟩ := h; exact ⟨D, own_map_block hD e, hf⟩
theorem StepSet.block {w w' : World} {b n : Nat} {f : Int → Int → Int → Bool} (h : StepSet w b n f) (e : w'.heap[b]? = w.heap[b]?) : StepSet w' b n f := by
  obtain ⟨D, hD, hf⟩ := h; exact ⟨D, own_map_block hD e, hf⟩
theorem SpotMap.block {w w' : World} {b n : Nat} {f : Int → Int → Option Int} (h : SpotMap w b n f) (e : w'.heap[b]? = w.heap[b]?) : SpotMap w' b n f := by
  obtain ⟨D, hD, hf⟩ := h; exact ⟨D, own_map_block hD e, hf⟩
theorem SpotSet.lt {w : World} {b n : Nat} {f : Int → Int → Bool} (h : SpotSet w b n f) : b < w.heap.size := by obtain ⟨D, hD, _⟩ := h; exact own_map_lt hD
theorem StepSet.lt {w : World} {b n : Nat} {f : Int → Int → Int → Bool} (h : StepSet w b n f) : b < w.heap.size := by obtain ⟨D, hD, _⟩ := h; exact own_map_lt hD
theorem SpotMap.lt {w : World} {b n : Nat} {f : Int → Int → Option Int} (h : SpotMap w b n f) : b < w.heap.size := by obtain ⟨D, hD, _⟩ := h; exact own_map_lt hD

theorem SpotSet.same {w : World} {b n : Nat} {f f' : Int → Int → Bool} (h : SpotSet w b n f) (e : ∀ c t, f c t = f' c t) : SpotSet w b n f' := by
  obtain ⟨D, hD, hf⟩ := h; exact ⟨D, hD, fun c t kl hk => by rw [hf c t kl hk, e]⟩
theorem StepSet.same {w : World} {b n : Nat} {f f' : Int → Int → Int → Bool} (h : StepSet w b n f) (e : ∀ a c t, f a c t = f' a c t) : StepSet w b n f' := by
  obtain ⟨D, hD, hf⟩ := h; exact ⟨D, hD, fun a c t kl hk => by rw [hf a c t kl hk, e]⟩
theorem SpotMap.same {w : World} {b n : Nat} {f f' : Int → Int → Option Int} (h : SpotMap w b n f) (e : ∀ c t, f c t = f' c t) : SpotMap w b n f' := by
  obtain ⟨D, hD, hf⟩ := h; exact ⟨D, hD, fun c t kl hk => by rw [← e]; exact hf c t kl hk⟩
theorem SpotSet.more {w : World} {b n n' : Nat} {f : Int → Int → Bool} (h : SpotSet w b n f) (e : n ≤ n') : SpotSet w b n' f := by obtain ⟨D, hD, hf⟩ := h; exact ⟨D, hD.mono e, hf⟩
theorem StepSet.more {w : World} {b n n' : Nat} {f : Int → Int → Int → Bool} (h : StepSet w b n f) (e : n ≤ n') : StepSet w b n' f := by obtain ⟨D, hD, hf⟩ := h; exact ⟨D, hD.mono e, hf⟩

theorem spotSet_made (w : World) (b : Nat) (hb : b = w.heap.size) : SpotSet (w.alloc (.map #[] 0)) b 0 (fun _ _ => false) := by
  subst hb; exact ⟨_, World.ownsMap_made w _ _ _, fun _ _ _ _ => rfl⟩
theorem stepSet_made (w : World) (b : Nat) (hb : b = w.heap.size) : StepSet (w.alloc (.map #[] 0)) b 0 (fun _ _ _ => false) := by
  subst hb; exact ⟨_, World.ownsMap_made w _ _ _, fun _ _ _ _ _ => rfl⟩
theorem spotMap_made (w : World) (b : Nat) (hb : b = w.heap.size) : SpotMap (w.alloc (.map #[] 0)) b 0 (fun _ _ => none) := by
  subst hb; exact ⟨_, World.ownsMap_made w _ _ _, fun _ _ _ _ => ⟨rfl, fun _ h => by cases h⟩⟩

theorem spotSet_put {w w' : World} {b n n' : Nat} {f : Int → Int → Bool} {D : DataW Unit} {c t : Int} {kl : Lit} {d : DataW Unit} (hown : w.ownsMap Tryd.prog 225 (unitElem (H := Unit)) b n D) (hf : ∀ c t kl, keyOf Tryd.prog 225 (.agg #[.int .i64 c, .int .i64 t]) = some kl → Maps.has D kl = f c t)
    (hk : keyOf Tryd.prog 225 (.agg #[.int .i64 c, .int .i64 t]) = some kl) (h : w'.ownsMap Tryd.prog 225 (unitElem (H := Unit)) b n' (D.put kl d)) : SpotSet w' b n' (fun c' t' => f c' t' || (c' == c && t' == t)) := by
  refine ⟨_, h, fun c' t' kl' hk' => ?_⟩
  by_cases e : kl' = kl
  · subst e
    obtain ⟨e1, e2⟩ := spotKey_inj hk' hk
    rw [has_put_same hown.isMap (Tryd.lawSpot.key hk) d]
    simp [e1, e2]
  · rw [has_put_other e d, hf c' t' kl' hk']
    have : (c' == c && t' == t) = false := by
      cases h : (c' == c && t' == t) with
      | false => rfl
      | true =>
        simp only [Bool.and_eq_true, beq_iff_eq] at h
        rw [h.1, h.2, hk] at hk'
        exact absurd (Option.some.inj hk').symm e
    simp only [this, Bool.or_false]

theorem stepSet_put {w w' : World} {b n n' : Nat} {f : Int → Int → Int → Bool} {D : DataW Unit} {a c t : Int} {kl : Lit} {d : DataW Unit} (hown : w.ownsMap Tryd.prog 161 (unitElem (H := Unit)) b n D) (hf : ∀ a c t kl, keyOf Tryd.prog 161 (.agg #[.int .i64 a, .int .i64 c, .int .i64 t]) = some kl → Maps.has D kl = f a c t)
    (hk : keyOf Tryd.prog 161 (.agg #[.int .i64 a, .int .i64 c, .int .i64 t]) = some kl) (h : w'.ownsMap Tryd.prog 161 (unitElem (H := Unit)) b n' (D.put kl d)) : StepSet w' b n' (fun a' c' t' => f a' c' t' || (a' == a && c' == c && t' == t)) := by
  refine ⟨_, h, fun a' c' t' kl' hk' => ?_⟩
  by_cases e : kl' = kl
  · subst e
    obtain ⟨e1, e2, e3⟩ := stepKey_inj hk' hk
    rw [has_put_same hown.isMap (Tryd.lawStep.key hk) d]
    simp [e1, e2, e3]
  · rw [has_put_other e d, hf a' c' t' kl' hk']
    have : (a' == a && c' == c && t' == t) = false := by
      cases h : (a' == a && c' == c && t' == t) with
      | false => rfl
      | true =>
        simp only [Bool.and_eq_true, beq_iff_eq] at h
        rw [h.1.1, h.1.2, h.2, hk] at hk'
        exact absurd (Option.some.inj hk').symm e
    simp only [this, Bool.or_false]

def mapPut (f : Int → Int → Option Int) (c t x : Int) : Int → Int → Option Int := fun c' t' => if c' = c ∧ t' = t then some x else f c' t'

theorem spotMap_put {w w' : World} {b n n' : Nat} {f : Int → Int → Option Int} {D : DataW Unit} {c t x : Int} {kl : Lit} (hown : w.ownsMap Tryd.prog 225 (plainElem (H := Unit) Tryd.prog 3) b n D)
    (hf : ∀ c t kl, keyOf Tryd.prog 225 (.agg #[.int .i64 c, .int .i64 t]) = some kl → Maps.has D kl = (f c t).isSome ∧ ∀ x, f c t = some x → D.atKey kl (.lit (.int .i64 0)) = .lit (.int .i64 x))
    (hk : keyOf Tryd.prog 225 (.agg #[.int .i64 c, .int .i64 t]) = some kl) (h : w'.ownsMap Tryd.prog 225 (plainElem (H := Unit) Tryd.prog 3) b n' (D.put kl (.lit (.int .i64 x)))) : SpotMap w' b n' (mapPut f c t x) := by
  refine ⟨_, h, fun c' t' kl' hk' => ?_⟩
  unfold mapPut
  by_cases e : kl' = kl
  · subst e
    obtain ⟨e1, e2⟩ := spotKey_inj hk' hk
    rw [if_pos ⟨e1, e2⟩, has_put_same hown.isMap (Tryd.lawSpot.key hk) _]
    refine ⟨rfl, fun y hy => ?_⟩
    cases hy
    exact atKey_put_same hown.isMap (Tryd.lawSpot.key hk) _ _
  · have : ¬ (c' = c ∧ t' = t) := fun h => by
      rw [h.1, h.2, hk] at hk'
      exact e (Option.some.inj hk').symm
    rw [if_neg this, has_put_other e _]
    obtain ⟨g1, g2⟩ := hf c' t' kl' hk'
    exact ⟨g1, fun y hy => by rw [atKey_put_other e]; exact g2 y hy⟩

section
variable {w : World} {ops : Array Oper} {rest : List Oper} {o : Oper} {a : Act} {Q : Exit → Act → World → Prop}

theorem wpList_look_spot (hg : o.guard = none) (m x : Operand) (hop : o.op = Op.lookup 151 m x true) (b n : Nat) (f : Int → Int → Bool) (hm : a.eval m = .map (some b)) (hown : SpotSet w b n f) (c t : Int) (hx : a.eval x = .agg #[.int .i64 c, .int .i64 t]) (hc : i64B c) (ht : i64B t)
    (hK : wpList Tryd.prog ops Q rest (a.put o.dst (.tuple #[.agg #[], .bool (f c t)])) w) : wpList Tryd.prog ops Q (o :: rest) a w := by
  obtain ⟨D, hD, hf⟩ := hown
  obtain ⟨kl, hk⟩ := spotKey hc ht
  refine wpList_lookup_own_unit (H := Unit) w hg m x _ hop 225 171 Tryd.lawSpot Tryd.underlying151 (Tryd.zeroUnit w) b n D hm hD _ kl hx hk ?_
  rw [hf c t kl hk]; exact hK

theorem wpList_look_step (hg : o.guard = none) (m x : Operand) (hop : o.op = Op.lookup 152 m x true) (b n : Nat) (f : Int → Int → Int → Bool) (hm : a.eval m = .map (some b)) (hown : StepSet w b n f) (p c t : Int) (hx : a.eval x = .agg #[.int .i64 p, .int .i64 c, .int .i64 t]) (hp : i64B p) (hc : i64B c) (ht : i64B t)
    (hK : wpList Tryd.prog ops Q rest (a.put o.dst (.tuple #[.agg #[], .bool (f p c t)])) w) : wpList Tryd.prog ops Q (o :: rest) a w := by
  obtain ⟨D, hD, hf⟩ := hown
  obtain ⟨kl, hk⟩ := stepKey hp hc ht
  refine wpList_lookup_own_unit (H := Unit) w hg m x _ hop 161 171 Tryd.lawStep Tryd.underlying152 (Tryd.zeroUnit w) b n D hm hD _ kl hx hk ?_
  rw [hf p c t kl hk]; exact hK

theorem wpList_put_spot (hg : o.guard = none) (m x v : Operand) (hop : o.op = Op.mapUpdate 151 m x v) (b n : Nat) (f : Int → Int → Bool) (hm : a.eval m = .map (some b)) (hown : SpotSet w b n f) (hn : n < maxLen) (c t : Int) (hx : a.eval x = .agg #[.int .i64 c, .int .i64 t]) (hv : a.eval v = .agg #[]) (hc : i64B c) (ht : i64B t)
    (hK : ∀ w', SpotSet w' b (n + 1) (fun c' t' => f c' t' || (c' == c && t' == t)) → w.grownBy w' (some b) → wpList Tryd.prog ops Q rest (a.put o.dst undef) w') : wpList Tryd.prog ops Q (o :: rest) a w := by
  obtain ⟨D, hD, hf⟩ := hown
  obtain ⟨kl, hk⟩ := spotKey hc ht
  refine wpList_mapUpdate_own (H := Unit) w hg m x v _ hop 225 171 Tryd.lawSpot Tryd.underlying151 unitElem b n D hm hD hn _ _ kl hx hv hk _ [] unitElem_mk ?_
  intro w' hw' hgw
  exact hK w' (spotSet_put hD hf hk hw') hgw

theorem wpList_put_step (hg : o.guard = none) (m x v : Operand) (hop : o.op = Op.mapUpdate 152 m x v) (b n : Nat) (f : Int → Int → Int → Bool) (hm : a.eval m = .map (some b)) (hown : StepSet w b n f) (hn : n < maxLen) (p c t : Int) (hx : a.eval x = .agg #[.int .i64 p, .int .i64 c, .int .i64 t]) (hv : a.eval v = .agg #[]) (hp : i64B p) (hc : i64B c) (ht : i64B t)
    (hK : ∀ w', StepSet w' b (n + 1) (fun a' c' t' => f a' c' t' || (a' == p && c' == c && t' == t)) → w.grownBy w' (some b) → wpList Tryd.prog ops Q rest (a.put o.dst undef) w') : wpList Tryd.prog ops Q (o :: rest) a w := by
  obtain ⟨D, hD, hf⟩ := hown
  obtain ⟨kl, hk⟩ := stepKey hp hc ht
  refine wpList_mapUpdate_own (H := Unit) w hg m x v _ hop 161 171 Tryd.lawStep Tryd.underlying152 unitElem b n D hm hD hn _ _ kl hx hv hk _ [] unitElem_mk ?_
  intro w' hw' hgw
  exact hK w' (stepSet_put hD hf hk hw') hgw

theorem wpList_look_map (hg : o.guard = none) (m x : Operand) (hop : o.op = Op.lookup 230 m x true) (b n : Nat) (f : Int → Int → Option Int) (hm : a.eval m = .map (some b)) (hown : SpotMap w b n f) (c t : Int) (hx : a.eval x = .agg #[.int .i64 c, .int .i64 t]) (hc : i64B c) (ht : i64B t)
    (hK : ∀ y, wpList Tryd.prog ops Q rest (a.put o.dst (.tuple #[.int .i64 y, .bool (f c t).isSome])) w) : wpList Tryd.prog ops Q (o :: rest) a w := by
  obtain ⟨D, hD, hf⟩ := hown
  obtain ⟨kl, hk⟩ := spotKey hc ht
  refine wpList_lookup_own_ok_int (H := Unit) w hg m x _ hop 225 3 .i64 Tryd.lawSpot Tryd.underlying230 Tryd.underlying3 (Tryd.zeroInt w) b n D hm hD _ kl hx hk ?_
  intro y _ _
  rw [(hf c t kl hk).1]; exact hK y

theorem wpList_get_map (hg : o.guard = none) (m x : Operand) (hop : o.op = Op.lookup 230 m x false) (b n : Nat) (f : Int → Int → Option Int) (hm : a.eval m = .map (some b)) (hown : SpotMap w b n f) (c t y : Int) (hx : a.eval x = .agg #[.int .i64 c, .int .i64 t]) (hc : i64B c) (ht : i64B t) (hy : f c t = some y)
    (hK : wpList Tryd.prog ops Q rest (a.put o.dst (.int .i64 y)) w) : wpList Tryd.prog ops Q (o :: rest) a w := by
  obtain ⟨D, hD, hf⟩ := hown
  obtain ⟨kl, hk⟩ := spotKey hc ht
  refine wpList_lookup_own_int (H := Unit) w hg m x _ hop 225 3 .i64 Tryd.lawSpot Tryd.underlying230 Tryd.underlying3 (Tryd.zeroInt w) b n D hm hD _ kl hx hk ?_
  intro z hz _
  rw [(hf c t kl hk).2 y hy] at hz
  cases hz
  exact hK

theorem wpList_put_map (hg : o.guard = none) (m x v : Operand) (hop : o.op = Op.mapUpdate 230 m x v) (b n : Nat) (f : Int → Int → Option Int) (hm : a.eval m = .map (some b)) (hown : SpotMap w b n f) (hn : n < maxLen) (c t y : Int) (hx : a.eval x = .agg #[.int .i64 c, .int .i64 t]) (hv : a.eval v = .int .i64 y) (hc : i64B c) (ht : i64B t) (hy : i64B y)
    (hK : ∀ w', SpotMap w' b (n + 1) (mapPut f c t y) → w.grownBy w' (some b) → wpList Tryd.prog ops Q rest (a.put o.dst undef) w') : wpList Tryd.prog ops Q (o :: rest) a w := by
  obtain ⟨D, hD, hf⟩ := hown
  obtain ⟨kl, hk⟩ := spotKey hc ht
  refine wpList_mapUpdate_own (H := Unit) w hg m x v _ hop 225 3 Tryd.lawSpot Tryd.underlying230 _ b n D hm hD hn _ _ kl hx hv hk _ [] (plainElem_int Tryd.underlying3 hy) ?_
  intro w' hw' hgw
  exact hK w' (spotMap_put hD hf hk hw') hgw

/-- The same at a literal's entry. -/
theorem wpList_ins_map (hg : o.guard = none) (m x v : Operand) (hop : o.op = Op.insert 230 m x v) (b n : Nat) (f : Int → Int → Option Int) (hm : a.eval m = .map (some b)) (hown : SpotMap w b n f) (hn : n < maxLen) (c t y : Int) (hx : a.eval x = .agg #[.int .i64 c, .int .i64 t]) (hv : a.eval v = .int .i64 y) (hc : i64B c) (ht : i64B t) (hy : i64B y)
    (hK : ∀ w', SpotMap w' b (n + 1) (mapPut f c t y) → w.grownBy w' (some b) → wpList Tryd.prog ops Q rest (a.put o.dst undef) w') : wpList Tryd.prog ops Q (o :: rest) a w := by
  obtain ⟨D, hD, hf⟩ := hown
  obtain ⟨kl, hk⟩ := spotKey hc ht
  refine wpList_plain hg fun K' hK' => ?_
  obtain ⟨w', hrun, r1, r2⟩ := hD.update Tryd.lawSpot Tryd.underlying230 hn hk (plainElem_int Tryd.underlying3 hy)
  unfold Oper.wp
  simp [execOp, hop, hm, hx, hv, hrun, Result.andThen]
  exact hK' _ _ (hK w' (spotMap_put hD hf hk r1) r2)

end

end Go.Proofs.YtnkgpinadgacgaaDoor

/- What a call has turned: some blocks, and nothing else that was there. -/
namespace Go.Proofs.YtnkgpinadgacgaaDoor
open Go.RowKit

/-- Of the blocks that were there only those of S may have turned. -/
structure Only (S : Nat → Prop) (w w' : World) : Prop where
  os : w'.os = w.os
  tape : w'.tape = w.tape
  output : w'.output = w.output
  size : w.heap.size ≤ w'.heap.size
  block : ∀ k, k < w.heap.size → ¬ S k → w'.heap[k]? = w.heap[k]?

theorem Only.refl (S : Nat → Prop) (w : World) : Only S w w := ⟨rfl, rfl, rfl, Nat.le_refl _, fun _ _ _ => rfl⟩

theorem Only.trans {S S' : Nat → Prop} {a b c : World} (h : Only S a b) (k : Only S' b c) (hs : ∀ i, i < a.heap.size → S' i → S i) : Only S a c :=
  ⟨k.os.trans h.os, k.tape.trans h.tape, k.output.trans h.output, Nat.le_trans h.size k.size, fun i hi hn => (k.block i (Nat.lt_of_lt_of_le hi h.size) (fun e => hn (hs i hi e))).trans (h.block i hi hn)⟩

theorem Only.of_below {S : Nat → Prop} {w w' : World} (h : Below w.heap.size w w') : Only S w w' := ⟨h.os, h.tape, h.output, h.size, fun k hk _ => h.block k hk⟩

theorem Only.of_grown {w w' : World} {b : Nat} (h : w.grownBy w' (some b)) : Only (fun k => k = b) w w' := ⟨h.os, h.tape, h.output, h.size, fun k hk hn => h.block k hk (fun e => hn (Option.some.inj e))⟩

theorem Only.alloc {S : Nat → Prop} {a w : World} (h : Only S a w) (o : Obj) : Only S a (w.alloc o) :=
  h.trans (Only.of_below ((Below.refl _ _).alloc (Nat.le_refl _) _) : Only (fun _ => False) w _) (fun _ _ e => e.elim)

theorem Only.setCell {S : Nat → Prop} {a w : World} (h : Only S a w) {p : Addr} (hp : p.block < a.heap.size → S p.block) (u : Value) : Only S a (w.setCell p u) := by
  have h2 : Only (fun k => k = p.block) w (w.setCell p u) := ⟨rfl, rfl, rfl, by simp, fun k _ hn => Below.heap_setCell w p u k hn⟩
  exact h.trans h2 (fun i hi e => by subst e; exact hp hi)

theorem Only.drew {S : Nat → Prop} {a w : World} (h : Only S a w) : Only S a w.drew := ⟨h.os, h.tape, h.output, h.size, h.block⟩

theorem Only.drewN {S : Nat → Prop} {a w : World} (h : Only S a w) (n : Nat) : Only S a (w.drewN n) := ⟨h.os, h.tape, h.output, h.size, h.block⟩

theorem Only.mono {S S' : Nat → Prop} {a w : World} (h : Only S a w) (hs : ∀ i, i < a.heap.size → S i → S' i) : Only S' a w := ⟨h.os, h.tape, h.output, h.size, fun k hk hn => h.block k hk (fun e => hn (hs k hk e))⟩

theorem Only.below {S : Nat → Prop} {a w : World} (h : Only S a w) {B : Nat} (hB : B ≤ a.heap.size) (hs : ∀ i, S i → B ≤ i) : Below B a w :=
  ⟨h.os, h.tape, h.output, h.size, fun k hk => h.block k (Nat.lt_of_lt_of_le hk hB) (fun e => by have := hs k e; omega)⟩

theorem Only.cell {S : Nat → Prop} {a w : World} (h : Only S a w) {p : Addr} (hp : p.block < a.heap.size) (hn : ¬ S p.block) : w.cell? p = a.cell? p := World.cell?_of_block (w := a) (h.block p.block hp hn)

theorem Only.frozen {S : Nat → Prop} {a w : World} (h : Only S a w) {p : Addr} (hp : p.block < a.heap.size) (hn : ¬ S p.block) : w.frozen? p = a.frozen? p := World.frozen?_of_block (w := a) (h.block p.block hp hn)

/-- What lay below B, where only blocks from B on may have turned. -/
theorem below_only {B : Nat} {a b c : World} {S : Nat → Prop} (h : Below B a b) (k : Only S b c) (hB : B ≤ b.heap.size) (hs : ∀ i, S i → B ≤ i) : Below B a c := h.trans (k.below hB hs)

end Go.Proofs.YtnkgpinadgacgaaDoor

/- Plain facts on rules: when a cart may be on a cell, when it may go; where it can have come; when it may stay for ever. No program is named here. -/
namespace Go.Proofs.YtnkgpinadgacgaaDoor.M

/-- A rule. -/
structure RuleM where
  kind : Int
  cell : Int
  next : Int
  at' : Int

/-- The rule forbids to be on a cell at an instant. -/
def brkOn (r : RuleM) (c t : Int) : Bool := r.at' == t && (r.kind == 0 && r.cell == c || r.kind == 2 && !(r.cell == c))

/-- The rule forbids to go from a to b at an instant. -/
def brkGo (r : RuleM) (a b t : Int) : Bool := r.kind == 1 && r.at' == t && r.cell == a && r.next == b

/-- The rules let a cart be on a cell at an instant. -/
def onM (n : Nat) (R : Nat → RuleM) (c t : Int) : Bool := !anyB (fun i => brkOn (R i) c t) n

def noWayM (n : Nat) (R : Nat → RuleM) (a b t : Int) : Bool := anyB (fun i => brkGo (R i) a b t) n

/-- The yard and the rules let a cart go from a to b at an instant, and be there. -/
def goesM (co : Int) (cs : ByteArray) (n : Nat) (R : Nat → RuleM) (a b : Nat) (t : Nat) : Bool :=
  adjM co cs a b && onM n R b (t + 1 : Nat) && !noWayM n R a b t

/-- The rules let a cart that is on a cell at an instant stay there for ever. -/
def staysM (co : Int) (cs : ByteArray) (n : Nat) (R : Nat → RuleM) (c : Nat) (t : Nat) : Bool := !anyB (fun j => !goesM co cs n R c c (t + j)) (61 - t)

/-- Where the cart can be at an instant. -/
def reachM (co : Int) (cs : ByteArray) (n : Nat) (R : Nat → RuleM) (fr : Nat) : Nat → Nat → Bool
  | 0, c => c == fr && onM n R c 0
  | t + 1, c => anyB (fun a => reachM co cs n R fr t a && goesM co cs n R a c t) cs.size

/-- The cart can have come to stay. -/
def hitM (co : Int) (cs : ByteArray) (n : Nat) (R : Nat → RuleM) (fr tt : Nat) (t : Nat) : Bool := reachM co cs n R fr t tt && staysM co cs n R tt t

theorem anyB_false {p : Nat → Bool} {n : Nat} : anyB p n = false ↔ ∀ i, i < n → p i = false := by
  constructor
  · intro h i hi
    cases e : p i with
    | false => rfl
    | true => rw [anyB_of e hi] at h; cases h
  · intro h
    cases e : anyB p n with
    | false => rfl
    | true => obtain ⟨i, hi, hp⟩ := anyB_true e; rw [h i hi] at hp; cases hp

theorem anyB_iff {p : Nat → Bool} {n : Nat} : anyB p n = true ↔ ∃ i, i < n ∧ p i = true :=
  ⟨anyB_true, fun ⟨_, hi, hp⟩ => anyB_of hp hi⟩

/-- Each rule is such as there may be. -/
def ruleB (N : Nat) (r : RuleM) : Bool := decide (0 ≤ r.kind) && decide (r.kind ≤ 2) && decide (0 ≤ r.cell) && decide (r.cell < N) && decide (0 ≤ r.at') && decide (r.at' ≤ 60)

def rulesB (N n : Nat) (R : Nat → RuleM) : Bool := decide (n ≤ 40) && !anyB (fun i => !ruleB N (R i)) n

theorem rulesB_at {N n : Nat} {R : Nat → RuleM} (h : rulesB N n R = true) {i : Nat} (hi : i < n) : 0 ≤ (R i).kind ∧ (R i).kind ≤ 2 ∧ 0 ≤ (R i).cell ∧ (R i).cell < N ∧ 0 ≤ (R i).at' ∧ (R i).at' ≤ 60 := by
  unfold rulesB at h
  simp only [Bool.and_eq_true, decide_eq_true_eq, Bool.not_eq_true'] at h
  have := anyB_false.1 h.2 i hi
  simp only [Bool.not_eq_false'] at this
  unfold ruleB at this
  simp only [Bool.and_eq_true, decide_eq_true_eq] at this
  omega

theorem rulesB_len {N n : Nat} {R : Nat → RuleM} (h : rulesB N n R = true) : n ≤ 40 := by
  unfold rulesB at h
  simp only [Bool.and_eq_true, decide_eq_true_eq] at h
  exact h.1

/-- Behind the last instant no rule says anything. -/
theorem on_late {N n : Nat} {R : Nat → RuleM} (h : rulesB N n R = true) {c t : Int} (ht : 61 ≤ t) : onM n R c t = true := by
  unfold onM
  rw [anyB_false.2, Bool.not_false]
  intro i hi
  have := rulesB_at h hi
  unfold brkOn
  rw [show ((R i).at' == t) = false by simp; omega]; rfl

theorem noWay_late {N n : Nat} {R : Nat → RuleM} (h : rulesB N n R = true) {a b t : Int} (ht : 61 ≤ t) : noWayM n R a b t = false := by
  unfold noWayM
  refine anyB_false.2 fun i hi => ?_
  have := rulesB_at h hi
  unfold brkGo
  rw [show ((R i).at' == t) = false by simp; omega]; simp

theorem goes_late {co : Int} {cs : ByteArray} {N n : Nat} {R : Nat → RuleM} (h : rulesB N n R = true) {a b t : Nat} (ht : 61 ≤ t) : goesM co cs n R a b t = adjM co cs a b := by
  unfold goesM
  rw [on_late h (by omega), noWay_late h (by omega)]
  simp

theorem goes_adj {co : Int} {cs : ByteArray} {n : Nat} {R : Nat → RuleM} {a b t : Nat} (h : goesM co cs n R a b t = true) : adjM co cs a b = true := by
  unfold goesM at h
  simp only [Bool.and_eq_true] at h
  exact h.1.1

theorem goes_on {co : Int} {cs : ByteArray} {n : Nat} {R : Nat → RuleM} {a b t : Nat} (h : goesM co cs n R a b t = true) : onM n R b (t + 1 : Nat) = true := by
  unfold goesM at h
  simp only [Bool.and_eq_true] at h
  exact h.1.2

theorem reach_on {co : Int} {cs : ByteArray} {n : Nat} {R : Nat → RuleM} {fr : Nat} : ∀ {t c : Nat}, reachM co cs n R fr t c = true → onM n R c t = true
  | 0, c, h => by simp only [reachM, Bool.and_eq_true] at h; exact h.2
  | t + 1, c, h => by
    simp only [reachM] at h
    obtain ⟨a, _, ha⟩ := anyB_true h
    simp only [Bool.and_eq_true] at ha
    exact goes_on ha.2

theorem stays_iff {co : Int} {cs : ByteArray} {n : Nat} {R : Nat → RuleM} {c t : Nat} : staysM co cs n R c t = true ↔ ∀ s, t ≤ s → s < 61 → goesM co cs n R c c s = true := by
  unfold staysM
  rw [Bool.not_eq_true', anyB_false]
  constructor
  · intro h s h1 h2
    have := h (s - t) (by omega)
    rw [show t + (s - t) = s by omega] at this
    simpa using this
  · intro h i hi
    have := h (t + i) (by omega) (by omega)
    simp [this]

/-- A rule is broken by staying on a cell. -/
def brkStay (c : Int) (r : RuleM) : Bool := if r.kind == 0 then r.cell == c else if r.kind == 1 then r.cell == c && r.next == c else !(r.cell == c)

/-- The first instant from which staying keeps the rules. -/
def settledM (c : Int) (R : Nat → RuleM) : Nat → Int
  | 0 => 0
  | k + 1 => if brkStay c (R k) = true then max (settledM c R k) ((R k).at' + 1) else settledM c R k

theorem settled_le {c : Int} {R : Nat → RuleM} : ∀ {n : Nat} {i : Nat}, i < n → brkStay c (R i) = true → (R i).at' + 1 ≤ settledM c R n
  | n + 1, i, hi, hb => by
    simp only [settledM]
    by_cases e : i = n
    · subst e; rw [if_pos hb]; omega
    · have := settled_le (c := c) (R := R) (n := n) (i := i) (by omega) hb
      split <;> omega

theorem settled_is {c : Int} {R : Nat → RuleM} : ∀ {n : Nat}, settledM c R n = 0 ∨ ∃ i, i < n ∧ brkStay c (R i) = true ∧ settledM c R n = (R i).at' + 1
  | 0 => Or.inl rfl
  | n + 1 => by
    simp only [settledM]
    rcases settled_is (c := c) (R := R) (n := n) with h | ⟨i, hi, hb, h⟩
    · by_cases e : brkStay c (R n) = true
      · rw [if_pos e]
        by_cases e2 : settledM c R n ≤ (R n).at' + 1
        · exact Or.inr ⟨n, by omega, e, by omega⟩
        · exact Or.inl (by omega)
      · rw [if_neg e]; exact Or.inl h
    · by_cases e : brkStay c (R n) = true
      · rw [if_pos e]
        by_cases e2 : settledM c R n ≤ (R n).at' + 1
        · exact Or.inr ⟨n, by omega, e, by omega⟩
        · exact Or.inr ⟨i, by omega, hb, by omega⟩
      · rw [if_neg e]; exact Or.inr ⟨i, by omega, hb, h⟩

theorem settled_bd {N : Nat} {c : Int} {R : Nat → RuleM} {n : Nat} (h : rulesB N n R = true) : 0 ≤ settledM c R n ∧ settledM c R n ≤ 61 := by
  rcases settled_is (c := c) (R := R) (n := n) with e | ⟨i, hi, _, e⟩
  · rw [e]; omega
  · have := rulesB_at h hi
    rw [e]; omega

/-- What a rule that is broken by staying forbids at its own instant. -/
theorem brkStay_says {N n : Nat} {R : Nat → RuleM} (h : rulesB N n R = true) {i : Nat} (hi : i < n) {c : Int} (hb : brkStay c (R i) = true) : onM n R c (R i).at' = false ∨ noWayM n R c c (R i).at' = true := by
  have hr := rulesB_at h hi
  unfold brkStay at hb
  by_cases e0 : (R i).kind = 0
  · simp only [e0] at hb
    refine Or.inl ?_
    unfold onM
    rw [anyB_of (i := i) (by unfold brkOn; simp [e0]; simpa using hb) hi]; rfl
  · by_cases e1 : (R i).kind = 1
    · simp only [e1] at hb
      simp at hb
      refine Or.inr ?_
      unfold noWayM
      exact anyB_of (i := i) (by unfold brkGo; simp [e1, hb.1, hb.2]) hi
    · have e2 : (R i).kind = 2 := by omega
      simp only [e2] at hb
      simp at hb
      refine Or.inl ?_
      unfold onM
      rw [anyB_of (i := i) (by unfold brkOn; simp [e2, hb]) hi]; rfl

/-- Staying from t on breaks a rule: then that rule's instant is t or later. -/
theorem goes_not {co : Int} {cs : ByteArray} {n : Nat} {R : Nat → RuleM} {c s : Nat} (hadj : adjM co cs c c = true) (h : goesM co cs n R c c s = false) : onM n R c (s + 1 : Nat) = false ∨ noWayM n R c c s = true := by
  unfold goesM at h
  rw [hadj] at h
  cases e1 : onM n R c (s + 1 : Nat) with
  | false => exact Or.inl rfl
  | true =>
    rw [e1] at h
    right
    simpa using h

theorem on_not {n : Nat} {R : Nat → RuleM} {c t : Int} (h : onM n R c t = false) : ∃ i, i < n ∧ (R i).at' = t ∧ brkStay c (R i) = true := by
  unfold onM at h
  simp only [Bool.not_eq_false'] at h
  obtain ⟨i, hi, hb⟩ := anyB_true h
  unfold brkOn at hb
  simp only [Bool.and_eq_true, Bool.or_eq_true, beq_iff_eq, Bool.not_eq_true'] at hb
  refine ⟨i, hi, hb.1, ?_⟩
  unfold brkStay
  rcases hb.2 with ⟨e1, e2⟩ | ⟨e1, e2⟩
  · simp [e1, e2]
  · simp [e1]; simpa using e2

theorem noWay_not {n : Nat} {R : Nat → RuleM} {c t : Int} (h : noWayM n R c c t = true) : ∃ i, i < n ∧ (R i).at' = t ∧ brkStay c (R i) = true := by
  unfold noWayM at h
  obtain ⟨i, hi, hb⟩ := anyB_true h
  unfold brkGo at hb
  simp only [Bool.and_eq_true, beq_iff_eq] at hb
  refine ⟨i, hi, hb.1.1.2, ?_⟩
  unfold brkStay
  simp [hb.1.1.1, hb.1.2, hb.2]

/-- Where the cart can be, it may stay just from the settled instant on. -/
theorem stays_settled {co : Int} {cs : ByteArray} {N n : Nat} {R : Nat → RuleM} (hr : rulesB N n R = true) {c t : Nat} (hadj : adjM co cs c c = true) (hon : onM n R c t = true) :
    staysM co cs n R c t = decide (settledM c R n ≤ t) := by
  rw [Bool.eq_iff_iff, decide_eq_true_eq, stays_iff]
  constructor
  · intro h
    rcases settled_is (c := c) (R := R) (n := n) with e | ⟨i, hi, hb, e⟩
    · omega
    · have hri := rulesB_at hr hi
      by_cases hlt : settledM c R n ≤ t
      · exact hlt
      · exfalso
        obtain ⟨s, hs⟩ := Int.eq_ofNat_of_zero_le hri.2.2.2.2.1
        rcases brkStay_says hr hi hb with h1 | h1
        · rw [hs] at h1
          by_cases e2 : s = t
          · subst e2; rw [hon] at h1; cases h1
          · have := goes_on (h (s - 1) (by omega) (by omega))
            rw [show s - 1 + 1 = s by omega, h1] at this; cases this
        · have := h s (by omega) (by omega)
          unfold goesM at this
          rw [hs] at h1
          rw [h1] at this
          simp at this
  · intro h s h1 h2
    cases e : goesM co cs n R c c s with
    | true => rfl
    | false =>
      exfalso
      rcases goes_not hadj e with g | g
      · obtain ⟨i, hi, ha, hb⟩ := on_not g
        have := settled_le hi hb
        omega
      · obtain ⟨i, hi, ha, hb⟩ := noWay_not g
        have := settled_le hi hb
        omega

end Go.Proofs.YtnkgpinadgacgaaDoor.M

/- Rules in memory; walks of the document's on, goes, stays. -/
namespace Go.Proofs.YtnkgpinadgacgaaDoor
open Go.RowKit M

/-- The rules of a list lie in memory. -/
def RulesIn (w : World) (b off n : Nat) (R : Nat → RuleM) : Prop :=
  ∀ i, i < n → w.cell? ⟨b, off + i * 4, none⟩ = some (.int .i64 (R i).kind) ∧ w.cell? ⟨b, off + i * 4 + 1, none⟩ = some (.int .i64 (R i).cell) ∧
    w.cell? ⟨b, off + i * 4 + 2, none⟩ = some (.int .i64 (R i).next) ∧ w.cell? ⟨b, off + i * 4 + 3, none⟩ = some (.int .i64 (R i).at')

def RulesAt (w : World) (a : Option Addr) (n : Nat) (R : Nat → RuleM) : Prop := 0 < n → ∃ b off, a = some ⟨b, off, none⟩ ∧ RulesIn w b off n R

theorem RulesAt.below {w w' : World} {a : Option Addr} {n : Nat} {R : Nat → RuleM} (h : RulesAt w a n R) (hb : Below w.heap.size w w') : RulesAt w' a n R := fun h0 => by
  obtain ⟨b, off, ha, hr⟩ := h h0
  refine ⟨b, off, ha, fun i hi => ?_⟩
  obtain ⟨h1, h2, h3, h4⟩ := hr i hi
  exact ⟨cell_later hb h1, cell_later hb h2, cell_later hb h3, cell_later hb h4⟩

theorem on_hit {n : Nat} {R : Nat → RuleM} {c t : Int} {k : Nat} (hk : k < n) (h : brkOn (R k) c t = true) : onM n R c t = false := by
  unfold onM; rw [anyB_of h hk]; rfl

theorem on_miss {n : Nat} {R : Nat → RuleM} {c t : Int} (h : ∀ j, j < n → brkOn (R j) c t = false) : onM n R c t = true := by
  unfold onM; rw [anyB_false.2 h]; rfl

theorem upto_step {p : Nat → Bool} {k : Nat} (hb : p k = false) (hg : ∀ j, j < k → p j = false) : ∀ j, j < k + 1 → p j = false := by
  intro j hj
  by_cases e : j = k
  · subst e; exact hb
  · exact hg j (by omega)

set_option maxHeartbeats 1000000 in
theorem on_any (a : Option Addr) (n cap : Nat) (R : Nat → RuleM) (c t : Int) (w : World) (hn : n ≤ maxLen) (ha : RulesAt w a n R) :
    Calls Tryd.prog 74 #[.slice a n cap, .int .i64 c, .int .i64 t] w fun e w' => e = .returned (.bool (onM n R c t)) ∧ Below w.heap.size w w' := by
  have HA := Hid.mk ha
  clear ha
  unfold maxLen at hn
  go_enter Tryd.func74, Tryd.ntmps74
  go_wp2
  go_loopw [7] (fun s wr => ∃ k : Nat, k ≤ n ∧ s = .int .i64 k ∧ (∀ j, j < k → brkOn (R j) c t = false) ∧ Below w.heap.size w wr) (fun s _ => n - (intOf s).toNat)
  case atStart => exact ⟨0, Nat.zero_le _, rfl, fun j hj => absurd hj (Nat.not_lt_zero j), Below.refl _ _⟩
  case round =>
    obtain ⟨k, hk, rfl, hg0, hbr⟩ := hrel
    have hg := Hid.mk hg0
    have HB := Hid.mk hbr
    clear hg0 hbr
    by_cases hlt : k < n
    · obtain ⟨b, off, rfl, hrs⟩ := HA.out (by omega)
      obtain ⟨c0, c1, c2, c3⟩ := hrs k hlt
      have c0 := cell_later HB.out c0
      have c1 := cell_later HB.out c1
      have c2 := cell_later HB.out c2
      have c3 := cell_later HB.out c3
      clear hrs
      obtain ⟨r, hr⟩ : ∃ r, r = R k := ⟨_, rfl⟩
      rw [← hr] at c0 c1 c2 c3
      obtain ⟨kd, ce, ne, ta⟩ := r
      have Hr := Hid.mk hr
      clear hr
      dsimp only at c0 c1 c2 c3
      have go : ∀ b, brkOn ⟨kd, ce, ne, ta⟩ c t = b → brkOn (R k) c t = b := fun b h => by rw [← Hr.out]; exact h
      have GO := Hid.mk go
      clear go
      have yes : brkOn ⟨kd, ce, ne, ta⟩ c t = true → onM n R c t = false := fun h => on_hit hlt (GO.out _ h)
      have YES := Hid.mk yes
      clear yes
      by_cases q1 : (ta == t) = true
      · by_cases q2 : (kd == 0) = true
        · by_cases q3 : (ce == c) = true
          · go_wp2
            go_ret
            exact ⟨ret_bool (YES.out (by unfold brkOn; simp [q1, q2, q3])).symm, HB.out.alloc (HB.out.size) _⟩
          · have q3' : (ce == c) = false := by simpa using q3
            have q4 : (kd == 2) = false := by simp at q2 ⊢; omega
            clear q3
            go_wp2
            go_roundw
            case rel => exact ⟨k + 1, by omega, by go_num, upto_step (p := fun j => brkOn (R j) c t) (GO.out _ (by unfold brkOn; simp [q3', q4])) hg.out, HB.out.alloc (HB.out.size) _⟩
            case measure => simp [intOf]; omega
        · have q2' : (kd == 0) = false := by simpa using q2
          clear q2
          by_cases q4 : (kd == 2) = true
          · by_cases q3 : (ce == c) = true
            · go_wp2
              go_roundw
              case rel => exact ⟨k + 1, by omega, by go_num, upto_step (p := fun j => brkOn (R j) c t) (GO.out _ (by unfold brkOn; simp [q2', q3])) hg.out, HB.out.alloc (HB.out.size) _⟩
              case measure => simp [intOf]; omega
            · have q3' : (ce == c) = false := by simpa using q3
              clear q3
              go_wp2
              go_ret
              exact ⟨ret_bool (YES.out (by unfold brkOn; simp [q1, q4, q3'])).symm, HB.out.alloc (HB.out.size) _⟩
          · have q4' : (kd == 2) = false := by simpa using q4
            clear q4
            go_wp2
            go_roundw
            case rel => exact ⟨k + 1, by omega, by go_num, upto_step (p := fun j => brkOn (R j) c t) (GO.out _ (by unfold brkOn; simp [q2', q4'])) hg.out, HB.out.alloc (HB.out.size) _⟩
            case measure => simp [intOf]; omega
      · have q1' : (ta == t) = false := by simpa using q1
        clear q1
        go_wp2
        go_roundw
        case rel => exact ⟨k + 1, by omega, by go_num, upto_step (p := fun j => brkOn (R j) c t) (GO.out _ (by unfold brkOn; simp [q1'])) hg.out, HB.out.alloc (HB.out.size) _⟩
        case measure => simp [intOf]; omega
    · have hd : k = n := by omega
      go_wp2
      go_ret
      subst hd
      exact ⟨ret_bool (on_miss hg.out).symm, HB.out⟩

end Go.Proofs.YtnkgpinadgacgaaDoor
