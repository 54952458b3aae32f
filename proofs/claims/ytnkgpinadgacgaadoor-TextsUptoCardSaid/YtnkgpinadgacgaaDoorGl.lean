/- A law on regions that draw their order: where some operations (the stores) wait for all others, what the others read may be held on to till those come up. No program is named here. -/
import Derived.Test.YtnkgpinadgacgaaDoorBa
import Derived.Deep.MidRow
import Derived.RegionTactic
namespace Go.Proofs.YtnkgpinadgacgaaDoor.LM
open Go

section
variable {P : Program} {ops : Array Oper} {Q : Exit → Act → World → Prop} {md : Region.Mode} {late : Nat → Bool} {S : World → Prop}

/-- Whatever comes up from here on; till a late one comes up, S holds. -/
def anyL (P : Program) (md : Region.Mode) (ops : Array Oper) (Q : Exit → Act → World → Prop) (late : Nat → Bool) (S : World → Prop) : Nat → Array Bool → Act → World → Prop
  | 0, listed, a, w => Region.ready md ops listed = [] ∧ Q .normal a w
  | f + 1, listed, a, w => (Region.ready md ops listed = [] → Q .normal a w) ∧
      ∀ j ∈ Region.ready md ops listed, wpOp P ops Q j (fun a1 w1 => (late j = false → S w1) ∧ anyL P md ops Q late S f (listed.setIfInBounds j true) a1 w1) a w

theorem any_of_L : ∀ (f : Nat) (listed : Array Bool) (a : Act) (w : World), anyL P md ops Q late S f listed a w → wpAny P md ops Q f listed a w
  | 0, _, _, _, h => h
  | f + 1, _, _, _, h => ⟨h.1, fun j hj => wpOp_mono (fun a1 w1 h1 => any_of_L f _ a1 w1 h1.2) (h.2 j hj)⟩

/-- Where only late ones are left nothing need be held on to. -/
theorem L_of_any : ∀ (f : Nat) (listed : Array Bool) (a : Act) (w : World), (∀ j, j < ops.size → listed.getD j true = false → late j = true) → wpAny P md ops Q f listed a w → anyL P md ops Q late S f listed a w
  | 0, _, _, _, _, h => h
  | f + 1, listed, _, _, hl, h => by
    refine ⟨h.1, fun j hj => ?_⟩
    obtain ⟨h1, o, h2, _⟩ := mem_ready.1 hj
    have hj2 := hl j (Array.getElem?_eq_some_iff.1 h2).1 h1
    refine wpOp_mono (fun a1 w1 h3 => ⟨fun h4 => (by rw [hj2] at h4; cases h4), L_of_any f _ a1 w1 (fun k hk hku => ?_) h3⟩) (h.2 j hj)
    by_cases e : j = k
    · subst e; exact hj2
    · rw [getD_set_ne true e] at hku
      exact hl k hk hku

/-- Number j waits for number i, by way of what has not come up either. -/
def waitsB (md : Region.Mode) (ops : Array Oper) (listed : Array Bool) (i : Nat) : Nat → Nat → Bool
  | 0, _ => false
  | f + 1, j => ((ops[j]?).map fun o => o.after.any fun e => Region.binds md e && (e.on == i || (!listed.getD e.on true && waitsB md ops listed i f e.on))).getD false

theorem listed_clash {listed : Array Bool} {k : Nat} (h1 : listed.getD k true = false) (h2 : listed.getD k false = true) : False := by
  rcases Nat.lt_or_ge k listed.size with h3 | h3
  · simp [h3] at h1 h2; rw [h1] at h2; cases h2
  · simp [Array.getElem?_eq_none h3] at h2

theorem waits_edge {listed : Array Bool} {i f j : Nat} {o : Oper} (ho : ops[j]? = some o) (h : waitsB md ops listed i (f + 1) j = true) : ∃ e ∈ o.after, Region.binds md e = true ∧ (e.on = i ∨ (listed.getD e.on true = false ∧ waitsB md ops listed i f e.on = true)) := by
  unfold waitsB at h
  rw [ho] at h
  simp only [Option.map_some, Option.getD_some] at h
  obtain ⟨e, he, hb⟩ := Array.any_eq_true'.1 h
  rw [Bool.and_eq_true, Bool.or_eq_true, Bool.and_eq_true, beq_iff_eq, Bool.not_eq_true'] at hb
  exact ⟨e, he, hb.1, hb.2⟩

/-- What waits may not come up. -/
theorem waits_not {listed : Array Bool} {i : Nat} (hi : listed.getD i true = false) {f j : Nat} (h : waitsB md ops listed i f j = true) : j ∉ Region.ready md ops listed := fun hj => by
  cases f with
  | zero => cases h
  | succ f =>
    obtain ⟨_, o, ho, hall⟩ := mem_ready.1 hj
    obtain ⟨e, he, hb, h1⟩ := waits_edge ho h
    have h2 := hall e he hb
    rcases h1 with h1 | ⟨h1, _⟩
    · rw [h1] at h2; exact listed_clash hi h2
    · exact listed_clash h1 h2

/-- It goes on waiting while another comes up. -/
theorem waits_on {listed : Array Bool} {i k : Nat} (hi : listed.getD i true = false) (hk : k ∈ Region.ready md ops listed) : ∀ {f j : Nat}, waitsB md ops listed i f j = true → waitsB md ops (listed.setIfInBounds k true) i f j = true
  | 0, _, h => by cases h
  | f + 1, j, h => by
    cases ho : ops[j]? with
    | none => unfold waitsB at h; rw [ho] at h; cases h
    | some o =>
      obtain ⟨e, he, hb, h1⟩ := waits_edge ho h
      unfold waitsB
      rw [ho]
      simp only [Option.map_some, Option.getD_some]
      refine Array.any_eq_true'.2 ⟨e, he, ?_⟩
      rw [Bool.and_eq_true, Bool.or_eq_true, Bool.and_eq_true, beq_iff_eq, Bool.not_eq_true']
      refine ⟨hb, h1.imp id fun ⟨h2, h3⟩ => ⟨?_, waits_on hi hk h3⟩⟩
      have hne : k ≠ e.on := fun e2 => waits_not hi h3 (e2 ▸ hk)
      rw [getD_set_ne true hne]
      exact h2

/-- One that is not late, may come up, and yields its value where S holds, may be taken first: the late ones wait for it. -/
theorem L_first {i F : Nat} {oi : Oper} {v : Value} (hi : ops[i]? = some oi) (hsel : ∀ (j : Nat) (o : Oper) cs b, ops[j]? = some o → o.op ≠ .select cs b)
    (hQ : ∀ c a w, Q (.panic c) (a.put oi.dst v) w → Q (.panic c) a w) : ∀ (f : Nat) (listed : Array Bool) (a : Act) (w : World),
      (∀ j oj, ops[j]? = some oj → j ≠ i → listed.getD j true = false → (∀ e ∈ oj.after, Region.binds md e = true → e.on ≠ i) → oi.apart ops oj = true) →
      (∀ j, j < ops.size → late j = true → listed.getD j true = false → waitsB md ops listed i F j = true) →
      i ∈ Region.ready md ops listed → YieldsIf P ops S oi v a → S w → anyL P md ops Q late S f (listed.setIfInBounds i true) (a.put oi.dst v) w → anyL P md ops Q late S (f + 1) listed a w := by
  intro f
  induction f with
  | zero =>
    intro listed a w _ _ hr hy hS H
    refine ⟨fun h => (by rw [h] at hr; cases hr), fun j hj => ?_⟩
    by_cases hji : j = i
    · subst hji
      exact hy.wpOp hi hS ⟨fun _ => hS, H⟩
    · have h9 := ready_mono hj hji
      rw [H.1] at h9
      cases h9
  | succ f ih =>
    intro listed a w hfree hlate hr hy hS H
    refine ⟨fun h => (by rw [h] at hr; cases hr), fun j hj => ?_⟩
    by_cases hji : j = i
    · subst hji
      exact hy.wpOp hi hS ⟨fun _ => hS, H⟩
    · obtain ⟨hju, oj, hoj, hall⟩ := mem_ready.1 hj
      have hiu := (mem_ready.1 hr).1
      have hjs : j < ops.size := (Array.getElem?_eq_some_iff.1 hoj).1
      have hjl : late j = false := by
        cases hh : late j with
        | false => rfl
        | true => exact absurd hj (waits_not hiu (hlate j hjs hh hju))
      have hnot : ∀ e ∈ oj.after, Region.binds md e = true → e.on ≠ i := fun e he hb heq => by
        have h2 := hall e he hb
        rw [heq] at h2
        exact listed_clash hiu h2
      have h2 := wpOp_putIf hoj (hfree j oj hoj hji hju hnot) (fun cs b => hsel i oi cs b hi) (fun cs b => hsel j oj cs b hoj) hQ hy (H.2 j (ready_mono hj hji))
      refine wpOp_mono (fun a1 w1 h3 => ⟨h3.2.1, ih (listed.setIfInBounds j true) a1 w1 (fun k ok hk hki hun hno => ?_) (fun k hks hkl hun => ?_) (ready_mono hr (Ne.symm hji)) h3.1 (h3.2.1 hjl) ?_⟩) h2
      · by_cases hjk : j = k
        · subst hjk; exact hfree j ok hk hki hju hno
        · rw [getD_set_ne true hjk] at hun
          exact hfree k ok hk hki hun hno
      · have hjk : j ≠ k := fun e => by rw [e] at hjl; rw [hjl] at hkl; cases hkl
        rw [getD_set_ne true hjk] at hun
        exact waits_on hiu hj (hlate k hks hkl hun)
      · rw [Array.setIfInBounds_comm _ _ hji]
        exact h3.2.2

/-- Do all late ones wait for number i? -/
def lateB (md : Region.Mode) (ops : Array Oper) (late : Nat → Bool) (listed : Array Bool) (i : Nat) : Bool :=
  (List.range ops.size).all fun j => !late j || listed.getD j true || waitsB md ops listed i 4 j

theorem L_take {i : Nat} {oi : Oper} {v : Value} {f : Nat} {listed : Array Bool} {a : Act} {w : World} (hi : ops[i]? = some oi) (hs : Region.noSelect ops = true) (hf : Region.free md ops listed i = true)
    (hr : (Region.ready md ops listed).contains i = true) (hw : lateB md ops late listed i = true) (hQ : ∀ c a w, Q (.panic c) (a.put oi.dst v) w → Q (.panic c) a w) (hy : YieldsIf P ops S oi v a) (hS : S w)
    (h : anyL P md ops Q late S f (listed.setIfInBounds i true) (a.put oi.dst v) w) : anyL P md ops Q late S (f + 1) listed a w := by
  refine L_first (F := 4) hi (Region.noSelect_spec hs) hQ f listed a w (Region.free_spec hi hf) (fun j hj hl hu => ?_) (by simpa using hr) hy hS h
  unfold lateB at hw
  rw [List.all_eq_true] at hw
  have h1 := hw j (List.mem_range.2 hj)
  rw [hl, hu] at h1
  simpa using h1

/-- Do only late ones stand open? -/
def onlyB (ops : Array Oper) (late : Nat → Bool) (listed : Array Bool) : Bool := (List.range ops.size).all fun j => listed.getD j true || late j

theorem L_rest {f : Nat} {listed : Array Bool} {a : Act} {w : World} (ho : onlyB ops late listed = true) (h : wpAny P md ops Q f listed a w) : anyL P md ops Q late S f listed a w :=
  L_of_any f listed a w (fun j hj hu => by
    unfold onlyB at ho
    rw [List.all_eq_true] at ho
    have h1 := ho j (List.mem_range.2 hj)
    rw [hu] at h1
    simpa using h1) h

/-- A store of many cells that alone may come up. -/
theorem any_store {i : Nat} {o : Oper} {f : Nat} {listed : Array Bool} {a : Act} {w : World} (ho : ops[i]? = some o) (hr : Region.ready md ops listed = [i]) (hg : o.guard = none) (ty : TypeId) (x y : Operand) (hop : o.op = .store ty x y)
    (b off : Nat) (cells : Array Value) (hx : a.eval x = .pointer (some ⟨b, off, none⟩)) (hy : a.eval y = .agg cells) (ht : w.there b off cells.size) (hi : (P.info? ty).map (·.size) = some cells.size) (h1 : cells.all (·.oneCell') = true)
    (h : wpAny P md ops Q f (listed.setIfInBounds i true) (a.put o.dst undef) (w.setCells b off cells.toList)) : wpAny P md ops Q (f + 1) listed a w := by
  refine wpAny_ready hr (by simp) (AllReady.cons ho (fun K hK => ?_) AllReady.nil)
  rw [if_pos (by simp [Region.wanted, hg])]
  exact wp_store_mid ty x y hop b off cells hx hy ht hi h1 (hK _ _ h)

/-- One that alone may come up. -/
theorem any_one {i : Nat} {o : Oper} {f : Nat} {listed : Array Bool} {a : Act} {w : World} (ho : ops[i]? = some o) (hr : Region.ready md ops listed = [i]) (hg : o.guard = none)
    (h : ∀ K : Act → World → Prop, (∀ a w, wpAny P md ops Q f (listed.setIfInBounds i true) a w → K a w) → Oper.wp P o a w K Q) : wpAny P md ops Q (f + 1) listed a w := by
  refine wpAny_ready hr (by simp) (AllReady.cons ho (fun K hK => ?_) AllReady.nil)
  rw [if_pos (by simp [Region.wanted, hg])]
  exact h K hK

/-- One that alone may come up while S is held on to. -/
theorem L_one {i : Nat} {o : Oper} {f : Nat} {listed : Array Bool} {a : Act} {w : World} (ho : ops[i]? = some o) (hr : Region.ready md ops listed = [i]) (hg : o.guard = none)
    (h : ∀ K : Act → World → Prop, (∀ a w, S w → anyL P md ops Q late S f (listed.setIfInBounds i true) a w → K a w) → Oper.wp P o a w K Q) : anyL P md ops Q late S (f + 1) listed a w := by
  refine ⟨fun h0 => (by rw [hr] at h0; cases h0), fun j hj => ?_⟩
  rw [hr, List.mem_singleton] at hj
  subst hj
  refine wpOp_step ho fun K hK => ?_
  rw [if_pos (by simp [Region.wanted, hg])]
  exact h K fun a1 w1 h1 h2 => hK a1 w1 ⟨fun _ => h1, h2⟩

/-- All have come up. -/
theorem L_done {listed : Array Bool} {a : Act} {w : World} (hr : Region.ready md ops listed = []) (h : Q .normal a w) : ∀ f, anyL P md ops Q late S f listed a w
  | 0 => ⟨hr, h⟩
  | _ + 1 => ⟨fun _ => h, by rw [hr]; simp⟩

/-- Which are late. -/
def lateOf (l : List Nat) (j : Nat) : Bool := l.contains j

end

end Go.Proofs.YtnkgpinadgacgaaDoor.LM
