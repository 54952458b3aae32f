/- What Lanes asks of Layers, call by call. -/
import Derived.Test.YtnkgpinadgacgaaDoorEy
import Derived.Test.YtnkgpinadgacgaaDoorEv
namespace Go.Proofs.YtnkgpinadgacgaaDoor
open Go.RowKit M

/-- The document's layers, as a list. -/
def layL (co : Int) (cs : ByteArray) (n : Nat) (R : Nat → RuleM) (f c T : Nat) : List (List Nat) := (List.range (T + 1)).map fun t => outTo co cs n R f c T t cs.size

theorem layL_len {co : Int} {cs : ByteArray} {n : Nat} {R : Nat → RuleM} {f c T : Nat} : (layL co cs n R f c T).length = T + 1 := by simp [layL]
theorem layL_at {co : Int} {cs : ByteArray} {n : Nat} {R : Nat → RuleM} {f c T t : Nat} (ht : t < T + 1) : (layL co cs n R f c T).getD t [] = outTo co cs n R f c T t cs.size := by
  simp [layL, List.getD, ht]

/-- Layers that a path has. -/
structure Laid (w : World) (co : Int) (cs : ByteArray) (n : Nat) (R : Nat → RuleM) (f c T lo hi g : Nat) (hh na ca : Nat → Nat) : Prop where
  rows : Rows w lo hi g (T + 1) hh na ca (fun t => qi ((layL co cs n R f c T).getD t []))
  num : ∀ t, t < T + 1 → na t = (outTo co cs n R f c T t cs.size).length
  plan : PlanQ w (.slice (some ⟨g, 0, none⟩) (T + 1) (T + 1)) (layL co cs n R f c T)

theorem Laid.below {w w' : World} {co : Int} {cs : ByteArray} {n : Nat} {R : Nat → RuleM} {f c T lo hi g : Nat} {hh na ca : Nat → Nat} (h : Laid w co cs n R f c T lo hi g hh na ca) (hb : Below w.heap.size w w') : Laid w' co cs n R f c T lo hi g hh na ca :=
  ⟨h.rows.below hb, h.num, h.plan.below hb⟩

theorem klayers_ok (ro co bu : Int) (cs : ByteArray) (b off m cap : Nat) (fr tt : Nat → Int) (k f c T : Nat) (ar : Option Addr) (n capr : Nat) (R : Nat → RuleM) (w : World) (hcap : m ≤ cap) (hn : n ≤ maxLen) (hsd : SidesIn w) (hT : T ≤ 60)
    (hcs : CartsIn w b off m fr tt) (har : RulesAt w ar n R) (hwf : RulesWf n R) (he : givenE ro co bu cs m fr tt k n R = 0) (hf : fr k = (f : Int)) (hc : tt k = (c : Int)) (hr : rulesB cs.size n R = true) (hff : freeB cs f = true) (hcc : freeB cs c = true) (hs : cs.size ≤ 36)
    (hful : ∀ t, t ≤ T → outTo co cs n R f c T t cs.size ≠ []) :
    Calls Tryd.prog 25 #[.agg #[.int .i64 ro, .int .i64 co, .string cs, .slice (some ⟨b, off, none⟩) m cap, .int .i64 bu], .int .i64 k, .slice ar n capr, .int .i64 (T : Nat)] w fun e w' =>
      ∃ g hh na ca, e = .returned (.tuple #[.slice (some ⟨g, 0, none⟩) (T + 1) (T + 1), .int .i64 0]) ∧ Laid w' co cs n R f c T w.heap.size w'.heap.size g hh na ca ∧ Below w.heap.size w w' := by
  refine (ylayers_ok ro co bu cs b off m cap fr tt k f c T ar n capr R w hcap hn hsd hT hcs har hwf he hf hc).mono ?_
  rintro e w' ⟨⟨av, nv, cv, ev, rfl, hres⟩, hb⟩
  have hX : layO co cs n R f c T = some (layL co cs n R f c T) := lay_full hr hff hcc hs hful
  rcases hres with ⟨e, _⟩ | ⟨Ls, e, rfl, hlo⟩
  · rw [hX] at e; cases e
  rw [hX] at e
  cases e
  obtain ⟨g, hh, na, ca, hva, hrows, hna⟩ := hlo.rows (fun t ht => by
    rw [layL_len] at ht
    rw [layL_at ht]; exact hful t (by omega)) (fun t ht => by
    rw [layL_len] at ht
    rw [layL_at ht]; exact Nat.le_trans outTo_len (by omega))
  have hpl := hlo.planQ
  rw [hva] at hpl ⊢
  rw [layL_len] at hpl hrows hna ⊢
  exact ⟨g, hh, na, ca, rfl, ⟨hrows, fun t ht => by rw [hna t ht, layL_at ht], hpl⟩, hb⟩

theorem klayers_none (ro co bu : Int) (cs : ByteArray) (b off m cap : Nat) (fr tt : Nat → Int) (k f c T : Nat) (ar : Option Addr) (n capr : Nat) (R : Nat → RuleM) (w : World) (hcap : m ≤ cap) (hn : n ≤ maxLen) (hsd : SidesIn w) (hT : T ≤ 60)
    (hcs : CartsIn w b off m fr tt) (har : RulesAt w ar n R) (hwf : RulesWf n R) (he : givenE ro co bu cs m fr tt k n R = 0) (hf : fr k = (f : Int)) (hc : tt k = (c : Int)) (hr : rulesB cs.size n R = true) (hff : freeB cs f = true) (hcc : freeB cs c = true)
    (hno : hitM co cs n R f c T = false) :
    Calls Tryd.prog 25 #[.agg #[.int .i64 ro, .int .i64 co, .string cs, .slice (some ⟨b, off, none⟩) m cap, .int .i64 bu], .int .i64 k, .slice ar n capr, .int .i64 (T : Nat)] w fun e w' =>
      e = .returned (.tuple #[.slice none 0 0, .int .i64 9]) ∧ Below w.heap.size w w' := by
  refine (ylayers_ok ro co bu cs b off m cap fr tt k f c T ar n capr R w hcap hn hsd hT hcs har hwf he hf hc).mono ?_
  rintro e w' ⟨⟨av, nv, cv, ev, rfl, hres⟩, hb⟩
  have hX := lay_miss hr hff hcc hno
  rcases hres with ⟨_, rfl, rfl, rfl, rfl⟩ | ⟨Ls, e, _⟩
  · exact ⟨rfl, hb⟩
  · rw [hX] at e; cases e

theorem path_rowQ {w : World} {g T cap : Nat} {p : Nat → Nat} (h : ∀ j, j ≤ T → w.cell? ⟨g, j, none⟩ = some (natV p j)) : RowQ w (.slice (some ⟨g, 0, none⟩) (T + 1) cap) ((List.range (T + 1)).map p) := by
  have hl : ((List.range (T + 1)).map p).length = T + 1 := by simp
  refine ⟨⟨_, cap, by rw [hl], fun _ => ⟨g, rfl, fun j hj => ?_⟩⟩, fun k hk => ?_⟩
  · rw [hl] at hj
    rw [h j (by omega)]
    simp [natV, List.getD, hj]
  · have e : g = k := Option.some.inj hk
    subst e
    exact World.block_lt_of_cell? (a := ⟨g, 0, none⟩) _ (h 0 (by omega))

theorem kwithin (co : Int) (cs : ByteArray) (n : Nat) (R : Nat → RuleM) (f c T lo hi g gp cp : Nat) (hh na ca : Nat → Nat) (p : Nat → Nat) (w : World) (hT : T ≤ 60) (hs : cs.size ≤ 36) (hL : Laid w co cs n R f c T lo hi g hh na ca) (hok : PathOK co cs n R f c T p) (hp : ∀ j, j ≤ T → w.cell? ⟨gp, j, none⟩ = some (natV p j)) :
    Calls Tryd.prog 58 #[.slice (some ⟨g, 0, none⟩) (T + 1) (T + 1), .slice (some ⟨gp, 0, none⟩) (T + 1) cp] w fun e w' => e = .returned (.bool true) ∧ Below w.heap.size w w' := by
  have hl := layL_len (co := co) (cs := cs) (n := n) (R := R) (f := f) (c := c) (T := T)
  refine within_q _ _ (layL co cs n R f c T) ((List.range (T + 1)).map p) w (by omega) (by rw [hl]; simp) (fun t ht => ?_) (fun t ht => ?_) hL.plan (path_rowQ hp)
  · rw [hl] at ht
    rw [layL_at ht]; exact Nat.le_trans outTo_len (by omega)
  · rw [hl] at ht
    rw [layL_at ht]
    have e : ((List.range (T + 1)).map p).getD t 0 = p t := by simp [List.getD, ht]
    rw [e]
    exact ok_out hok (by omega)

theorem getD_mem {L : List Nat} {i : Nat} (h : i < L.length) : L.getD i 0 ∈ L := by
  rw [List.getD_eq_getElem?_getD, List.getElem?_eq_getElem h]
  exact List.getElem_mem h

theorem mem_getD {L : List Nat} {x : Nat} (h : x ∈ L) : ∃ i, i < L.length ∧ L.getD i 0 = x := by
  obtain ⟨j, hj, e⟩ := List.mem_iff_getElem.1 h
  exact ⟨j, hj, by rw [List.getD_eq_getElem?_getD, List.getElem?_eq_getElem hj]; exact e⟩

theorem klinked (ro co bu : Int) (cs : ByteArray) (ac : Option Addr) (mc cc : Nat) (n : Nat) (R : Nat → RuleM) (f c T lo hi g : Nat) (hh na ca : Nat → Nat) (w : World) (hT : T ≤ 60) (hs : cs.size ≤ 36) (h1 : 1 ≤ co) (h2 : co ≤ 6) (hL : Laid w co cs n R f c T lo hi g hh na ca) (hful : ∀ t, t ≤ T → outTo co cs n R f c T t cs.size ≠ []) :
    Calls Tryd.prog 59 #[.agg #[.int .i64 ro, .int .i64 co, .string cs, .slice ac mc cc, .int .i64 bu], .slice (some ⟨g, 0, none⟩) (T + 1) (T + 1)] w fun e w' => e = .returned (.bool true) ∧ Below w.heap.size w w' := by
  have G : Grid w g (T + 1) hh na ca (fun t i => (outTo co cs n R f c T t cs.size).getD i 0) := by
    refine ⟨fun t ht => hL.rows.row.cell ht, fun t i ht hi => ?_⟩
    have hz := hL.rows.own t ht
    rw [layL_at ht] at hz
    rw [hz.cell (by rw [hL.num t ht] at hi; simpa [qi] using hi)]
    rw [hL.num t ht] at hi
    simp [qi, List.getD, hi]
  refine linked_any ro co bu cs ac mc cc g (T + 1) (T + 1) hh na ca _ w hs h1 h2 (by omega) G (fun t ht => (hL.rows.num t ht).2) (fun t i ht hi => ?_) (fun t ht i hi => ?_) (fun t ht i hi => ?_) (fun t ht i hi => ?_)
  · rw [hL.num t ht] at hi
    exact (outTo_mem.1 (getD_mem hi)).1
  · rw [hL.num t ht] at hi
    exact rise_at (out_rise t) hi
  · rw [hL.num t (by omega)] at hi
    obtain ⟨b, hb, hk⟩ := out_next (by omega) (getD_mem hi)
    obtain ⟨j, hj, e⟩ := mem_getD hb
    exact ⟨j, by rw [hL.num _ ht]; exact hj, by rw [e]; exact hk⟩
  · rw [hL.num (t + 1) ht] at hi
    obtain ⟨b, hb, hk⟩ := out_prev (by omega) (hful t (by omega)) (getD_mem hi)
    obtain ⟨j, hj, e⟩ := mem_getD hb
    exact ⟨j, by rw [hL.num _ (by omega)]; exact hj, by rw [e]; exact hk⟩

end Go.Proofs.YtnkgpinadgacgaaDoor
