/- A heap of spots in memory; walks of the function that orders it, and of swap. -/
import Derived.Test.YtaldfpoolajoiaaDoorHa
import Derived.Test.YtaldfpoolajoiaaDoorLc
import Derived.Test.YtaldfpoolajoiaaDoorWc
import Derived.Test.YtaldfpoolajoiaaDoorWi
import Derived.Deep.QuietTactic
import Derived.BigQuiet
import Derived.BigRegion
namespace Go.Proofs.YtaldfpoolajoiaaDoor
open Go.RowKit M

/-- The first n places of a row of spots. -/
def ItemsIn (w : World) (G cap n : Nat) (it : Nat → Spot) : Prop :=
  ∃ cur : Array Value, w.heap[G]? = some (.cells cur 130 (0, 0)) ∧ n ≤ cap ∧ cap ≤ maxLen ∧ cur.size = cap * 2 ∧ ∀ i, i < n → cur[i * 2]? = some (.int .i64 ((it i).1 : Nat)) ∧ cur[i * 2 + 1]? = some (.int .i64 ((it i).2 : Nat))

theorem ItemsIn.block {w w' : World} {G cap n : Nat} {it : Nat → Spot} (h : ItemsIn w G cap n it) (e : w'.heap[G]? = w.heap[G]?) : ItemsIn w' G cap n it := by
  obtain ⟨cur, h1, r⟩ := h; exact ⟨cur, e.trans h1, r⟩

theorem ItemsIn.lt {w : World} {G cap n : Nat} {it : Nat → Spot} (h : ItemsIn w G cap n it) : G < w.heap.size := by
  obtain ⟨cur, h1, _⟩ := h; exact (Array.getElem?_eq_some_iff.1 h1).1

theorem ItemsIn.c0 {w : World} {G cap n : Nat} {it : Nat → Spot} (h : ItemsIn w G cap n it) {i : Nat} (hi : i < n) : w.cell? ⟨G, i * 2, none⟩ = some (.int .i64 ((it i).1 : Nat)) := by
  obtain ⟨cur, h1, _, _, _, h5⟩ := h
  simp [World.cell?, h1, (h5 i hi).1]

theorem ItemsIn.c1 {w : World} {G cap n : Nat} {it : Nat → Spot} (h : ItemsIn w G cap n it) {i : Nat} (hi : i < n) : w.cell? ⟨G, i * 2 + 1, none⟩ = some (.int .i64 ((it i).2 : Nat)) := by
  obtain ⟨cur, h1, _, _, _, h5⟩ := h
  simp [World.cell?, h1, (h5 i hi).2]

theorem ItemsIn.fz {w : World} {G cap n : Nat} {it : Nat → Spot} (h : ItemsIn w G cap n it) (o : Nat) : w.frozen? ⟨G, o, none⟩ = false := by
  obtain ⟨cur, h1, _⟩ := h
  simp [World.frozen?, h1]

theorem ItemsIn.room {w : World} {G cap n : Nat} {it : Nat → Spot} (h : ItemsIn w G cap n it) : n ≤ cap ∧ cap ≤ maxLen := by
  obtain ⟨cur, h1, h2, h3, _⟩ := h; exact ⟨h2, h3⟩

theorem ItemsIn.same {w : World} {G cap n : Nat} {it it' : Nat → Spot} (h : ItemsIn w G cap n it) (e : ∀ i, i < n → it i = it' i) : ItemsIn w G cap n it' := by
  obtain ⟨cur, h1, h2, h3, h4, h5⟩ := h
  exact ⟨cur, h1, h2, h3, h4, fun i hi => by rw [← e i hi]; exact h5 i hi⟩

theorem ItemsIn.drew {w : World} {G cap n : Nat} {it : Nat → Spot} (h : ItemsIn w G cap n it) : ItemsIn w.drew G cap n it := by
  obtain ⟨cur, h1, r⟩ := h; exact ⟨cur, h1, r⟩

theorem ItemsIn.less {w : World} {G cap n n' : Nat} {it : Nat → Spot} (h : ItemsIn w G cap n it) (e : n' ≤ n) : ItemsIn w G cap n' it := by
  obtain ⟨cur, h1, h2, h3, h4, h5⟩ := h
  exact ⟨cur, h1, by omega, h3, h4, fun i hi => h5 i (by omega)⟩

/-- One place is written. -/
theorem ItemsIn.put {w : World} {G cap n : Nat} {it : Nat → Spot} (h : ItemsIn w G cap n it) (i : Nat) (p : Spot) : ItemsIn ((w.setCell ⟨G, i * 2, none⟩ (.int .i64 (p.1 : Nat))).setCell ⟨G, i * 2 + 1, none⟩ (.int .i64 (p.2 : Nat))) G cap n (fun j => if j = i then p else it j) := by
  obtain ⟨cur, h1, h2, h3, h4, h5⟩ := h
  refine ⟨(cur.setIfInBounds (i * 2) (.int .i64 (p.1 : Nat))).setIfInBounds (i * 2 + 1) (.int .i64 (p.2 : Nat)), ?_, h2, h3, by simpa using h4, fun j hj => ?_⟩
  · simp [World.setCell, Array.getElem?_modify, h1]
  · obtain ⟨g1, g2⟩ := h5 j hj
    by_cases e : j = i
    · subst e
      simp only [if_true]
      refine ⟨?_, ?_⟩
      · rw [Array.getElem?_setIfInBounds, if_neg (by omega), Array.getElem?_setIfInBounds, if_pos rfl, if_pos (by omega)]
      · rw [Array.getElem?_setIfInBounds, if_pos rfl, if_pos (by simp; omega)]
    · simp only [if_neg e]
      refine ⟨?_, ?_⟩
      · rw [Array.getElem?_setIfInBounds, if_neg (by omega), Array.getElem?_setIfInBounds, if_neg (by omega)]; exact g1
      · rw [Array.getElem?_setIfInBounds, if_neg (by omega), Array.getElem?_setIfInBounds, if_neg (by omega)]; exact g2

/-- The function that orders the heap. -/
def lessV (F : Nat) : Value := .func (.func 86) #[] #[.pointer (some ⟨F, 0, none⟩)]

/-- What the order is reckoned from lies in memory. -/
def FarAt (w : World) (F gf N : Nat) (st : Nat → Int) : Prop := w.cell? ⟨F, 0, none⟩ = some (.slice (some ⟨gf, 0, none⟩) N N) ∧ w.rowIs gf 3 N (intV st)

/-- By the least cost that a path through a spot can have. -/
def keyM (st : Nat → Int) (p : Spot) : Int := (p.2 : Int) + st p.1

set_option maxRecDepth 100000 in
set_option maxHeartbeats 2000000 in
theorem less_any (F gf N : Nat) (st : Nat → Int) (p q : Spot) (w : World) (hf : FarAt w F gf N st) (hst : ∀ x, x < N → -1 ≤ st x ∧ st x ≤ 1000) (hp : p.1 < N) (hq : q.1 < N) (hp2 : p.2 ≤ 100000) (hq2 : q.2 ≤ 100000) :
    Calls Tryd.prog 86 #[.agg #[.int .i64 (p.1 : Nat), .int .i64 (p.2 : Nat)], .agg #[.int .i64 (q.1 : Nat), .int .i64 (q.2 : Nat)], .pointer (some ⟨F, 0, none⟩)] w fun e w' =>
      e = .returned (.bool (decide (keyM st p < keyM st q))) ∧ Below w.heap.size w w' := by
  obtain ⟨hF, hR⟩ := hf
  obtain ⟨c1, t1⟩ := p
  obtain ⟨c2, t2⟩ := q
  dsimp only at hp hq hp2 hq2 ⊢
  have x1 := hR.cell (i := c1) hp
  have x2 := hR.cell (i := c2) hq
  have hFl : F < w.heap.size := World.block_lt_of_cell? _ _ hF
  have hgl := hR.lt
  obtain ⟨s1, hs1⟩ : ∃ x, x = st c1 := ⟨_, rfl⟩
  obtain ⟨s2, hs2⟩ : ∃ x, x = st c2 := ⟨_, rfl⟩
  have b1 := hst c1 hp
  have b2 := hst c2 hq
  rw [show intV st c1 = Value.int .i64 (st c1) from rfl, ← hs1] at x1
  rw [show intV st c2 = Value.int .i64 (st c2) from rfl, ← hs2] at x2
  rw [← hs1] at b1
  rw [← hs2] at b2
  have KEY : Hid (decide (keyM st (c1, t1) < keyM st (c2, t2)) = decide ((t1 : Int) + s1 < (t2 : Int) + s2)) := by unfold Hid keyM; rw [hs1, hs2]
  clear hs1 hs2 hR hst
  have i1 : (c1 : Int) < (N : Int) := by omega
  have i2 : (c2 : Int) < (N : Int) := by omega
  have v1 : IntKind.i64.wrap ((t1 : Int) + s1) = (t1 : Int) + s1 := by rw [IntKind.wrap_i64]; omega
  have v2 : IntKind.i64.wrap ((t2 : Int) + s2) = (t2 : Int) + s2 := by rw [IntKind.wrap_i64]; omega
  go_enter Tryd.func86, Tryd.ntmps86
  go_wp2
  go_quiet (fail)
  go_wp2
  go_ret
  exact ⟨ret_bool KEY.out.symm, below_drewN (((Below.refl _ _).alloc (Nat.le_refl _) _).alloc (by simp) _) _⟩

end Go.Proofs.YtaldfpoolajoiaaDoor
