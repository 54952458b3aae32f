/- A heap of spots in memory; walks of the function that orders it, and of swap. -/
import Derived.Test.YtaldfpoolajoiaaDoorHa
import Derived.Test.YtaldfpoolajoiaaDoorLc
import Derived.Test.YtaldfpoolajoiaaDoorWaWbWcWd
import Derived.Test.YtaldfpoolajoiaaDoorWi
import Derived.Deep.QuietTactic
import Derived.BigQuiet
import Derived.BigRegion
import Derived.Deep.DeepCutAuto
import Derived.Deep.RegionHeld3
namespace Go.Proofs.YtaldfpoolajoiaaDoor
open Go.RowKit M

/-- The first n places of a row of spots. -/
def ItemsIn (w : World) (G cap n : Nat) (it : Nat → Spot) : Prop :=
  ∃ cur : Array Value, w.heap[G]? = some (.cells cur 130 (0, 0)) ∧ n ≤ cap ∧ cap ≤ maxLen ∧ cur.size = cap * 2 ∧ ∀ i, i < n → cur[i * 2]? = some (.int .i64 ((it i).1 : Nat)) ∧ cur[i * 2 + 1]? = some (.int .i64 ((it i).2 : Nat))

theorem ItemsIn.block {w w' : World} {G cap n : Nat} {it : Nat → Spot} (h : ItemsIn w G cap n it) (e : w'.heap[G]? = w.heap[G]?) : ItemsIn w' G cap n it := by
  obtain ⟨cur, h1, r⟩ := h; exact ⟨cur, e.trans h1, r⟩

theorem ItemsIn.lt {w : World} {G cap n : Nat} {it : Nat → Spot} (h : ItemsIn w G cap n it) : G < w.heap.size := by
  obtain ⟨cur, h1, _⟩ := h; exact (Array.getElem?_eq_some_iff.1 h1).1

theorem ItemsIn.c0 {w : World} {G cap n : Nat} {it : Nat → Spot} (h : ItemsIn w G cap n it) {i : Nat} (hi : i < n) : w.cell? ⟨G, i * 2, none⟩ = some (.int .i64 ((it i).1 : Nat)) := by
  obtain ⟨cur, h1, _, _, _, h5⟩ := h
  simp [World.cell?, h1, (h5 i hi).1]

theorem ItemsIn.c1 {w : World} {G cap n : Nat} {it : Nat → Spot} (h : ItemsIn w G cap n it) {i : Nat} (hi : i < n) : w.cell? ⟨G, i * 2 + 1, none⟩ = some (.int .i64 ((it i).2 : Nat)) := by
  obtain ⟨cur, h1, _, _, _, h5⟩ := h
  simp [World.cell?, h1, (h5 i hi).2]

theorem ItemsIn.fz {w : World} {G cap n : Nat} {it : Nat → Spot} (h : ItemsIn w G cap n it) (o : Nat) : w.frozen? ⟨G, o, none⟩ = false := by
  obtain ⟨cur, h1, _⟩ := h
  simp [World.frozen?, h1]

theorem ItemsIn.room {w : World} {G cap n : Nat} {it : Nat → Spot} (h : ItemsIn w G cap n it) : n ≤ cap ∧ cap ≤ maxLen := by
  obtain ⟨cur, h1, h2, h3, _⟩ := h; exact ⟨h2, h3⟩

theorem ItemsIn.same {w : World} {G cap n : Nat} {it it' : Nat → Spot} (h : ItemsIn w G cap n it) (e : ∀ i, i < n → it i = it' i) : ItemsIn w G cap n it' := by
  obtain ⟨cur, h1, h2, h3, h4, h5⟩ := h
  exact ⟨cur, h1, h2, h3, h4, fun i hi => by rw [← e i hi]; exact h5 i hi⟩

theorem ItemsIn.drew {w : World} {G cap n : Nat} {it : Nat → Spot} (h : ItemsIn w G cap n it) : ItemsIn w.drew G cap n it := by
  obtain ⟨cur, h1, r⟩ := h; exact ⟨cur, h1, r⟩

theorem ItemsIn.less {w : World} {G cap n n' : Nat} {it : Nat → Spot} (h : ItemsIn w G cap n it) (e : n' ≤ n) : ItemsIn w G cap n' it := by
  obtain ⟨cur, h1, h2, h3, h4, h5⟩ := h
  exact ⟨cur, h1, by omega, h3, h4, fun i hi => h5 i (by omega)⟩

/-- One place is written. -/
theorem ItemsIn.put {w : World} {G cap n : Nat} {it : Nat → Spot} (h : ItemsIn w G cap n it) (i : Nat) (p : Spot) : ItemsIn ((w.setCell ⟨G, i * 2, none⟩ (.int .i64 (p.1 : Nat))).setCell ⟨G, i * 2 + 1, none⟩ (.int .i64 (p.2 : Nat))) G cap n (fun j => if j = i then p else it j) := by
  obtain ⟨cur, h1, h2, h3, h4, h5⟩ := h
  refine ⟨(cur.setIfInBounds (i * 2) (.int .i64 (p.1 : Nat))).setIfInBounds (i * 2 + 1) (.int .i64 (p.2 : Nat)), ?_, h2, h3, by simpa using h4, fun j hj => ?_⟩
  · simp [World.setCell, Array.getElem?_modify, h1]
  · obtain ⟨g1, g2⟩ := h5 j hj
    by_cases e : j = i
    · subst e
      simp only [if_true]
      refine ⟨?_, ?_⟩
      · rw [Array.getElem?_setIfInBounds, if_neg (by omega), Array.getElem?_setIfInBounds, if_pos rfl, if_pos (by omega)]
      · rw [Array.getElem?_setIfInBounds, if_pos rfl, if_pos (by simp; omega)]
    · simp only [if_neg e]
      refine ⟨?_, ?_⟩
      · rw [Array.getElem?_setIfInBounds, if_neg (by omega), Array.getElem?_setIfInBounds, if_neg (by omega)]; exact g1
      · rw [Array.getElem?_setIfInBounds, if_neg (by omega), Array.getElem?_setIfInBounds, if_neg (by omega)]; exact g2

/-- The function that orders the heap. -/
def lessV (F : Nat) : Value := .func (.func 86) #[] #[.pointer (some ⟨F, 0, none⟩)]

/-- What the order is reckoned from lies in memory. -/
def FarAt (w : World) (F gf N : Nat) (st : Nat → Int) : Prop := w.cell? ⟨F, 0, none⟩ = some (.slice (some ⟨gf, 0, none⟩) N N) ∧ w.rowIs gf 3 N (intV st)

/-- By the least cost that a path through a spot can have. -/
def keyM (st : Nat → Int) (p : Spot) : Int := (p.2 : Int) + st p.1

set_option maxRecDepth 100000 in
set_option maxHeartbeats 2000000 in
theorem less_any (F gf N : Nat) (st : Nat → Int) (p q : Spot) (w : World) (hf : FarAt w F gf N st) (hst : ∀ x, x < N → -1 ≤ st x ∧ st x ≤ 1000) (hp : p.1 < N) (hq : q.1 < N) (hp2 : p.2 ≤ 100000) (hq2 : q.2 ≤ 100000) :
    Calls Tryd.prog 86 #[.agg #[.int .i64 (p.1 : Nat), .int .i64 (p.2 : Nat)], .agg #[.int .i64 (q.1 : Nat), .int .i64 (q.2 : Nat)], .pointer (some ⟨F, 0, none⟩)] w fun e w' =>
      e = .returned (.bool (decide (keyM st p < keyM st q))) ∧ Below w.heap.size w w' := by
  obtain ⟨hF, hR⟩ := hf
  obtain ⟨c1, t1⟩ := p
  obtain ⟨c2, t2⟩ := q
  dsimp only at hp hq hp2 hq2 ⊢
  have x1 := hR.cell (i := c1) hp
  have x2 := hR.cell (i := c2) hq
  have hFl : F < w.heap.size := World.block_lt_of_cell? _ _ hF
  have hgl := hR.lt
  obtain ⟨s1, hs1⟩ : ∃ x, x = st c1 := ⟨_, rfl⟩
  obtain ⟨s2, hs2⟩ : ∃ x, x = st c2 := ⟨_, rfl⟩
  have b1 := hst c1 hp
  have b2 := hst c2 hq
  rw [show intV st c1 = Value.int .i64 (st c1) from rfl, ← hs1] at x1
  rw [show intV st c2 = Value.int .i64 (st c2) from rfl, ← hs2] at x2
  rw [← hs1] at b1
  rw [← hs2] at b2
  have KEY : Hid (decide (keyM st (c1, t1) < keyM st (c2, t2)) = decide ((t1 : Int) + s1 < (t2 : Int) + s2)) := by unfold Hid keyM; rw [hs1, hs2]
  clear hs1 hs2 hR hst
  have i1 : (c1 : Int) < (N : Int) := by omega
  have i2 : (c2 : Int) < (N : Int) := by omega
  have v1 : IntKind.i64.wrap ((t1 : Int) + s1) = (t1 : Int) + s1 := by rw [IntKind.wrap_i64]; omega
  have v2 : IntKind.i64.wrap ((t2 : Int) + s2) = (t2 : Int) + s2 := by rw [IntKind.wrap_i64]; omega
  go_enter Tryd.func86, Tryd.ntmps86
  go_wp2
  go_quiet (fail)
  go_wp2
  go_ret
  exact ⟨ret_bool KEY.out.symm, below_drewN (((Below.refl _ _).alloc (Nat.le_refl _) _).alloc (by simp) _) _⟩

end Go.Proofs.YtaldfpoolajoiaaDoor

/- Walk of swap: two places of a heap's row change their spots. -/
namespace Go.Proofs.YtaldfpoolajoiaaDoor
open Go.RowKit M

/-- The heap's own two cells. -/
def HeapAt (w : World) (H F : Nat) (v : Value) : Prop := w.heap[H]? = some (.cells #[lessV F, v] 134 (0, 0))

theorem HeapAt.block {w w' : World} {H F : Nat} {v : Value} (h : HeapAt w H F v) (e : w'.heap[H]? = w.heap[H]?) : HeapAt w' H F v := e.trans h
theorem HeapAt.lt {w : World} {H F : Nat} {v : Value} (h : HeapAt w H F v) : H < w.heap.size := (Array.getElem?_eq_some_iff.1 h).1
theorem HeapAt.c0 {w : World} {H F : Nat} {v : Value} (h : HeapAt w H F v) : w.cell? ⟨H, 0, none⟩ = some (lessV F) := by
  unfold HeapAt at h; simp [World.cell?, h]
theorem HeapAt.c1 {w : World} {H F : Nat} {v : Value} (h : HeapAt w H F v) : w.cell? ⟨H, 1, none⟩ = some v := by
  unfold HeapAt at h; simp [World.cell?, h]
theorem HeapAt.fz {w : World} {H F : Nat} {v : Value} (h : HeapAt w H F v) (o : Nat) : w.frozen? ⟨H, o, none⟩ = false := by
  unfold HeapAt at h; simp [World.frozen?, h]

theorem heap_apart {w : World} {H F G cap n : Nat} {v : Value} {it : Nat → Spot} (h : HeapAt w H F v) (h' : ItemsIn w G cap n it) : H ≠ G := by
  intro e; subst e
  unfold HeapAt at h
  obtain ⟨cur, h1, _⟩ := h'
  rw [h1] at h
  simp at h

set_option maxRecDepth 1000000 in
set_option maxHeartbeats 8000000 in
theorem swap_any (H F G cap n i j : Nat) (it : Nat → Spot) (w : World) (hh : HeapAt w H F (.slice (some ⟨G, 0, none⟩) n cap)) (hit : ItemsIn w G cap n it) (hi : i < n) (hj : j < n) (hij : i ≠ j) :
    Calls Tryd.prog 110 #[.pointer (some ⟨H, 0, none⟩), .int .i64 i, .int .i64 j] w fun e w' =>
      e = .returned (.tuple #[]) ∧ ItemsIn w' G cap n (swapIt it i j) ∧ Only (fun k => k = G) w w' := by
  have x1 := hh.c1
  have hHl := hh.lt
  have hGl := hit.lt
  have HG := heap_apart hh hit
  have a0 := hit.c0 hi
  have a1 := hit.c1 hi
  have b0 := hit.c0 hj
  have b1 := hit.c1 hj
  have fz := hit.fz
  have HIT := Hid.mk hit
  obtain ⟨ic, hic⟩ : ∃ x, x = (it i).1 := ⟨_, rfl⟩
  obtain ⟨ia, hia⟩ : ∃ x, x = (it i).2 := ⟨_, rfl⟩
  obtain ⟨jc, hjc⟩ : ∃ x, x = (it j).1 := ⟨_, rfl⟩
  obtain ⟨ja, hja⟩ : ∃ x, x = (it j).2 := ⟨_, rfl⟩
  rw [← hic] at a0
  rw [← hia] at a1
  rw [← hjc] at b0
  rw [← hja] at b1
  have FI : Hid (it i = (ic, ia)) := by unfold Hid; rw [hic, hia]
  have FJ : Hid (it j = (jc, ja)) := by unfold Hid; rw [hjc, hja]
  have i1 : (i : Int) < (n : Int) := by omega
  have j1 : (j : Int) < (n : Int) := by omega
  have e1 : ¬ i * 2 = j * 2 := by omega
  have e2 : ¬ i * 2 + 1 = j * 2 := by omega
  have e3 : ¬ i * 2 = j * 2 + 1 := by omega
  have e4 : ¬ i * 2 + 1 = j * 2 + 1 := by omega
  have e5 : ¬ j * 2 = i * 2 := by omega
  have e6 : ¬ j * 2 = i * 2 + 1 := by omega
  have e7 : ¬ j * 2 + 1 = i * 2 := by omega
  have W0 : ItemsIn ((((w.setCell ⟨G, i * 2, none⟩ (.int .i64 (jc : Int))).setCell ⟨G, i * 2 + 1, none⟩ (.int .i64 (ja : Int))).setCell ⟨G, j * 2, none⟩ (.int .i64 (ic : Int))).setCell ⟨G, j * 2 + 1, none⟩ (.int .i64 (ia : Int))) G cap n (fun k => if k = j then (ic, ia) else if k = i then (jc, ja) else it k) :=
    (hit.put i (jc, ja)).put j (ic, ia)
  have W1 : Hid (ItemsIn (((((w.setCell ⟨G, i * 2, none⟩ (.int .i64 (jc : Int))).setCell ⟨G, i * 2 + 1, none⟩ (.int .i64 (ja : Int))).setCell ⟨G, j * 2, none⟩ (.int .i64 (ic : Int))).setCell ⟨G, j * 2 + 1, none⟩ (.int .i64 (ia : Int))).drew) G cap n (swapIt it i j)) := by
    refine (W0.same fun k _ => ?_).drew
    unfold swapIt
    by_cases k1 : k = i
    · have k3 : ¬ k = j := by omega
      rw [if_neg k3, if_pos k1, if_pos k1, FJ.out]
    · rw [if_neg k1, if_neg k1]
      by_cases k2 : k = j
      · rw [if_pos k2, if_pos k2, FI.out]
      · rw [if_neg k2, if_neg k2]
  have W2 : Hid (Only (fun k => k = G) w (((((w.setCell ⟨G, i * 2, none⟩ (.int .i64 (jc : Int))).setCell ⟨G, i * 2 + 1, none⟩ (.int .i64 (ja : Int))).setCell ⟨G, j * 2, none⟩ (.int .i64 (ic : Int))).setCell ⟨G, j * 2 + 1, none⟩ (.int .i64 (ia : Int))).drew)) := by
    have O0 : Only (fun k => k = G) w w := Only.refl _ w
    exact ((((O0.setCell (p := ⟨G, i * 2, none⟩) (fun _ => rfl) _).setCell (p := ⟨G, i * 2 + 1, none⟩) (fun _ => rfl) _).setCell (p := ⟨G, j * 2, none⟩) (fun _ => rfl) _).setCell (p := ⟨G, j * 2 + 1, none⟩) (fun _ => rfl) _).drew
  clear W0
  clear hh hit hic hia hjc hja
  go_enter Tryd.func110, Tryd.ntmps110
  go_wp2
  go_region
  go_end0
  exact ⟨rfl, W1.out, W2.out⟩

end Go.Proofs.YtaldfpoolajoiaaDoor

/- Walk of rise: one rises in the heap till its parent is no further back. -/
namespace Go.Proofs.YtaldfpoolajoiaaDoor
open Go.RowKit M

theorem far_apart {w : World} {F gf N G cap n : Nat} {st : Nat → Int} {it : Nat → Spot} (h : FarAt w F gf N st) (h' : ItemsIn w G cap n it) (hn : 0 < n) : F ≠ G ∧ gf ≠ G := by
  obtain ⟨hF, hR⟩ := h
  refine ⟨fun e => ?_, fun e => ?_⟩
  · subst e
    have := h'.c0 hn
    rw [Nat.zero_mul, hF] at this
    cases this
  · subst e
    obtain ⟨c, h1, _⟩ := hR
    obtain ⟨cur, h2, _⟩ := h'
    rw [h1] at h2
    simp at h2

theorem FarAt.only {w w' : World} {F gf N : Nat} {st : Nat → Int} {S : Nat → Prop} (h : FarAt w F gf N st) (ho : Only S w w') (h1 : ¬ S F) (h2 : ¬ S gf) : FarAt w' F gf N st := by
  obtain ⟨hF, hR⟩ := h
  exact ⟨(ho.cell (p := ⟨F, 0, none⟩) (World.block_lt_of_cell? _ _ hF) h1).trans hF, hR.of_block (ho.block _ hR.lt h2)⟩

theorem FarAt.lt {w : World} {F gf N : Nat} {st : Nat → Int} (h : FarAt w F gf N st) : F < w.heap.size ∧ gf < w.heap.size := ⟨World.block_lt_of_cell? _ _ h.1, h.2.lt⟩

/-- What a heap's spots are. -/
def Fine (N n : Nat) (it : Nat → Spot) : Prop := ∀ p, Mem n it p → p.1 < N ∧ p.2 ≤ 100000

set_option maxRecDepth 1000000 in
set_option maxHeartbeats 8000000 in
theorem rise_any (H F gf G cap n N a : Nat) (it : Nat → Spot) (st : Nat → Int) (w : World) (hh : HeapAt w H F (.slice (some ⟨G, 0, none⟩) n cap)) (hit : ItemsIn w G cap n it) (hf : FarAt w F gf N st) (hst : ∀ x, x < N → -1 ≤ st x ∧ st x ≤ 1000) (hfine : Fine N n it) (han : a < n) (hn : n ≤ 1000000) (hup : Up (keyM st) n it a) :
    Calls Tryd.prog 102 #[.pointer (some ⟨H, 0, none⟩), .int .i64 a] w fun e w' =>
      e = .returned (.tuple #[]) ∧ ∃ it', Ord (keyM st) n it' ∧ (∀ p, Mem n it' p ↔ Mem n it p) ∧ ItemsIn w' G cap n it' ∧ Only (fun k => k = G) w w' := by
  have HH := Hid.mk hh
  have HF := Hid.mk hf
  have HST := Hid.mk hst
  have HFN := Hid.mk hfine
  have NE := Hid.mk (heap_apart hh hit)
  have NF := Hid.mk (far_apart hf hit (by omega))
  have hHl := hh.lt
  have IT := Hid.mk hit
  have UP := Hid.mk hup
  clear hh hf hst hfine hit hup
  go_enter Tryd.func102, Tryd.ntmps102
  go_wp2
  go_loopw [1] (fun s wr => ∃ (b : Nat) (it' : Nat → Spot), s = .int .i64 b ∧ b < n ∧ Up (keyM st) n it' b ∧ (∀ p, Mem n it' p ↔ Mem n it p) ∧ ItemsIn wr G cap n it' ∧ Only (fun k => k = G) w wr) (fun s _ => (intOf s).toNat)
  case atStart => exact ⟨a, it, rfl, han, UP.out, fun _ => Iff.rfl, IT.out, Only.refl _ _⟩
  case round =>
    obtain ⟨b, it', rfl, hb, hup, hmem, hit, honly⟩ := hrel
    have UP' := Hid.mk hup
    have ME := Hid.mk hmem
    have IT' := Hid.mk hit
    have HO := Hid.mk honly
    have hz := honly.size
    have HHr := Hid.mk (HH.out.block (honly.block _ hHl NE.out))
    have HFr := Hid.mk (HF.out.only honly NF.out.1 NF.out.2)
    clear hup hmem hit honly
    by_cases h0 : 0 < b
    · obtain ⟨p, hp⟩ : ∃ p, p = (b - 1) / 2 := ⟨_, rfl⟩
      have hpb : p < b := by omega
      have d0 : ((b : Int) - 1) / 2 = (p : Int) := by omega
      have HP := Hid.mk hp
      have x0 := HHr.out.c0
      have x1 := HHr.out.c1
      have a0 := IT'.out.c0 hb
      have a1 := IT'.out.c1 hb
      have p0 := IT'.out.c0 (i := p) (by omega)
      have p1 := IT'.out.c1 (i := p) (by omega)
      have f1 := HFN.out _ ((ME.out _).1 ⟨b, hb, rfl⟩)
      have f2 := HFN.out _ ((ME.out _).1 ⟨p, by omega, rfl⟩)
      have b1 : (b : Int) < (n : Int) := by omega
      have p2 : (p : Int) < (n : Int) := by omega
      have hzH : H < wr.heap.size := by omega
      have hzG : G < wr.heap.size := IT'.out.lt
      unfold lessV at x0
      clear hp
      go_wp2_with fail
      go_region_held3 (fun w' => w'.cell? ⟨H, 0, none⟩ = some (.func (.func 86) #[] #[.pointer (some ⟨F, 0, none⟩)]) ∧ w'.cell? ⟨H, 1, none⟩ = some (.slice (some ⟨G, 0, none⟩) n cap) ∧ w'.cell? ⟨G, b * 2, none⟩ = some (.int .i64 ((it' b).1 : Nat)) ∧ w'.cell? ⟨G, b * 2 + 1, none⟩ = some (.int .i64 ((it' b).2 : Nat)) ∧ w'.cell? ⟨G, p * 2, none⟩ = some (.int .i64 ((it' p).1 : Nat)) ∧ w'.cell? ⟨G, p * 2 + 1, none⟩ = some (.int .i64 ((it' p).2 : Nat))) (go_keep)
        (first
          | (go_at_call 86; refine (less_any F gf N st (it' b) (it' p) _ (by exact HFr.out) HST.out f1.1 f2.1 f1.2 f2.2).mono ?_; rintro e w4 ⟨rfl, hb4⟩; have q0 : w4.cell? ⟨H, 0, none⟩ = some (.func (.func 86) #[] #[.pointer (some ⟨F, 0, none⟩)]) := (hb4.cell (p := ⟨H, 0, none⟩) hzH).trans x0; have q1 : w4.cell? ⟨H, 1, none⟩ = some (.slice (some ⟨G, 0, none⟩) n cap) := (hb4.cell (p := ⟨H, 1, none⟩) hzH).trans x1; have q2 : w4.cell? ⟨G, b * 2, none⟩ = some (.int .i64 ((it' b).1 : Nat)) := (hb4.cell (p := ⟨G, b * 2, none⟩) hzG).trans a0; have q3 : w4.cell? ⟨G, b * 2 + 1, none⟩ = some (.int .i64 ((it' b).2 : Nat)) := (hb4.cell (p := ⟨G, b * 2 + 1, none⟩) hzG).trans a1; have q4 : w4.cell? ⟨G, p * 2, none⟩ = some (.int .i64 ((it' p).1 : Nat)) := (hb4.cell (p := ⟨G, p * 2, none⟩) hzG).trans p0; have q5 : w4.cell? ⟨G, p * 2 + 1, none⟩ = some (.int .i64 ((it' p).2 : Nat)) := (hb4.cell (p := ⟨G, p * 2 + 1, none⟩) hzG).trans p1))
      have HO4 : Hid (Only (fun k => k = G) w w4) := HO.out.drew.trans (Only.of_below hb4 : Only (fun _ => False) wr.drew w4) (fun _ _ e => e.elim)
      have IT4 := Hid.mk (IT'.out.drew.block (hb4.block _ hzG))
      have HH4 := Hid.mk (HH.out.block (HO4.out.block _ hHl NE.out))
      obtain ⟨g, hg⟩ : ∃ g, g = decide (keyM st (it' b) < keyM st (it' p)) := ⟨_, rfl⟩
      rw [← hg]
      have HG := Hid.mk hg
      clear hb4 q0 q1 q2 q3 q4 q5 x0 x1 a0 a1 p0 p1 hg
      cases g
      · go_wp2
        refine bodyPost_ret (results_none Tryd.results102 _ _ _) rfl ?_
        refine ⟨rfl, it', up_done UP'.out (Or.inr ?_), ME.out, IT4.out, HO4.out⟩
        rw [← HP.out]
        have := HG.out
        simpa using this
      · go_wp2_with fail
        refine (swap_any H F G cap n b p it' _ HH4.out IT4.out hb (by omega) (by omega)).mono ?_
        rintro e w5 ⟨rfl, hi5, ho5⟩
        have IT5 := Hid.mk hi5
        have HO5 : Hid (Only (fun k => k = G) w w5) := HO4.out.trans ho5 (fun _ _ e => e)
        clear hi5 ho5
        go_wp2
        go_roundw
        case rel =>
          refine ⟨p, swapIt it' b p, rfl, by omega, ?_, fun q => (mem_swap hb (by omega)).trans (ME.out q), IT5.out, HO5.out⟩
          have := HG.out
          rw [HP.out]
          refine up_step UP'.out h0 hb ?_
          rw [← HP.out]
          simpa using this.symm
        case measure => simp [intOf]; omega
    · have e0 : b = 0 := by omega
      subst e0
      go_wp2
      go_end0
      exact ⟨rfl, it', up_done UP'.out (Or.inl rfl), ME.out, IT'.out, HO.out⟩

end Go.Proofs.YtaldfpoolajoiaaDoor
