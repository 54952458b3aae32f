/- Walk of Push: one more in the heap. -/
import Derived.Test.YtaldfpoolajoiaaDoorHe
import Derived.Test.YtaldfpoolajoiaaDoorLd
import Derived.Deep.DeepCutAuto
namespace Go.Proofs.YtaldfpoolajoiaaDoor
open Go.RowKit M

theorem Tryd.infoSpot : (Tryd.prog.info? 130).map (fun i => (i.zero, i.size, i.bytes)) = some (some (.agg #[.int .i64 0, .int .i64 0]), 2, 16) := by kernel_rfl

/-- The cells of a list of spots. -/
def spotCells (it : Nat → Spot) : Nat → List Value
  | 0 => []
  | m + 1 => spotCells it m ++ [.int .i64 ((it m).1 : Nat), .int .i64 ((it m).2 : Nat)]

theorem spotCells_len (it : Nat → Spot) : ∀ m, (spotCells it m).length = m * 2
  | 0 => rfl
  | m + 1 => by simp [spotCells, spotCells_len it m]; omega

theorem spotCells_at {it : Nat → Spot} : ∀ {m i : Nat}, i < m → (spotCells it m)[i * 2]? = some (.int .i64 ((it i).1 : Nat)) ∧ (spotCells it m)[i * 2 + 1]? = some (.int .i64 ((it i).2 : Nat))
  | m + 1, i, h => by
    have hl := spotCells_len it m
    by_cases e : i = m
    · subst e
      simp only [spotCells]
      rw [List.getElem?_append_right (by omega), List.getElem?_append_right (by omega), hl]
      simp
    · simp only [spotCells]
      rw [List.getElem?_append_left (by omega), List.getElem?_append_left (by omega)]
      exact spotCells_at (by omega)

theorem spotCells_same {it it' : Nat → Spot} : ∀ {m : Nat}, (∀ i, i < m → it i = it' i) → spotCells it m = spotCells it' m
  | 0, _ => rfl
  | m + 1, h => by simp only [spotCells]; rw [spotCells_same (fun i hi => h i (by omega)), h m (by omega)]

/-- The heap's list: none, or the first places of a row. -/
def ListAt (w : World) (v : Value) (n : Nat) (it : Nat → Spot) : Prop := (v = .slice none 0 0 ∧ n = 0) ∨ ∃ G cap, v = .slice (some ⟨G, 0, none⟩) n cap ∧ ItemsIn w G cap n it

theorem list_own {w : World} {v : Value} {n : Nat} {it : Nat → Spot} (h : ListAt w v n it) : w.ownsRow 0 130 2 v n (spotCells it n) := by
  rcases h with ⟨h1, h2⟩ | ⟨G, cap, h1, cur, g1, g2, g3, g4, g5⟩
  · subst h1 h2; exact ⟨rfl, Or.inl ⟨rfl, rfl⟩⟩
  · subst h1
    refine ⟨spotCells_len it n, Or.inr ⟨G, cap, cur, rfl, Nat.zero_le _, g1, g2, g3, g4, ?_⟩⟩
    apply List.ext_getElem?
    intro i
    by_cases hi : i < n * 2
    · rw [List.getElem?_take, if_pos hi, Array.getElem?_toList]
      have h2 : i / 2 < n := by omega
      obtain ⟨a1, a2⟩ := g5 (i / 2) h2
      obtain ⟨b1, b2⟩ := spotCells_at (it := it) h2
      by_cases e : i % 2 = 0
      · have e2 : i / 2 * 2 = i := by omega
        rw [e2] at a1 b1
        rw [a1, b1]
      · have e2 : i / 2 * 2 + 1 = i := by omega
        rw [e2] at a2 b2
        rw [a2, b2]
    · rw [List.getElem?_take, if_neg hi, List.getElem?_eq_none (by rw [spotCells_len]; omega)]

theorem items_own {w : World} {base G cap n : Nat} {it : Nat → Spot} (h : w.ownsRow base 130 2 (.slice (some ⟨G, 0, none⟩) n cap) n (spotCells it n)) : ItemsIn w G cap n it := by
  rcases h.2 with ⟨h0, _⟩ | ⟨g', cap', cur, hv, _, hh, hn, hc, hs, ht⟩
  · cases h0
  · cases hv
    refine ⟨cur, hh, hn, hc, hs, fun i hi => ?_⟩
    obtain ⟨b1, b2⟩ := spotCells_at (it := it) hi
    rw [← ht, List.getElem?_take, if_pos (by omega), Array.getElem?_toList] at b1 b2
    exact ⟨b1, b2⟩

/-- What stands when one was added, ahead of its rise. -/
def Put (w wx : World) (H F n : Nat) (v : Value) (it : Nat → Spot) (p : Spot) (G cap : Nat) : Prop :=
  HeapAt wx H F (.slice (some ⟨G, 0, none⟩) (n + 1) cap) ∧ ItemsIn wx G cap (n + 1) (pushIt it n p) ∧ (v.ownBlock = some G ∨ w.heap.size ≤ G) ∧ Only (fun k => k = H ∨ v.ownBlock = some k) w wx

theorem put_mk {w pre w9 : World} {H F n G cap : Nat} {v : Value} {it : Nat → Spot} {p : Spot} (hh : HeapAt w H F v) (hHv : v.ownBlock ≠ some H) (hp : Below w.heap.size w pre) (ho : w9.ownsRow 0 130 2 (.slice (some ⟨G, 0, none⟩) (n + 1) cap) (n + 1) (spotCells it n ++ [.int .i64 (p.1 : Nat), .int .i64 (p.2 : Nat)]))
    (hg : pre.grownBy w9 v.ownBlock) (hl : v.ownBlock = some G ∨ w.heap.size ≤ G) : Put w (w9.setCell ⟨H, 1, none⟩ (.slice (some ⟨G, 0, none⟩) (n + 1) cap)) H F n v it p G cap := by
  have hHl := hh.lt
  have hGH : G ≠ H := fun e => by
    subst e
    rcases hl with h | h
    · exact hHv h
    · omega
  have h9 : w9.heap[H]? = w.heap[H]? := (hg.block H (Nat.lt_of_lt_of_le hHl hp.size) (fun e => hHv e.symm)).trans (hp.block H hHl)
  have hit : ItemsIn w9 G cap (n + 1) (pushIt it n p) := by
    refine items_own (base := 0) ?_
    have e : spotCells (pushIt it n p) (n + 1) = spotCells it n ++ [.int .i64 (p.1 : Nat), .int .i64 (p.2 : Nat)] := by
      simp only [spotCells]
      rw [spotCells_same (it := pushIt it n p) (it' := it) (fun i hi => by unfold pushIt; rw [if_neg (by omega)])]
      unfold pushIt; rw [if_pos rfl]
    rw [e]; exact ho
  refine ⟨?_, hit.block (Below.heap_setCell _ _ _ _ hGH), hl, ?_⟩
  · unfold HeapAt at hh ⊢
    rw [hh] at h9
    simp [World.setCell, Array.getElem?_modify, h9]
  · have o9 : Only (fun k => k = H ∨ v.ownBlock = some k) w w9 := ⟨hg.os.trans hp.os, hg.tape.trans hp.tape, hg.output.trans hp.output, Nat.le_trans hp.size hg.size, fun k hk hn => (hg.block k (Nat.lt_of_lt_of_le hk hp.size) (fun e => hn (Or.inr e.symm))).trans (hp.block k hk)⟩
    exact o9.setCell (p := ⟨H, 1, none⟩) (fun _ => Or.inl rfl) _

set_option maxRecDepth 1000000 in
set_option maxHeartbeats 8000000 in
theorem push_any (H F gf n N : Nat) (v : Value) (it : Nat → Spot) (p : Spot) (st : Nat → Int) (w : World) (hh : HeapAt w H F v) (hit : ListAt w v n it) (hHv : v.ownBlock ≠ some H) (hf : FarAt w F gf N st) (hFv : v.ownBlock ≠ some F ∧ v.ownBlock ≠ some gf) (hFH : F ≠ H ∧ gf ≠ H) (hst : ∀ x, x < N → -1 ≤ st x ∧ st x ≤ 1000) (hfine : Fine N n it) (hp1 : p.1 < N) (hp2 : p.2 ≤ 100000) (hn : n < 900000) (hord : Ord (keyM st) n it) :
    Calls Tryd.prog 87 #[.pointer (some ⟨H, 0, none⟩), .agg #[.int .i64 (p.1 : Nat), .int .i64 (p.2 : Nat)]] w fun e w' =>
      e = .returned (.tuple #[]) ∧ ∃ it' G cap, Ord (keyM st) (n + 1) it' ∧ (∀ q, Mem (n + 1) it' q ↔ Mem n it q ∨ q = p) ∧ HeapAt w' H F (.slice (some ⟨G, 0, none⟩) (n + 1) cap) ∧ ItemsIn w' G cap (n + 1) it' ∧ (v.ownBlock = some G ∨ w.heap.size ≤ G) ∧ Only (fun k => k = H ∨ v.ownBlock = some k) w w' := by
  obtain ⟨i0, hi0, hi1, hi2, hi3⟩ := info_parts Tryd.infoSpot
  obtain ⟨pc, pa⟩ := p
  dsimp only at hp1 hp2 ⊢
  have hHl := hh.lt
  have OWN := Hid.mk (list_own hit)
  have HH := Hid.mk hh
  have NHV := Hid.mk hHv
  have hGR : Hid (∀ k, v.ownBlock = some k → k < w.heap.size) := fun k hk => ((list_own hit).lt k hk).2
  obtain ⟨av, cv, hv⟩ : ∃ av cv, v = .slice av n cv := by
    rcases hit with ⟨h1, h2⟩ | ⟨G, cap, h1, _⟩
    · exact ⟨none, 0, by rw [h1, h2]⟩
    · exact ⟨_, _, h1⟩
  have d1 : w.cell? ⟨H, 1, none⟩ = some (.slice av n cv) := by rw [← hv]; exact hh.c1
  have D1 : ∀ k, Value.ownBlock (.slice av n cv) = some k → H ≠ k := fun k hk e => hHv (by rw [hv, e]; exact hk)
  have HF := Hid.mk hf
  have HST := Hid.mk hst
  have HFN := Hid.mk hfine
  have HOR := Hid.mk hord
  have NFV := Hid.mk hFv
  have NFH := Hid.mk hFH
  subst hv
  clear hh hit hHv hf hst hfine hord hFv hFH
  have hdf : w.frozen? ⟨H, 1, none⟩ = false := HH.out.fz 1
  have NEW : Hid (∀ j u, [Value.int IntKind.i64 (pc : Int), Value.int IntKind.i64 (pa : Int)][j]? = some u → ((w.alloc (Obj.cells #[Value.int IntKind.i64 (pc : Int), Value.int IntKind.i64 (pa : Int)] 130)).alloc (Obj.cells #[Value.int IntKind.i64 (pc : Int), Value.int IntKind.i64 (pa : Int)] 130)).drew.cell? ((⟨w.heap.size + 1, 0, none⟩ : Addr).add j) = some u) := by
    have e : (w.alloc (Obj.cells #[Value.int IntKind.i64 (pc : Int), Value.int IntKind.i64 (pa : Int)] 130)).heap.size = w.heap.size + 1 := by simp
    have h := cell_two_new (w.alloc (Obj.cells #[Value.int IntKind.i64 (pc : Int), Value.int IntKind.i64 (pa : Int)] 130)) (Value.int IntKind.i64 (pc : Int)) (Value.int IntKind.i64 (pa : Int)) 130
    rw [e] at h
    exact h
  go_enter Tryd.func87, Tryd.ntmps87
  go_upto_region 1 with fail
  go_cut [] (fun wx => ∃ G cap, Put w wx H F n (.slice av n cv) it (pc, pa) G cap)
  case first =>
    go_region_law ((refine step_append_lies _ (by rfl) _ _ 132 (by rfl) 0 130 _ _ 2 16 Tryd.underlying132 hi0 hi1 hi2 hi3 rfl (by omega) (.slice av n cv) n (spotCells it n) (by rfl) (by exact own_keep OWN.out (fun g _ hg _ => by first | exact (Below.heap_alloc _ _ _ (by simp; omega)).trans (Below.heap_alloc _ _ _ hg) | exact Below.heap_alloc _ _ _ hg)) _ 1 _ [.int .i64 (pc : Int), .int .i64 (pa : Int)] (by rfl) (by rfl) (by exact NEW.out) (two_oneCell _ _) (by omega) (by unfold maxLen; omega) (by omega) (by simp) (w.heap.size + 1 + 1) (by simp) ?_; intro g1 cc1 w9 ho9 hgrow hat9 hl9; have hpre := grown_pre hgrow (by first | exact (((Below.refl _ w).alloc (Nat.le_refl _) _).alloc (by simp) _).drew | exact ((Below.refl _ w).alloc (Nat.le_refl _) _).drew.alloc (by simp) _ | exact ((Below.refl _ w).alloc (Nat.le_refl _) _).alloc (by simp) _); have e91 := grow_cell d1 hpre.1 hgrow D1; have hf9 := grow_frozen hdf hHl hpre.1 hgrow D1))
    all_goals (try go_wp2_with fail)
    all_goals go_meet
    all_goals (case rel => exact ⟨g1, cc1, put_mk HH.out NHV.out hpre.1 ho9 hgrow (hat9.imp id (fun e => by omega))⟩)
  case rest =>
    obtain ⟨G, cap, hhx, hix, hlx, hox⟩ := hcut
    have HHX := Hid.mk hhx
    have HIX := Hid.mk hix
    have HLX := Hid.mk hlx
    have HOX := Hid.mk hox
    have x1 := hhx.c1
    have hfx := Hid.mk (FarAt.only (S := fun k => k = H ∨ Value.ownBlock (.slice av n cv) = some k) HF.out hox (fun e => by
      rcases e with e | e
      · exact NFH.out.1 e
      · exact NFV.out.1 e) (fun e => by
      rcases e with e | e
      · exact NFH.out.2 e
      · exact NFV.out.2 e))
    clear hhx hix hlx hox d1 D1 hdf
    go_wp2_with fail
    refine (rise_any H F gf G cap (n + 1) N n (pushIt it n (pc, pa)) st _ HHX.out HIX.out hfx.out HST.out (fun q hq => ?_) (by omega) (by omega) (ord_push HOR.out _)).mono ?_
    · rcases mem_push.1 hq with h | h
      · exact HFN.out q h
      · rw [h]; exact ⟨hp1, hp2⟩
    rintro e w5 ⟨rfl, it', ho', hm', hi', hon'⟩
    have R1 := Hid.mk ho'
    have R2 := Hid.mk hm'
    have R3 := Hid.mk hi'
    have R4 := Hid.mk hon'
    have R5 := Hid.mk (HHX.out.block (hon'.block _ HHX.out.lt (heap_apart HHX.out HIX.out)))
    clear ho' hm' hi' hon' x1
    go_wp2
    go_end0
    refine ⟨rfl, it', G, cap, R1.out, (by first | exact fun q => (R2.out q).trans mem_push | exact fun a b => (R2.out (a, b)).trans mem_push), R5.out, R3.out, HLX.out, HOX.out.trans R4.out (fun i hi e => ?_)⟩
    have e : i = G := e
    rcases HLX.out with h | h
    · exact Or.inr (by rw [e]; exact h)
    · omega

end Go.Proofs.YtaldfpoolajoiaaDoor
