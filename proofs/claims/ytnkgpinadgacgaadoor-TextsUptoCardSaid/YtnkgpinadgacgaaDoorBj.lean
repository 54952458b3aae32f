/- Walk of Push: one more in the heap. -/
import Derived.Test.YtnkgpinadgacgaaDoorBi
import Derived.Deep.DeepCutAuto
namespace Go.Proofs.YtnkgpinadgacgaaDoor
open Go.RowKit M

theorem Tryd.infoSpot : (Tryd.prog.info? 225).map (fun i => (i.zero, i.size, i.bytes)) = some (some (.agg #[.int .i64 0, .int .i64 0]), 2, 16) := by kernel_rfl

/-- The cells of a list of spots. -/
def spotCells (it : Nat → Spot) : Nat → List Value
  | 0 => []
  | m + 1 => spotCells it m ++ [.int .i64 ((it m).1 : Nat), .int .i64 ((it m).2 : Nat)]

theorem spotCells_len (it : Nat → Spot) : ∀ m, (spotCells it m).length = m * 2
  | 0 => rfl
  | m + 1 => by simp [spotCells, spotCells_len it m]; omega

theorem spotCells_at {it : Nat → Spot} : ∀ {m i : Nat}, i < m → (spotCells it m)[i * 2]? = some (.int .i64 ((it i).1 : Nat)) ∧ (spotCells it m)[i * 2 + 1]? = some (.int .i64 ((it i).2 : Nat))
  | m + 1, i, h => by
    have hl := spotCells_len it m
    by_cases e : i = m
    · subst e
      simp only [spotCells]
      rw [List.getElem?_append_right (by omega), List.getElem?_append_right (by omega), hl]
      simp
    · simp only [spotCells]
      rw [List.getElem?_append_left (by omega), List.getElem?_append_left (by omega)]
      exact spotCells_at (by omega)

theorem spotCells_same {it it' : Nat → Spot} : ∀ {m : Nat}, (∀ i, i < m → it i = it' i) → spotCells it m = spotCells it' m
  | 0, _ => rfl
  | m + 1, h => by simp only [spotCells]; rw [spotCells_same (fun i hi => h i (by omega)), h m (by omega)]

/-- The heap's list: none, or the first places of a row. -/
def ListAt (w : World) (v : Value) (n : Nat) (it : Nat → Spot) : Prop := (v = .slice none 0 0 ∧ n = 0) ∨ ∃ G cap, v = .slice (some ⟨G, 0, none⟩) n cap ∧ ItemsIn w G cap n it

theorem list_own {w : World} {v : Value} {n : Nat} {it : Nat → Spot} (h : ListAt w v n it) : w.ownsRow 0 225 2 v n (spotCells it n) := by
  rcases h with ⟨h1, h2⟩ | ⟨G, cap, h1, cur, g1, g2, g3, g4, g5⟩
  · subst h1 h2; exact ⟨rfl, Or.inl ⟨rfl, rfl⟩⟩
  · subst h1
    refine ⟨spotCells_len it n, Or.inr ⟨G, cap, cur, rfl, Nat.zero_le _, g1, g2, g3, g4, ?_⟩⟩
    apply List.ext_getElem?
    intro i
    by_cases hi : i < n * 2
    · rw [List.getElem?_take, if_pos hi, Array.getElem?_toList]
      have h2 : i / 2 < n := by omega
      obtain ⟨a1, a2⟩ := g5 (i / 2) h2
      obtain ⟨b1, b2⟩ := spotCells_at (it := it) h2
      by_cases e : i % 2 = 0
      · have e2 : i / 2 * 2 = i := by omega
        rw [e2] at a1 b1
        rw [a1, b1]
      · have e2 : i / 2 * 2 + 1 = i := by omega
        rw [e2] at a2 b2
        rw [a2, b2]
    · rw [List.getElem?_take, if_neg hi, List.getElem?_eq_none (by rw [spotCells_len]; omega)]

theorem items_own {w : World} {base G cap n : Nat} {it : Nat → Spot} (h : w.ownsRow base 225 2 (.slice (some ⟨G, 0, none⟩) n cap) n (spotCells it n)) : ItemsIn w G cap n it := by
  rcases h.2 with ⟨h0, _⟩ | ⟨g', cap', cur, hv, _, hh, hn, hc, hs, ht⟩
  · cases h0
  · cases hv
    refine ⟨cur, hh, hn, hc, hs, fun i hi => ?_⟩
    obtain ⟨b1, b2⟩ := spotCells_at (it := it) hi
    rw [← ht, List.getElem?_take, if_pos (by omega), Array.getElem?_toList] at b1 b2
    exact ⟨b1, b2⟩

/-- What stands when one was added, ahead of its rise. -/
def Put (w wx : World) (H F n : Nat) (v : Value) (it : Nat → Spot) (p : Spot) (G cap : Nat) : Prop :=
  HeapAt wx H F (.slice (some ⟨G, 0, none⟩) (n + 1) cap) ∧ ItemsIn wx G cap (n + 1) (pushIt it n p) ∧ (v.ownBlock = some G ∨ w.heap.size ≤ G) ∧ Only (fun k => k = H ∨ v.ownBlock = some k) w wx

theorem put_mk {w pre w9 : World} {H F n G cap : Nat} {v : Value} {it : Nat → Spot} {p : Spot} (hh : HeapAt w H F v) (hHv : v.ownBlock ≠ some H) (hp : Below w.heap.size w pre) (ho : w9.ownsRow 0 225 2 (.slice (some ⟨G, 0, none⟩) (n + 1) cap) (n + 1) (spotCells it n ++ [.int .i64 (p.1 : Nat), .int .i64 (p.2 : Nat)]))
    (hg : pre.grownBy w9 v.ownBlock) (hl : v.ownBlock = some G ∨ w.heap.size ≤ G) : Put w (w9.setCell ⟨H, 1, none⟩ (.slice (some ⟨G, 0, none⟩) (n + 1) cap)) H F n v it p G cap := by
  have hHl := hh.lt
  have hGH : G ≠ H := fun e => by
    subst e
    rcases hl with h | h
    · exact hHv h
    · omega
  have h9 : w9.heap[H]? = w.heap[H]? := (hg.block H (Nat.lt_of_lt_of_le hHl hp.size) (fun e => hHv e.symm)).trans (hp.block H hHl)
  have hit : ItemsIn w9 G cap (n + 1) (pushIt it n p) := by
    refine items_own (base := 0) ?_
    have e : spotCells (pushIt it n p) (n + 1) = spotCells it n ++ [.int .i64 (p.1 : Nat), .int .i64 (p.2 : Nat)] := by
      simp only [spotCells]
      rw [spotCells_same (it := pushIt it n p) (it' := it) (fun i hi => by unfold pushIt; rw [if_neg (by omega)])]
      unfold pushIt; rw [if_pos rfl]
    rw [e]; exact ho
  refine ⟨?_, hit.block (Below.heap_setCell _ _ _ _ hGH), hl, ?_⟩
  · unfold HeapAt at hh ⊢
    rw [hh] at h9
    simp [World.setCell, Array.getElem?_modify, h9]
  · have o9 : Only (fun k => k = H ∨ v.ownBlock = some k) w w9 := ⟨hg.os.trans hp.os, hg.tape.trans hp.tape, hg.output.trans hp.output, Nat.le_trans hp.size hg.size, fun k hk hn => (hg.block k (Nat.lt_of_lt_of_le hk hp.size) (fun e => hn (Or.inr e.symm))).trans (hp.block k hk)⟩
    exact o9.setCell (p := ⟨H, 1, none⟩) (fun _ => Or.inl rfl) _

set_option maxRecDepth 1000000 in
set_option maxHeartbeats 8000000 in
theorem push_any (H F gf n N : Nat) (v : Value) (it : Nat → Spot) (p : Spot) (st : Nat → Int) (w : World) (hh : HeapAt w H F v) (hit : ListAt w v n it) (hHv : v.ownBlock ≠ some H) (hf : FarAt w F gf N st) (hFv : v.ownBlock ≠ some F ∧ v.ownBlock ≠ some gf) (hFH : F ≠ H ∧ gf ≠ H) (hst : ∀ x, x < N → -1 ≤ st x ∧ st x ≤ 1000) (hfine : Fine N n it) (hp1 : p.1 < N) (hp2 : p.2 ≤ 100000) (hn : n < 900000) (hord : Ord (keyM st) n it) :
    Calls Tryd.prog 155 #[.pointer (some ⟨H, 0, none⟩), .agg #[.int .i64 (p.1 : Nat), .int .i64 (p.2 : Nat)]] w fun e w' =>
      e = .returned (.tuple #[]) ∧ ∃ it' G cap, Ord (keyM st) (n + 1) it' ∧ (∀ q, Mem (n + 1) it' q ↔ Mem n it q ∨ q = p) ∧ HeapAt w' H F (.slice (some ⟨G, 0, none⟩) (n + 1) cap) ∧ ItemsIn w' G cap (n + 1) it' ∧ (v.ownBlock = some G ∨ w.heap.size ≤ G) ∧ Only (fun k => k = H ∨ v.ownBlock = some k) w w' := by
  obtain ⟨i0, hi0, hi1, hi2, hi3⟩ := info_parts Tryd.infoSpot
  obtain ⟨pc, pa⟩ := p
  dsimp only at hp1 hp2 ⊢
  have hHl := hh.lt
  have OWN := Hid.mk (list_own hit)
  have HH := Hid.mk hh
  have NHV := Hid.mk hHv
  have hGR : Hid (∀ k, v.ownBlock = some k → k < w.heap.size) := fun k hk => ((list_own hit).lt k hk).2
  obtain ⟨av, cv, hv⟩ : ∃ av cv, v = .slice av n cv := by
    rcases hit with ⟨h1, h2⟩ | ⟨G, cap, h1, _⟩
    · exact ⟨none, 0, by rw [h1, h2]⟩
    · exact ⟨_, _, h1⟩
  have d1 : w.cell? ⟨H, 1, none⟩ = some (.slice av n cv) := by rw [← hv]; exact hh.c1
  have D1 : ∀ k, Value.ownBlock (.slice av n cv) = some k → H ≠ k := fun k hk e => hHv (by rw [hv, e]; exact hk)
  have HF := Hid.mk hf
  have HST := Hid.mk hst
  have HFN := Hid.mk hfine
  have HOR := Hid.mk hord
  have NFV := Hid.mk hFv
  have NFH := Hid.mk hFH
  subst hv
  clear hh hit hHv hf hst hfine hord hFv hFH
  have hdf : w.frozen? ⟨H, 1, none⟩ = false := HH.out.fz 1
  have NEW : Hid (∀ j u, [Value.int IntKind.i64 (pc : Int), Value.int IntKind.i64 (pa : Int)][j]? = some u → ((w.alloc (Obj.cells #[Value.int IntKind.i64 (pc : Int), Value.int IntKind.i64 (pa : Int)] 225)).alloc (Obj.cells #[Value.int IntKind.i64 (pc : Int), Value.int IntKind.i64 (pa : Int)] 225)).drew.cell? ((⟨w.heap.size + 1, 0, none⟩ : Addr).add j) = some u) := by
    have e : (w.alloc (Obj.cells #[Value.int IntKind.i64 (pc : Int), Value.int IntKind.i64 (pa : Int)] 225)).heap.size = w.heap.size + 1 := by simp
    have h := cell_two_new (w.alloc (Obj.cells #[Value.int IntKind.i64 (pc : Int), Value.int IntKind.i64 (pa : Int)] 225)) (Value.int IntKind.i64 (pc : Int)) (Value.int IntKind.i64 (pa : Int)) 225
    rw [e] at h
    exact h
  go_enter Tryd.func155, Tryd.ntmps155
  go_upto_region 1 with fail
  go_cut [] (fun wx => ∃ G cap, Put w wx H F n (.slice av n cv) it (pc, pa) G cap)
  case first =>
    go_region_law ((refine step_append_lies _ (by rfl) _ _ 227 (by rfl) 0 225 _ _ 2 16 Tryd.underlying227 hi0 hi1 hi2 hi3 rfl (by omega) (.slice av n cv) n (spotCells it n) (by rfl) (by exact own_keep OWN.out (fun g _ hg _ => by first | exact (Below.heap_alloc _ _ _ (by simp; omega)).trans (Below.heap_alloc _ _ _ hg) | exact Below.heap_alloc _ _ _ hg)) _ 1 _ [.int .i64 (pc : Int), .int .i64 (pa : Int)] (by rfl) (by rfl) (by exact NEW.out) (two_oneCell _ _) (by omega) (by unfold maxLen; omega) (by omega) (by simp) (w.heap.size + 1 + 1) (by simp) ?_; intro g1 cc1 w9 ho9 hgrow hat9 hl9; have hpre := grown_pre hgrow (by first | exact (((Below.refl _ w).alloc (Nat.le_refl _) _).alloc (by simp) _).drew | exact ((Below.refl _ w).alloc (Nat.le_refl _) _).drew.alloc (by simp) _ | exact ((Below.refl _ w).alloc (Nat.le_refl _) _).alloc (by simp) _); have e91 := grow_cell d1 hpre.1 hgrow D1; have hf9 := grow_frozen hdf hHl hpre.1 hgrow D1))
    all_goals (try go_wp2_with fail)
    all_goals go_meet
    all_goals (case rel => exact ⟨g1, cc1, put_mk HH.out NHV.out hpre.1 ho9 hgrow (hat9.imp id (fun e => by omega))⟩)
  case rest =>
    obtain ⟨G, cap, hhx, hix, hlx, hox⟩ := hcut
    have HHX := Hid.mk hhx
    have HIX := Hid.mk hix
    have HLX := Hid.mk hlx
    have HOX := Hid.mk hox
    have x1 := hhx.c1
    have hfx := Hid.mk (FarAt.only (S := fun k => k = H ∨ Value.ownBlock (.slice av n cv) = some k) HF.out hox (fun e => by
      rcases e with e | e
      · exact NFH.out.1 e
      · exact NFV.out.1 e) (fun e => by
      rcases e with e | e
      · exact NFH.out.2 e
      · exact NFV.out.2 e))
    clear hhx hix hlx hox d1 D1 hdf
    go_wp2_with fail
    refine (rise_any H F gf G cap (n + 1) N n (pushIt it n (pc, pa)) st _ HHX.out HIX.out hfx.out HST.out (fun q hq => ?_) (by omega) (by omega) (ord_push HOR.out _)).mono ?_
    · rcases mem_push.1 hq with h | h
      · exact HFN.out q h
      · rw [h]; exact ⟨hp1, hp2⟩
    rintro e w5 ⟨rfl, it', ho', hm', hi', hon'⟩
    have R1 := Hid.mk ho'
    have R2 := Hid.mk hm'
    have R3 := Hid.mk hi'
    have R4 := Hid.mk hon'
    have R5 := Hid.mk (HHX.out.block (hon'.block _ HHX.out.lt (heap_apart HHX.out HIX.out)))
    clear ho' hm' hi' hon' x1
    go_wp2
    go_end0
    refine ⟨rfl, it', G, cap, R1.out, (by first | exact fun q => (R2.out q).trans mem_push | exact fun a b => (R2.out (a, b)).trans mem_push), R5.out, R3.out, HLX.out, HOX.out.trans R4.out (fun i hi e => ?_)⟩
    have e : i = G := e
    rcases HLX.out with h | h
    · exact Or.inr (by rw [e]; exact h)
    · omega

end Go.Proofs.YtnkgpinadgacgaaDoor

/- Walk of Pop: the foremost is taken out of the heap. -/
namespace Go.Proofs.YtnkgpinadgacgaaDoor
open Go.RowKit M

set_option maxRecDepth 1000000 in
set_option maxHeartbeats 8000000 in
theorem pop_none (H F : Nat) (av : Option Addr) (cv : Nat) (w : World) (hh : HeapAt w H F (.slice av 0 cv)) :
    Calls Tryd.prog 156 #[.pointer (some ⟨H, 0, none⟩)] w fun e w' =>
      e = .returned (.tuple #[.agg #[.int .i64 0, .int .i64 0], .bool false]) ∧ Below w.heap.size w w' := by
  have hHl := hh.lt
  have x1 := hh.c1
  have HB : Hid (∀ o1 o2, Below w.heap.size w ((w.alloc o1).alloc o2)) := fun _ _ => ((Below.refl _ _).alloc (Nat.le_refl _) _).alloc (by simp) _
  clear hh
  go_enter Tryd.func156, Tryd.ntmps156
  go_wp2
  refine bodyPost_ret (v := .tuple #[.agg #[.int .i64 0, .int .i64 0], .bool false]) (by simp [results, Tryd.results156]; go_simp) rfl ⟨rfl, ?_⟩
  exact HB.out _ _

set_option maxRecDepth 1000000 in
set_option maxHeartbeats 8000000 in
theorem pop_some (H F gf G cap n N : Nat) (it : Nat → Spot) (st : Nat → Int) (w : World) (hh : HeapAt w H F (.slice (some ⟨G, 0, none⟩) n cap)) (hit : ItemsIn w G cap n it) (hf : FarAt w F gf N st) (hFH : F ≠ H ∧ gf ≠ H) (hst : ∀ x, x < N → -1 ≤ st x ∧ st x ≤ 1000) (hfine : Fine N n it) (hn0 : 0 < n) (hn : n < 900000) (hord : Ord (keyM st) n it) :
    Calls Tryd.prog 156 #[.pointer (some ⟨H, 0, none⟩)] w fun e w' =>
      e = .returned (.tuple #[.agg #[.int .i64 ((it 0).1 : Nat), .int .i64 ((it 0).2 : Nat)], .bool true]) ∧ ∃ it', Ord (keyM st) (n - 1) it' ∧ (∀ q, Mem n it q ↔ Mem (n - 1) it' q ∨ q = it 0) ∧ HeapAt w' H F (.slice (some ⟨G, 0, none⟩) (n - 1) cap) ∧ ItemsIn w' G cap (n - 1) it' ∧ Only (fun k => k = H ∨ k = G) w w' := by
  have hHl := hh.lt
  have hGl := hit.lt
  have NE := Hid.mk (heap_apart hh hit)
  have NF := Hid.mk (far_apart hf hit hn0)
  have NFH := Hid.mk hFH
  have FAR := Hid.mk hf
  have HST := Hid.mk hst
  have HFN := Hid.mk hfine
  have HOR := Hid.mk hord
  obtain ⟨m, hm⟩ : ∃ m, n = m + 1 := ⟨n - 1, by omega⟩
  subst hm
  obtain ⟨fc, hfc⟩ : ∃ x, x = (it 0).1 := ⟨_, rfl⟩
  obtain ⟨fa, hfa⟩ : ∃ x, x = (it 0).2 := ⟨_, rfl⟩
  obtain ⟨lc, hlc⟩ : ∃ x, x = (it m).1 := ⟨_, rfl⟩
  obtain ⟨la, hla⟩ : ∃ x, x = (it m).2 := ⟨_, rfl⟩
  rw [← hfc, ← hfa]
  have FI : Hid (it 0 = (fc, fa)) := by unfold Hid; rw [hfc, hfa]
  have LI : Hid (it m = (lc, la)) := by unfold Hid; rw [hlc, hla]
  have W2 : Hid (Only (fun _ => False) w ((w.alloc (Obj.cells #[.int .i64 0, .int .i64 0] 225)).alloc (Obj.cells #[.int .i64 0, .int .i64 0] 225))) := ((Only.refl _ w).alloc _).alloc _
  have HH2 : Hid (HeapAt ((w.alloc (Obj.cells #[.int .i64 0, .int .i64 0] 225)).alloc (Obj.cells #[.int .i64 0, .int .i64 0] 225)) H F (.slice (some ⟨G, 0, none⟩) (m + 1) cap)) := hh.block (W2.out.block _ hHl (fun e => e))
  have IT2 : Hid (ItemsIn ((w.alloc (Obj.cells #[.int .i64 0, .int .i64 0] 225)).alloc (Obj.cells #[.int .i64 0, .int .i64 0] 225)) G cap (m + 1) it) := hit.block (W2.out.block _ hGl (fun e => e))
  have r2 : ∀ o, ((w.alloc (Obj.cells #[.int .i64 0, .int .i64 0] 225)).alloc (Obj.cells #[.int .i64 0, .int .i64 0] 225)).cell? ⟨w.heap.size, o, none⟩ = #[Value.int .i64 0, .int .i64 0][o]? := by intro o; go_simp
  have rf2 : ∀ o, ((w.alloc (Obj.cells #[.int .i64 0, .int .i64 0] 225)).alloc (Obj.cells #[.int .i64 0, .int .i64 0] 225)).frozen? ⟨w.heap.size, o, none⟩ = false := by intro o; go_simp
  have n2 : ∀ o, ((w.alloc (Obj.cells #[.int .i64 0, .int .i64 0] 225)).alloc (Obj.cells #[.int .i64 0, .int .i64 0] 225)).cell? ⟨w.heap.size + 1, o, none⟩ = #[Value.int .i64 0, .int .i64 0][o]? := by intro o; go_simp
  have hz2 : ((w.alloc (Obj.cells #[.int .i64 0, .int .i64 0] 225)).alloc (Obj.cells #[.int .i64 0, .int .i64 0] 225)).heap.size = w.heap.size + 2 := by simp
  have x1 := HH2.out.c1
  have a0 := IT2.out.c0 (i := 0) hn0
  have a1 := IT2.out.c1 (i := 0) hn0
  rw [← hfc, Nat.zero_mul] at a0
  rw [← hfa, Nat.zero_mul] at a1
  have R2 := Hid.mk r2
  have RF2 := Hid.mk rf2
  have N2 := Hid.mk n2
  have i1 : ((m + 1 : Nat) : Int) = (m : Int) + 1 := by omega
  have i2 : ((m : Int) + 1 == 0) = false := by simp; omega
  have i3 : (0 : Int) < (m : Int) + 1 := by omega
  have i4 : IntKind.i64.wrap ((m : Int) + 1 - 1) = (m : Int) := by rw [IntKind.wrap_i64]; omega
  have i5 : IntKind.i64.wrap (m : Int) = (m : Int) := by rw [IntKind.wrap_i64]; omega
  clear hh hit hf hFH hst hfine hord hfc hfa hlc hla r2 rf2 n2
  go_enter Tryd.func156, Tryd.ntmps156
  go_upto_region 4 with fail
  generalize (w.alloc (Obj.cells #[.int .i64 0, .int .i64 0] 225)).alloc (Obj.cells #[.int .i64 0, .int .i64 0] 225) = w2 at *
  have hH2 : H < w2.heap.size := by omega
  have hG2 : G < w2.heap.size := by omega
  have q1 : ∀ o, (w2.alloc o).cell? ⟨H, 1, none⟩ = some (.slice (some ⟨G, 0, none⟩) (m + 1) cap) := fun o => by rw [World.cell?_alloc_past _ _ _ (by show H < _; exact hH2)]; exact x1
  have q2 : ∀ o, (w2.alloc o).cell? ⟨G, 0, none⟩ = some (.int .i64 (fc : Int)) := fun o => by rw [World.cell?_alloc_past _ _ _ (by show G < _; exact hG2)]; exact a0
  have q3 : ∀ o, (w2.alloc o).cell? ⟨G, 1, none⟩ = some (.int .i64 (fa : Int)) := fun o => by rw [World.cell?_alloc_past _ _ _ (by show G < _; exact hG2)]; exact a1
  have HZ2 := Hid.mk hz2
  clear hz2
  go_region
  have O3 : Hid (Only (fun k => k = H ∨ k = G) w (w2.alloc (Obj.cells #[Value.int IntKind.i64 (fc : Int), Value.int IntKind.i64 (fa : Int)] 225)).drew) := ((W2.out.mono (fun _ _ e => e.elim) : Only (fun k => k = H ∨ k = G) w w2).alloc _).drew
  have HH3 : Hid (HeapAt (w2.alloc (Obj.cells #[Value.int IntKind.i64 (fc : Int), Value.int IntKind.i64 (fa : Int)] 225)).drew H F (.slice (some ⟨G, 0, none⟩) (m + 1) cap)) := HH2.out.block (Below.heap_alloc _ _ _ hH2)
  have IT3 : Hid (ItemsIn (w2.alloc (Obj.cells #[Value.int IntKind.i64 (fc : Int), Value.int IntKind.i64 (fa : Int)] 225)).drew G cap (m + 1) it) := (IT2.out.block (Below.heap_alloc _ _ _ hG2)).drew
  have R3 : Hid (∀ o, (w2.alloc (Obj.cells #[Value.int IntKind.i64 (fc : Int), Value.int IntKind.i64 (fa : Int)] 225)).drew.cell? ⟨w.heap.size, o, none⟩ = #[Value.int .i64 0, .int .i64 0][o]?) := fun o => (World.cell?_alloc_past _ _ _ (by have := HZ2.out; show w.heap.size < _; omega)).trans (R2.out o)
  have RF3 : Hid (∀ o, (w2.alloc (Obj.cells #[Value.int IntKind.i64 (fc : Int), Value.int IntKind.i64 (fa : Int)] 225)).drew.frozen? ⟨w.heap.size, o, none⟩ = false) := fun o => ((Below.refl w2.heap.size w2).alloc (Nat.le_refl _) (Obj.cells #[Value.int IntKind.i64 (fc : Int), Value.int IntKind.i64 (fa : Int)] 225)).frozen (p := ⟨w.heap.size, o, none⟩) (by have := HZ2.out; show w.heap.size < _; omega) |>.trans (RF2.out o)
  have N3 : Hid (∀ o, (w2.alloc (Obj.cells #[Value.int IntKind.i64 (fc : Int), Value.int IntKind.i64 (fa : Int)] 225)).drew.cell? ⟨w.heap.size + 1, o, none⟩ = #[Value.int .i64 0, .int .i64 0][o]?) := fun o => (World.cell?_alloc_past _ _ _ (by have := HZ2.out; show w.heap.size + 1 < _; omega)).trans (N2.out o)
  have F3 : Hid (∀ o, (w2.alloc (Obj.cells #[Value.int IntKind.i64 (fc : Int), Value.int IntKind.i64 (fa : Int)] 225)).drew.cell? ⟨w2.heap.size, o, none⟩ = #[Value.int .i64 (fc : Int), .int .i64 (fa : Int)][o]?) := fun o => by
    show (w2.alloc _).cell? _ = _
    go_simp
  have HZ3 : Hid ((w2.alloc (Obj.cells #[Value.int IntKind.i64 (fc : Int), Value.int IntKind.i64 (fa : Int)] 225)).drew.heap.size = w.heap.size + 3) := by
    have := HZ2.out
    show (w2.alloc _).heap.size = _
    simp; omega
  clear x1 a0 a1 q1 q2 q3 HH2 IT2 R2 RF2 N2 W2 hH2 hG2
  generalize (w2.alloc (Obj.cells #[Value.int IntKind.i64 (fc : Int), Value.int IntKind.i64 (fa : Int)] 225)).drew = w3 at *
  have x1 := HH3.out.c1
  have b0 := IT3.out.c0 (i := m) (by omega)
  have b1 := IT3.out.c1 (i := m) (by omega)
  have a0 := IT3.out.c0 (i := 0) hn0
  have a1 := IT3.out.c1 (i := 0) hn0
  rw [Nat.zero_mul] at a0 a1
  rw [LI.out] at b0 b1
  have fz := IT3.out.fz
  have i6 : (m : Int) < (m : Int) + 1 := by omega
  go_wp2_with fail
  go_region
  have IT4 : Hid (ItemsIn ((w3.setCell ⟨G, 0, none⟩ (.int .i64 (lc : Int))).setCell ⟨G, 1, none⟩ (.int .i64 (la : Int))).drew G cap (m + 1) (popIt it (m + 1))) := by
    refine ((IT3.out.put 0 (lc, la)).same fun j _ => ?_).drew
    unfold popIt
    by_cases e : j = 0
    · rw [if_pos e, if_pos e, show m + 1 - 1 = m by omega, LI.out]
    · rw [if_neg e, if_neg e]
  have O4 : Hid (Only (fun k => k = H ∨ k = G) w3 ((w3.setCell ⟨G, 0, none⟩ (.int .i64 (lc : Int))).setCell ⟨G, 1, none⟩ (.int .i64 (la : Int))).drew) := by
    have o0 : Only (fun k => k = H ∨ k = G) w3 w3 := Only.refl _ _
    exact ((o0.setCell (p := ⟨G, 0, none⟩) (fun _ => Or.inr rfl) _).setCell (p := ⟨G, 1, none⟩) (fun _ => Or.inr rfl) _).drew
  have HH4 : Hid (HeapAt ((w3.setCell ⟨G, 0, none⟩ (.int .i64 (lc : Int))).setCell ⟨G, 1, none⟩ (.int .i64 (la : Int))).drew H F (.slice (some ⟨G, 0, none⟩) (m + 1) cap)) :=
    (HH3.out.block (Below.heap_setCell _ _ _ _ (by show H ≠ G; exact NE.out))).block (Below.heap_setCell _ _ _ _ (by show H ≠ G; exact NE.out))
  clear x1 a0 a1 b0 b1 fz
  generalize ((w3.setCell ⟨G, 0, none⟩ (.int .i64 (lc : Int))).setCell ⟨G, 1, none⟩ (.int .i64 (la : Int))).drew = w4 at *
  have x1 := HH4.out.c1
  have b0 := IT4.out.c0 (i := m) (by omega)
  have b1 := IT4.out.c1 (i := m) (by omega)
  have fz := IT4.out.fz
  have hz4 := O4.out.size
  have n4 : ∀ o, w4.cell? ⟨w.heap.size + 1, o, none⟩ = #[Value.int .i64 0, .int .i64 0][o]? := fun o => (O4.out.cell (p := ⟨w.heap.size + 1, o, none⟩) (by have := HZ3.out; show w.heap.size + 1 < _; omega) (by show ¬ (w.heap.size + 1 = H ∨ w.heap.size + 1 = G); omega)).trans (N3.out o)
  have n40 := n4 0
  have n41 := n4 1
  simp only [List.getElem?_toArray, List.getElem?_cons_zero, List.getElem?_cons_succ] at n40 n41
  clear n4
  go_wp2_with fail
  go_region
  have IT5 : Hid (ItemsIn (((w4.setCell ⟨G, m * 2, none⟩ (.int .i64 0)).setCell ⟨G, m * 2 + 1, none⟩ (.int .i64 0)).drew) G cap m (popIt it (m + 1))) :=
    ((((IT4.out.put m (0, 0)).less (n' := m) (by omega)).same fun j hj => by rw [if_neg (by omega)])).drew
  have O5 : Hid (Only (fun k => k = H ∨ k = G) w3 (((w4.setCell ⟨G, m * 2, none⟩ (.int .i64 0)).setCell ⟨G, m * 2 + 1, none⟩ (.int .i64 0)).drew)) := by
    have o0 : Only (fun k => k = H ∨ k = G) w3 w4 := O4.out
    exact ((o0.setCell (p := ⟨G, m * 2, none⟩) (fun _ => Or.inr rfl) _).setCell (p := ⟨G, m * 2 + 1, none⟩) (fun _ => Or.inr rfl) _).drew
  have HH5 : Hid (HeapAt (((w4.setCell ⟨G, m * 2, none⟩ (.int .i64 0)).setCell ⟨G, m * 2 + 1, none⟩ (.int .i64 0)).drew) H F (.slice (some ⟨G, 0, none⟩) (m + 1) cap)) :=
    (HH4.out.block (Below.heap_setCell _ _ _ _ (by show H ≠ G; exact NE.out))).block (Below.heap_setCell _ _ _ _ (by show H ≠ G; exact NE.out))
  clear x1 b0 b1 fz n40 n41 hz4
  generalize ((w4.setCell ⟨G, m * 2, none⟩ (.int .i64 0)).setCell ⟨G, m * 2 + 1, none⟩ (.int .i64 0)).drew = w5 at *
  have x1 := HH5.out.c1
  have fz := HH5.out.fz
  have rm := IT4.out.room
  have i7 : (m : Int) ≤ (cap : Int) := by omega
  have i8 : (m : Int) ≤ (cap : Int) ∧ (0 : Int) ≤ (m : Int) := by omega
  go_wp2_with fail
  have O6 : Hid (Only (fun k => k = H ∨ k = G) w (w5.setCell ⟨H, 1, none⟩ (.slice (some ⟨G, 0, none⟩) m cap))) :=
    (O3.out.trans O5.out (fun _ _ e => e)).setCell (p := ⟨H, 1, none⟩) (fun _ => Or.inl rfl) _
  have HH6 : Hid (HeapAt (w5.setCell ⟨H, 1, none⟩ (.slice (some ⟨G, 0, none⟩) m cap)) H F (.slice (some ⟨G, 0, none⟩) m cap)) := by
    have h5 := HH5.out
    unfold Hid HeapAt at *
    simp [World.setCell, Array.getElem?_modify, h5]
  have IT6 : Hid (ItemsIn (w5.setCell ⟨H, 1, none⟩ (.slice (some ⟨G, 0, none⟩) m cap)) G cap m (popIt it (m + 1))) := IT5.out.block (Below.heap_setCell _ _ _ _ (by show G ≠ H; exact fun e => NE.out e.symm))
  have FAR6 : Hid (FarAt (w5.setCell ⟨H, 1, none⟩ (.slice (some ⟨G, 0, none⟩) m cap)) F gf N st) := FAR.out.only O6.out (fun e => e.elim NFH.out.1 NF.out.1) (fun e => e.elim NFH.out.2 NF.out.2)
  have K6 : Hid (∀ b, b < w3.heap.size → b ≠ H → b ≠ G → (w5.setCell ⟨H, 1, none⟩ (.slice (some ⟨G, 0, none⟩) m cap)).heap[b]? = w3.heap[b]?) := fun b hb h1 h2 => (Below.heap_setCell _ _ _ _ (by show b ≠ H; exact h1)).trans (O5.out.block b hb (fun e => e.elim h1 h2))
  have Z6 : Hid (w3.heap.size ≤ (w5.setCell ⟨H, 1, none⟩ (.slice (some ⟨G, 0, none⟩) m cap)).heap.size) := by have := O5.out.size; unfold Hid; simpa using this
  clear x1 fz rm i7 i8
  generalize w5.setCell ⟨H, 1, none⟩ (.slice (some ⟨G, 0, none⟩) m cap) = w6 at *
  have hmp : ∀ q, Mem (m + 1) it q ↔ Mem m (popIt it (m + 1)) q ∨ q = it 0 := fun q => mem_pop (n := m + 1) (by omega)
  have HMP := Hid.mk hmp
  clear hmp
  refine (sink_any H F gf G cap m N 0 (popIt it (m + 1)) st _ HH6.out IT6.out FAR6.out HST.out (fun q hq => HFN.out q ((HMP.out q).2 (Or.inl hq))) (Nat.zero_le _) (by omega) (down_pop (n := m + 1) HOR.out)).mono ?_
  rintro e w7 ⟨rfl, it', ho', hm', hi', hon'⟩
  have P1 := Hid.mk ho'
  have P2 := Hid.mk hm'
  have P3 := Hid.mk hi'
  have P4 := Hid.mk hon'
  have P5 := Hid.mk (HH6.out.block (hon'.block _ HH6.out.lt NE.out))
  have K7 : ∀ b, b < w3.heap.size → b ≠ H → b ≠ G → w7.heap[b]? = w3.heap[b]? := fun b hb h1 h2 => (hon'.block b (Nat.lt_of_lt_of_le hb Z6.out) h2).trans (K6.out b hb h1 h2)
  have z3 := HZ3.out
  have z2 := HZ2.out
  have k0 := K7 w.heap.size (by omega) (by omega) (by omega)
  have k2 := K7 w2.heap.size (by omega) (by omega) (by omega)
  have r7 : ∀ o, w7.cell? ⟨w.heap.size, o, none⟩ = #[Value.int .i64 0, .int .i64 0][o]? := fun o => (World.cell?_of_block (w := w3) (a := ⟨w.heap.size, o, none⟩) k0).trans (R3.out o)
  have rf7 : ∀ o, w7.frozen? ⟨w.heap.size, o, none⟩ = false := fun o => (World.frozen?_of_block (w := w3) (a := ⟨w.heap.size, o, none⟩) k0).trans (RF3.out o)
  have f7 : ∀ o, w7.cell? ⟨w2.heap.size, o, none⟩ = #[Value.int .i64 (fc : Int), .int .i64 (fa : Int)][o]? := fun o => (World.cell?_of_block (w := w3) (a := ⟨w2.heap.size, o, none⟩) k2).trans (F3.out o)
  have hx : Hid (w.heap.size ≠ H ∧ w.heap.size ≠ G) := ⟨by omega, by omega⟩
  clear ho' hm' hi' hon' K7 z3 z2 k0 k2
  go_wp2
  refine bodyPost_ret (v := .tuple #[.agg #[.int .i64 (fc : Int), .int .i64 (fa : Int)], .bool true]) (by simp [results, Tryd.results156]; go_simp) rfl ⟨rfl, it', P1.out, ?_, ?_, ?_, ?_⟩
  · first
      | exact fun q => (HMP.out q).trans (or_congr (P2.out q).symm Iff.rfl)
      | exact fun a b => (HMP.out (a, b)).trans (or_congr (P2.out (a, b)).symm Iff.rfl)
  · exact (P5.out.block (Below.heap_setCell _ _ _ _ (by show H ≠ w.heap.size; exact fun e => hx.out.1 e.symm))).block (Below.heap_setCell _ _ _ _ (by show H ≠ w.heap.size; exact fun e => hx.out.1 e.symm))
  · exact (P3.out.block (Below.heap_setCell _ _ _ _ (by show G ≠ w.heap.size; exact fun e => hx.out.2 e.symm))).block (Below.heap_setCell _ _ _ _ (by show G ≠ w.heap.size; exact fun e => hx.out.2 e.symm))
  · have o7 : Only (fun k => k = H ∨ k = G) w w7 := O6.out.trans P4.out (fun _ _ e => Or.inr e)
    exact (o7.setCell (p := ⟨w.heap.size, 0, none⟩) (fun h => absurd h (Nat.lt_irrefl _)) _).setCell (p := ⟨w.heap.size, 1, none⟩) (fun h => absurd h (Nat.lt_irrefl _)) _

end Go.Proofs.YtnkgpinadgacgaaDoor
