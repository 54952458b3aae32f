/- Walk of rise: one rises in the heap till its parent is no further back. -/
import Derived.Test.YtaldfpoolajoiaaDoorHc
import Derived.Deep.RegionHeld3
namespace Go.Proofs.YtaldfpoolajoiaaDoor
open Go.RowKit M

theorem far_apart {w : World} {F gf N G cap n : Nat} {st : Nat → Int} {it : Nat → Spot} (h : FarAt w F gf N st) (h' : ItemsIn w G cap n it) (hn : 0 < n) : F ≠ G ∧ gf ≠ G := by
  obtain ⟨hF, hR⟩ := h
  refine ⟨fun e => ?_, fun e => ?_⟩
  · subst e
    have := h'.c0 hn
    rw [Nat.zero_mul, hF] at this
    cases this
  · subst e
    obtain ⟨c, h1, _⟩ := hR
    obtain ⟨cur, h2, _⟩ := h'
    rw [h1] at h2
    simp at h2

theorem FarAt.only {w w' : World} {F gf N : Nat} {st : Nat → Int} {S : Nat → Prop} (h : FarAt w F gf N st) (ho : Only S w w') (h1 : ¬ S F) (h2 : ¬ S gf) : FarAt w' F gf N st := by
  obtain ⟨hF, hR⟩ := h
  exact ⟨(ho.cell (p := ⟨F, 0, none⟩) (World.block_lt_of_cell? _ _ hF) h1).trans hF, hR.of_block (ho.block _ hR.lt h2)⟩

theorem FarAt.lt {w : World} {F gf N : Nat} {st : Nat → Int} (h : FarAt w F gf N st) : F < w.heap.size ∧ gf < w.heap.size := ⟨World.block_lt_of_cell? _ _ h.1, h.2.lt⟩

/-- What a heap's spots are. -/
def Fine (N n : Nat) (it : Nat → Spot) : Prop := ∀ p, Mem n it p → p.1 < N ∧ p.2 ≤ 100000

set_option maxRecDepth 1000000 in
set_option maxHeartbeats 8000000 in
theorem rise_any (H F gf G cap n N a : Nat) (it : Nat → Spot) (st : Nat → Int) (w : World) (hh : HeapAt w H F (.slice (some ⟨G, 0, none⟩) n cap)) (hit : ItemsIn w G cap n it) (hf : FarAt w F gf N st) (hst : ∀ x, x < N → -1 ≤ st x ∧ st x ≤ 1000) (hfine : Fine N n it) (han : a < n) (hn : n ≤ 1000000) (hup : Up (keyM st) n it a) :
    Calls Tryd.prog 102 #[.pointer (some ⟨H, 0, none⟩), .int .i64 a] w fun e w' =>
      e = .returned (.tuple #[]) ∧ ∃ it', Ord (keyM st) n it' ∧ (∀ p, Mem n it' p ↔ Mem n it p) ∧ ItemsIn w' G cap n it' ∧ Only (fun k => k = G) w w' := by
  have HH := Hid.mk hh
  have HF := Hid.mk hf
  have HST := Hid.mk hst
  have HFN := Hid.mk hfine
  have NE := Hid.mk (heap_apart hh hit)
  have NF := Hid.mk (far_apart hf hit (by omega))
  have hHl := hh.lt
  have IT := Hid.mk hit
  have UP := Hid.mk hup
  clear hh hf hst hfine hit hup
  go_enter Tryd.func102, Tryd.ntmps102
  go_wp2
  go_loopw [1] (fun s wr => ∃ (b : Nat) (it' : Nat → Spot), s = .int .i64 b ∧ b < n ∧ Up (keyM st) n it' b ∧ (∀ p, Mem n it' p ↔ Mem n it p) ∧ ItemsIn wr G cap n it' ∧ Only (fun k => k = G) w wr) (fun s _ => (intOf s).toNat)
  case atStart => exact ⟨a, it, rfl, han, UP.out, fun _ => Iff.rfl, IT.out, Only.refl _ _⟩
  case round =>
    obtain ⟨b, it', rfl, hb, hup, hmem, hit, honly⟩ := hrel
    have UP' := Hid.mk hup
    have ME := Hid.mk hmem
    have IT' := Hid.mk hit
    have HO := Hid.mk honly
    have hz := honly.size
    have HHr := Hid.mk (HH.out.block (honly.block _ hHl NE.out))
    have HFr := Hid.mk (HF.out.only honly NF.out.1 NF.out.2)
    clear hup hmem hit honly
    by_cases h0 : 0 < b
    · obtain ⟨p, hp⟩ : ∃ p, p = (b - 1) / 2 := ⟨_, rfl⟩
      have hpb : p < b := by omega
      have d0 : ((b : Int) - 1) / 2 = (p : Int) := by omega
      have HP := Hid.mk hp
      have x0 := HHr.out.c0
      have x1 := HHr.out.c1
      have a0 := IT'.out.c0 hb
      have a1 := IT'.out.c1 hb
      have p0 := IT'.out.c0 (i := p) (by omega)
      have p1 := IT'.out.c1 (i := p) (by omega)
      have f1 := HFN.out _ ((ME.out _).1 ⟨b, hb, rfl⟩)
      have f2 := HFN.out _ ((ME.out _).1 ⟨p, by omega, rfl⟩)
      have b1 : (b : Int) < (n : Int) := by omega
      have p2 : (p : Int) < (n : Int) := by omega
      have hzH : H < wr.heap.size := by omega
      have hzG : G < wr.heap.size := IT'.out.lt
      unfold lessV at x0
      clear hp
      go_wp2_with fail
      go_region_held3 (fun w' => w'.cell? ⟨H, 0, none⟩ = some (.func (.func 86) #[] #[.pointer (some ⟨F, 0, none⟩)]) ∧ w'.cell? ⟨H, 1, none⟩ = some (.slice (some ⟨G, 0, none⟩) n cap) ∧ w'.cell? ⟨G, b * 2, none⟩ = some (.int .i64 ((it' b).1 : Nat)) ∧ w'.cell? ⟨G, b * 2 + 1, none⟩ = some (.int .i64 ((it' b).2 : Nat)) ∧ w'.cell? ⟨G, p * 2, none⟩ = some (.int .i64 ((it' p).1 : Nat)) ∧ w'.cell? ⟨G, p * 2 + 1, none⟩ = some (.int .i64 ((it' p).2 : Nat))) (go_keep)
        (first
          | (go_at_call 86; refine (less_any F gf N st (it' b) (it' p) _ (by exact HFr.out) HST.out f1.1 f2.1 f1.2 f2.2).mono ?_; rintro e w4 ⟨rfl, hb4⟩; have q0 : w4.cell? ⟨H, 0, none⟩ = some (.func (.func 86) #[] #[.pointer (some ⟨F, 0, none⟩)]) := (hb4.cell (p := ⟨H, 0, none⟩) hzH).trans x0; have q1 : w4.cell? ⟨H, 1, none⟩ = some (.slice (some ⟨G, 0, none⟩) n cap) := (hb4.cell (p := ⟨H, 1, none⟩) hzH).trans x1; have q2 : w4.cell? ⟨G, b * 2, none⟩ = some (.int .i64 ((it' b).1 : Nat)) := (hb4.cell (p := ⟨G, b * 2, none⟩) hzG).trans a0; have q3 : w4.cell? ⟨G, b * 2 + 1, none⟩ = some (.int .i64 ((it' b).2 : Nat)) := (hb4.cell (p := ⟨G, b * 2 + 1, none⟩) hzG).trans a1; have q4 : w4.cell? ⟨G, p * 2, none⟩ = some (.int .i64 ((it' p).1 : Nat)) := (hb4.cell (p := ⟨G, p * 2, none⟩) hzG).trans p0; have q5 : w4.cell? ⟨G, p * 2 + 1, none⟩ = some (.int .i64 ((it' p).2 : Nat)) := (hb4.cell (p := ⟨G, p * 2 + 1, none⟩) hzG).trans p1))
      have HO4 : Hid (Only (fun k => k = G) w w4) := HO.out.drew.trans (Only.of_below hb4 : Only (fun _ => False) wr.drew w4) (fun _ _ e => e.elim)
      have IT4 := Hid.mk (IT'.out.drew.block (hb4.block _ hzG))
      have HH4 := Hid.mk (HH.out.block (HO4.out.block _ hHl NE.out))
      obtain ⟨g, hg⟩ : ∃ g, g = decide (keyM st (it' b) < keyM st (it' p)) := ⟨_, rfl⟩
      rw [← hg]
      have HG := Hid.mk hg
      clear hb4 q0 q1 q2 q3 q4 q5 x0 x1 a0 a1 p0 p1 hg
      cases g
      · go_wp2
        refine bodyPost_ret (results_none Tryd.results102 _ _ _) rfl ?_
        refine ⟨rfl, it', up_done UP'.out (Or.inr ?_), ME.out, IT4.out, HO4.out⟩
        rw [← HP.out]
        have := HG.out
        simpa using this
      · go_wp2_with fail
        refine (swap_any H F G cap n b p it' _ HH4.out IT4.out hb (by omega) (by omega)).mono ?_
        rintro e w5 ⟨rfl, hi5, ho5⟩
        have IT5 := Hid.mk hi5
        have HO5 : Hid (Only (fun k => k = G) w w5) := HO4.out.trans ho5 (fun _ _ e => e)
        clear hi5 ho5
        go_wp2
        go_roundw
        case rel =>
          refine ⟨p, swapIt it' b p, rfl, by omega, ?_, fun q => (mem_swap hb (by omega)).trans (ME.out q), IT5.out, HO5.out⟩
          have := HG.out
          rw [HP.out]
          refine up_step UP'.out h0 hb ?_
          rw [← HP.out]
          simpa using this.symm
        case measure => simp [intOf]; omega
    · have e0 : b = 0 := by omega
      subst e0
      go_wp2
      go_end0
      exact ⟨rfl, it', up_done UP'.out (Or.inl rfl), ME.out, IT'.out, HO.out⟩

end Go.Proofs.YtaldfpoolajoiaaDoor
