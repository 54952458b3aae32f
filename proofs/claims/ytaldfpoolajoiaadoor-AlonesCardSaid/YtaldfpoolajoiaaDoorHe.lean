/- Walk of sink: one sinks in the heap till no child is ahead of it. -/
import Derived.Test.YtaldfpoolajoiaaDoorHbHcHd
namespace Go.Proofs.YtaldfpoolajoiaaDoor
open Go.RowKit M

set_option maxRecDepth 1000000 in
set_option maxHeartbeats 8000000 in
theorem sink_any (H F gf G cap n N a : Nat) (it : Nat → Spot) (st : Nat → Int) (w : World) (hh : HeapAt w H F (.slice (some ⟨G, 0, none⟩) n cap)) (hit : ItemsIn w G cap n it) (hf : FarAt w F gf N st) (hst : ∀ x, x < N → -1 ≤ st x ∧ st x ≤ 1000) (hfine : Fine N n it) (han : a ≤ n) (hn : n ≤ 1000000) (hdn : Down (keyM st) n it a) :
    Calls Tryd.prog 103 #[.pointer (some ⟨H, 0, none⟩), .int .i64 a] w fun e w' =>
      e = .returned (.tuple #[]) ∧ ∃ it', Ord (keyM st) n it' ∧ (∀ p, Mem n it' p ↔ Mem n it p) ∧ ItemsIn w' G cap n it' ∧ Only (fun k => k = G) w w' := by
  have HH := Hid.mk hh
  have HF := Hid.mk hf
  have HST := Hid.mk hst
  have HFN := Hid.mk hfine
  have NE := Hid.mk (heap_apart hh hit)
  have NF : Hid (0 < n → F ≠ G ∧ gf ≠ G) := fun h => far_apart hf hit h
  have hHl := hh.lt
  have IT := Hid.mk hit
  have DN := Hid.mk hdn
  clear hh hf hst hfine hit hdn
  go_enter Tryd.func103, Tryd.ntmps103
  go_wp2
  go_loopw [1] (fun s wr => ∃ (b : Nat) (it' : Nat → Spot), s = .int .i64 b ∧ b ≤ n ∧ Down (keyM st) n it' b ∧ (∀ p, Mem n it' p ↔ Mem n it p) ∧ ItemsIn wr G cap n it' ∧ Only (fun k => k = G) w wr) (fun s _ => n - (intOf s).toNat)
  case atStart => exact ⟨a, it, rfl, han, DN.out, fun _ => Iff.rfl, IT.out, Only.refl _ _⟩
  case round =>
    obtain ⟨wo, rfl⟩ : ∃ x, x = wr := ⟨_, rfl⟩
    obtain ⟨b, it', rfl, hb, hdn, hmem, hit, honly⟩ := hrel
    have DN' := Hid.mk hdn
    have ME := Hid.mk hmem
    have IT' := Hid.mk hit
    have HO := Hid.mk honly
    have hz := honly.size
    have HHr := Hid.mk (HH.out.block (honly.block _ hHl NE.out))
    have hzH : H < wo.heap.size := by omega
    have hzG : G < wo.heap.size := IT'.out.lt
    clear hdn hmem hit honly
    go_wp2
    go_loopw [4, 5] (fun v s wr => ∃ f ch : Nat, v = .int .i64 f ∧ s = .int .i64 ch ∧ 2 * b + 1 ≤ ch ∧ ch ≤ 2 * b + 3 ∧ (f = b ∨ (2 * b + 1 ≤ f ∧ f < ch ∧ f < n ∧ keyM st (it' f) < keyM st (it' b))) ∧ (∀ i, 2 * b + 1 ≤ i → i < ch → i < n → keyM st (it' f) ≤ keyM st (it' i)) ∧ Below wo.heap.size wo wr) (fun _ s _ => 2 * b + 3 - (intOf s).toNat)
    case atStart => exact ⟨b, 2 * b + 1, rfl, by go_num, by omega, by omega, Or.inl rfl, fun i h1 h2 => by omega, Below.refl _ _⟩
    case round =>
      obtain ⟨f, ch, rfl, rfl, hc1, hc2, hf0, hmin, hbr⟩ := hrel
      have HFC := Hid.mk hf0
      have MIN := Hid.mk hmin
      have HB := Hid.mk hbr
      have x1 := (HHr.out.block (hbr.block _ hzH)).c1
      have hzr := hbr.size
      clear hf0 hmin hbr
      by_cases t1 : ch ≤ 2 * b + 2
      · by_cases t2 : ch < n
        · have hfn : f < n := by rcases HFC.out with e | e <;> omega
          have ITr := Hid.mk (IT'.out.block (HB.out.block _ hzG))
          have HFr := Hid.mk ((HF.out.only HO.out (NF.out (by omega)).1 (NF.out (by omega)).2).only (Only.of_below HB.out : Only (fun _ => False) wo wr) (fun e => e) (fun e => e))
          have x0 := (HHr.out.block (HB.out.block _ hzH)).c0
          unfold lessV at x0
          have a0 := ITr.out.c0 t2
          have a1 := ITr.out.c1 t2
          have p0 := ITr.out.c0 hfn
          have p1 := ITr.out.c1 hfn
          have f1 := HFN.out _ ((ME.out _).1 ⟨ch, t2, rfl⟩)
          have f2 := HFN.out _ ((ME.out _).1 ⟨f, hfn, rfl⟩)
          have b1 : (ch : Int) < (n : Int) := by omega
          have b2 : (f : Int) < (n : Int) := by omega
          have b3 : (ch : Int) ≤ 2 * (b : Int) + 2 := by omega
          have hzH2 : H < wr.heap.size := by omega
          have hzG2 : G < wr.heap.size := by omega
          go_wp2_with fail
          go_region_held3 (fun w' => w'.cell? ⟨H, 0, none⟩ = some (.func (.func 86) #[] #[.pointer (some ⟨F, 0, none⟩)]) ∧ w'.cell? ⟨H, 1, none⟩ = some (.slice (some ⟨G, 0, none⟩) n cap) ∧ w'.cell? ⟨G, ch * 2, none⟩ = some (.int .i64 ((it' ch).1 : Nat)) ∧ w'.cell? ⟨G, ch * 2 + 1, none⟩ = some (.int .i64 ((it' ch).2 : Nat)) ∧ w'.cell? ⟨G, f * 2, none⟩ = some (.int .i64 ((it' f).1 : Nat)) ∧ w'.cell? ⟨G, f * 2 + 1, none⟩ = some (.int .i64 ((it' f).2 : Nat))) (go_keep)
            (first
              | (go_at_call 86; refine (less_any F gf N st (it' ch) (it' f) _ (by exact HFr.out) HST.out f1.1 f2.1 f1.2 f2.2).mono ?_; rintro e w4 ⟨rfl, hb4⟩; have q0 : w4.cell? ⟨H, 0, none⟩ = some (.func (.func 86) #[] #[.pointer (some ⟨F, 0, none⟩)]) := (hb4.cell (p := ⟨H, 0, none⟩) hzH2).trans x0; have q1 : w4.cell? ⟨H, 1, none⟩ = some (.slice (some ⟨G, 0, none⟩) n cap) := (hb4.cell (p := ⟨H, 1, none⟩) hzH2).trans x1; have q2 : w4.cell? ⟨G, ch * 2, none⟩ = some (.int .i64 ((it' ch).1 : Nat)) := (hb4.cell (p := ⟨G, ch * 2, none⟩) hzG2).trans a0; have q3 : w4.cell? ⟨G, ch * 2 + 1, none⟩ = some (.int .i64 ((it' ch).2 : Nat)) := (hb4.cell (p := ⟨G, ch * 2 + 1, none⟩) hzG2).trans a1; have q4 : w4.cell? ⟨G, f * 2, none⟩ = some (.int .i64 ((it' f).1 : Nat)) := (hb4.cell (p := ⟨G, f * 2, none⟩) hzG2).trans p0; have q5 : w4.cell? ⟨G, f * 2 + 1, none⟩ = some (.int .i64 ((it' f).2 : Nat)) := (hb4.cell (p := ⟨G, f * 2 + 1, none⟩) hzG2).trans p1))
          have HB4 : Hid (Below wo.heap.size wo w4) := HB.out.drew.trans (hb4.mono (by show wo.heap.size ≤ wr.heap.size; omega))
          obtain ⟨g, hg⟩ : ∃ g, g = decide (keyM st (it' ch) < keyM st (it' f)) := ⟨_, rfl⟩
          rw [← hg]
          have HG := Hid.mk hg
          clear hb4 q0 q1 q2 q3 q4 q5 x0 x1 a0 a1 p0 p1 hg
          cases g
          · go_wp2
            go_roundw
            case rel =>
              have hge : ¬ keyM st (it' ch) < keyM st (it' f) := by have := HG.out; simpa using this
              refine ⟨f, ch + 1, rfl, by go_num, by omega, by omega, ?_, fun i h1 h2 h3 => ?_, HB4.out⟩
              · rcases HFC.out with e | ⟨e1, e2, e3, e4⟩
                · exact Or.inl e
                · exact Or.inr ⟨e1, by omega, e3, e4⟩
              · by_cases e : i = ch
                · subst e; omega
                · exact MIN.out i h1 (by omega) h3
            case measure => simp [intOf]; omega
          · go_wp2
            go_roundw
            case rel =>
              have hlt : keyM st (it' ch) < keyM st (it' f) := by have := HG.out; simpa using this.symm
              refine ⟨ch, ch + 1, rfl, by go_num, by omega, by omega, Or.inr ⟨hc1, by omega, t2, ?_⟩, fun i h1 h2 h3 => ?_, HB4.out⟩
              · rcases HFC.out with e | ⟨e1, e2, e3, e4⟩
                · rw [e] at hlt; exact hlt
                · omega
              · by_cases e : i = ch
                · subst e; exact Int.le_refl _
                · have := MIN.out i h1 (by omega) h3
                  omega
            case measure => simp [intOf]; omega
        · have KIDS : Hid (∀ i, 0 < i → i < n → (i - 1) / 2 = b → keyM st (it' f) ≤ keyM st (it' i)) := fun i h1 h2 h3 => MIN.out i (by omega) (by omega) h2
          have ITr := Hid.mk (IT'.out.block (HB.out.block _ hzG))
          have HHf := Hid.mk (HHr.out.block (HB.out.block _ hzH))
          have HOr : Hid (Only (fun k => k = G) w wr) := HO.out.trans (Only.of_below HB.out : Only (fun _ => False) wo wr) (fun _ _ e => e.elim)
          by_cases q : ((f : Int) == (b : Int)) = true
          · have Q : Hid (f = b) := by have : (f : Int) = b := by simpa using q
                                       unfold Hid; omega
            go_wp2
            refine bodyPost_ret (results_none Tryd.results103 _ _ _) rfl ?_
            refine ⟨rfl, it', down_done DN'.out (fun i h1 h2 h3 => ?_), (by first | exact ME.out | exact fun a b => ME.out (a, b)), ITr.out, HOr.out⟩
            have := KIDS.out i h1 h2 h3
            rw [Q.out] at this; exact this
          · have q' : ((f : Int) == (b : Int)) = false := by simpa using q
            have Q : Hid (f ≠ b) := by have : ¬ (f : Int) = b := by simpa using q
                                       unfold Hid; omega
            clear q
            have hfx : 2 * b + 1 ≤ f ∧ f < ch ∧ f < n ∧ keyM st (it' f) < keyM st (it' b) := by
              rcases HFC.out with e | e
              · exact absurd e Q.out
              · exact e
            obtain ⟨y1, y2, y3, y4⟩ := hfx
            have Y4 := Hid.mk y4
            clear y4
            go_wp2_with fail
            refine (swap_any H F G cap n b f it' _ HHf.out ITr.out (by omega) y3 (by omega)).mono ?_
            rintro e w5 ⟨rfl, hi5, ho5⟩
            have IT5 := Hid.mk hi5
            have HO5 : Hid (Only (fun k => k = G) w w5) := HOr.out.trans ho5 (fun _ _ e => e)
            clear hi5 ho5 x1
            go_wp2
            go_roundw
            case rel => exact ⟨f, swapIt it' b f, rfl, by omega, down_step DN'.out (by omega) y3 (by omega) Y4.out KIDS.out, fun p => (mem_swap (by omega) y3).trans (ME.out p), IT5.out, HO5.out⟩
            case measure => simp [intOf]; omega
      · have t2 : ¬ ch ≤ 2 * b + 2 := t1
        have KIDS : Hid (∀ i, 0 < i → i < n → (i - 1) / 2 = b → keyM st (it' f) ≤ keyM st (it' i)) := fun i h1 h2 h3 => MIN.out i (by omega) (by omega) h2
        have ITr := Hid.mk (IT'.out.block (HB.out.block _ hzG))
        have HHf := Hid.mk (HHr.out.block (HB.out.block _ hzH))
        have HOr : Hid (Only (fun k => k = G) w wr) := HO.out.trans (Only.of_below HB.out : Only (fun _ => False) wo wr) (fun _ _ e => e.elim)
        by_cases q : ((f : Int) == (b : Int)) = true
        · have Q : Hid (f = b) := by have : (f : Int) = b := by simpa using q
                                     unfold Hid; omega
          go_wp2
          refine bodyPost_ret (results_none Tryd.results103 _ _ _) rfl ?_
          refine ⟨rfl, it', down_done DN'.out (fun i h1 h2 h3 => ?_), (by first | exact ME.out | exact fun a b => ME.out (a, b)), ITr.out, HOr.out⟩
          have := KIDS.out i h1 h2 h3
          rw [Q.out] at this; exact this
        · have q' : ((f : Int) == (b : Int)) = false := by simpa using q
          have Q : Hid (f ≠ b) := by have : ¬ (f : Int) = b := by simpa using q
                                     unfold Hid; omega
          clear q
          have hfx : 2 * b + 1 ≤ f ∧ f < ch ∧ f < n ∧ keyM st (it' f) < keyM st (it' b) := by
            rcases HFC.out with e | e
            · exact absurd e Q.out
            · exact e
          obtain ⟨y1, y2, y3, y4⟩ := hfx
          have Y4 := Hid.mk y4
          clear y4
          go_wp2_with fail
          refine (swap_any H F G cap n b f it' _ HHf.out ITr.out (by omega) y3 (by omega)).mono ?_
          rintro e w5 ⟨rfl, hi5, ho5⟩
          have IT5 := Hid.mk hi5
          have HO5 : Hid (Only (fun k => k = G) w w5) := HOr.out.trans ho5 (fun _ _ e => e)
          clear hi5 ho5 x1
          go_wp2
          go_roundw
          case rel => exact ⟨f, swapIt it' b f, rfl, by omega, down_step DN'.out (by omega) y3 (by omega) Y4.out KIDS.out, fun p => (mem_swap (by omega) y3).trans (ME.out p), IT5.out, HO5.out⟩
          case measure => simp [intOf]; omega

end Go.Proofs.YtaldfpoolajoiaaDoor
