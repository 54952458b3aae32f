/- Several texts in one: Gr. -/
import Derived.Test.YtnkgpinadgacgabDoorMkza
namespace Go.Proofs.YtnkgpinadgacgabDoor
open Go.RowKit M SM
theorem Tryd.infoLead : (Tryd.prog.info? 149).map (fun i => (i.zero, i.size, i.bytes)) = some (some (.agg #[.int .u8 0, .int .u8 0, .int .u8 0, .int .u8 0, .bool false, .bool false, .bool false, .bool false, .int .i64 0, .int .i64 0]), 10, 24) := by kernel_rfl

/-- The cells of a list of leads. -/
def leadCells (it : Nat → LeadM) : Nat → List Value
  | 0 => []
  | m + 1 => leadCells it m ++ ldL (it m)

theorem leadCells_len (it : Nat → LeadM) : ∀ m, (leadCells it m).length = m * 10
  | 0 => rfl
  | m + 1 => by simp only [leadCells, List.length_append, leadCells_len it m, ldL_len]; omega

theorem leadCells_at {it : Nat → LeadM} : ∀ {m i t : Nat}, i < m → t < 10 → (leadCells it m)[i * 10 + t]? = (ldL (it i))[t]?
  | m + 1, i, t, h, ht => by
    have hl := leadCells_len it m
    simp only [leadCells]
    by_cases e : i = m
    · subst e
      rw [List.getElem?_append_right (by omega), hl, show i * 10 + t - i * 10 = t by omega]
    · rw [List.getElem?_append_left (by omega)]
      exact leadCells_at (by omega) ht

theorem leadCells_same {it it' : Nat → LeadM} : ∀ {m : Nat}, (∀ i, i < m → it i = it' i) → leadCells it m = leadCells it' m
  | 0, _ => rfl
  | m + 1, h => by simp only [leadCells]; rw [leadCells_same (fun i hi => h i (by omega)), h m (by omega)]

/-- The heap's list: none, or the first places of a row. -/
def ListL (w : World) (v : Value) (n : Nat) (it : Nat → LeadM) : Prop := (v = .slice none 0 0 ∧ n = 0) ∨ ∃ G cap, v = .slice (some ⟨G, 0, none⟩) n cap ∧ ItemsL w G cap n it

theorem listL_own {w : World} {v : Value} {n : Nat} {it : Nat → LeadM} (h : ListL w v n it) : w.ownsRow 0 149 10 v n (leadCells it n) := by
  rcases h with ⟨h1, h2⟩ | ⟨G, cap, h1, g2, g3, f, ⟨cur, g4, g5, g6⟩, g7⟩
  · subst h1 h2; exact ⟨rfl, Or.inl ⟨rfl, rfl⟩⟩
  · subst h1
    refine ⟨leadCells_len it n, Or.inr ⟨G, cap, cur, rfl, Nat.zero_le _, g4, g2, g3, g5, ?_⟩⟩
    apply List.ext_getElem?
    intro i
    by_cases hi : i < n * 10
    · rw [List.getElem?_take, if_pos hi, Array.getElem?_toList, g6 i (by omega)]
      have e : i = i / 10 * 10 + i % 10 := by omega
      rw [e, leadCells_at (by omega) (by omega), g7 (i / 10) (by omega) (i % 10) (by omega)]
    · rw [List.getElem?_take, if_neg hi, List.getElem?_eq_none (by rw [leadCells_len]; omega)]

theorem itemsL_own {w : World} {base G cap n : Nat} {it : Nat → LeadM} (h : w.ownsRow base 149 10 (.slice (some ⟨G, 0, none⟩) n cap) n (leadCells it n)) : ItemsL w G cap n it := by
  rcases h.2 with ⟨h0, _⟩ | ⟨g', cap', cur, hv, _, hh, hn, hc, hs, ht⟩
  · cases h0
  · cases hv
    refine ⟨hn, hc, fun o => (cur[o]?).getD undef, ⟨cur, hh, hs, fun i hi => ?_⟩, fun i hi t ht' => ?_⟩
    · show cur[i]? = some ((cur[i]?).getD undef)
      rw [Array.getElem?_eq_getElem (by omega)]; rfl
    · show _ = some ((cur[i * 10 + t]?).getD undef)
      rw [← leadCells_at (it := it) hi ht', ← ht, List.getElem?_take, if_pos (by omega), Array.getElem?_toList, Array.getElem?_eq_getElem (by omega)]
      rfl

theorem listL_apart {w : World} {S n : Nat} {c0 c1 c2 c3 u v : Value} {it : Nat → LeadM} (h : SrcAt w S c0 c1 c2 c3 u) (h' : ListL w v n it) : v.ownBlock ≠ some S := by
  rcases h' with ⟨h1, _⟩ | ⟨G, cap, h1, h2⟩
  · subst h1; intro e; cases e
  · subst h1
    intro e
    have e : G = S := Option.some.inj e
    exact src_apart h h2 e.symm

/-- What stands when one was added, ahead of its rise. -/
def PutL (w wx : World) (S n : Nat) (c0 c1 c2 c3 v : Value) (it : Nat → LeadM) (l : LeadM) (G cap : Nat) : Prop :=
  SrcAt wx S c0 c1 c2 c3 (.slice (some ⟨G, 0, none⟩) (n + 1) cap) ∧ ItemsL wx G cap (n + 1) (HM.pushIt it n l) ∧ (v.ownBlock = some G ∨ w.heap.size ≤ G) ∧ Only (fun k => k = S ∨ v.ownBlock = some k) w wx

theorem putL_mk {w pre w9 : World} {S n G cap : Nat} {c0 c1 c2 c3 v : Value} {it : Nat → LeadM} {l : LeadM} (hh : SrcAt w S c0 c1 c2 c3 v) (hHv : v.ownBlock ≠ some S) (hp : Below w.heap.size w pre) (ho : w9.ownsRow 0 149 10 (.slice (some ⟨G, 0, none⟩) (n + 1) cap) (n + 1) (leadCells it n ++ ldL l))
    (hg : pre.grownBy w9 v.ownBlock) (hl : v.ownBlock = some G ∨ w.heap.size ≤ G) : PutL w (w9.setCell ⟨S, 5, none⟩ (.slice (some ⟨G, 0, none⟩) (n + 1) cap)) S n c0 c1 c2 c3 v it l G cap := by
  have hHl := hh.lt
  have hGH : G ≠ S := fun e => by
    subst e
    rcases hl with h | h
    · exact hHv h
    · omega
  have h9 : w9.heap[S]? = w.heap[S]? := (hg.block S (Nat.lt_of_lt_of_le hHl hp.size) (fun e => hHv e.symm)).trans (hp.block S hHl)
  have hit : ItemsL w9 G cap (n + 1) (HM.pushIt it n l) := by
    refine itemsL_own (base := 0) ?_
    have e : leadCells (HM.pushIt it n l) (n + 1) = leadCells it n ++ ldL l := by
      simp only [leadCells]
      rw [leadCells_same (it := HM.pushIt it n l) (it' := it) (fun i hi => by unfold HM.pushIt; rw [if_neg (by omega)])]
      unfold HM.pushIt; rw [if_pos rfl]
    rw [e]; exact ho
  refine ⟨(hh.block h9).put _, hit.block (Below.heap_setCell _ _ _ _ hGH), hl, ?_⟩
  have o9 : Only (fun k => k = S ∨ v.ownBlock = some k) w w9 := ⟨hg.os.trans hp.os, hg.tape.trans hp.tape, hg.output.trans hp.output, Nat.le_trans hp.size hg.size, fun k hk hn => (hg.block k (Nat.lt_of_lt_of_le hk hp.size) (fun e => hn (Or.inr e.symm))).trans (hp.block k hk)⟩
  exact o9.setCell (p := ⟨S, 5, none⟩) (fun _ => Or.inl rfl) _

theorem range_new (w : World) (l : LeadM) (b : Nat) (hb : b = w.heap.size) : (w.alloc (.cells (ldL l).toArray 149)).rangeAt b 0 (ldL l) := by
  subst hb
  intro j v hv
  have := World.rangeAt_of_block (w := w.alloc (.cells (ldL l).toArray 149)) (b := w.heap.size) (C := (ldL l).toArray) (t := 149) (fr := (0, 0)) (by show (w.heap.push _)[w.heap.size]? = _; simp) 0 10 j v (by
    rw [show ((ldL l).toArray.extract 0 (0 + 10)).toList = ldL l from rfl]; exact hv)
  exact this

set_option maxRecDepth 1000000 in
set_option maxHeartbeats 8000000 in
theorem pushL_any (S n : Nat) (c0 c1 c2 c3 v : Value) (it : Nat → LeadM) (l : LeadM) (w : World) (hh : SrcAt w S c0 c1 c2 c3 v) (hit : ListL w v n it) (hn : n < 900000000) :
    Calls Tryd.prog 81 #[.pointer (some ⟨S, 4, none⟩), .agg (ldL l).toArray] w fun e w' =>
      e = .returned (.tuple #[]) ∧ ∃ G cap, SrcAt w' S c0 c1 c2 c3 (.slice (some ⟨G, 0, none⟩) (n + 1) cap) ∧ ItemsL w' G cap (n + 1) (HM.riseF ltL (n + 1) (HM.pushIt it n l) n) ∧ (v.ownBlock = some G ∨ w.heap.size ≤ G) ∧ Only (fun k => k = S ∨ v.ownBlock = some k) w w' := by
  obtain ⟨i0, hi0, hi1, hi2, hi3⟩ := info_parts Tryd.infoLead
  have hHl := hh.lt
  have OWN := Hid.mk (listL_own hit)
  have HH := Hid.mk hh
  have NHV := Hid.mk (listL_apart hh hit)
  obtain ⟨av, cv, hv⟩ : ∃ av cv, v = .slice av n cv := by
    rcases hit with ⟨h1, h2⟩ | ⟨G, cap, h1, _⟩
    · exact ⟨none, 0, by rw [h1, h2]⟩
    · exact ⟨_, _, h1⟩
  subst hv
  clear hh hit
  obtain ⟨w1, hw1⟩ : ∃ w1, w1 = w.alloc (.cells (ldL l).toArray 149) := ⟨_, rfl⟩
  have B1 : Below w.heap.size w w1 := by rw [hw1]; exact (Below.refl _ w).alloc (Nat.le_refl _) _
  have hz1 : w1.heap.size = w.heap.size + 1 := by rw [hw1]; simp
  have HS : (fun u : World => u.cell? ⟨S, 5, none⟩ = some (.slice av n cv) ∧ u.rangeAt w.heap.size 0 (ldL l)) w1.drew := ⟨(cell_later B1 HH.out.cells.2.2.2.2.2 : w1.cell? _ = _), by rw [hw1]; simpa using range_new w l _ rfl⟩
  go_enter Tryd.func81, Tryd.ntmps81
  go_upto_region 1 with fail
  rw [← hw1]
  have HW1 := Hid.mk hw1
  clear hw1
  refine wp_region_any (by kernel_rfl) ?_
  change wpAny _ _ _ _ _ _ _ (World.drew _)
  refine wpAny_take (i := 0) (v := .pointer (some ⟨S, 4, none⟩)) rfl (by kernel_rfl) (by kernel_rfl) (by kernel_rfl) (fun _ _ _ h => h) (Or.inl ⟨by rfl, fun u => by go_simp⟩) ?_
  refine wpAny_take (i := 1) (v := .pointer (some ⟨S, 4, none⟩)) rfl (by kernel_rfl) (by kernel_rfl) (by kernel_rfl) (fun _ _ _ h => h) (Or.inl ⟨by rfl, fun u => by go_simp⟩) ?_
  refine wpAny_take (i := 2) (v := .pointer (some ⟨S, 4, none⟩)) rfl (by kernel_rfl) (by kernel_rfl) (by kernel_rfl) (fun _ _ _ h => h) (Or.inl ⟨by rfl, fun u => by go_simp⟩) ?_
  refine wpAny_take (i := 3) (v := .pointer (some ⟨S, 5, none⟩)) rfl (by kernel_rfl) (by kernel_rfl) (by kernel_rfl) (fun _ _ _ h => h) (Or.inl ⟨by rfl, fun u => by go_simp⟩) ?_
  refine LM.any_of_L (late := LM.lateOf [7, 8, 9, 10]) (S := fun u => u.cell? ⟨S, 5, none⟩ = some (.slice av n cv) ∧ u.rangeAt w.heap.size 0 (ldL l)) _ _ _ _ ?_
  refine LM.L_take (i := 4) (v := .slice av n cv) rfl (by kernel_rfl) (by kernel_rfl) (by kernel_rfl) (by kernel_rfl) (fun _ _ _ h => h) (Or.inl ⟨by rfl, fun u hu => by have h5 := hu.1; go_simp⟩) HS ?_
  refine LM.L_take (i := 5) (v := .agg (ldL l).toArray) rfl (by kernel_rfl) (by kernel_rfl) (by kernel_rfl) (by kernel_rfl) (fun _ _ _ h => h) (yieldsIf_load_mid (by rfl) 149 (.tmp 3) rfl w.heap.size 0 (by go_simp) (ldL l) _ (fun u hu => hu.2) Tryd.underlying149 rfl ((congrArg some (ldL_len l)).symm ▸ Tryd.sizeLead)) HS ?_
  refine LM.L_one (i := 6) rfl (by kernel_rfl) rfl (fun K hK => ?_)
  unfold ldL
  go_simp
  have B2 : Hid (Below w.heap.size w (w1.alloc (.cells (ldL l).toArray 149)).drew) := (B1.alloc (by omega) _).drew
  have NR : (w1.alloc (.cells (ldL l).toArray 149)).drew.rangeAt (w.heap.size + 1) 0 (ldL l) := by simpa using range_new w1 l (w.heap.size + 1) (by omega)
  have hz2 : (w1.alloc (.cells (ldL l).toArray 149)).drew.heap.size = w.heap.size + 2 := by show (w1.alloc _).heap.size = _; simp; omega
  refine hK _ (w1.alloc (.cells (ldL l).toArray 149)).drew ⟨(cell_later B2.out HH.out.cells.2.2.2.2.2 : World.cell? _ _ = _), by simpa using World.rangeAt_alloc (w := w1) (by simpa using HS.2) _⟩ ?_
  clear HS hK K
  generalize (w1.alloc (.cells (ldL l).toArray 149)).drew = w2 at *
  refine LM.L_rest (by kernel_rfl) ?_
  refine LM.any_one (i := 7) rfl (by kernel_rfl) rfl (fun K hK => ?_)
  refine wp_append_lies w2 (.tmp 8) (.tmp 10) 118 rfl 0 149 i0 _ 10 24 Tryd.underlying118 hi0 hi1 hi2 hi3 rfl (by omega) (.slice av n cv) n (leadCells it n) (by go_simp) (own_later OWN.out B2.out) ⟨w.heap.size + 1, 0, none⟩ 1 1 (ldL l) (by go_simp) rfl (fun j u hj => by rw [Addr.add_mid]; exact NR j u hj) (ldL_one l) (by omega) (by unfold maxLen; omega) (by omega) (Nat.zero_le _) (w.heap.size + 2) hz2 ?_
  intro g9 c9 w9 ho9 hg9 hl9 _
  have PUT := Hid.mk (putL_mk HH.out NHV.out B2.out ho9 hg9 (hl9.imp id (fun e => by omega)))
  have D1 : ∀ k, Value.ownBlock (.slice av n cv) = some k → S ≠ k := fun k hk e => NHV.out (by rw [e]; exact hk)
  have e9 := grow_cell HH.out.cells.2.2.2.2.2 B2.out hg9 D1
  have f9 := grow_frozen (HH.out.fz 5) hHl B2.out hg9 D1
  clear ho9 hg9 hl9 D1
  refine hK _ _ ?_
  refine wpAny_take (i := 8) (v := .pointer (some ⟨S, 4, none⟩)) rfl (by kernel_rfl) (by kernel_rfl) (by kernel_rfl) (fun _ _ _ h => h) (Or.inl ⟨by rfl, fun u => by go_simp⟩) ?_
  refine wpAny_take (i := 9) (v := .pointer (some ⟨S, 5, none⟩)) rfl (by kernel_rfl) (by kernel_rfl) (by kernel_rfl) (fun _ _ _ h => h) (Or.inl ⟨by rfl, fun u => by go_simp⟩) ?_
  refine LM.any_one (i := 10) rfl (by kernel_rfl) rfl (fun K hK => ?_)
  go_simp
  refine hK _ _ ?_
  refine wpAny_done (by kernel_rfl) ?_ _
  clear hK K e9 f9
  have x1 := PUT.out.1.cells.2.2.2.2.2
  generalize w9.setCell ⟨S, 5, none⟩ (.slice (some ⟨g9, 0, none⟩) (n + 1) c9) = wx at *
  go_wp2_with fail
  refine (riseL_any S g9 c9 (n + 1) n (n + 1) c0 c1 c2 c3 (HM.pushIt it n l) _ PUT.out.1 PUT.out.2.1 (by omega) (by omega) (by omega)).mono ?_
  rintro e w5 ⟨rfl, hi5, ho5⟩
  have R3 := Hid.mk hi5
  have R4 := Hid.mk ho5
  have R5 := Hid.mk (PUT.out.1.block (ho5.block _ PUT.out.1.lt (src_apart PUT.out.1 PUT.out.2.1)))
  clear hi5 ho5 x1
  go_wp2
  go_end0
  refine ⟨rfl, g9, c9, R5.out, R3.out, PUT.out.2.2.1, PUT.out.2.2.2.trans R4.out (fun i hi e => ?_)⟩
  have e : i = g9 := e
  rcases PUT.out.2.2.1 with h | h
  · exact Or.inr (by rw [e]; exact h)
  · omega

end Go.Proofs.YtnkgpinadgacgabDoor
