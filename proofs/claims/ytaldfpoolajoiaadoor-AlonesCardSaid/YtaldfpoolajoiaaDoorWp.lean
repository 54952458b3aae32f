/- Walk of Moves: the cell itself, then the free neighbours; what is listed, and that it is all. -/
import Derived.Test.YtaldfpoolajoiaaDoorNb
namespace Go.Proofs.YtaldfpoolajoiaaDoor
open Go.RowKit M

theorem SidesIn.below_at {B : Nat} {w w' : World} (h : SidesIn w) (hb : Below B w w') (hB : 0 < B) : SidesIn w' := by
  obtain ⟨h0, h1, h2, h3, h4, h5, h6, h7⟩ := h
  have e : ∀ o, w'.cell? ⟨0, o, none⟩ = w.cell? ⟨0, o, none⟩ := fun o => hb.cell (p := ⟨0, o, none⟩) hB
  exact ⟨(e 0).trans h0, (e 1).trans h1, (e 2).trans h2, (e 3).trans h3, (e 4).trans h4, (e 5).trans h5, (e 6).trans h6, (e 7).trans h7⟩

/-- The cells to which a cart may go. -/
def mvL (ro co : Int) (cs : ByteArray) (c : Int) : List Int := c :: (nbAt ro co c 4).filter (freeB cs)

/-- As far as m neighbours were looked at. -/
def mvAt (ro co : Int) (cs : ByteArray) (c : Int) (m : Nat) : List Int := c :: ((nbAt ro co c 4).take m).filter (freeB cs)

theorem mvAt_in {ro co : Int} {cs : ByteArray} {c z : Int} {m : Nat} (hm : m < (nbAt ro co c 4).length) (hz : (nbAt ro co c 4).getD m 0 = z) (hf : freeB cs z = true) : mvAt ro co cs c (m + 1) = mvAt ro co cs c m ++ [z] := by
  have e : (nbAt ro co c 4)[m] = z := by rw [← hz]; simp [List.getD, hm]
  unfold mvAt
  rw [List.take_succ_eq_append_getElem hm, List.filter_append, e]
  simp [hf]

theorem mvAt_out {ro co : Int} {cs : ByteArray} {c z : Int} {m : Nat} (hm : m < (nbAt ro co c 4).length) (hz : (nbAt ro co c 4).getD m 0 = z) (hf : freeB cs z = false) : mvAt ro co cs c (m + 1) = mvAt ro co cs c m := by
  have e : (nbAt ro co c 4)[m] = z := by rw [← hz]; simp [List.getD, hm]
  unfold mvAt
  rw [List.take_succ_eq_append_getElem hm, List.filter_append, e]
  simp [hf]

theorem mvAt_all {ro co : Int} {cs : ByteArray} {c : Int} {m : Nat} (hm : ¬ m < (nbAt ro co c 4).length) : mvAt ro co cs c m = mvL ro co cs c := by
  unfold mvAt mvL
  rw [List.take_of_length_le (by omega)]

theorem mvAt_len {ro co : Int} {cs : ByteArray} {c : Int} {m : Nat} : (mvAt ro co cs c m).length ≤ 5 := by
  have h1 := nbAt_len ro co c 4
  have h2 := List.length_filter_le (freeB cs) ((nbAt ro co c 4).take m)
  have h3 := List.length_take_le m (nbAt ro co c 4)
  have h4 : ((nbAt ro co c 4).take m).length ≤ (nbAt ro co c 4).length := by rw [List.length_take]; omega
  unfold mvAt; simp; omega

theorem mvL_len {ro co : Int} {cs : ByteArray} {c : Int} : (mvL ro co cs c).length ≤ 5 ∧ 1 ≤ (mvL ro co cs c).length := by
  refine ⟨?_, by simp [mvL]⟩
  have h1 := nbAt_len ro co c 4
  have h2 := List.length_filter_le (freeB cs) (nbAt ro co c 4)
  unfold mvL; simp; omega

/-- What is listed is free and the cell itself or beside it. -/
theorem mvL_free {ro co : Int} {cs : ByteArray} {c z : Int} (hc : freeB cs c = true) (h : z ∈ mvL ro co cs c) : freeB cs z = true := by
  unfold mvL at h
  rcases List.mem_cons.1 h with e | e
  · rw [e]; exact hc
  · exact (List.mem_filter.1 e).2

theorem near_self (co c : Int) : nearM co c c = true := by
  rw [near_iff]; omega

theorem mvL_near {ro co : Int} {cs : ByteArray} {c z : Int} (h1 : 1 ≤ co) (h2 : co ≤ 6) (h : z ∈ mvL ro co cs c) : nearM co c z = true := by
  unfold mvL at h
  rcases List.mem_cons.1 h with e | e
  · rw [e]; exact near_self co c
  · exact nb_near h1 h2 (List.mem_filter.1 e).1

/-- What is free and the cell itself or beside it is listed. -/
theorem mvL_all {ro co : Int} {cs : ByteArray} {c z : Int} (h1 : 1 ≤ co) (h2 : co ≤ 6) (hsz : (cs.size : Int) = ro * co) (hc0 : 0 ≤ c) (hc : c < cs.size) (hf : freeB cs z = true) (hn : nearM co c z = true) : z ∈ mvL ro co cs c := by
  unfold mvL
  by_cases e : z = c
  · rw [e]; exact List.mem_cons_self
  · refine List.mem_cons_of_mem _ (List.mem_filter.2 ⟨?_, hf⟩)
    have hz : 0 ≤ z ∧ z < cs.size := by
      by_cases e : 0 ≤ z ∧ z < cs.size
      · exact e
      · rw [freeB_out e] at hf; cases hf
    exact nb_all h1 h2 hc0 (by omega) hz.1 (by omega) hn e

set_option maxRecDepth 100000 in
set_option maxHeartbeats 1000000 in
theorem moves_any (ro co bu : Int) (cs : ByteArray) (ca : Value) (c : Nat) (w : World) (hsd : SidesIn w) (r1 : 1 ≤ ro) (r2 : ro ≤ 6) (r3 : 1 ≤ co) (r4 : co ≤ 6) (hc : c ≤ 36) (hs : cs.size ≤ 36) :
    Calls Tryd.prog 64 #[.agg #[.int .i64 ro, .int .i64 co, .string cs, ca, .int .i64 bu], .int .i64 c] w fun e w' =>
      ∃ g cap, e = .returned (.slice (some ⟨g, 0, none⟩) (mvL ro co cs c).length cap) ∧ w.heap.size ≤ g ∧ w'.ownsRow w.heap.size 3 1 (.slice (some ⟨g, 0, none⟩) (mvL ro co cs c).length cap) (mvL ro co cs c).length (ints (mvL ro co cs c)) ∧ Below w.heap.size w w' := by
  have Hsd := Hid.mk hsd
  have hpos : 0 < w.heap.size := World.block_lt_of_cell? _ _ hsd.1
  clear hsd
  go_enter Tryd.func64, Tryd.ntmps64
  go_wp2_with fail
  have hB2 : Hid (Below w.heap.size w ((w.alloc (Obj.cells #[Value.int IntKind.i64 ro, Value.int IntKind.i64 co, Value.string cs, ca, Value.int IntKind.i64 bu] 24)).alloc (Obj.cells #[Value.int IntKind.i64 (c : Int)] 3))) := ((Below.refl _ w).alloc (Nat.le_refl _) _).alloc (by simp) _
  have y2 : ∀ o, ((w.alloc (Obj.cells #[Value.int IntKind.i64 ro, Value.int IntKind.i64 co, Value.string cs, ca, Value.int IntKind.i64 bu] 24)).alloc (Obj.cells #[Value.int IntKind.i64 (c : Int)] 3)).cell? ⟨w.heap.size, o, none⟩ = #[Value.int .i64 ro, .int .i64 co, .string cs, ca, .int .i64 bu][o]? := by
    intro o; go_simp
  have HQ2 : Hid (((w.alloc (Obj.cells #[Value.int IntKind.i64 ro, Value.int IntKind.i64 co, Value.string cs, ca, Value.int IntKind.i64 bu] 24)).alloc (Obj.cells #[Value.int IntKind.i64 (c : Int)] 3)).ownsRow (w.heap.size + 1) 3 1 (.slice (some ⟨w.heap.size + 1, 0, none⟩) (mvAt ro co cs c 0).length 1) (mvAt ro co cs c 0).length (ints (mvAt ro co cs c 0))) :=
    own_base (own_built (w.alloc (Obj.cells #[Value.int IntKind.i64 ro, Value.int IntKind.i64 co, Value.string cs, ca, Value.int IntKind.i64 bu] 24)) 3 (.int .i64 (c : Int)) (w.heap.size + 1) (by simp)) (by omega)
  have hz2 : ((w.alloc (Obj.cells #[Value.int IntKind.i64 ro, Value.int IntKind.i64 co, Value.string cs, ca, Value.int IntKind.i64 bu] 24)).alloc (Obj.cells #[Value.int IntKind.i64 (c : Int)] 3)).heap.size = w.heap.size + 2 := by simp
  generalize (w.alloc (Obj.cells #[Value.int IntKind.i64 ro, Value.int IntKind.i64 co, Value.string cs, ca, Value.int IntKind.i64 bu] 24)).alloc (Obj.cells #[Value.int IntKind.i64 (c : Int)] 3) = w2 at *
  refine (neighbours_any _ _ _ _ _ c _ (by exact Hsd.out.below hB2.out) r1 r2 r3 r4 (by omega)).mono ?_
  rintro e w5 ⟨nv, rfl, hno, hb5⟩
  obtain ⟨L, hL⟩ : ∃ L, L = nbAt ro co c 4 := ⟨_, rfl⟩
  have hLn := nbAt_len ro co c 4
  rw [← hL] at hno hLn
  have HL := Hid.mk hL
  clear hL
  obtain ⟨an, capn, rfl, hcn⟩ : ∃ an capn, nv = .slice an L.length capn ∧ (0 < L.length → ∃ gn, an = some ⟨gn, 0, none⟩ ∧ w2.heap.size ≤ gn) := by
    rcases hno.2 with ⟨e1, e2⟩ | ⟨gn, cap', cur, e1, e2, _⟩
    · exact ⟨none, 0, by rw [e1, e2], fun h0 => by omega⟩
    · exact ⟨_, cap', e1, fun _ => ⟨gn, rfl, e2⟩⟩
  have HNV := Hid.mk hno
  have HCN := Hid.mk hcn
  have HQ5 := Hid.mk (own_below HQ2.out hb5)
  have HB5 : Hid (Below (w.heap.size + 1) w2 w5) := hb5.mono (by omega)
  have hz5 := hb5.size
  have y5 : ∀ o, w5.cell? ⟨w.heap.size, o, none⟩ = #[Value.int .i64 ro, .int .i64 co, .string cs, ca, .int .i64 bu][o]? := fun o => (hb5.cell (p := ⟨w.heap.size, o, none⟩) (by show w.heap.size < _; omega)).trans (y2 o)
  clear hno hcn hb5 y2
  go_wp2
  go_loopw [5, 14] (fun v s wr => ∃ (m gq cap : Nat), v = .slice (some ⟨gq, 0, none⟩) (mvAt ro co cs c m).length cap ∧ s = .int .i64 m ∧ m ≤ L.length ∧
    wr.ownsRow (w.heap.size + 1) 3 1 (.slice (some ⟨gq, 0, none⟩) (mvAt ro co cs c m).length cap) (mvAt ro co cs c m).length (ints (mvAt ro co cs c m)) ∧
    wr.ownsRow w2.heap.size 3 1 (.slice an L.length capn) L.length (ints L) ∧ (∀ gn, an = some ⟨gn, 0, none⟩ → gq ≠ gn) ∧ Below (w.heap.size + 1) w2 wr) (fun _ s _ => L.length - (intOf s).toNat)
  case atStart =>
    refine ⟨0, w.heap.size + 1, 1, rfl, rfl, Nat.zero_le _, HQ5.out, HNV.out, fun gn hgn => ?_, HB5.out⟩
    have h1 := HNV.out.lt gn (by rw [hgn]; rfl)
    omega
  case round =>
    obtain ⟨wi, rfl⟩ : ∃ x, x = wr := ⟨_, rfl⟩
    obtain ⟨m, gq, cap, rfl, rfl, hm, hown, hnv, hne, hbi⟩ := hrel
    have HQ := Hid.mk hown
    have HN := Hid.mk hnv
    have HE := Hid.mk hne
    have yi : ∀ o, wi.cell? ⟨w.heap.size, o, none⟩ = #[Value.int .i64 ro, .int .i64 co, .string cs, ca, .int .i64 bu][o]? := fun o => (hbi.cell (p := ⟨w.heap.size, o, none⟩) (by show w.heap.size < _; omega)).trans ((HB5.out.cell (p := ⟨w.heap.size, o, none⟩) (by show w.heap.size < _; omega)).symm.trans (y5 o))
    have HBI := Hid.mk hbi
    have hzi := hbi.size
    have hml := mvAt_len (ro := ro) (co := co) (cs := cs) (c := c) (m := m)
    clear hown hnv hne hbi y5
    by_cases hltm : m < L.length
    · obtain ⟨gn, rfl, hgn⟩ := HCN.out (by omega)
      have hx := own_cell HN.out hltm
      rw [ints_at' hltm] at hx
      obtain ⟨z, hz⟩ : ∃ z, z = L.getD m 0 := ⟨_, rfl⟩
      rw [← hz] at hx
      have HZ := Hid.mk hz
      clear hz
      go_wp2_with fail
      refine (gfree_any _ _ _ _ _ _ _ (by unfold maxLen; omega)).mono ?_
      rintro e w6 ⟨rfl, hb6⟩
      have HQ6 := Hid.mk (own_below HQ.out hb6)
      have HN6 := Hid.mk (own_below HN.out hb6)
      have HB6 := Hid.mk (HBI.out.trans (hb6.mono (by omega)))
      have hz6 := hb6.size
      clear hx yi hb6
      by_cases f1 : freeB cs z = true
      · have e7 := mvAt_in (by rw [← HL.out]; exact hltm) (by rw [← HL.out]; exact HZ.out.symm) f1 (ro := ro) (co := co) (c := c)
        have hgq6 := Hid.mk (own_lt HQ6.out)
        have hgn6 := Hid.mk (HN6.out.lt gn rfl)
        have E7 := Hid.mk e7
        clear e7
        go_wp2_with (at_builtin; go_must (refine wpList_push2 rfl _ _ 26 rfl (w.heap.size + 1) 3 _ _ Tryd.underlying26 Tryd.infoInt rfl gq (mvAt ro co cs c m).length cap (ints (mvAt ro co cs c m)) rfl (by exact own_below HQ6.out ((Below.refl _ _).alloc (Nat.le_refl _) _)) _ _ (.int .i64 z) rfl (by go_simp) rfl (by unfold maxLen; omega) (by omega) (by have := hgq6.out; simp; omega) ?_))
        intro g2 cap2 w8 ho8 hg8 hor
        have HO8 := Hid.mk ho8
        have HG8 := Hid.mk hg8
        have HOR := Hid.mk hor
        clear ho8 hg8 hor
        go_wp2
        go_roundw
        case rel =>
          have hq6 := hgq6.out
          have hn6 := hgn6.out
          have hne6 := HE.out gn rfl
          refine ⟨m + 1, g2, cap2, by rw [E7.out]; simp, by go_num, by omega, ?_, ?_, ?_, ?_⟩
          · have := HO8.out
            rw [E7.out]
            simpa [ints] using this
          · exact own_block_keep HN6.out fun k hk1 hk2 hk3 => by
              have : gn = k := by simpa [Value.ownBlock] using hk3
              subst this
              rw [HG8.out.block gn (by simp; omega) (by simp; omega)]
              exact Below.heap_alloc _ _ _ (by omega)
          · intro gn' hgn'
            cases hgn'
            rcases HOR.out with e | e
            · rw [e]; exact hne6
            · omega
          · exact HB6.out.trans (((Below.refl _ _).alloc (by omega) _).grown HG8.out (by simp; omega) (fun k hk => by cases hk; omega))
        case measure => simp [intOf]; omega
      · have f1' : freeB cs z = false := by simpa using f1
        have e7 := mvAt_out (by rw [← HL.out]; exact hltm) (by rw [← HL.out]; exact HZ.out.symm) f1' (ro := ro) (co := co) (c := c)
        have E7 := Hid.mk e7
        clear f1 e7
        go_wp2
        go_roundw
        case rel => exact ⟨m + 1, gq, cap, by rw [E7.out], by go_num, by omega, by rw [E7.out]; exact HQ6.out, HN6.out, HE.out, HB6.out⟩
        case measure => simp [intOf]; omega
    · have e7 := mvAt_all (ro := ro) (co := co) (cs := cs) (c := c) (m := m) (by rw [← HL.out]; exact hltm)
      have E7 := Hid.mk e7
      clear e7
      go_wp2
      go_ret
      refine ⟨gq, cap, by rw [← E7.out]; rfl, ?_, by rw [← E7.out]; exact own_base HQ.out (by omega), hB2.out.trans (HBI.out.mono (by omega))⟩
      have := (own_lt HQ.out).1
      omega

end Go.Proofs.YtaldfpoolajoiaaDoor
