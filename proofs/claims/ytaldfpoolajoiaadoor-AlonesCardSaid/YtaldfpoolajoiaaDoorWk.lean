/- Walk of the program's Far over a good yard. -/
import Derived.Test.YtaldfpoolajoiaaDoorWp
import Derived.Test.YtaldfpoolajoiaaDoorWf
namespace Go.Proofs.YtaldfpoolajoiaaDoor
open Go.RowKit M

/-- The neighbours that were looked at are told. -/
def Seen (cs : ByteArray) (L : List Int) (st : Nat → Int) (h m : Nat) : Prop :=
  ∀ j, j < m → j < L.length → ∀ a : Nat, L.getD j 0 = a → freeB cs a = true → 0 ≤ st a ∧ st a ≤ st h + 1

/-- What was reached is free. -/
theorem bfs_free {co : Int} {cs : ByteArray} {c : Nat} {st : Nat → Int} {q : List Nat} {i : Nat} (h : Bfs cs.size (adjM co cs) c st q i) (hc : freeB cs c = true) {x : Nat} (hx : x < cs.size) (h0 : 0 ≤ st x) : freeB cs x = true := by
  by_cases e : st x = 0
  · rw [h.src x hx e]; exact hc
  · obtain ⟨k, hk⟩ := Int.eq_ofNat_of_zero_le (show 0 ≤ st x - 1 by omega)
    obtain ⟨b, _, hb, _⟩ := h.pred x hx k (by omega)
    by_cases e2 : freeB cs x = true
    · exact e2
    · rw [show adjM co cs b x = false from mayM_out (Or.inl (by simpa using e2))] at hb; cases hb

set_option maxRecDepth 100000 in
set_option maxHeartbeats 1000000 in
theorem gfar_any (ro co bu : Int) (cs : ByteArray) (ca : Value) (c : Nat) (w : World) (hsd : SidesIn w) (r1 : 1 ≤ ro) (r2 : ro ≤ 6) (r3 : 1 ≤ co) (r4 : co ≤ 6) (hsz : (cs.size : Int) = ro * co) (hfr : freeB cs c = true) :
    Calls Tryd.prog 40 #[.agg #[.int .i64 ro, .int .i64 co, .string cs, ca, .int .i64 bu], .int .i64 c] w fun e w' =>
      ∃ (g : Nat) (st : Nat → Int), e = .returned (.slice (some ⟨g, 0, none⟩) cs.size cs.size) ∧ w.heap.size ≤ g ∧ IsFar cs.size (adjM co cs) c st ∧ w'.rowIs g 3 cs.size (intV st) ∧ Below w.heap.size w w' := by
  obtain ⟨hp1, hp2⟩ := mul_bd r1 r2 r3 r4
  have hN1 : 1 ≤ cs.size := by omega
  have hN2 : cs.size ≤ 36 := by omega
  have hcN : c < cs.size := by
    by_cases e : c < cs.size
    · exact e
    · rw [freeB_out (by omega)] at hfr; cases hfr
  have Hsz := Hid.mk hsz
  have Hsd := Hid.mk hsd
  have hpos : 0 < w.heap.size := World.block_lt_of_cell? _ _ hsd.1
  clear hsz hp1 hp2 hsd
  go_enter Tryd.func40, Tryd.ntmps40
  go_wp2_with (at_make; go_must (refine wpList_make_all _ rfl _ _ 26 rfl 3 _ _ _ Tryd.underlying26 Tryd.infoInt _ _ _ _ cs.size rfl rfl rfl rfl (by omega) (by omega) ?_))
  have hrow0 := Hid.mk (row_zero cs.size (w.alloc (Obj.cells #[Value.int IntKind.i64 ro, Value.int IntKind.i64 co, Value.string cs, ca, Value.int IntKind.i64 bu] 24)) 3 (w.heap.size + 1) (by simp))
  have hB3 : Hid (Below w.heap.size w ((w.alloc (Obj.cells #[Value.int IntKind.i64 ro, Value.int IntKind.i64 co, Value.string cs, ca, Value.int IntKind.i64 bu] 24)).alloc (Obj.cells (madeCells #[Value.int IntKind.i64 0] cs.size) 3))) := ((Below.refl _ w).alloc (Nat.le_refl _) _).alloc (by simp) _
  have y3 : ∀ o, ((w.alloc (Obj.cells #[Value.int IntKind.i64 ro, Value.int IntKind.i64 co, Value.string cs, ca, Value.int IntKind.i64 bu] 24)).alloc (Obj.cells (madeCells #[Value.int IntKind.i64 0] cs.size) 3)).cell? ⟨w.heap.size, o, none⟩ = #[Value.int .i64 ro, .int .i64 co, .string cs, ca, .int .i64 bu][o]? := by
    intro o; go_simp
  generalize (w.alloc (Obj.cells #[Value.int IntKind.i64 ro, Value.int IntKind.i64 co, Value.string cs, ca, Value.int IntKind.i64 bu] 24)).alloc (Obj.cells (madeCells #[Value.int IntKind.i64 0] cs.size) 3) = w3 at *
  obtain ⟨g, hg⟩ : ∃ g, g = w.heap.size + 1 := ⟨_, rfl⟩
  rw [← hg] at hrow0 ⊢
  have hg0 : w.heap.size < g := by omega
  have Hg := Hid.mk hg
  clear hg
  go_loopw [18] (fun s wr => ∃ k : Nat, k ≤ cs.size ∧ s = .int .i64 k ∧ wr.rowIs g 3 cs.size (intV (fillF k)) ∧ Below g w3 wr) (fun s _ => cs.size - (intOf s).toNat)
  case atStart => exact ⟨0, Nat.zero_le _, rfl, hrow0.out, Below.refl _ _⟩
  case round =>
    obtain ⟨k, hk, rfl, hrw, hbr⟩ := hrel
    have HW := Hid.mk hrw
    have hsz := hrw.lt
    by_cases hlt : k < cs.size
    · have x1 := hrw.cell (i := k) hlt
      have x3 := hrw.frozen
      clear hrw
      go_wp2
      go_roundw
      case rel => exact ⟨k + 1, by omega, by go_num, row_store HW.out k (-1) (fun j _ => by unfold fillF; by_cases e : j = k <;> simp [e] <;> split <;> split <;> omega), hbr.setCell (by simp) _⟩
      case measure => simp [intOf]; omega
    · have hd : k = cs.size := by omega
      have x1 := hrw.cell (i := c) hcN
      have x3 := hrw.frozen
      have HW2 : Hid ((wr.setCell ⟨g, c, none⟩ (.int .i64 0)).rowIs g 3 cs.size (intV (fun x => if x = c then 0 else -1))) :=
        row_store HW.out c 0 (fun j hj => by unfold fillF; by_cases e : j = c <;> simp [e]; omega)
      clear hrw hd
      go_wp2
      have HR4 : Hid (((wr.setCell ⟨g, c, none⟩ (Value.int IntKind.i64 0)).alloc (Obj.cells #[Value.int IntKind.i64 (c : Int)] 3)).rowIs g 3 cs.size (intV (fun x => if x = c then 0 else -1))) := HW2.out.alloc _
      have HQ4 : Hid (((wr.setCell ⟨g, c, none⟩ (Value.int IntKind.i64 0)).alloc (Obj.cells #[Value.int IntKind.i64 (c : Int)] 3)).ownsRow (g + 1) 3 1 (.slice (some ⟨wr.heap.size, 0, none⟩) [c].length 1) [c].length (ints (qi [c]))) :=
        own_base (own_built (wr.setCell ⟨g, c, none⟩ (Value.int IntKind.i64 0)) 3 (.int .i64 (c : Int)) wr.heap.size (by simp)) (by omega)
      have HB4 : Hid (Below g w3 ((wr.setCell ⟨g, c, none⟩ (Value.int IntKind.i64 0)).alloc (Obj.cells #[Value.int IntKind.i64 (c : Int)] 3))) := (hbr.setCell (by simp) _).alloc (by simp; omega) _
      clear x1 x3 hbr HW HW2 hrow0
      generalize (wr.setCell ⟨g, c, none⟩ (Value.int IntKind.i64 0)).alloc (Obj.cells #[Value.int IntKind.i64 (c : Int)] 3) = w4 at *
      generalize wr.heap.size = gq0 at *
      go_loopw [7, 8] (fun v s wr => ∃ (st : Nat → Int) (q : List Nat) (i gq cap : Nat), v = .slice (some ⟨gq, 0, none⟩) q.length cap ∧ s = .int .i64 i ∧ i ≤ q.length ∧ Bfs cs.size (adjM co cs) c st q i ∧
        wr.rowIs g 3 cs.size (intV st) ∧ wr.ownsRow (g + 1) 3 1 (.slice (some ⟨gq, 0, none⟩) q.length cap) q.length (ints (qi q)) ∧ Below g w3 wr) (fun _ s _ => cs.size - (intOf s).toNat)
      case atStart => exact ⟨_, [c], 0, gq0, 1, rfl, rfl, by simp, bfs_start hcN, HR4.out, HQ4.out, HB4.out⟩
      case round =>
        obtain ⟨wo, rfl⟩ : ∃ x, x = wr := ⟨_, rfl⟩
        obtain ⟨st, q, i, gq, cap, rfl, rfl, hiq, hbfs, hrow, hown, hbr⟩ := hrel
        have hqN := hbfs.lenN
        have HF := Hid.mk hbfs
        have HR := Hid.mk hrow
        have HQ := Hid.mk hown
        have hzg : g < wo.heap.size := hrow.lt
        have yo : ∀ o, wo.cell? ⟨w.heap.size, o, none⟩ = #[Value.int .i64 ro, .int .i64 co, .string cs, ca, .int .i64 bu][o]? := fun o => (hbr.cell (p := ⟨w.heap.size, o, none⟩) hg0).trans (y3 o)
        have HB := Hid.mk hbr
        have Y3 := Hid.mk y3
        clear hbfs hrow hown hbr y3 HR4 HQ4 HB4
        by_cases hlt : i < q.length
        · have hx := own_cell HQ.out hlt
          rw [qi_at hlt] at hx
          have hhN := HF.out.inN i hlt
          obtain ⟨hr, hh⟩ : ∃ hr, hr = q.getD i 0 := ⟨_, rfl⟩
          rw [← hh] at hx hhN
          have Hh := Hid.mk hh
          clear hh
          have hsdo : Hid (SidesIn wo) := Hsd.out.below (by exact (hB3.out.trans (HB.out.mono (by omega))))
          go_wp2_with fail
          refine (moves_any _ _ _ _ _ hr _ (by exact hsdo.out) r1 r2 r3 r4 (by omega) hN2).mono ?_
          rintro e w5 ⟨gn0, capn, rfl, hgn0, hno, hb5⟩
          obtain ⟨L, hL⟩ : ∃ L, L = mvL ro co cs hr := ⟨_, rfl⟩
          have hLn := (mvL_len (ro := ro) (co := co) (cs := cs) (c := (hr : Int))).1
          rw [← hL] at hno hLn
          have HL := Hid.mk hL
          clear hL
          rw [← HL.out]
          obtain ⟨an, han⟩ : ∃ an, an = some (⟨gn0, 0, none⟩ : Addr) := ⟨_, rfl⟩
          rw [← han] at hno ⊢
          have hcn : 0 < L.length → ∃ gn, an = some ⟨gn, 0, none⟩ ∧ wo.heap.size ≤ gn := fun _ => ⟨gn0, han, hgn0⟩
          have hfh := Hid.mk (bfs_free HF.out hfr hhN (by rw [Hh.out]; exact HF.out.told i hlt))
          clear han hgn0
          have HNV := Hid.mk hno
          have HCN := Hid.mk hcn
          have HR5 := Hid.mk (rowIs_below HR.out hb5)
          have HQ5 := Hid.mk (own_below HQ.out hb5)
          have HB5 := Hid.mk (HB.out.trans (hb5.mono (by omega)))
          have hgq := Hid.mk (own_lt HQ.out).2
          clear hno hcn hb5 hx
          go_wp2
          go_loopw [7, 44] (fun v s wr => ∃ (st' : Nat → Int) (q' : List Nat) (m gq' cap' : Nat), v = .slice (some ⟨gq', 0, none⟩) q'.length cap' ∧ s = .int .i64 m ∧ m ≤ L.length ∧ Bfs cs.size (adjM co cs) c st' q' i ∧ i < q'.length ∧ q'.getD i 0 = hr ∧
            Seen cs L st' hr m ∧ wr.rowIs g 3 cs.size (intV st') ∧ wr.ownsRow (g + 1) 3 1 (.slice (some ⟨gq', 0, none⟩) q'.length cap') q'.length (ints (qi q')) ∧
            wr.ownsRow wo.heap.size 3 1 (.slice an L.length capn) L.length (ints L) ∧ (∀ gn, an = some ⟨gn, 0, none⟩ → gq' ≠ gn) ∧ Below g w3 wr) (fun _ s _ => L.length - (intOf s).toNat)
          case atStart =>
            refine ⟨st, q, 0, gq, cap, rfl, rfl, Nat.zero_le _, HF.out, hlt, Hh.out.symm, fun j hj => by omega, HR5.out, HQ5.out, HNV.out, fun gn hgn => ?_, HB5.out⟩
            have h1 := HNV.out.lt gn (by rw [hgn]; rfl)
            have h2 := hgq.out
            omega
          case round =>
            obtain ⟨wi, rfl⟩ : ∃ x, x = wr := ⟨_, rfl⟩
            obtain ⟨st', q', m, gq', cap', rfl, rfl, hm, hbf, hiq', hqh, hseen, hrow, hown, hnv, hne, hbi⟩ := hrel
            have HF' := Hid.mk hbf
            have HS' := Hid.mk hseen
            have HR' := Hid.mk hrow
            have HQ' := Hid.mk hown
            have HN' := Hid.mk hnv
            have HE' := Hid.mk hne
            have HH' := Hid.mk hqh
            have yi : ∀ o, wi.cell? ⟨w.heap.size, o, none⟩ = #[Value.int .i64 ro, .int .i64 co, .string cs, ca, .int .i64 bu][o]? := fun o => (hbi.cell (p := ⟨w.heap.size, o, none⟩) hg0).trans (Y3.out o)
            have HBI := Hid.mk hbi
            have hzgi : g < wi.heap.size := hrow.lt
            clear hbf hseen hrow hown hnv hne hqh hbi yo
            by_cases hltm : m < L.length
            · obtain ⟨gn, rfl, hgn⟩ := HCN.out (by omega)
              have hx := own_cell HN'.out hltm
              rw [ints_at' hltm] at hx
              obtain ⟨z, hz⟩ : ∃ z, z = L.getD m 0 := ⟨_, rfl⟩
              rw [← hz] at hx
              have HZ := Hid.mk hz
              clear hz
              obtain ⟨w6, rfl⟩ : ∃ x, x = wi := ⟨_, rfl⟩
              have HR6 := Hid.mk HR'.out
              have HQ6 := Hid.mk HQ'.out
              have HN6 := Hid.mk HN'.out
              have HB6 := Hid.mk HBI.out
              clear yi
              have f1 : freeB cs z = true := mvL_free hfh.out (by rw [← HL.out, HZ.out]; exact at_mem hltm)
              · have hz01 : 0 ≤ z ∧ z < cs.size := by
                  by_cases e : 0 ≤ z ∧ z < cs.size
                  · exact e
                  · rw [freeB_out e] at f1; cases f1
                obtain ⟨x, rfl⟩ := Int.eq_ofNat_of_zero_le hz01.1
                have hxN : x < cs.size := by omega
                have hlow := HF'.out.low x hxN
                have htold := HF'.out.told i hiq'
                have hle := HF'.out.le i hiq'
                rw [HH'.out] at htold hle
                have hnear : adjM co cs hr x = true := by
                  unfold adjM
                  rw [mayM_in f1 (by omega) (by omega)]
                  exact mvL_near r3 r4 (by rw [← HL.out, HZ.out]; exact at_mem hltm)
                have HNE := Hid.mk hnear
                have F1 := Hid.mk f1
                clear hz01 hnear
                by_cases f2 : st' x = -1
                · have f2' : (st' x == -1) = true := by simp [f2]
                  have F2 := Hid.mk f2
                  have cx := HR6.out.cell hxN
                  have ch := HR6.out.cell hhN
                  have cf := HR6.out.frozen
                  rw [show intV st' x = Value.int .i64 (st' x) from rfl] at cx
                  rw [show intV st' hr = Value.int .i64 (st' hr) from rfl] at ch
                  clear f2
                  have hgq6 := Hid.mk (own_lt HQ6.out)
                  have hgn6 := Hid.mk (HN6.out.lt gn rfl)
                  have hl6 := HF'.out.lenN
                  have HQ7 : Hid ((w6.setCell ⟨g, x, none⟩ (.int .i64 (st' hr + 1))).ownsRow (g + 1) 3 1 (.slice (some ⟨gq', 0, none⟩) q'.length cap') q'.length (ints (qi q'))) :=
                    own_block_keep HQ6.out fun k hk _ _ => Below.heap_setCell _ _ _ _ (by show k ≠ g; omega)
                  have HN7 : Hid ((w6.setCell ⟨g, x, none⟩ (.int .i64 (st' hr + 1))).ownsRow wo.heap.size 3 1 (.slice (some ⟨gn, 0, none⟩) L.length capn) L.length (ints L)) :=
                    own_block_keep HN6.out fun k hk _ _ => Below.heap_setCell _ _ _ _ (by show k ≠ g; omega)
                  have HR7 : Hid ((w6.setCell ⟨g, x, none⟩ (.int .i64 (st' hr + 1))).rowIs g 3 cs.size (intV (upd st' x (st' hr + 1)))) :=
                    row_store HR6.out x (st' hr + 1) (fun j _ => rfl)
                  have HB7 : Hid (Below g w3 (w6.setCell ⟨g, x, none⟩ (.int .i64 (st' hr + 1)))) := HB6.out.setCell (Nat.le_refl _) _
                  go_wp2_with (at_builtin; go_must (refine wpList_push2 rfl _ _ 26 rfl (g + 1) 3 _ _ Tryd.underlying26 Tryd.infoInt rfl gq' q'.length cap' (ints (qi q')) rfl (by exact own_below HQ7.out ((Below.refl _ _).alloc (Nat.le_refl _) _)) _ _ (.int .i64 (x : Int)) rfl (by go_simp) rfl (by unfold maxLen; omega) (by omega) (by have := hgq6.out; simp; omega) ?_))
                  intro g2 cap2 w8 ho8 hg8 hor
                  have hsz7 : (w6.setCell ⟨g, x, none⟩ (Value.int .i64 (st' hr + 1))).heap.size = w6.heap.size := by simp
                  have HS8 : Hid (∀ k, k ≠ gq' → k < w6.heap.size → w8.heap[k]? = (w6.setCell ⟨g, x, none⟩ (Value.int .i64 (st' hr + 1))).heap[k]?) := by
                    intro k hk hkl
                    rw [hg8.block k (by simp; omega) (by simpa using hk)]
                    exact Below.heap_alloc _ _ _ (by simp; omega)
                  have hO8 := Hid.mk ho8
                  have hS8 := Hid.mk hg8.size
                  have hG8 := Hid.mk hg8
                  have hOR := Hid.mk hor
                  clear cx ch cf hx ho8 hg8 hor
                  go_wp2
                  go_roundw
                  case rel =>
                    have hq6 := hgq6.out
                    have hn6 := hgn6.out
                    have hne6 := HE'.out gn rfl
                    have hg6 : g < w6.heap.size := HR6.out.lt
                    refine ⟨upd st' x (st' hr + 1), q' ++ [x], m + 1, g2, cap2, by simp, by go_num, by omega, ?_, by simp; omega, ?_, ?_, ?_, ?_, ?_, ?_, ?_⟩
                    · have := bfs_push HF'.out hiq' hxN F2.out (by rw [HH'.out]; exact HNE.out)
                      rw [HH'.out] at this; exact this
                    · rw [getD_old hiq']; exact HH'.out
                    · intro j hj hjl a0 ha0 hf0
                      have hhx : upd st' x (st' hr + 1) hr = st' hr := by unfold upd; rw [if_neg (by intro e; rw [e] at htold; have := F2.out; omega)]
                      rw [hhx]
                      by_cases e : j = m
                      · subst e
                        rw [← HZ.out] at ha0
                        have e2 : x = a0 := by omega
                        subst e2
                        have : upd st' x (st' hr + 1) x = st' hr + 1 := by unfold upd; rw [if_pos rfl]
                        rw [this]; omega
                      · obtain ⟨g1, g2'⟩ := HS'.out j (by omega) hjl a0 ha0 hf0
                        have : upd st' x (st' hr + 1) a0 = st' a0 := by unfold upd; rw [if_neg (by intro e2; rw [e2] at g1; have := F2.out; omega)]
                        rw [this]; exact ⟨g1, g2'⟩
                    · exact HR7.out.of_block (HS8.out g (by omega) hg6)
                    · have := hO8.out
                      rw [qi_push] at this
                      simpa using this
                    · exact own_block_keep HN7.out fun k _ hk2 hk3 => by
                        have : gn = k := by simpa [Value.ownBlock] using hk3
                        subst this
                        exact HS8.out gn (fun e => hne6 e.symm) (by rw [hsz7] at hk2; exact hk2)
                    · intro gn' hgn'
                      cases hgn'
                      rcases hOR.out with e | e
                      · rw [e]; exact hne6
                      · omega
                    · exact HB7.out.trans (((Below.refl g _).alloc (by rw [hsz7]; omega) _).grown hG8.out (by simp; omega) (fun k hk => by cases hk; omega))
                  case measure => simp [intOf]; omega
                · have f2' : (st' x == -1) = false := by simpa using f2
                  have F2 : Hid (0 ≤ st' x) := by show 0 ≤ st' x; omega
                  have cx := HR6.out.cell hxN
                  rw [show intV st' x = Value.int .i64 (st' x) from rfl] at cx
                  clear f2
                  go_wp2
                  go_roundw
                  case rel =>
                    refine ⟨st', q', m + 1, gq', cap', rfl, by go_num, by omega, HF'.out, hiq', HH'.out, fun j hj hjl a0 ha0 hf0 => ?_, HR6.out, HQ6.out, HN6.out, HE'.out, HB6.out⟩
                    by_cases e : j = m
                    · subst e
                      rw [← HZ.out] at ha0
                      have e2 : x = a0 := by omega
                      subst e2
                      have := bfs_told HF'.out hiq' hxN F2.out
                      rw [HH'.out] at this
                      exact ⟨F2.out, this⟩
                    · exact HS'.out j (by omega) hjl a0 ha0 hf0
                  case measure => simp [intOf]; omega
            · have hd : Hid (m = L.length) := by show m = L.length; omega
              go_wp2
              go_roundw
              case rel =>
                refine ⟨st', q', i + 1, gq', cap', rfl, by go_num, by omega, bfs_next HF'.out hiq' (fun a0 ha0 hadj => ?_), HR'.out, HQ'.out, HBI.out⟩
                rw [HH'.out] at hadj ⊢
                have htold := HF'.out.told i hiq'
                rw [HH'.out] at htold
                have hfa : freeB cs a0 = true := by
                  by_cases e2 : freeB cs a0 = true
                  · exact e2
                  · rw [show adjM co cs hr a0 = false from mayM_out (Or.inl (by simpa using e2))] at hadj; cases hadj
                have hna : nearM co hr a0 = true := by
                  have := mayM_in (co := co) hfa (show (0 : Int) ≤ hr by omega) (show (hr : Int) < cs.size by omega)
                  rw [← this]; exact hadj
                have hmem := mvL_all (ro := ro) r3 r4 Hsz.out (show (0 : Int) ≤ hr by omega) (by omega) hfa hna
                rw [← HL.out] at hmem
                obtain ⟨j, hj, hja⟩ := mem_at hmem
                exact HS'.out j (by rw [hd.out]; exact hj) hj a0 hja hfa
              case measure => simp [intOf]; omega
        · go_wp2
          go_ret
          exact ⟨g, st, rfl, by omega, bfs_isFar HF.out hlt, HR.out, hB3.out.trans (HB.out.mono (by omega))⟩

end Go.Proofs.YtaldfpoolajoiaaDoor
