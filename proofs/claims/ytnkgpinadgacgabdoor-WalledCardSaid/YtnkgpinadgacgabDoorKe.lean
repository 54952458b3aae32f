/- Walk of Walled. -/
import Derived.Test.YtnkgpinadgacgabDoorKm
import Derived.Deep.DeepCutAuto
namespace Go.Proofs.YtnkgpinadgacgabDoor
open Go.RowKit M SM
theorem check_both {ro co U : Int} {cs : ByteArray} {m : Nat} {fr tt : Nat → Int} (h : (checkM ro co cs m fr tt U).1 = 0) : checkM ro co cs m fr tt U = (0, 0) := by
  unfold checkM at h ⊢
  by_cases h1 : (sideB ro && sideB co) = false
  · rw [if_pos h1] at h; simp at h
  · rw [if_neg h1] at h ⊢
    by_cases h2 : 0 ≤ cellsM ro co cs
    · rw [if_pos h2] at h; simp at h
    · rw [if_neg h2] at h ⊢
      by_cases h3 : m < 1 ∨ 4 < m
      · rw [if_pos h3] at h; simp at h
      · rw [if_neg h3] at h ⊢
        by_cases h4 : firstOf (fun i => !(cartM cs fr tt i == 0)) m < m
        · rw [if_pos h4] at h
          have := M.firstOf_is (p := fun i => !(cartM cs fr tt i == 0)) m h4
          simp only [] at h this
          rw [h] at this; cases this
        · rw [if_neg h4] at h ⊢
          by_cases h5 : U < 1 ∨ 20000 < U
          · rw [if_pos h5] at h; cases h
          · rw [if_neg h5]

set_option maxRecDepth 100000 in
set_option maxHeartbeats 8000000 in
theorem walled_any (SH : Shapes) (rr rc rb less : Int) (s : ByteArray) (a : Option Addr) (n cap : Nat) (x : Nat → Int) (w : World) (hs : s.size ≤ maxLen) (hn : n ≤ 17592186044415) (hsd : SidesIn w)
    (h0 : (Lit.int .i64 rr).wf = true) (h1 : (Lit.int .i64 rc).wf = true) (h2 : (Lit.int .i64 rb).wf = true) (hl : (Lit.int .i64 less).wf = true)
    (hx : (∀ i, i < n → (Lit.int .i64 (x i)).wf = true) ∧ (0 < n → ∃ b off, a = some ⟨b, off, none⟩ ∧ ∀ i, i < n → w.cell? ⟨b, off + i, none⟩ = some (.int .i64 (x i)))) :
    Calls Tryd.prog 5 #[.agg #[.int .i64 rr, .int .i64 rc, .string s, .slice a n cap, .int .i64 rb], .int .i64 less] w fun e w' => e = .returned (.bool true) ∧ Below w.heap.size w w' := by
  have HSD := Hid.mk hsd
  have HL := Hid.mk hl
  have HSH : Hid (∀ u : World, Below w.heap.size w u → Calls Tryd.prog 19 #[.agg #[.int .i64 rr, .int .i64 rc, .string s, .slice a n cap, .int .i64 rb]] u fun e w' =>
      ∃ (R C U m cc g : Nat) (cs : ByteArray) (fr tt : Nat → Int), e = .returned (.agg #[.int .i64 (R : Int), .int .i64 (C : Int), .string cs, .slice (some ⟨g, 0, none⟩) m cc, .int .i64 (U : Int)]) ∧
        1 ≤ m ∧ m ≤ 4 ∧ m ≤ cc ∧ CartsIn w' g 0 m fr tt ∧ checkM R C cs m fr tt U = (0, 0) ∧ freeB cs 0 = true ∧ cs.size ≤ 36 ∧ Below u.heap.size u w') := fun u hu => by
    refine SH rr rc rb s a n cap x u hs hn h0 h1 h2 ⟨hx.1, fun hp => ?_⟩
    obtain ⟨b, off, e, hc⟩ := hx.2 hp
    exact ⟨b, off, e, fun i hi => cell_later hu (hc i hi)⟩
  clear hsd hl hx
  go_enter Tryd.func5, Tryd.ntmps5
  go_wp2_with fail
  have B1 : Hid (Below w.heap.size w (w.alloc (Obj.cells #[Value.int IntKind.i64 rr, Value.int IntKind.i64 rc, Value.string s, .slice a n cap, Value.int IntKind.i64 rb] 24))) := (Below.refl _ w).alloc (Nat.le_refl _) _
  have hz1 : (w.alloc (Obj.cells #[Value.int IntKind.i64 rr, Value.int IntKind.i64 rc, Value.string s, .slice a n cap, Value.int IntKind.i64 rb] 24)).heap.size = w.heap.size + 1 := by simp
  generalize w.alloc (Obj.cells #[Value.int IntKind.i64 rr, Value.int IntKind.i64 rc, Value.string s, .slice a n cap, Value.int IntKind.i64 rb] 24) = w1 at *
  refine (HSH.out _ B1.out).mono ?_
  rintro e w2 ⟨R, C, U, m, cc, g, cs, fr, tt, rfl, hm1, hm4, hmc, hcs, hck, hf0, hs36, hb2⟩
  have BW2 : Hid (Below w.heap.size w w2) := B1.out.trans (hb2.mono (by omega))
  have HCS := Hid.mk hcs
  have hgl : g < w2.heap.size := World.block_lt_of_cell? (a := ⟨g, 0 + 0 * 2, none⟩) w2 (hcs 0 hm1).1
  have CK : Hid ((checkM R C cs m fr tt U).1 = 0) := by unfold Hid; rw [hck]
  have HFR := Hid.mk (carts_free CK.out).2
  have hsz0 : 0 < cs.size := by
    obtain ⟨k, e, hk⟩ := free_nat hf0
    omega
  obtain ⟨F0, hF0⟩ : ∃ F0 : Nat, 200400000 ≤ F0 := ⟨_, Nat.le_refl _⟩
  have CALLS : Hid (∀ (cs2 : ByteArray) (u : World), SubC cs2 cs → (checkM R C cs2 m fr tt U).1 = 0 → Below w2.heap.size w2 u →
      Calls Tryd.prog 11 #[.agg #[.int .i64 (R : Int), .int .i64 (C : Int), .string cs2, .slice (some ⟨g, 0, none⟩) m cc, .int .i64 (U : Int)]] u (fun e w' => e = .returned (.bool true) ∧ Below u.heap.size u w') ∧
      Calls Tryd.prog 14 #[.agg #[.int .i64 (R : Int), .int .i64 (C : Int), .string cs2, .slice (some ⟨g, 0, none⟩) m cc, .int .i64 (U : Int)]] u (fun e w' => ∃ (n : Nat) (d : Bool), M.Told (stepP R C cs2 m) (cellsOf fr m) (cellsOf tt m) U n d ∧ (((U : Int) < n ∧ e = .returned (.tuple #[.int .i64 0, .bool false, .int .i64 10])) ∨ (¬ (U : Int) < n ∧ e = .returned (.tuple #[.int .i64 n, .bool d, .int .i64 0]))) ∧ Below u.heap.size u w') ∧
      Calls Tryd.prog 15 #[.agg #[.int .i64 (R : Int), .int .i64 (C : Int), .string cs2, .slice (some ⟨g, 0, none⟩) m cc, .int .i64 (U : Int)]] u (fun e w' => ∃ (n : Nat) (d : Bool), M.Told (stepP R C cs2 m) (cellsOf fr m) (cellsOf tt m) U n d ∧ (((U : Int) < n ∧ e = .returned (.tuple #[.slice none 0 0, .int .i64 0, .int .i64 10])) ∨ (¬ (U : Int) < n ∧ d = false ∧ e = .returned (.tuple #[.slice none 0 0, .int .i64 0, .int .i64 9])) ∨
        (¬ (U : Int) < n ∧ d = true ∧ ∃ b l, e = .returned (.tuple #[.slice (some ⟨b, 0, none⟩) l l, .int .i64 (costY F0 R C cs2 m fr tt : Nat), .int .i64 0]))) ∧ Below u.heap.size u w') ∧
      Calls Tryd.prog 16 #[.agg #[.int .i64 (R : Int), .int .i64 (C : Int), .string cs2, .slice (some ⟨g, 0, none⟩) m cc, .int .i64 (U : Int)]] u (fun e w' => ∃ mb : Bool, e = .returned (.bool mb) ∧ ((∃ n d, M.Told (stepP R C cs2 m) (cellsOf fr m) (cellsOf tt m) U n d ∧ (U : Int) < n) → mb = true) ∧ Below u.heap.size u w')) := fun cs2 u q1 q2 hu => by
    have q3 : cs2.size ≤ 36 := by rw [q1.1]; exact hs36
    have q4 : CartsIn u g 0 m fr tt := HCS.out.below hu
    have q5 : SidesIn u := HSD.out.below (BW2.out.trans (hu.mono BW2.out.size))
    refine ⟨?_, pos_told g cc u q2 hmc hm4 q3 q5 q4, sol_told F0 hF0 g cc u q2 hmc hm4 q3 q5 q4, many_told g cc u q2 q3 hm4⟩
    exact right_any R C U cs2 (some ⟨g, 0, none⟩) m cc fr tt u (by unfold maxLen; omega) (by unfold maxLen; omega) hmc (fun _ => ⟨g, 0, rfl, q4⟩) (check_both q2)
  have SELF : Hid (SubC cs cs) := ⟨rfl, fun _ h => h⟩
  clear hck hf0 hcs hb2
  go_upto_region 2 with fail
  obtain ⟨w3, hw3⟩ : ∃ q, q = w2.alloc (Obj.cells #[Value.int .i64 (R : Int), .int .i64 (C : Int), .string cs, .slice (some ⟨g, 0, none⟩) m cc, .int .i64 (U : Int)] 28) := ⟨_, rfl⟩
  rw [← hw3]
  have B3 : Hid (Below w2.heap.size w2 w3) := by unfold Hid; rw [hw3]; exact (Below.refl _ w2).alloc (Nat.le_refl _) _
  have y3 : Hid (∀ o, w3.cell? ⟨w2.heap.size, o, none⟩ = #[Value.int .i64 (R : Int), .int .i64 (C : Int), .string cs, .slice (some ⟨g, 0, none⟩) m cc, .int .i64 (U : Int)][o]?) := by
    rw [hw3]
    unfold Hid
    intro o; go_simp
  have hz3 : w3.heap.size = w2.heap.size + 1 := by rw [hw3]; simp
  clear hw3
  have q0 := y3.out 0
  have q1 := y3.out 1
  have q2 := y3.out 2
  have q3 := y3.out 3
  have q4 := y3.out 4
  go_wp2_with fail
  refine (pick_any less cs.size _ hsz0 (by omega) HL.out).mono ?_
  rintro e w9 ⟨r, hr, rfl, hw9⟩
  rw [hw9]
  clear hw9 q0 q1 q2 q4
  go_wp2_with fail
  go_loopw [6, 7] (fun v6 v7 wr => ∃ (k : Nat) (c : Int), k ≤ m ∧ v7 = .int .i64 k ∧ v6 = .int .i64 c ∧ (c = -1 ∨ (c = r ∧ ∀ i, i < k → fr i ≠ r ∧ tt i ≠ r)) ∧ w3 = wr) (fun _ v7 _ => m - (intOf v7).toNat)
  case atStart => exact ⟨0, r, Nat.zero_le _, rfl, rfl, .inr ⟨rfl, fun i h => absurd h (Nat.not_lt_zero i)⟩, rfl⟩
  case round =>
    obtain ⟨k, c, hk, rfl, rfl, hc, rfl⟩ := hrel
    have HC := Hid.mk hc
    clear hc
    by_cases hlt : k < m
    · obtain ⟨c0, c1⟩ := HCS.out k hlt
      have c0 := cell_later B3.out c0
      have c1 := cell_later B3.out c1
      simp only [Nat.zero_add] at c0 c1
      obtain ⟨f1, f2⟩ := HFR.out k hlt
      have hfk := free_pos f1
      have htk := free_pos f2
      obtain ⟨fk, hfke⟩ : ∃ v, v = fr k := ⟨_, rfl⟩
      obtain ⟨tk, htke⟩ : ∃ v, v = tt k := ⟨_, rfl⟩
      rw [← hfke] at c0 hfk
      rw [← htke] at c1 htk
      have HFK := Hid.mk hfke
      have HTK := Hid.mk htke
      clear hfke htke f1 f2
      by_cases e1 : fk = c
      · have e1b : (fk == c) = true := by simpa using e1
        have HE1 := Hid.mk e1
        clear e1
        go_wp2_with fail
        go_roundw
        case rel => exact ⟨k + 1, -1, by omega, by go_num, rfl, .inl rfl, trivial⟩
        case measure => simp [intOf]; omega
      · have e1b : (fk == c) = false := by simpa using e1
        by_cases e2 : tk = c
        · have e2b : (tk == c) = true := by simpa using e2
          have HE2 := Hid.mk e2
          clear e1 e2
          go_wp2_with fail
          go_roundw
          case rel => exact ⟨k + 1, -1, by omega, by go_num, rfl, .inl rfl, trivial⟩
          case measure => simp [intOf]; omega
        · have e2b : (tk == c) = false := by simpa using e2
          have HE1 := Hid.mk e1
          have HE2 := Hid.mk e2
          clear e1 e2
          go_wp2_with fail
          go_roundw
          case rel =>
            refine ⟨k + 1, c, by omega, by go_num, rfl, ?_, trivial⟩
            rcases HC.out with q | ⟨q, hq⟩
            · exact .inl q
            · refine .inr ⟨q, fun i hi => ?_⟩
              by_cases e : i = k
              · rw [e, ← HFK.out, ← HTK.out, ← q]
                exact ⟨HE1.out, HE2.out⟩
              · exact hq i (by omega)
          case measure => simp [intOf]; omega
    · have hd : k = m := by omega
      have HC : Hid (c = -1 ∨ (c = r ∧ ∀ i, i < m → fr i ≠ r ∧ tt i ≠ r)) := by rw [← hd]; exact HC
      have hnk : ¬ (k : Int) < (m : Int) := by omega
      have q0 := y3.out 0
      have q1 := y3.out 1
      have q2 := y3.out 2
      have q4 := y3.out 4
      clear hd
      go_upto_if 59 with fail
      go_cut [] (fun wx => ∃ cs2 : ByteArray, SubC cs2 cs ∧ (checkM R C cs2 m fr tt U).1 = 0 ∧ (∀ o, wx.cell? ⟨w2.heap.size, o, none⟩ = #[Value.int .i64 (R : Int), .int .i64 (C : Int), .string cs, .slice (some ⟨g, 0, none⟩) m cc, .int .i64 (U : Int)][o]?) ∧ (∀ o, wx.cell? ⟨w2.heap.size + 1, o, none⟩ = #[Value.int .i64 (R : Int), .int .i64 (C : Int), .string cs2, .slice (some ⟨g, 0, none⟩) m cc, .int .i64 (U : Int)][o]?) ∧ Below w2.heap.size w2 wx)
      case first =>
        obtain ⟨w4, hw4⟩ : ∃ q, q = w3.alloc (Obj.cells #[Value.int .i64 (R : Int), .int .i64 (C : Int), .string cs, .slice (some ⟨g, 0, none⟩) m cc, .int .i64 (U : Int)] 28) := ⟨_, rfl⟩
        rw [← hw4]
        have B4 : Hid (Below w3.heap.size w3 w4) := by unfold Hid; rw [hw4]; exact (Below.refl _ w3).alloc (Nat.le_refl _) _
        have z4 : Hid (∀ o, w4.cell? ⟨w2.heap.size + 1, o, none⟩ = #[Value.int .i64 (R : Int), .int .i64 (C : Int), .string cs, .slice (some ⟨g, 0, none⟩) m cc, .int .i64 (U : Int)][o]?) := by
          rw [hw4]
          unfold Hid
          intro o; go_simp
        have f4 : Hid (∀ o, w4.frozen? ⟨w2.heap.size + 1, o, none⟩ = false) := by
          rw [hw4]
          unfold Hid
          intro o; go_simp
        have y4 : Hid (∀ o, w4.cell? ⟨w2.heap.size, o, none⟩ = #[Value.int .i64 (R : Int), .int .i64 (C : Int), .string cs, .slice (some ⟨g, 0, none⟩) m cc, .int .i64 (U : Int)][o]?) := fun o => (B4.out.cell (p := ⟨w2.heap.size, o, none⟩) (by show w2.heap.size < w3.heap.size; omega)).trans (y3.out o)
        have B24 : Hid (Below w2.heap.size w2 w4) := B3.out.trans (B4.out.mono (by omega))
        clear hw4 q0 q1 q2 q3 q4
        have q0 := y4.out 0
        have q1 := y4.out 1
        have q2 := y4.out 2
        have q3 := y4.out 3
        have q4 := y4.out 4
        have z2 := z4.out 2
        have g2 := f4.out 2
        rcases HC.out with hcc | ⟨hcc, hall⟩
        · subst hcc
          have hcI : ¬ (0 : Int) ≤ -1 := by decide
          clear q0 q1 q2 q3 q4 z2 g2
          go_wp2_with fail
          go_meet
          case rel => exact ⟨cs, SELF.out, CK.out, y4.out, z4.out, B24.out⟩
        · subst hcc
          have hcI : (0 : Int) ≤ (r : Int) := by omega
          have HALL := Hid.mk hall
          clear hall
          go_upto_region 10 with fail
          go_region
          go_wp2_with fail
          go_meet
          case rel =>
            refine ⟨wallC cs r, (wall_sub hr).1, check_wall hr CK.out HALL.out, fun o => ?_, fun o => ?_, ?_⟩
            · show (w4.setCell ⟨w2.heap.size + 1, 2, none⟩ (.string (wallC cs r))).cell? ⟨w2.heap.size, o, none⟩ = _
              rw [World.cell?_setCell_other _ _ _ _ (fun h => by have h := congrArg Addr.block h; have h : w2.heap.size + 1 = w2.heap.size := h; omega)]
              exact y4.out o
            · show (w4.setCell ⟨w2.heap.size + 1, 2, none⟩ (.string (wallC cs r))).cell? ⟨w2.heap.size + 1, o, none⟩ = _
              by_cases e : o = 2
              · subst e
                rw [World.cell?_setCell_same _ _ _ (by rw [z4.out 2]; rfl)]; rfl
              · rw [World.cell?_setCell_other _ _ _ _ (fun h => e (congrArg Addr.off h).symm), z4.out o]
                match o, e with
                | 0, _ => rfl
                | 1, _ => rfl
                | 2, e => exact absurd rfl e
                | 3, _ => rfl
                | 4, _ => rfl
                | o + 5, _ => simp
            · exact (B24.out.setCell (p := ⟨w2.heap.size + 1, 2, none⟩) (by show w2.heap.size ≤ w2.heap.size + 1; omega) _).drew
      case rest =>
        obtain ⟨w4, rfl⟩ : ∃ q, q = wc := ⟨_, rfl⟩
        obtain ⟨cs2, hS, hck2, hy4, hzz4, hb4⟩ := hcut
        have SUB := Hid.mk hS
        have CK2 := Hid.mk hck2
        have B4 := Hid.mk hb4
        have y4 := Hid.mk hy4
        have z4 := Hid.mk hzz4
        have hz4 : w2.heap.size + 1 < w4.heap.size := World.block_lt_of_cell? (a := ⟨w2.heap.size + 1, 0, none⟩) w4 (hzz4 0)
        clear hS hck2 hb4 hy4 hzz4 q0 q1 q2 q3 q4
        have q0 := y4.out 0
        have q1 := y4.out 1
        have q2 := y4.out 2
        have q3 := y4.out 3
        have q4 := y4.out 4
        go_wp2_with fail
        refine ((CALLS.out cs _ SELF.out CK.out B4.out).1).mono ?_
        rintro e w5 ⟨rfl, hb5⟩
        have B5 : Hid (Below w2.heap.size w2 w5) := B4.out.trans (hb5.mono B4.out.size)
        have hz5 := hb5.size
        have y5 : Hid (∀ o, w5.cell? ⟨w2.heap.size, o, none⟩ = #[Value.int .i64 (R : Int), .int .i64 (C : Int), .string cs, .slice (some ⟨g, 0, none⟩) m cc, .int .i64 (U : Int)][o]?) := fun o => (hb5.cell (p := ⟨w2.heap.size, o, none⟩) (by show w2.heap.size < w4.heap.size; omega)).trans (y4.out o)
        have z5 : Hid (∀ o, w5.cell? ⟨w2.heap.size + 1, o, none⟩ = #[Value.int .i64 (R : Int), .int .i64 (C : Int), .string cs2, .slice (some ⟨g, 0, none⟩) m cc, .int .i64 (U : Int)][o]?) := fun o => (hb5.cell (p := ⟨w2.heap.size + 1, o, none⟩) (by show w2.heap.size + 1 < w4.heap.size; omega)).trans (z4.out o)
        clear hb5 q0 q1 q2 q3 q4
        have q0 := z5.out 0
        have q1 := z5.out 1
        have q2 := z5.out 2
        have q3 := z5.out 3
        have q4 := z5.out 4
        go_wp2_with fail
        refine ((CALLS.out cs2 _ SUB.out CK2.out B5.out).1).mono ?_
        rintro e w6 ⟨rfl, hb6⟩
        have B6 : Hid (Below w2.heap.size w2 w6) := B5.out.trans (hb6.mono B5.out.size)
        have hz6 := hb6.size
        have y6 : Hid (∀ o, w6.cell? ⟨w2.heap.size, o, none⟩ = #[Value.int .i64 (R : Int), .int .i64 (C : Int), .string cs, .slice (some ⟨g, 0, none⟩) m cc, .int .i64 (U : Int)][o]?) := fun o => (hb6.cell (p := ⟨w2.heap.size, o, none⟩) (by show w2.heap.size < w5.heap.size; omega)).trans (y5.out o)
        have z6 : Hid (∀ o, w6.cell? ⟨w2.heap.size + 1, o, none⟩ = #[Value.int .i64 (R : Int), .int .i64 (C : Int), .string cs2, .slice (some ⟨g, 0, none⟩) m cc, .int .i64 (U : Int)][o]?) := fun o => (hb6.cell (p := ⟨w2.heap.size + 1, o, none⟩) (by show w2.heap.size + 1 < w5.heap.size; omega)).trans (z5.out o)
        clear hb6 q0 q1 q2 q3 q4
        have q0 := y6.out 0
        have q1 := y6.out 1
        have q2 := y6.out 2
        have q3 := y6.out 3
        have q4 := y6.out 4
        go_wp2_with fail
        refine ((CALLS.out cs _ SELF.out CK.out B6.out).2.1).mono ?_
        rintro e w7 ⟨n1, d1, ht1, hway1, hb7⟩
        have B7 : Hid (Below w2.heap.size w2 w7) := B6.out.trans (hb7.mono B6.out.size)
        have hz7 := hb7.size
        have y7 : Hid (∀ o, w7.cell? ⟨w2.heap.size, o, none⟩ = #[Value.int .i64 (R : Int), .int .i64 (C : Int), .string cs, .slice (some ⟨g, 0, none⟩) m cc, .int .i64 (U : Int)][o]?) := fun o => (hb7.cell (p := ⟨w2.heap.size, o, none⟩) (by show w2.heap.size < w6.heap.size; omega)).trans (y6.out o)
        have z7 : Hid (∀ o, w7.cell? ⟨w2.heap.size + 1, o, none⟩ = #[Value.int .i64 (R : Int), .int .i64 (C : Int), .string cs2, .slice (some ⟨g, 0, none⟩) m cc, .int .i64 (U : Int)][o]?) := fun o => (hb7.cell (p := ⟨w2.heap.size + 1, o, none⟩) (by show w2.heap.size + 1 < w6.heap.size; omega)).trans (z6.out o)
        have T1 := Hid.mk ht1
        rcases hway1 with ⟨hn1, rfl⟩ | ⟨hn1, rfl⟩
        · have HN1 := Hid.mk hn1
          clear hn1 ht1 hb7 q0 q1 q2 q3 q4
          have q0 := z7.out 0
          have q1 := z7.out 1
          have q2 := z7.out 2
          have q3 := z7.out 3
          have q4 := z7.out 4
          go_wp2_with fail
          refine ((CALLS.out cs2 _ SUB.out CK2.out B7.out).2.1).mono ?_
          rintro e w8 ⟨n2, d2, ht2, hway2, hb8⟩
          have B8 : Hid (Below w2.heap.size w2 w8) := B7.out.trans (hb8.mono B7.out.size)
          have hz8 := hb8.size
          have y8 : Hid (∀ o, w8.cell? ⟨w2.heap.size, o, none⟩ = #[Value.int .i64 (R : Int), .int .i64 (C : Int), .string cs, .slice (some ⟨g, 0, none⟩) m cc, .int .i64 (U : Int)][o]?) := fun o => (hb8.cell (p := ⟨w2.heap.size, o, none⟩) (by show w2.heap.size < w7.heap.size; omega)).trans (y7.out o)
          have z8 : Hid (∀ o, w8.cell? ⟨w2.heap.size + 1, o, none⟩ = #[Value.int .i64 (R : Int), .int .i64 (C : Int), .string cs2, .slice (some ⟨g, 0, none⟩) m cc, .int .i64 (U : Int)][o]?) := fun o => (hb8.cell (p := ⟨w2.heap.size + 1, o, none⟩) (by show w2.heap.size + 1 < w7.heap.size; omega)).trans (z7.out o)
          have T2 := Hid.mk ht2
          rcases hway2 with ⟨hn2, rfl⟩ | ⟨hn2, rfl⟩
          · have HN2 := Hid.mk hn2
            clear hn2 ht2 hb8 q0 q1 q2 q3 q4
            have q0 := y8.out 0
            have q1 := y8.out 1
            have q2 := y8.out 2
            have q3 := y8.out 3
            have q4 := y8.out 4
            go_wp2_with fail
            refine ((CALLS.out cs _ SELF.out CK.out B8.out).2.2.1).mono ?_
            rintro e w9 ⟨n3, d3, ht3, hway3, hb9⟩
            have B9 : Hid (Below w2.heap.size w2 w9) := B8.out.trans (hb9.mono B8.out.size)
            have hz9 := hb9.size
            have y9 : Hid (∀ o, w9.cell? ⟨w2.heap.size, o, none⟩ = #[Value.int .i64 (R : Int), .int .i64 (C : Int), .string cs, .slice (some ⟨g, 0, none⟩) m cc, .int .i64 (U : Int)][o]?) := fun o => (hb9.cell (p := ⟨w2.heap.size, o, none⟩) (by show w2.heap.size < w8.heap.size; omega)).trans (y8.out o)
            have z9 : Hid (∀ o, w9.cell? ⟨w2.heap.size + 1, o, none⟩ = #[Value.int .i64 (R : Int), .int .i64 (C : Int), .string cs2, .slice (some ⟨g, 0, none⟩) m cc, .int .i64 (U : Int)][o]?) := fun o => (hb9.cell (p := ⟨w2.heap.size + 1, o, none⟩) (by show w2.heap.size + 1 < w8.heap.size; omega)).trans (z8.out o)
            obtain ⟨hi3, hs3⟩ := M.Told.all T1.out ht3
            have hlt3 := hi3.1 HN1.out
            rcases hway3 with ⟨_, rfl⟩ | ⟨q, _⟩ | ⟨q, _⟩
            · clear ht3 hi3 hs3 hlt3 hb9 q0 q1 q2 q3 q4
              have q0 := z9.out 0
              have q1 := z9.out 1
              have q2 := z9.out 2
              have q3 := z9.out 3
              have q4 := z9.out 4
              go_wp2_with fail
              refine ((CALLS.out cs2 _ SUB.out CK2.out B9.out).2.2.1).mono ?_
              rintro e w10 ⟨n4, d4, ht4, hway4, hb10⟩
              have B10 : Hid (Below w2.heap.size w2 w10) := B9.out.trans (hb10.mono B9.out.size)
              have hz10 := hb10.size
              have y10 : Hid (∀ o, w10.cell? ⟨w2.heap.size, o, none⟩ = #[Value.int .i64 (R : Int), .int .i64 (C : Int), .string cs, .slice (some ⟨g, 0, none⟩) m cc, .int .i64 (U : Int)][o]?) := fun o => (hb10.cell (p := ⟨w2.heap.size, o, none⟩) (by show w2.heap.size < w9.heap.size; omega)).trans (y9.out o)
              have z10 : Hid (∀ o, w10.cell? ⟨w2.heap.size + 1, o, none⟩ = #[Value.int .i64 (R : Int), .int .i64 (C : Int), .string cs2, .slice (some ⟨g, 0, none⟩) m cc, .int .i64 (U : Int)][o]?) := fun o => (hb10.cell (p := ⟨w2.heap.size + 1, o, none⟩) (by show w2.heap.size + 1 < w9.heap.size; omega)).trans (z9.out o)
              obtain ⟨hi4, hs4⟩ := M.Told.all T2.out ht4
              have hlt4 := hi4.1 HN2.out
              rcases hway4 with ⟨_, rfl⟩ | ⟨q, _⟩ | ⟨q, _⟩
              · clear ht4 hi4 hs4 hlt4 hb10 q0 q1 q2 q3 q4
                have q0 := y10.out 0
                have q1 := y10.out 1
                have q2 := y10.out 2
                have q3 := y10.out 3
                have q4 := y10.out 4
                go_wp2_with fail
                refine ((CALLS.out cs _ SELF.out CK.out B10.out).2.2.2).mono ?_
                rintro e w11 ⟨mb1, rfl, hmb1, hb11⟩
                have B11 : Hid (Below w2.heap.size w2 w11) := B10.out.trans (hb11.mono B10.out.size)
                have hz11 := hb11.size
                have y11 : Hid (∀ o, w11.cell? ⟨w2.heap.size, o, none⟩ = #[Value.int .i64 (R : Int), .int .i64 (C : Int), .string cs, .slice (some ⟨g, 0, none⟩) m cc, .int .i64 (U : Int)][o]?) := fun o => (hb11.cell (p := ⟨w2.heap.size, o, none⟩) (by show w2.heap.size < w10.heap.size; omega)).trans (y10.out o)
                have z11 : Hid (∀ o, w11.cell? ⟨w2.heap.size + 1, o, none⟩ = #[Value.int .i64 (R : Int), .int .i64 (C : Int), .string cs2, .slice (some ⟨g, 0, none⟩) m cc, .int .i64 (U : Int)][o]?) := fun o => (hb11.cell (p := ⟨w2.heap.size + 1, o, none⟩) (by show w2.heap.size + 1 < w10.heap.size; omega)).trans (z10.out o)
                have hm1' : mb1 = true := hmb1 ⟨n1, d1, T1.out, HN1.out⟩
                subst hm1'
                clear hmb1 hb11 q0 q1 q2 q3 q4
                have q0 := z11.out 0
                have q1 := z11.out 1
                have q2 := z11.out 2
                have q3 := z11.out 3
                have q4 := z11.out 4
                go_wp2_with fail
                refine ((CALLS.out cs2 _ SUB.out CK2.out B11.out).2.2.2).mono ?_
                rintro e w12 ⟨mb2, rfl, hmb2, hb12⟩
                have B12 : Hid (Below w2.heap.size w2 w12) := B11.out.trans (hb12.mono B11.out.size)
                have hm2' : mb2 = true := hmb2 ⟨n2, d2, T2.out, HN2.out⟩
                subst hm2'
                clear hmb2 hb12 q0 q1 q2 q3 q4
                go_wp2_with fail
                go_ret
                exact ⟨rfl, BW2.out.trans (B12.out.mono BW2.out.size)⟩
              · exact absurd hlt4 (by omega)
              · exact absurd hlt4 (by omega)
            · exact absurd hlt3 (by omega)
            · exact absurd hlt3 (by omega)
          · have HN2 := Hid.mk hn2
            clear hn2 ht2 hb8 q0 q1 q2 q3 q4
            have q0 := y8.out 0
            have q1 := y8.out 1
            have q2 := y8.out 2
            have q3 := y8.out 3
            have q4 := y8.out 4
            go_wp2_with fail
            refine ((CALLS.out cs _ SELF.out CK.out B8.out).2.2.1).mono ?_
            rintro e w9 ⟨n3, d3, ht3, hway3, hb9⟩
            have B9 : Hid (Below w2.heap.size w2 w9) := B8.out.trans (hb9.mono B8.out.size)
            have hz9 := hb9.size
            have y9 : Hid (∀ o, w9.cell? ⟨w2.heap.size, o, none⟩ = #[Value.int .i64 (R : Int), .int .i64 (C : Int), .string cs, .slice (some ⟨g, 0, none⟩) m cc, .int .i64 (U : Int)][o]?) := fun o => (hb9.cell (p := ⟨w2.heap.size, o, none⟩) (by show w2.heap.size < w8.heap.size; omega)).trans (y8.out o)
            have z9 : Hid (∀ o, w9.cell? ⟨w2.heap.size + 1, o, none⟩ = #[Value.int .i64 (R : Int), .int .i64 (C : Int), .string cs2, .slice (some ⟨g, 0, none⟩) m cc, .int .i64 (U : Int)][o]?) := fun o => (hb9.cell (p := ⟨w2.heap.size + 1, o, none⟩) (by show w2.heap.size + 1 < w8.heap.size; omega)).trans (z8.out o)
            obtain ⟨hi3, hs3⟩ := M.Told.all T1.out ht3
            have hlt3 := hi3.1 HN1.out
            rcases hway3 with ⟨_, rfl⟩ | ⟨q, _⟩ | ⟨q, _⟩
            · clear ht3 hi3 hs3 hlt3 hb9 q0 q1 q2 q3 q4
              have q0 := z9.out 0
              have q1 := z9.out 1
              have q2 := z9.out 2
              have q3 := z9.out 3
              have q4 := z9.out 4
              go_wp2_with fail
              refine ((CALLS.out cs2 _ SUB.out CK2.out B9.out).2.2.1).mono ?_
              rintro e w10 ⟨n4, d4, ht4, hway4, hb10⟩
              have B10 : Hid (Below w2.heap.size w2 w10) := B9.out.trans (hb10.mono B9.out.size)
              have hz10 := hb10.size
              have y10 : Hid (∀ o, w10.cell? ⟨w2.heap.size, o, none⟩ = #[Value.int .i64 (R : Int), .int .i64 (C : Int), .string cs, .slice (some ⟨g, 0, none⟩) m cc, .int .i64 (U : Int)][o]?) := fun o => (hb10.cell (p := ⟨w2.heap.size, o, none⟩) (by show w2.heap.size < w9.heap.size; omega)).trans (y9.out o)
              have z10 : Hid (∀ o, w10.cell? ⟨w2.heap.size + 1, o, none⟩ = #[Value.int .i64 (R : Int), .int .i64 (C : Int), .string cs2, .slice (some ⟨g, 0, none⟩) m cc, .int .i64 (U : Int)][o]?) := fun o => (hb10.cell (p := ⟨w2.heap.size + 1, o, none⟩) (by show w2.heap.size + 1 < w9.heap.size; omega)).trans (z9.out o)
              obtain ⟨hi4, hs4⟩ := M.Told.all T2.out ht4
              obtain ⟨e4, ed4⟩ := hs4 (by have := HN2.out; omega)
              subst e4 ed4
              rcases hway4 with ⟨q, _⟩ | ⟨_, hd2, rfl⟩ | ⟨_, hd2, b4, l4, rfl⟩
              · exact absurd q (by have := HN2.out; omega)
              · clear ht4 hi4 hs4 hb10 q0 q1 q2 q3 q4
                have q0 := y10.out 0
                have q1 := y10.out 1
                have q2 := y10.out 2
                have q3 := y10.out 3
                have q4 := y10.out 4
                go_wp2_with fail
                refine ((CALLS.out cs _ SELF.out CK.out B10.out).2.2.2).mono ?_
                rintro e w11 ⟨mb1, rfl, hmb1, hb11⟩
                have B11 : Hid (Below w2.heap.size w2 w11) := B10.out.trans (hb11.mono B10.out.size)
                have hz11 := hb11.size
                have y11 : Hid (∀ o, w11.cell? ⟨w2.heap.size, o, none⟩ = #[Value.int .i64 (R : Int), .int .i64 (C : Int), .string cs, .slice (some ⟨g, 0, none⟩) m cc, .int .i64 (U : Int)][o]?) := fun o => (hb11.cell (p := ⟨w2.heap.size, o, none⟩) (by show w2.heap.size < w10.heap.size; omega)).trans (y10.out o)
                have z11 : Hid (∀ o, w11.cell? ⟨w2.heap.size + 1, o, none⟩ = #[Value.int .i64 (R : Int), .int .i64 (C : Int), .string cs2, .slice (some ⟨g, 0, none⟩) m cc, .int .i64 (U : Int)][o]?) := fun o => (hb11.cell (p := ⟨w2.heap.size + 1, o, none⟩) (by show w2.heap.size + 1 < w10.heap.size; omega)).trans (z10.out o)
                have hm1' : mb1 = true := hmb1 ⟨n1, d1, T1.out, HN1.out⟩
                subst hm1'
                clear hmb1 hb11 q0 q1 q2 q3 q4
                have q0 := z11.out 0
                have q1 := z11.out 1
                have q2 := z11.out 2
                have q3 := z11.out 3
                have q4 := z11.out 4
                go_wp2_with fail
                refine ((CALLS.out cs2 _ SUB.out CK2.out B11.out).2.2.2).mono ?_
                rintro e w12 ⟨mb2, rfl, hmb2, hb12⟩
                have B12 : Hid (Below w2.heap.size w2 w12) := B11.out.trans (hb12.mono B11.out.size)
                clear hmb2 hb12 q0 q1 q2 q3 q4
                go_wp2_with fail
                go_ret
                exact ⟨rfl, BW2.out.trans (B12.out.mono BW2.out.size)⟩
              · obtain ⟨k2, hk2⟩ : ∃ k, k = costY F0 R C cs2 m fr tt := ⟨_, rfl⟩
                rw [← hk2]
                clear hk2 ht4 hi4 hs4 hb10 q0 q1 q2 q3 q4
                have q0 := y10.out 0
                have q1 := y10.out 1
                have q2 := y10.out 2
                have q3 := y10.out 3
                have q4 := y10.out 4
                go_wp2_with fail
                refine ((CALLS.out cs _ SELF.out CK.out B10.out).2.2.2).mono ?_
                rintro e w11 ⟨mb1, rfl, hmb1, hb11⟩
                have B11 : Hid (Below w2.heap.size w2 w11) := B10.out.trans (hb11.mono B10.out.size)
                have hz11 := hb11.size
                have y11 : Hid (∀ o, w11.cell? ⟨w2.heap.size, o, none⟩ = #[Value.int .i64 (R : Int), .int .i64 (C : Int), .string cs, .slice (some ⟨g, 0, none⟩) m cc, .int .i64 (U : Int)][o]?) := fun o => (hb11.cell (p := ⟨w2.heap.size, o, none⟩) (by show w2.heap.size < w10.heap.size; omega)).trans (y10.out o)
                have z11 : Hid (∀ o, w11.cell? ⟨w2.heap.size + 1, o, none⟩ = #[Value.int .i64 (R : Int), .int .i64 (C : Int), .string cs2, .slice (some ⟨g, 0, none⟩) m cc, .int .i64 (U : Int)][o]?) := fun o => (hb11.cell (p := ⟨w2.heap.size + 1, o, none⟩) (by show w2.heap.size + 1 < w10.heap.size; omega)).trans (z10.out o)
                have hm1' : mb1 = true := hmb1 ⟨n1, d1, T1.out, HN1.out⟩
                subst hm1'
                clear hmb1 hb11 q0 q1 q2 q3 q4
                have q0 := z11.out 0
                have q1 := z11.out 1
                have q2 := z11.out 2
                have q3 := z11.out 3
                have q4 := z11.out 4
                go_wp2_with fail
                refine ((CALLS.out cs2 _ SUB.out CK2.out B11.out).2.2.2).mono ?_
                rintro e w12 ⟨mb2, rfl, hmb2, hb12⟩
                have B12 : Hid (Below w2.heap.size w2 w12) := B11.out.trans (hb12.mono B11.out.size)
                clear hmb2 hb12 q0 q1 q2 q3 q4
                go_wp2_with fail
                go_ret
                exact ⟨rfl, BW2.out.trans (B12.out.mono BW2.out.size)⟩
            · exact absurd hlt3 (by omega)
            · exact absurd hlt3 (by omega)
        · have HN1 := Hid.mk hn1
          clear hn1 ht1 hb7 q0 q1 q2 q3 q4
          have q0 := z7.out 0
          have q1 := z7.out 1
          have q2 := z7.out 2
          have q3 := z7.out 3
          have q4 := z7.out 4
          go_wp2_with fail
          refine ((CALLS.out cs2 _ SUB.out CK2.out B7.out).2.1).mono ?_
          rintro e w8 ⟨n2, d2, ht2, hway2, hb8⟩
          have B8 : Hid (Below w2.heap.size w2 w8) := B7.out.trans (hb8.mono B7.out.size)
          have hz8 := hb8.size
          have y8 : Hid (∀ o, w8.cell? ⟨w2.heap.size, o, none⟩ = #[Value.int .i64 (R : Int), .int .i64 (C : Int), .string cs, .slice (some ⟨g, 0, none⟩) m cc, .int .i64 (U : Int)][o]?) := fun o => (hb8.cell (p := ⟨w2.heap.size, o, none⟩) (by show w2.heap.size < w7.heap.size; omega)).trans (y7.out o)
          have z8 : Hid (∀ o, w8.cell? ⟨w2.heap.size + 1, o, none⟩ = #[Value.int .i64 (R : Int), .int .i64 (C : Int), .string cs2, .slice (some ⟨g, 0, none⟩) m cc, .int .i64 (U : Int)][o]?) := fun o => (hb8.cell (p := ⟨w2.heap.size + 1, o, none⟩) (by show w2.heap.size + 1 < w7.heap.size; omega)).trans (z7.out o)
          have T2 := Hid.mk ht2
          obtain ⟨hle, h1n, hwt⟩ := wall_told F0 hF0 SUB.out CK.out CK2.out T1.out (by have := HN1.out; omega) ht2
          have WT := Hid.mk hwt
          rcases hway2 with ⟨hn2, _⟩ | ⟨hn2, rfl⟩
          · exact absurd hn2 (by have := HN1.out; omega)
          · have HN2 := Hid.mk hn2
            have hleI : ¬ (n1 : Int) < (n2 : Int) := by omega
            have h1I : ¬ (n2 : Int) < 1 := by omega
            clear hn2 ht2 hb8 hwt hle h1n q0 q1 q2 q3 q4
            have q0 := y8.out 0
            have q1 := y8.out 1
            have q2 := y8.out 2
            have q3 := y8.out 3
            have q4 := y8.out 4
            go_wp2_with fail
            refine ((CALLS.out cs _ SELF.out CK.out B8.out).2.2.1).mono ?_
            rintro e w9 ⟨n3, d3, ht3, hway3, hb9⟩
            have B9 : Hid (Below w2.heap.size w2 w9) := B8.out.trans (hb9.mono B8.out.size)
            have hz9 := hb9.size
            have y9 : Hid (∀ o, w9.cell? ⟨w2.heap.size, o, none⟩ = #[Value.int .i64 (R : Int), .int .i64 (C : Int), .string cs, .slice (some ⟨g, 0, none⟩) m cc, .int .i64 (U : Int)][o]?) := fun o => (hb9.cell (p := ⟨w2.heap.size, o, none⟩) (by show w2.heap.size < w8.heap.size; omega)).trans (y8.out o)
            have z9 : Hid (∀ o, w9.cell? ⟨w2.heap.size + 1, o, none⟩ = #[Value.int .i64 (R : Int), .int .i64 (C : Int), .string cs2, .slice (some ⟨g, 0, none⟩) m cc, .int .i64 (U : Int)][o]?) := fun o => (hb9.cell (p := ⟨w2.heap.size + 1, o, none⟩) (by show w2.heap.size + 1 < w8.heap.size; omega)).trans (z8.out o)
            obtain ⟨hi3, hs3⟩ := M.Told.all T1.out ht3
            obtain ⟨e3, ed3⟩ := hs3 (by have := HN1.out; omega)
            subst e3 ed3
            rcases hway3 with ⟨q, _⟩ | ⟨_, hd1, rfl⟩ | ⟨_, hd1, b3, l3, rfl⟩
            · exact absurd q (by have := HN1.out; omega)
            · have HD1 := Hid.mk hd1
              clear hd1 ht3 hi3 hs3 hb9 q0 q1 q2 q3 q4
              have q0 := z9.out 0
              have q1 := z9.out 1
              have q2 := z9.out 2
              have q3 := z9.out 3
              have q4 := z9.out 4
              go_wp2_with fail
              refine ((CALLS.out cs2 _ SUB.out CK2.out B9.out).2.2.1).mono ?_
              rintro e w10 ⟨n4, d4, ht4, hway4, hb10⟩
              have B10 : Hid (Below w2.heap.size w2 w10) := B9.out.trans (hb10.mono B9.out.size)
              have hz10 := hb10.size
              have y10 : Hid (∀ o, w10.cell? ⟨w2.heap.size, o, none⟩ = #[Value.int .i64 (R : Int), .int .i64 (C : Int), .string cs, .slice (some ⟨g, 0, none⟩) m cc, .int .i64 (U : Int)][o]?) := fun o => (hb10.cell (p := ⟨w2.heap.size, o, none⟩) (by show w2.heap.size < w9.heap.size; omega)).trans (y9.out o)
              have z10 : Hid (∀ o, w10.cell? ⟨w2.heap.size + 1, o, none⟩ = #[Value.int .i64 (R : Int), .int .i64 (C : Int), .string cs2, .slice (some ⟨g, 0, none⟩) m cc, .int .i64 (U : Int)][o]?) := fun o => (hb10.cell (p := ⟨w2.heap.size + 1, o, none⟩) (by show w2.heap.size + 1 < w9.heap.size; omega)).trans (z9.out o)
              obtain ⟨hi4, hs4⟩ := M.Told.all T2.out ht4
              obtain ⟨e4, ed4⟩ := hs4 (by have := HN2.out; omega)
              subst e4 ed4
              rcases hway4 with ⟨q, _⟩ | ⟨_, hd2, rfl⟩ | ⟨_, hd2, b4, l4, rfl⟩
              · exact absurd q (by have := HN2.out; omega)
              · clear ht4 hi4 hs4 hb10 q0 q1 q2 q3 q4
                have q0 := y10.out 0
                have q1 := y10.out 1
                have q2 := y10.out 2
                have q3 := y10.out 3
                have q4 := y10.out 4
                go_wp2_with fail
                refine ((CALLS.out cs _ SELF.out CK.out B10.out).2.2.2).mono ?_
                rintro e w11 ⟨mb1, rfl, hmb1, hb11⟩
                have B11 : Hid (Below w2.heap.size w2 w11) := B10.out.trans (hb11.mono B10.out.size)
                have hz11 := hb11.size
                have y11 : Hid (∀ o, w11.cell? ⟨w2.heap.size, o, none⟩ = #[Value.int .i64 (R : Int), .int .i64 (C : Int), .string cs, .slice (some ⟨g, 0, none⟩) m cc, .int .i64 (U : Int)][o]?) := fun o => (hb11.cell (p := ⟨w2.heap.size, o, none⟩) (by show w2.heap.size < w10.heap.size; omega)).trans (y10.out o)
                have z11 : Hid (∀ o, w11.cell? ⟨w2.heap.size + 1, o, none⟩ = #[Value.int .i64 (R : Int), .int .i64 (C : Int), .string cs2, .slice (some ⟨g, 0, none⟩) m cc, .int .i64 (U : Int)][o]?) := fun o => (hb11.cell (p := ⟨w2.heap.size + 1, o, none⟩) (by show w2.heap.size + 1 < w10.heap.size; omega)).trans (z10.out o)
                clear hmb1 hb11 q0 q1 q2 q3 q4
                have q0 := z11.out 0
                have q1 := z11.out 1
                have q2 := z11.out 2
                have q3 := z11.out 3
                have q4 := z11.out 4
                go_wp2_with fail
                refine ((CALLS.out cs2 _ SUB.out CK2.out B11.out).2.2.2).mono ?_
                rintro e w12 ⟨mb2, rfl, hmb2, hb12⟩
                have B12 : Hid (Below w2.heap.size w2 w12) := B11.out.trans (hb12.mono B11.out.size)
                clear hmb2 hb12 q0 q1 q2 q3 q4
                go_wp2_with fail
                go_ret
                exact ⟨rfl, BW2.out.trans (B12.out.mono BW2.out.size)⟩
              · exfalso
                have h7 := (WT.out hd2).1
                rw [HD1.out] at h7
                cases h7
            · have HD1 := Hid.mk hd1
              clear hd1 ht3 hi3 hs3 hb9 q0 q1 q2 q3 q4
              have q0 := z9.out 0
              have q1 := z9.out 1
              have q2 := z9.out 2
              have q3 := z9.out 3
              have q4 := z9.out 4
              go_wp2_with fail
              refine ((CALLS.out cs2 _ SUB.out CK2.out B9.out).2.2.1).mono ?_
              rintro e w10 ⟨n4, d4, ht4, hway4, hb10⟩
              have B10 : Hid (Below w2.heap.size w2 w10) := B9.out.trans (hb10.mono B9.out.size)
              have hz10 := hb10.size
              have y10 : Hid (∀ o, w10.cell? ⟨w2.heap.size, o, none⟩ = #[Value.int .i64 (R : Int), .int .i64 (C : Int), .string cs, .slice (some ⟨g, 0, none⟩) m cc, .int .i64 (U : Int)][o]?) := fun o => (hb10.cell (p := ⟨w2.heap.size, o, none⟩) (by show w2.heap.size < w9.heap.size; omega)).trans (y9.out o)
              have z10 : Hid (∀ o, w10.cell? ⟨w2.heap.size + 1, o, none⟩ = #[Value.int .i64 (R : Int), .int .i64 (C : Int), .string cs2, .slice (some ⟨g, 0, none⟩) m cc, .int .i64 (U : Int)][o]?) := fun o => (hb10.cell (p := ⟨w2.heap.size + 1, o, none⟩) (by show w2.heap.size + 1 < w9.heap.size; omega)).trans (z9.out o)
              obtain ⟨hi4, hs4⟩ := M.Told.all T2.out ht4
              obtain ⟨e4, ed4⟩ := hs4 (by have := HN2.out; omega)
              subst e4 ed4
              rcases hway4 with ⟨q, _⟩ | ⟨_, hd2, rfl⟩ | ⟨_, hd2, b4, l4, rfl⟩
              · exact absurd q (by have := HN2.out; omega)
              · clear ht4 hi4 hs4 hb10 q0 q1 q2 q3 q4
                have q0 := y10.out 0
                have q1 := y10.out 1
                have q2 := y10.out 2
                have q3 := y10.out 3
                have q4 := y10.out 4
                go_wp2_with fail
                refine ((CALLS.out cs _ SELF.out CK.out B10.out).2.2.2).mono ?_
                rintro e w11 ⟨mb1, rfl, hmb1, hb11⟩
                have B11 : Hid (Below w2.heap.size w2 w11) := B10.out.trans (hb11.mono B10.out.size)
                have hz11 := hb11.size
                have y11 : Hid (∀ o, w11.cell? ⟨w2.heap.size, o, none⟩ = #[Value.int .i64 (R : Int), .int .i64 (C : Int), .string cs, .slice (some ⟨g, 0, none⟩) m cc, .int .i64 (U : Int)][o]?) := fun o => (hb11.cell (p := ⟨w2.heap.size, o, none⟩) (by show w2.heap.size < w10.heap.size; omega)).trans (y10.out o)
                have z11 : Hid (∀ o, w11.cell? ⟨w2.heap.size + 1, o, none⟩ = #[Value.int .i64 (R : Int), .int .i64 (C : Int), .string cs2, .slice (some ⟨g, 0, none⟩) m cc, .int .i64 (U : Int)][o]?) := fun o => (hb11.cell (p := ⟨w2.heap.size + 1, o, none⟩) (by show w2.heap.size + 1 < w10.heap.size; omega)).trans (z10.out o)
                clear hmb1 hb11 q0 q1 q2 q3 q4
                have q0 := z11.out 0
                have q1 := z11.out 1
                have q2 := z11.out 2
                have q3 := z11.out 3
                have q4 := z11.out 4
                go_wp2_with fail
                refine ((CALLS.out cs2 _ SUB.out CK2.out B11.out).2.2.2).mono ?_
                rintro e w12 ⟨mb2, rfl, hmb2, hb12⟩
                have B12 : Hid (Below w2.heap.size w2 w12) := B11.out.trans (hb12.mono B11.out.size)
                clear hmb2 hb12 q0 q1 q2 q3 q4
                go_wp2_with fail
                go_ret
                exact ⟨rfl, BW2.out.trans (B12.out.mono BW2.out.size)⟩
              · have hcost := (WT.out hd2).2
                obtain ⟨k1, hk1⟩ : ∃ k, k = costY F0 R C cs m fr tt := ⟨_, rfl⟩
                obtain ⟨k2, hk2⟩ : ∃ k, k = costY F0 R C cs2 m fr tt := ⟨_, rfl⟩
                rw [← hk1, ← hk2] at hcost
                rw [← hk1, ← hk2]
                have hcI : ¬ (k2 : Int) < (k1 : Int) := by omega
                clear hk1 hk2 ht4 hi4 hs4 hb10 q0 q1 q2 q3 q4
                have q0 := y10.out 0
                have q1 := y10.out 1
                have q2 := y10.out 2
                have q3 := y10.out 3
                have q4 := y10.out 4
                go_wp2_with fail
                refine ((CALLS.out cs _ SELF.out CK.out B10.out).2.2.2).mono ?_
                rintro e w11 ⟨mb1, rfl, hmb1, hb11⟩
                have B11 : Hid (Below w2.heap.size w2 w11) := B10.out.trans (hb11.mono B10.out.size)
                have hz11 := hb11.size
                have y11 : Hid (∀ o, w11.cell? ⟨w2.heap.size, o, none⟩ = #[Value.int .i64 (R : Int), .int .i64 (C : Int), .string cs, .slice (some ⟨g, 0, none⟩) m cc, .int .i64 (U : Int)][o]?) := fun o => (hb11.cell (p := ⟨w2.heap.size, o, none⟩) (by show w2.heap.size < w10.heap.size; omega)).trans (y10.out o)
                have z11 : Hid (∀ o, w11.cell? ⟨w2.heap.size + 1, o, none⟩ = #[Value.int .i64 (R : Int), .int .i64 (C : Int), .string cs2, .slice (some ⟨g, 0, none⟩) m cc, .int .i64 (U : Int)][o]?) := fun o => (hb11.cell (p := ⟨w2.heap.size + 1, o, none⟩) (by show w2.heap.size + 1 < w10.heap.size; omega)).trans (z10.out o)
                clear hmb1 hb11 q0 q1 q2 q3 q4
                have q0 := z11.out 0
                have q1 := z11.out 1
                have q2 := z11.out 2
                have q3 := z11.out 3
                have q4 := z11.out 4
                go_wp2_with fail
                refine ((CALLS.out cs2 _ SUB.out CK2.out B11.out).2.2.2).mono ?_
                rintro e w12 ⟨mb2, rfl, hmb2, hb12⟩
                have B12 : Hid (Below w2.heap.size w2 w12) := B11.out.trans (hb12.mono B11.out.size)
                clear hmb2 hb12 q0 q1 q2 q3 q4
                go_wp2_with fail
                go_ret
                exact ⟨rfl, BW2.out.trans (B12.out.mono BW2.out.size)⟩

end Go.Proofs.YtnkgpinadgacgabDoor
