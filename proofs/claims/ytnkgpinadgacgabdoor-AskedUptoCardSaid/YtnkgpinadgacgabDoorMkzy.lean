/- Several texts in one: Ld. -/
import Derived.Test.YtnkgpinadgacgabDoorMkzx
namespace Go.Proofs.YtnkgpinadgacgabDoor
open Go.RowKit M
/-- A list of cells, each a step behind the one ahead; its first and its last. -/
def StepsL (co : Int) (cs : ByteArray) (x0 x : Nat) (xs : List Int) : Prop :=
  0 < xs.length ∧ xs.getD 0 0 = (x0 : Nat) ∧ xs.getD (xs.length - 1) 0 = (x : Nat) ∧ freeB cs (x : Nat) = true ∧ ∀ j, j + 1 < xs.length → kmay co cs (xs.getD j 0) (xs.getD (j + 1) 0) = true

theorem StepsL.one {co : Int} {cs : ByteArray} {x0 : Nat} (h : freeB cs (x0 : Nat) = true) : StepsL co cs x0 x0 [(x0 : Int)] :=
  ⟨Nat.one_pos, rfl, rfl, h, fun j hj => by simp at hj⟩

theorem StepsL.go {co : Int} {cs : ByteArray} {x0 x b : Nat} {xs : List Int} (h : StepsL co cs x0 x xs) (hb : kmay co cs x b = true) : StepsL co cs x0 b (xs ++ [(b : Int)]) := by
  obtain ⟨h1, h2, h3, h4, h5⟩ := h
  have e : (xs ++ [(b : Int)]).length = xs.length + 1 := by simp
  have eold : ∀ j, j < xs.length → (xs ++ [(b : Int)]).getD j 0 = xs.getD j 0 := fun j hj => getD_append_old hj
  have enew : (xs ++ [(b : Int)]).getD xs.length 0 = (b : Int) := by
    rw [List.getD_eq_getElem?_getD, List.getElem?_append_right (Nat.le_refl _), Nat.sub_self]; rfl
  have hf : freeB cs (b : Nat) = true := by
    unfold kmay at hb
    simp only [Bool.and_eq_true] at hb
    exact hb.1
  refine ⟨by omega, by rw [eold 0 h1]; exact h2, by rw [e, Nat.add_sub_cancel]; exact enew, hf, fun j hj => ?_⟩
  rw [e] at hj
  rw [eold j (by omega)]
  by_cases hl : j + 1 < xs.length
  · rw [eold _ hl]; exact h5 j hl
  · have e2 : j + 1 = xs.length := by omega
    rw [e2, enew, show j = xs.length - 1 by omega, h3]
    exact hb

theorem StepsL.stay {co : Int} {cs : ByteArray} {x0 x : Nat} {xs : List Int} (h : StepsL co cs x0 x xs) : StepsL co cs x0 x (xs ++ [(x : Int)]) := h.go (by
  have hf := h.2.2.2.1
  rw [kmay_adj (free_lt hf)]
  exact adj_self hf)

/-- What a walk of L letters is: each step one that a cart may go. -/
def WalkedS (co : Int) (cs : ByteArray) (x0 L : Nat) (w w' : World) (v : Value) : Prop :=
  ∃ g cap p, v = .slice (some ⟨g, 0, none⟩) (L + 1) cap ∧ L + 1 ≤ cap ∧ (∀ j, j ≤ L → w'.cell? ⟨g, j, none⟩ = some (natV p j)) ∧ (p 0 = x0 ∧ ∀ j, j < L → kmay co cs (p j : Nat) (p (j + 1) : Nat) = true) ∧ Below w.heap.size w w'

theorem StepsL.told {co : Int} {cs : ByteArray} {x0 x L : Nat} {xs : List Int} (h : StepsL co cs x0 x xs) (hl : xs.length = L + 1) (hn : ∀ z, z ∈ xs → ∃ b : Nat, z = b) :
    (fun j => (xs.getD j 0).toNat) 0 = x0 ∧ ∀ j, j < L → kmay co cs (((fun j => (xs.getD j 0).toNat) j : Nat) : Int) (((fun j => (xs.getD j 0).toNat) (j + 1) : Nat) : Int) = true := by
  obtain ⟨h1, h2, h3, h4, h5⟩ := h
  refine ⟨by show (xs.getD 0 0).toNat = x0; rw [h2]; rfl, fun j hj => ?_⟩
  have h6 := h5 j (by omega)
  obtain ⟨a, ha⟩ := hn _ (at_mem (show j < xs.length by omega))
  obtain ⟨b, hb⟩ := hn _ (at_mem (show j + 1 < xs.length by omega))
  show kmay co cs ((xs.getD j 0).toNat : Int) ((xs.getD (j + 1) 0).toNat : Int) = true
  rw [ha, hb] at h6 ⊢
  exact h6

set_option maxRecDepth 100000 in
set_option maxHeartbeats 4000000 in
theorem walkS_any (ro co bu : Int) (x0 : Nat) (cs s : ByteArray) (ac : Option Addr) (mc cc : Nat) (w : World) (hs : cs.size ≤ 36) (h1 : 1 ≤ co) (h2 : co ≤ 6) (hx : x0 < cs.size) (hfx : freeB cs (x0 : Nat) = true) (hl : s.size ≤ 1048576) :
    Calls Tryd.prog 50 #[.agg #[.int .i64 ro, .int .i64 co, .string cs, .slice ac mc cc, .int .i64 bu], .int .i64 x0, .string s] w fun e w' =>
      ∃ v, e = .returned v ∧ WalkedS co cs x0 s.size w w' v := by
  have HX0 : Hid (StepsL co cs x0 x0 [(x0 : Int)]) := StepsL.one hfx
  clear hfx
  go_enter Tryd.func50, Tryd.ntmps50
  go_wp2
  have OWN0 : Hid (((w.alloc (Obj.cells #[Value.int IntKind.i64 ro, Value.int IntKind.i64 co, Value.string cs, .slice ac mc cc, Value.int IntKind.i64 bu] 28)).alloc (Obj.cells #[.int .i64 (x0 : Int)] 3)).ownsRow (w.heap.size + 1) 3 1 (.slice (some ⟨w.heap.size + 1, 0, none⟩) 1 1) 1 (ints [(x0 : Int)])) := own_built _ _ _ _ (by simp)
  have HB0 : Hid (Below w.heap.size w ((w.alloc (Obj.cells #[Value.int IntKind.i64 ro, Value.int IntKind.i64 co, Value.string cs, .slice ac mc cc, Value.int IntKind.i64 bu] 28)).alloc (Obj.cells #[.int .i64 (x0 : Int)] 3))) := ((Below.refl _ w).alloc (Nat.le_refl _) _).alloc (by simp) _
  have Y0 : Hid (∀ o, ((w.alloc (Obj.cells #[Value.int IntKind.i64 ro, Value.int IntKind.i64 co, Value.string cs, .slice ac mc cc, Value.int IntKind.i64 bu] 28)).alloc (Obj.cells #[.int .i64 (x0 : Int)] 3)).cell? ⟨w.heap.size, o, none⟩ = #[Value.int .i64 ro, .int .i64 co, .string cs, .slice ac mc cc, .int .i64 bu][o]?) := by unfold Hid; intro o; go_simp
  have Z0 : Hid (((w.alloc (Obj.cells #[Value.int IntKind.i64 ro, Value.int IntKind.i64 co, Value.string cs, .slice ac mc cc, Value.int IntKind.i64 bu] 28)).alloc (Obj.cells #[.int .i64 (x0 : Int)] 3)).heap.size = w.heap.size + 2) := by unfold Hid; simp
  generalize (w.alloc (Obj.cells #[Value.int IntKind.i64 ro, Value.int IntKind.i64 co, Value.string cs, .slice ac mc cc, Value.int IntKind.i64 bu] 28)).alloc (Obj.cells #[.int .i64 (x0 : Int)] 3) = w0 at *
  go_loopg [1, 7, 8] (s.size + 1) (fun gk v1 v7 v8 wr => ∃ (x i : Nat) (xs : List Int) (g cap : Nat), v1 = .int .i64 x ∧ v8 = .int .i64 i ∧ v7 = .slice (some ⟨g, 0, none⟩) xs.length cap ∧ xs.length = i + 1 ∧ (i + gk = s.size + 1 ∧ i ≤ s.size) ∧ x < cs.size ∧ (∀ z, z ∈ xs → ∃ b : Nat, z = b ∧ b < cs.size) ∧ StepsL co cs x0 x xs ∧
    wr.ownsRow (w.heap.size + 1) 3 1 (.slice (some ⟨g, 0, none⟩) xs.length cap) xs.length (ints xs) ∧ Below (w.heap.size + 1) w0 wr ∧ w.heap.size + 2 ≤ wr.heap.size)
  case atStart =>
    refine ⟨x0, 0, [(x0 : Int)], w.heap.size + 1, 1, rfl, rfl, rfl, rfl, ⟨by omega, Nat.zero_le _⟩, hx, fun z hz => ?_, HX0.out, OWN0.out, Below.refl _ _, by have := Z0.out; omega⟩
    simp at hz; exact ⟨x0, hz, hx⟩
  case round =>
    obtain ⟨wo, rfl⟩ : ∃ q, q = wr := ⟨_, rfl⟩
    obtain ⟨x, i, xs, g, cap, rfl, rfl, rfl, hlen, hgk, hxN, hxs, hst, hown, hbr, hsz⟩ := hrel
    have ST := Hid.mk hst
    have OWN := Hid.mk hown
    have XS := Hid.mk hxs
    have HB := Hid.mk hbr
    have GK := Hid.mk hgk
    have LEN := Hid.mk hlen
    have hz0 : w.heap.size < wo.heap.size := by omega
    have y1 : ∀ o, wo.cell? ⟨w.heap.size, o, none⟩ = #[Value.int .i64 ro, .int .i64 co, .string cs, .slice ac mc cc, .int .i64 bu][o]? := fun o => (hbr.cell (p := ⟨w.heap.size, o, none⟩) (by show w.heap.size < w.heap.size + 1; omega)).trans (Y0.out o)
    have Y1 := Hid.mk y1
    clear hown hxs hbr hgk hlen hst
    by_cases hlt : i < s.size
    · have hltI : (i : Int) < (s.size : Int) := by omega
      have y11 := y1 1
      simp only [List.getElem?_toArray, List.getElem?_cons_zero, List.getElem?_cons_succ] at y11
      have hco : (co == 0) = false := by simp; omega
      clear y1
      go_upto_block 2 with fail
      go_cut [9] (fun v9 wc => ∃ z : Int, v9 = .int .i64 z ∧ Below wo.heap.size wo wc)
      case first =>
        go_wp2_with fail
        all_goals (try (go_quiet (fail); go_wp2_with fail))
        all_goals go_meet
        all_goals (case rel => first | exact ⟨_, rfl, Below.refl _ _⟩ | exact ⟨_, rfl, below_drewN (Below.refl _ _) _⟩)
      case rest =>
        obtain ⟨z, rfl, hbc⟩ := hcut
        have BC := Hid.mk hbc
        have hzc : w.heap.size < wc.heap.size := Nat.lt_of_lt_of_le hz0 hbc.size
        have yc : ∀ o, wc.cell? ⟨w.heap.size, o, none⟩ = #[Value.int .i64 ro, .int .i64 co, .string cs, .slice ac mc cc, .int .i64 bu][o]? := fun o => (hbc.cell (p := ⟨w.heap.size, o, none⟩) hz0).trans (Y1.out o)
        have yc0 := yc 0
        have yc1 := yc 1
        have yc2 := yc 2
        have yc3 := yc 3
        have yc4 := yc 4
        simp only [List.getElem?_toArray, List.getElem?_cons_zero, List.getElem?_cons_succ] at yc0 yc1 yc2 yc3 yc4
        clear hbc yc y11 hco
        go_wp2_with fail
        refine (kmay_int ro co bu x z cs _ _ hs h1 h2 hxN).mono ?_
        rintro e w4 ⟨he, hb4⟩
        obtain ⟨kb, hkb⟩ : ∃ kb, kb = kmay co cs x z := ⟨_, rfl⟩
        rw [← hkb] at he
        subst he
        have KB := Hid.mk hkb
        have B4 : Hid (Below wo.heap.size wo w4) := BC.out.trans (hb4.mono BC.out.size)
        clear hkb hb4 yc0 yc1 yc2 yc3 yc4
        have OWN4 := Hid.mk (own_below OWN.out B4.out)
        have hz4 := B4.out.size
        have HBN : Hid ((xs.length + 1) * 8 ≤ 140737488355328) := by have := LEN.out; have := GK.out; unfold Hid; omega
        have HLN : Hid (xs.length + 1 ≤ maxLen) := by have := HBN.out; unfold Hid maxLen; omega
        cases kb
        · skip
          go_wp2_with (at_builtin; go_must (refine wpList_push2 rfl _ _ 22 rfl (w.heap.size + 1) 3 _ _ Tryd.underlying22 Tryd.infoInt rfl g xs.length cap (ints xs) rfl (by exact own_below OWN4.out ((Below.refl _ _).alloc (Nat.le_refl _) _)) _ _ (.int .i64 (x : Int)) rfl (by go_simp) rfl HLN.out HBN.out (by simp; omega) ?_; intro g2 cap2 w5 hown5 hg5 hloc5))
          have OWN5 := Hid.mk (own_snoc hown5)
          have HB5 : Hid (Below (w.heap.size + 1) w0 w5) := (((HB.out.trans (B4.out.mono (by omega))).alloc (by omega) _).grown hg5 (by simp; omega) (fun k hk => by cases hk; exact (own_lt OWN.out).1))
          have HZ5 : Hid (w.heap.size + 2 ≤ w5.heap.size) := by have := hg5.size; simp at this; unfold Hid; omega
          clear hown5 hg5 hloc5
          go_wp2
          go_roundg (gk - 1)
          case rel =>
            have h1 := GK.out
            have h2 := LEN.out
            refine ⟨x, i + 1, xs ++ [(x : Int)], g2, cap2, rfl, by go_num, by rw [List.length_append]; rfl, by rw [List.length_append]; simp; omega, ⟨by omega, by omega⟩, hxN, fun q hq => ?_, ST.out.stay, OWN5.out, HB5.out, HZ5.out⟩
            rcases List.mem_append.1 hq with hq | hq
            · exact XS.out q hq
            · simp at hq; exact ⟨x, hq, hxN⟩
          case measure => have h1 := GK.out; omega
        · obtain ⟨b', hb', hbN⟩ := kmay_cell KB.out.symm
          subst hb'
          go_wp2_with (at_builtin; go_must (refine wpList_push2 rfl _ _ 22 rfl (w.heap.size + 1) 3 _ _ Tryd.underlying22 Tryd.infoInt rfl g xs.length cap (ints xs) rfl (by exact own_below OWN4.out ((Below.refl _ _).alloc (Nat.le_refl _) _)) _ _ (.int .i64 (b' : Int)) rfl (by go_simp) rfl HLN.out HBN.out (by simp; omega) ?_; intro g2 cap2 w5 hown5 hg5 hloc5))
          have OWN5 := Hid.mk (own_snoc hown5)
          have HB5 : Hid (Below (w.heap.size + 1) w0 w5) := (((HB.out.trans (B4.out.mono (by omega))).alloc (by omega) _).grown hg5 (by simp; omega) (fun k hk => by cases hk; exact (own_lt OWN.out).1))
          have HZ5 : Hid (w.heap.size + 2 ≤ w5.heap.size) := by have := hg5.size; simp at this; unfold Hid; omega
          clear hown5 hg5 hloc5
          go_wp2
          go_roundg (gk - 1)
          case rel =>
            have h1 := GK.out
            have h2 := LEN.out
            refine ⟨b', i + 1, xs ++ [(b' : Int)], g2, cap2, rfl, by go_num, by rw [List.length_append]; rfl, by rw [List.length_append]; simp; omega, ⟨by omega, by omega⟩, hbN, fun q hq => ?_, ST.out.go KB.out.symm, OWN5.out, HB5.out, HZ5.out⟩
            rcases List.mem_append.1 hq with hq | hq
            · exact XS.out q hq
            · simp at hq; exact ⟨b', hq, hbN⟩
          case measure => have h1 := GK.out; omega
    · clear y1
      have hltI : ¬ (i : Int) < (s.size : Int) := by omega
      have hi : s.size ≤ i := by omega
      have L1 : xs.length = s.size + 1 := by have := GK.out; have := LEN.out; omega
      have hcap : Hid (s.size + 1 ≤ cap) := by have := own_room OWN.out; unfold Hid; omega
      have HW : Hid (Below w.heap.size w wo) := HB0.out.trans (HB.out.mono (by omega))
      have CELLS : Hid (∀ j, j ≤ s.size → wo.cell? ⟨g, j, none⟩ = some (natV (fun j => (xs.getD j 0).toNat) j)) := fun j hj => by
        rw [own_cell OWN.out (show j < xs.length by omega), ints_at' (by omega)]
        obtain ⟨q, hq, _⟩ := XS.out _ (at_mem (show j < xs.length by omega))
        show some (Value.int .i64 (xs.getD j 0)) = some (.int .i64 (((xs.getD j 0).toNat : Nat) : Int))
        rw [hq]; rfl
      have INS : Hid (∀ j, j ≤ s.size → (xs.getD j 0).toNat < cs.size) := fun j hj => by
        obtain ⟨q, hq, hq2⟩ := XS.out _ (at_mem (show j < xs.length by omega))
        rw [hq]; simpa using hq2
      have L2 := Hid.mk L1
      have INT : Hid (∀ z, z ∈ xs → ∃ b : Nat, z = b) := fun z hz => (XS.out z hz).imp fun b h => h.1
      clear L1
      go_wp2
      go_ret
      exact ⟨_, rfl, g, cap, fun j => (xs.getD j 0).toNat, by rw [← L2.out]; rfl, hcap.out, CELLS.out, ST.out.told L2.out INT.out, HW.out⟩

end Go.Proofs.YtnkgpinadgacgabDoor
