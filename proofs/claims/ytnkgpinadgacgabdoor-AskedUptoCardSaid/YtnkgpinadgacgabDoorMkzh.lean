/- Several texts in one: Dh, Dk, Gd, Ge, Gt. -/
import Derived.Test.YtnkgpinadgacgabDoorMkzg
import Derived.Test.YtnkgpinadgacgabDoorMkv
import Derived.Test.YtnkgpinadgacgabDoorMkz
import Derived.Test.YtnkgpinadgacgabDoorMkzd
import Derived.Deep.RegionHeld3
import Derived.Deep.DeepCutAuto
import Derived.Deep.QuietTactic
import Derived.BigQuiet
import Derived.Test.YtnkgpinadgacgabDoorMky
import Derived.Test.YtnkgpinadgacgabDoorMkzc
namespace Go.Proofs.YtnkgpinadgacgabDoor
open Go.RowKit M
/-- To which positions one may go from a position. -/
def stepP (ro co : Int) (cs : ByteArray) (m : Nat) (p q : List Nat) : Prop := q ∈ growL (mvN ro co cs) p m

set_option maxRecDepth 100000 in
set_option maxHeartbeats 2000000 in
theorem count_any (ro co bu : Int) (cs : ByteArray) (b off m cc : Nat) (fr tt : Nat → Int) (w : World) (hs : cs.size ≤ 36) (r1 : 1 ≤ ro) (r2 : ro ≤ 6) (h1 : 1 ≤ co) (h2 : co ≤ 6) (hm : m ≤ 4) (hbu : bu ≤ 1000000) (hsd : SidesIn w) (hcs : CartsIn w b off m fr tt) (hf : ∀ k, k < m → 0 ≤ fr k ∧ freeB cs (fr k) = true) (ht : ∀ k, k < m → 0 ≤ tt k ∧ freeB cs (tt k) = true) :
    Calls Tryd.prog 37 #[.agg #[.int .i64 ro, .int .i64 co, .string cs, .slice (some ⟨b, off, none⟩) m cc, .int .i64 bu]] w fun e w' => ∃ (n : Nat) (d : Bool), e = .returned (.tuple #[.int .i64 n, .bool d]) ∧ n ≤ 2000000 ∧ M.Told (stepP ro co cs m) (cellsOf fr m) (cellsOf tt m) bu n d ∧ Below w.heap.size w w' := by
  have ht2 : ∀ k, k < m → 0 ≤ tt k ∧ tt k < 256 := fun k hk => by
    obtain ⟨n, e1, e2⟩ := free_nat (ht k hk).2
    have := (ht k hk).1
    omega
  have GT : Hid (Good cs m (cellsOf tt m)) := by
    refine ⟨cellsOf_len _ _, fun k hk => ?_⟩
    obtain ⟨n, e1, e2⟩ := free_nat (ht k hk).2
    rw [cellsOf_at hk, e1]
    exact ⟨by simpa using e2, by rw [← e1]; simpa [e1] using (ht k hk).2⟩
  have ST := Hid.mk (GT.out.small hs)
  have HSD := Hid.mk hsd
  have HCS := Hid.mk hcs
  have HF := Hid.mk hf
  have HT2 := Hid.mk ht2
  clear hsd hcs hf ht ht2
  go_enter Tryd.func37, Tryd.ntmps37
  go_wp2_with fail
  have B1 : Hid (Below w.heap.size w (w.alloc (Obj.cells #[Value.int IntKind.i64 ro, Value.int IntKind.i64 co, Value.string cs, .slice (some ⟨b, off, none⟩) m cc, Value.int IntKind.i64 bu] 28))) := (Below.refl _ w).alloc (Nat.le_refl _) _
  have yc : ∀ o, (w.alloc (Obj.cells #[Value.int IntKind.i64 ro, Value.int IntKind.i64 co, Value.string cs, .slice (some ⟨b, off, none⟩) m cc, Value.int IntKind.i64 bu] 28)).cell? ⟨w.heap.size, o, none⟩ = #[Value.int .i64 ro, .int .i64 co, .string cs, .slice (some ⟨b, off, none⟩) m cc, .int .i64 bu][o]? := by
    intro o; go_simp
  have hz1 : (w.alloc (Obj.cells #[Value.int IntKind.i64 ro, Value.int IntKind.i64 co, Value.string cs, .slice (some ⟨b, off, none⟩) m cc, Value.int IntKind.i64 bu] 28)).heap.size = w.heap.size + 1 := by simp
  generalize w.alloc (Obj.cells #[Value.int IntKind.i64 ro, Value.int IntKind.i64 co, Value.string cs, .slice (some ⟨b, off, none⟩) m cc, Value.int IntKind.i64 bu] 28) = w1 at *
  refine (reached_any ro co bu cs b off m cc fr tt _ hs r1 r2 h1 h2 hm hbu (HSD.out.below B1.out) (HCS.out.below B1.out) HF.out).mono ?_
  rintro e w2 ⟨bm, L, i, rfl, hwk, hi, hgd, hlen, hps, hbm, hb2⟩
  have WK := Hid.mk hwk
  have HI := Hid.mk hi
  have HLEN := Hid.mk hlen
  have PS := Hid.mk hps
  have hz2 := hb2.size
  have y0 := cell_later hb2 (yc 0)
  have y1 := cell_later hb2 (yc 1)
  have y2 := cell_later hb2 (yc 2)
  have y3 := cell_later hb2 (yc 3)
  have y4 := cell_later hb2 (yc 4)
  have B2 : Hid (Below w.heap.size w w2) := B1.out.trans (hb2.mono (by omega))
  clear yc hwk hi hgd hlen hps hb2
  go_wp2_with fail
  refine (goals_any ro co bu cs b off m cc fr tt _ hm (HCS.out.below B2.out) HT2.out).mono ?_
  rintro e w3 ⟨rfl, hb3⟩
  have PS3 := Hid.mk (PS.out.below hb3)
  have B3 : Hid (Below w.heap.size w w3) := B2.out.trans (hb3.mono (by omega))
  have hz3 := hb3.size
  clear hb3 y0 y1 y2 y3 y4
  have PS4 : Hid (PosSet (w3.alloc (Obj.cells #[] 90)) bm m L) := PS3.out.below ((Below.refl _ _).alloc (Nat.le_refl _) _)
  go_upto_region 3 with (at_lookup; refine wpList_look_pos rfl _ _ rfl bm m L rfl PS3.out (cellsOf tt m) rfl GT.out.1 ST.out ?_)
  go_wp2_with (at_len; go_must (refine wpList_len_pos rfl _ rfl bm m L rfl PS4.out ?_))
  go_ret2
  refine ⟨L.length, decide (cellsOf tt m ∈ L), rfl, ?_, ?_, B3.out.alloc (by omega) _⟩
  · have := HLEN.out; omega
  · have hw := WK.out
    rcases HI.out with h | h
    · subst h; exact .inl ⟨L, hw, rfl, rfl⟩
    · exact .inr ⟨L, i, hw, rfl, h⟩

end Go.Proofs.YtnkgpinadgacgabDoor

namespace Go.Proofs.YtnkgpinadgacgabDoor
open Go.RowKit M
/-- The cells to which a cart may go from cell c, as the document lists them. -/
def mayN (co : Int) (cs : ByteArray) (c : Nat) : List Nat := (List.range cs.size).filter fun z => mayM co cs c z

/-- To which positions one may go, as the document lists them. -/
def stepR (co : Int) (cs : ByteArray) (m : Nat) (p q : List Nat) : Prop := q ∈ growL (mayN co cs) p m

theorem mayN_mem {co : Int} {cs : ByteArray} {c z : Nat} : z ∈ mayN co cs c ↔ z < cs.size ∧ mayM co cs c z = true := by
  unfold mayN
  rw [List.mem_filter, List.mem_range]

theorem mvN_mem {ro co : Int} {cs : ByteArray} {c z : Nat} (h1 : 1 ≤ co) (h2 : co ≤ 6) (hsz : (cs.size : Int) = ro * co) (hc : c < cs.size) (hf : freeB cs c = true) : z ∈ mvN ro co cs c ↔ z ∈ mayN co cs c := by
  rw [mayN_mem]
  unfold mayM
  constructor
  · intro h
    obtain ⟨r, hr, e⟩ := List.mem_iff_getElem.1 h
    obtain ⟨e1, e2, e3⟩ := mvN_at hf hr
    have hr2 : r < (mvL ro co cs c).length := by rw [← mvN_len]; exact hr
    have hz := List.getElem_mem hr2
    have e4 : (mvL ro co cs c)[r] = ((mvN ro co cs c)[r] : Nat) := by
      unfold ints at e1
      rw [List.getElem?_map, List.getElem?_eq_getElem hr2] at e1
      simpa using e1
    rw [e4] at hz
    rw [e] at e2 e3 hz
    refine ⟨e2, ?_⟩
    rw [e3, mvL_near h1 h2 hz]
    simp; omega
  · rintro ⟨hz, h⟩
    simp only [Bool.and_eq_true, decide_eq_true_eq] at h
    have hm := mvL_all (ro := ro) h1 h2 hsz (by omega) (by omega) h.1 h.2.2.2
    unfold mvN
    rw [List.mem_map]
    exact ⟨(z : Int), hm, by simp⟩

theorem step_iff {ro co : Int} {cs : ByteArray} {m : Nat} {p q : List Nat} (h1 : 1 ≤ co) (h2 : co ≤ 6) (hsz : (cs.size : Int) = ro * co) (hp : Good cs m p) : stepP ro co cs m p q ↔ stepR co cs m p q := by
  unfold stepP stepR
  rw [growL_mem, growL_mem]
  constructor
  · rintro ⟨hl, h⟩
    exact ⟨hl, fun k hk => ⟨(mvN_mem h1 h2 hsz (hp.2 k hk).1 (hp.2 k hk).2).1 (h k hk).1, (h k hk).2⟩⟩
  · rintro ⟨hl, h⟩
    exact ⟨hl, fun k hk => ⟨(mvN_mem h1 h2 hsz (hp.2 k hk).1 (hp.2 k hk).2).2 (h k hk).1, (h k hk).2⟩⟩

end Go.Proofs.YtnkgpinadgacgabDoor

namespace Go.Proofs.YtnkgpinadgacgabDoor
open Go.RowKit M
theorem map_range_snoc (f : Nat → Nat) (k : Nat) : (List.range (k + 1)).map f = (List.range k).map f ++ [f k] := by
  rw [List.range_succ, List.map_append]; rfl

set_option maxRecDepth 100000 in
set_option maxHeartbeats 2000000 in
theorem pathOf_any (gw n cw cart : Nat) (p : Nat → Nat → Nat) (u : Nat → Nat → Bool) (w : World) (hn : n ≤ 10000000) (hcart : cart < 4)
    (hp : ∀ i j, i < n → j < 4 → w.cell? ⟨gw, i * 8 + j, none⟩ = some (.int .u8 (p i j : Nat))) (hu : ∀ i j, i < n → j < 4 → w.cell? ⟨gw, i * 8 + 4 + j, none⟩ = some (.bool (u i j))) (h255 : ∀ i, i < n → p i cart ≤ 255) :
    Calls Tryd.prog 85 #[.int .i64 cart, .slice (some ⟨gw, 0, none⟩) n cw] w fun e w' =>
      ∃ k v, e = .returned v ∧ k ≤ n ∧ OwnN w' w.heap.size v ((List.range k).map fun i => p i cart) ∧ (∀ j, j + 1 < k → u j cart = true) ∧ (k = n ∨ (0 < k ∧ u (k - 1) cart = false)) ∧ Below w.heap.size w w' := by
  have HP := Hid.mk hp
  have HU := Hid.mk hu
  have H2 := Hid.mk h255
  clear hp hu h255
  go_enter Tryd.func85, Tryd.ntmps85
  go_wp2
  go_loopw [5, 7, 10] (fun v5 _ v10 wr => ∃ (k : Nat) (V : Value), V = v5 ∧ v10 = .int .i64 k ∧ k ≤ n ∧ OwnN wr w.heap.size V ((List.range k).map fun i => p i cart) ∧ (∀ j, j < k → u j cart = true) ∧ Below w.heap.size w wr) (fun _ _ v10 _ => n - (intOf v10).toNat)
  case atStart => exact ⟨0, _, rfl, rfl, Nat.zero_le _, OwnN.nil _ _, fun j hj => absurd hj (Nat.not_lt_zero j), Below.refl _ _⟩
  case round =>
    obtain ⟨k, V, rfl, rfl, hk, hown, hall, hb⟩ := hrel
    obtain ⟨wo, rfl⟩ : ∃ x, x = wr := ⟨_, rfl⟩
    have OWN := Hid.mk hown
    have ALL := Hid.mk hall
    have HB := Hid.mk hb
    have hz := hb.size
    clear hown hall hb
    by_cases hlt : k < n
    · have hkI : (k : Int) < (n : Int) := by omega
      have c0 := cell_later HB.out (HP.out k 0 hlt (by omega))
      have c1 := cell_later HB.out (HP.out k 1 hlt (by omega))
      have c2 := cell_later HB.out (HP.out k 2 hlt (by omega))
      have c3 := cell_later HB.out (HP.out k 3 hlt (by omega))
      have c4 := cell_later HB.out (HU.out k 0 hlt (by omega))
      have c5 := cell_later HB.out (HU.out k 1 hlt (by omega))
      have c6 := cell_later HB.out (HU.out k 2 hlt (by omega))
      have c7 := cell_later HB.out (HU.out k 3 hlt (by omega))
      simp only [Nat.add_zero, Nat.add_assoc, Nat.reduceAdd] at c0 c1 c2 c3 c4 c5 c6 c7
      have X0 : Hid (∀ j, j < 4 → (wo.alloc (Obj.cells #[Value.int .u8 (p k 0 : Nat), .int .u8 (p k 1 : Nat), .int .u8 (p k 2 : Nat), .int .u8 (p k 3 : Nat), .bool (u k 0), .bool (u k 1), .bool (u k 2), .bool (u k 3)] 108)).cell? ⟨wo.heap.size, j, none⟩ = some (.int .u8 (p k j : Nat))) := by
        intro j hj
        match j, hj with
        | 0, _ => go_simp
        | 1, _ => go_simp
        | 2, _ => go_simp
        | 3, _ => go_simp
      have X1 : Hid (∀ j, j < 4 → (wo.alloc (Obj.cells #[Value.int .u8 (p k 0 : Nat), .int .u8 (p k 1 : Nat), .int .u8 (p k 2 : Nat), .int .u8 (p k 3 : Nat), .bool (u k 0), .bool (u k 1), .bool (u k 2), .bool (u k 3)] 108)).cell? ⟨wo.heap.size, 4 + j, none⟩ = some (.bool (u k j))) := by
        intro j hj
        match j, hj with
        | 0, _ => go_simp
        | 1, _ => go_simp
        | 2, _ => go_simp
        | 3, _ => go_simp
      have BA : Hid (Below wo.heap.size wo (wo.alloc (Obj.cells #[Value.int .u8 (p k 0 : Nat), .int .u8 (p k 1 : Nat), .int .u8 (p k 2 : Nat), .int .u8 (p k 3 : Nat), .bool (u k 0), .bool (u k 1), .bool (u k 2), .bool (u k 3)] 108))) := (Below.refl _ _).alloc (Nat.le_refl _) _
      have hza : (wo.alloc (Obj.cells #[Value.int .u8 (p k 0 : Nat), .int .u8 (p k 1 : Nat), .int .u8 (p k 2 : Nat), .int .u8 (p k 3 : Nat), .bool (u k 0), .bool (u k 1), .bool (u k 2), .bool (u k 3)] 108)).heap.size = wo.heap.size + 1 := by simp
      go_upto_region 5 with fail
      generalize (wo.alloc (Obj.cells #[Value.int .u8 (p k 0 : Nat), .int .u8 (p k 1 : Nat), .int .u8 (p k 2 : Nat), .int .u8 (p k 3 : Nat), .bool (u k 0), .bool (u k 1), .bool (u k 2), .bool (u k 3)] 108)) = wa at *
      have d0 := X0.out cart hcart
      have d1 := X1.out cart hcart
      have hcI : (cart : Int) < 4 := by omega
      have h25 := H2.out k hlt
      have OWA : Hid (OwnN wa w.heap.size V ((List.range k).map fun i => p i cart)) := OWN.out.below BA.out
      obtain ⟨x, hx⟩ : ∃ x, x = p k cart := ⟨_, rfl⟩
      obtain ⟨ub, hub⟩ : ∃ ub, ub = u k cart := ⟨_, rfl⟩
      rw [← hx] at d0 h25
      rw [← hub] at d1
      have HXE := Hid.mk hx
      have HUB := Hid.mk hub
      have hbs : w.heap.size ≤ wa.heap.size := by omega
      have HBS := Hid.mk hbs
      have LL : Hid (((List.range k).map fun i => p i cart).length ≤ 100000000) := by unfold Hid; simp; omega
      have hVl : ∀ g, V.ownBlock = some g → g < wo.heap.size := fun g hg => (OWN.out.lt g hg).2
      have HVL := Hid.mk hVl
      clear c0 c1 c2 c3 c4 c5 c6 c7 hx hub hVl
      go_upto_region 6 with (at_builtin; go_must (refine wpList_pushN rfl _ _ rfl w.heap.size V ((List.range k).map fun i => p i cart) x rfl OWA.out HBS.out _ (by rw [hza]; exact rfl) LL.out ?_; intro g5 c5 w5 ho5 hon5 hat5; have d2 := (hon5.cell (p := ⟨wo.heap.size, 4 + cart, none⟩) (by show wo.heap.size < _; omega) (fun e => by have h9 : wo.heap.size < wo.heap.size := HVL.out _ e; omega)).trans d1; have e9 : (((List.range k).map fun i => p i cart) ++ [x]).length = k + 1 := (by simp); rw [e9] at ho5; rw [e9]; have HO5 := Hid.mk ho5; have HON5 := Hid.mk hon5; clear ho5 hon5 hat5 e9))
      all_goals
        have LST : Hid (OwnN w5 w.heap.size (.slice (some ⟨g5, 0, none⟩) (k + 1) c5) ((List.range (k + 1)).map fun i => p i cart)) := by unfold Hid; rw [map_range_snoc, ← HXE.out]; exact HO5.out
        have BW : Hid (Below w.heap.size w w5) := HB.out.trans ((BA.out.mono hz).trans (HON5.out.below hbs (fun i e => (OWN.out.lt i e).1)))
        cases ub
        · go_wp2
          go_ret
          exact ⟨k + 1, _, rfl, by omega, LST.out, fun j hj => ALL.out j (by omega), .inr ⟨by omega, by simpa using HUB.out.symm⟩, BW.out⟩
        · go_wp2
          go_roundw
          case rel => exact ⟨k + 1, _, rfl, by go_num, by omega, LST.out, fun j hj => by
            by_cases e : j = k
            · subst e; exact HUB.out.symm
            · exact ALL.out j (by omega), BW.out⟩
          case measure => simp [intOf]; omega
    · have hd : k = n := by omega
      subst hd
      go_wp2
      go_ret
      exact ⟨k, _, rfl, Nat.le_refl _, OWN.out, fun j hj => ALL.out j (by omega), .inl rfl, HB.out⟩

end Go.Proofs.YtnkgpinadgacgabDoor

namespace Go.Proofs.YtnkgpinadgacgabDoor
open Go.RowKit Go.Maps M
theorem Tryd.rowState : (108 : TypeId) < Tryd.prog.types.size := of_decide_eq_true (by kernel_rfl)

theorem Tryd.deepState : Tryd.prog.keyTypeAt 4 108 = true := by kernel_rfl

theorem Tryd.ktState : Tryd.prog.keyType 108 = true := by kernel_rfl

theorem Tryd.cellsState : Tryd.prog.cellsOf 108 = 8 := by kernel_rfl

theorem Tryd.lawState : Keyed Tryd.prog 108 := Keyed.of_law (deep_law_laid Tryd.laidOut0 (m := 4) (by omega) Tryd.rowState Tryd.deepState (by rw [Tryd.underlying108]))

theorem Tryd.cellsB4 : Tryd.prog.cellsOf 106 = 4 := by kernel_rfl

theorem Tryd.cellsBl : Tryd.prog.cellsOf 4 = 1 := by kernel_rfl

/-- A state as the program keeps it. -/
def stV (p : List Nat) (u : List Bool) : Value := .agg #[.int .u8 (p.getD 0 0 : Nat), .int .u8 (p.getD 1 0 : Nat), .int .u8 (p.getD 2 0 : Nat), .int .u8 (p.getD 3 0 : Nat), .bool (u.getD 0 false), .bool (u.getD 1 false), .bool (u.getD 2 false), .bool (u.getD 3 false)]

theorem st_ext {p p' : List Nat} {u u' : List Bool} {m : Nat} (hm : m ≤ 4) (hp : p.length = m) (hp' : p'.length = m) (hu : u.length = m) (hu' : u'.length = m) (h : stV p u = stV p' u') : p = p' ∧ u = u' := by
  unfold stV at h
  simp only [Value.agg.injEq, Array.mk.injEq, List.cons.injEq, Value.int.injEq, Value.bool.injEq, true_and, and_true] at h
  obtain ⟨h0, h1, h2, h3, h4, h5, h6, h7⟩ := h
  constructor
  · apply List.ext_getElem (by omega)
    intro i hi hi'
    have e : ∀ (l : List Nat) (hl : i < l.length), l[i] = l.getD i 0 := fun l hl => by rw [List.getD_eq_getElem?_getD, List.getElem?_eq_getElem hl]; rfl
    rw [e p hi, e p' hi']
    have hc : i = 0 ∨ i = 1 ∨ i = 2 ∨ i = 3 := by omega
    rcases hc with rfl | rfl | rfl | rfl <;> omega
  · apply List.ext_getElem (by omega)
    intro i hi hi'
    have e : ∀ (l : List Bool) (hl : i < l.length), l[i] = l.getD i false := fun l hl => by rw [List.getD_eq_getElem?_getD, List.getElem?_eq_getElem hl]; rfl
    rw [e u hi, e u' hi']
    have hc : i = 0 ∨ i = 1 ∨ i = 2 ∨ i = 3 := by omega
    rcases hc with rfl | rfl | rfl | rfl <;> assumption

theorem stKey {p : List Nat} {u : List Bool} (h : Small p) : ∃ kl, keyOf Tryd.prog 108 (stV p u) = some kl := by
  have h0 := wf_u8 (h 0)
  have h1 := wf_u8 (h 1)
  have h2 := wf_u8 (h 2)
  have h3 := wf_u8 (h 3)
  obtain ⟨m, hm⟩ : ∃ m, Tryd.prog.types.size = m + 3 := ⟨Tryd.prog.types.size - 3, by have h9 : (108 : Nat) < Tryd.prog.types.size := Tryd.rowState; omega⟩
  unfold keyOf stV
  generalize p.getD 0 0 = a0 at h0 ⊢
  generalize p.getD 1 0 = a1 at h1 ⊢
  generalize p.getD 2 0 = a2 at h2 ⊢
  generalize p.getD 3 0 = a3 at h3 ⊢
  generalize u.getD 0 false = b0
  generalize u.getD 1 false = b1
  generalize u.getD 2 false = b2
  generalize u.getD 3 false = b3
  simp only [Tryd.underlying108]
  rw [if_pos (by simp [Tryd.ktState, Value.formed, Tryd.underlying108, Tryd.cellsState]), hm]
  unfold Program.keyLits
  simp only [Tryd.underlying108, Value.cells]
  rw [if_pos (by refine ⟨by rw [Tryd.cellsState]; rfl, by kernel_rfl⟩)]
  simp [List.range, List.range.loop, Tryd.cellsPos, Tryd.cellsB4, Tryd.cellsU8, Tryd.cellsBl, Program.keyLits, Tryd.underlying102, Tryd.underlying106, Tryd.underlying5, Tryd.underlying4, h0, h1, h2, h3]

end Go.Proofs.YtnkgpinadgacgabDoor

namespace Go.Proofs.YtnkgpinadgacgabDoor
open Go.RowKit Go.Maps M SM
/-- The cells of a state, and of what is known of one. -/
def stL (x : St) : List Value := [.int .u8 (x.1.getD 0 0 : Nat), .int .u8 (x.1.getD 1 0 : Nat), .int .u8 (x.1.getD 2 0 : Nat), .int .u8 (x.1.getD 3 0 : Nat), .bool (x.2.getD 0 false), .bool (x.2.getD 1 false), .bool (x.2.getD 2 false), .bool (x.2.getD 3 false)]

def fdL (v : Nat × St) : List Value := .int .i64 (v.1 : Nat) :: stL v.2

theorem stL_len (x : St) : (stL x).length = 8 := rfl

theorem fdL_len (v : Nat × St) : (fdL v).length = 9 := rfl

theorem stV_is (x : St) : stV x.1 x.2 = .agg (stL x).toArray := rfl

theorem stL_one (x : St) : ∀ v ∈ stL x, v.oneCell' = true := by
  intro v hv
  unfold stL at hv
  simp only [List.mem_cons, List.not_mem_nil, or_false] at hv
  rcases hv with rfl | rfl | rfl | rfl | rfl | rfl | rfl | rfl <;> rfl

theorem fdL_one (x : Nat × St) : ∀ v ∈ fdL x, v.oneCell' = true := by
  intro v hv
  unfold fdL at hv
  rcases List.mem_cons.1 hv with rfl | h
  · rfl
  · exact stL_one _ v h

theorem Tryd.sizeState : (Tryd.prog.info? 108).map (·.size) = some 8 := by kernel_rfl

theorem Tryd.sizeFound : (Tryd.prog.info? 111).map (·.size) = some 9 := by kernel_rfl

theorem Tryd.zeroFound (w : World) : (zeroValue 111).run Tryd.prog w = .ok (.agg (fdL (0, ([], []))).toArray) w := by kernel_rfl

/-- An element reads as itself. -/
def heldE (v : Value) : Option (DataW Value × List MemPlace) := some (.held v, [])

theorem ownG_block {H : Type} {w w' : World} {P : Program} {k : TypeId} {R : Value → Option (DataW H × List MemPlace)} {b n : Nat} {D : DataW H} (h : w.ownsMap P k R b n D) (e : w'.heap[b]? = w.heap[b]?) : w'.ownsMap P k R b n D := by
  obtain ⟨es, clock, hb, r⟩ := h
  exact ⟨es, clock, e.trans hb, r⟩

theorem ownG_lt {H : Type} {w : World} {P : Program} {k : TypeId} {R : Value → Option (DataW H × List MemPlace)} {b n : Nat} {D : DataW H} (h : w.ownsMap P k R b n D) : b < w.heap.size := by
  obtain ⟨es, clock, hb, r⟩ := h
  exact (Array.getElem?_eq_some_iff.1 hb).1

/-- States of m carts. -/
def Lens (m : Nat) (x : St) : Prop := x.1.length = m ∧ x.2.length = m

/-- Block b tells what is known of states of m carts. -/
def SeenMap (w : World) (b m n : Nat) (f : St → Option (Nat × St)) : Prop :=
  ∃ D : DataW Value, w.ownsMap Tryd.prog 108 heldE b n D ∧ ∀ x kl, Lens m x → keyOf Tryd.prog 108 (stV x.1 x.2) = some kl → Maps.has D kl = (f x).isSome ∧ ∀ v, f x = some v → ∀ z, D.atKey kl z = .held (.agg (fdL v).toArray)

section
variable {w w' : World} {b m n : Nat} {f : St → Option (Nat × St)}
theorem SeenMap.block (h : SeenMap w b m n f) (e : w'.heap[b]? = w.heap[b]?) : SeenMap w' b m n f := by
  obtain ⟨D, hD, hf⟩ := h; exact ⟨D, ownG_block hD e, hf⟩

theorem SeenMap.lt (h : SeenMap w b m n f) : b < w.heap.size := by obtain ⟨D, hD, _⟩ := h; exact ownG_lt hD

theorem SeenMap.more {n' : Nat} (h : SeenMap w b m n f) (e : n ≤ n') : SeenMap w b m n' f := by
  obtain ⟨D, hD, hf⟩ := h; exact ⟨D, hD.mono e, hf⟩

theorem seen_made (w : World) (b m : Nat) (hb : b = w.heap.size) : SeenMap (w.alloc (.map #[] 0)) b m 0 (fun _ => none) := by
  subst hb; exact ⟨_, World.ownsMap_made w _ _ _, fun _ _ _ _ => ⟨rfl, fun _ h => by cases h⟩⟩

/-- What is known of a state is looked up. -/
theorem run_look_seen (h : SeenMap w b m n f) {x : St} (hx : Lens m x) (hs : Small x.1) (c : Bool) :
    (Instr.lookup 116 (.map (some b)) (.agg (stL x).toArray) c).run Tryd.prog w = .ok (if c then .tuple #[.agg (fdL ((f x).getD (0, ([], [])))).toArray, .bool (f x).isSome] else .agg (fdL ((f x).getD (0, ([], [])))).toArray) w := by
  obtain ⟨D, ⟨es, clock, hb, F, _, rfl⟩, hf⟩ := h
  obtain ⟨kl, hk⟩ := stKey (p := x.1) (u := x.2) hs
  obtain ⟨g1, g2⟩ := hf x kl hx hk
  rcases Maps.fit_look c Tryd.lawState Tryd.underlying116 (Tryd.zeroFound w) hb F hk with ⟨hrun, _, hat⟩ | ⟨e0, y, _, _, hrun, hRv, hat, _⟩
  · rw [Maps.has_false_of_atKey hat] at g1
    have e : f x = none := by
      cases hh : f x with
      | none => rfl
      | some v => rw [hh] at g1; cases g1
    rw [← stV_is, hrun, e]; rfl
  · rw [Maps.has_true_of_atKey hat] at g1
    obtain ⟨v, hv⟩ := Option.isSome_iff_exists.1 g1.symm
    have h2 := g2 v hv .nil
    rw [hat .nil] at h2
    have h3 : y = (.held e0.val, []) := (Option.some.inj hRv).symm
    rw [h3] at h2
    have h4 : e0.val = .agg (fdL v).toArray := DataW.held.inj h2
    rw [← stV_is, hrun, hv, h4]; rfl

/-- What is known of a state is written. -/
theorem run_put_seen (h : SeenMap w b m n f) (hn : n < maxLen) (hm : m ≤ 4) {x y : St} {c : Nat} (hx : Lens m x) (hs : Small x.1) :
    ∃ w', (Instr.mapUpdate 116 (.map (some b)) (.agg (stL x).toArray) (.agg (fdL (c, y)).toArray)).run Tryd.prog w = .ok () w' ∧ SeenMap w' b m (n + 1) (seenPutS f x c y) ∧ w.grownBy w' (some b) := by
  obtain ⟨D, hD, hf⟩ := h
  obtain ⟨kl, hk⟩ := stKey (p := x.1) (u := x.2) hs
  obtain ⟨w', hrun, h1, h2⟩ := hD.update Tryd.lawState Tryd.underlying116 hn hk (val := .agg (fdL (c, y)).toArray) (d := .held (.agg (fdL (c, y)).toArray)) (ps := []) rfl
  refine ⟨w', hrun, ⟨_, h1, fun x' kl' hx' hk' => ?_⟩, h2⟩
  unfold seenPutS
  by_cases e : kl' = kl
  · subst e
    have e1 := st_ext hm hx'.1 hx.1 hx'.2 hx.2 (Tryd.lawState.inj hk' hk)
    have e2 : x' = x := Prod.ext e1.1 e1.2
    subst e2
    rw [if_pos rfl, has_put_same hD.isMap (Tryd.lawState.key hk) _]
    refine ⟨rfl, fun v hv z => ?_⟩
    cases hv
    exact atKey_put_same hD.isMap (Tryd.lawState.key hk) _ _
  · have hne : x' ≠ x := fun h => by
      subst h
      rw [hk] at hk'
      exact e (Option.some.inj hk').symm
    rw [if_neg hne, has_put_other e _]
    obtain ⟨g1, g2⟩ := hf x' kl' hx' hk'
    exact ⟨g1, fun v hv z => by rw [atKey_put_other e]; exact g2 v hv z⟩

/-- In a region that draws: what is known of a state may be looked up first. -/
theorem yields_look_seen {ops : Array Oper} {S : World → Prop} {o : Oper} {a : Act} (hw : Region.wanted o (yielded ops a.tmps) = true) (mo xo : Operand) (c : Bool) (hop : o.op = Op.lookup 116 mo xo c) {x : St} (hm : a.eval mo = .map (some b)) (hxo : a.eval xo = .agg (stL x).toArray)
    (hS : ∀ u, S u → SeenMap u b m n f) (hx : Lens m x) (hs : Small x.1) : YieldsIf Tryd.prog ops S o (if c then .tuple #[.agg (fdL ((f x).getD (0, ([], [])))).toArray, .bool (f x).isSome] else .agg (fdL ((f x).getD (0, ([], [])))).toArray) a :=
  .inl ⟨hw, fun u hu => by
    have h := run_look_seen (hS u hu) hx hs c
    simp [execOp, hop, hm, hxo, h, Result.andThen]⟩

/-- In a region that draws: what is known is written, where that alone may come up. -/
theorem any_put_seen {md : Region.Mode} {ops : Array Oper} {Q : Exit → Act → World → Prop} {i : Nat} {o : Oper} {fu : Nat} {listed : Array Bool} {a : Act} (ho : ops[i]? = some o) (hr : Region.ready md ops listed = [i]) (hg : o.guard = none) (mo xo vo : Operand)
    (hop : o.op = Op.mapUpdate 116 mo xo vo) {x y : St} {c : Nat} (hmo : a.eval mo = .map (some b)) (hxo : a.eval xo = .agg (stL x).toArray) (hvo : a.eval vo = .agg (fdL (c, y)).toArray) (h : SeenMap w b m n f) (hn : n < maxLen) (hm : m ≤ 4) (hx : Lens m x) (hs : Small x.1)
    (hK : ∀ w', SeenMap w' b m (n + 1) (seenPutS f x c y) → w.grownBy w' (some b) → wpAny Tryd.prog md ops Q fu (listed.setIfInBounds i true) (a.put o.dst undef) w') : wpAny Tryd.prog md ops Q (fu + 1) listed a w := by
  refine LM.any_one ho hr hg fun K hK' => ?_
  obtain ⟨w', hrun, r1, r2⟩ := run_put_seen h hn hm (y := y) (c := c) hx hs
  unfold Oper.wp
  simp [execOp, hop, hmo, hxo, hvo, hrun, Result.andThen]
  exact hK' _ _ (hK w' r1 r2)

end
end Go.Proofs.YtnkgpinadgacgabDoor
