/- Several texts in one: Lf. -/
import Derived.Test.YtnkgpinadgacgabDoorMkzy
import Derived.Test.YtnkgpinadgacgabDoorMkzw
import Derived.Test.YtnkgpinadgacgabDoorMkzd
import Derived.Deep.QuietTactic
import Derived.BigQuiet
import Derived.Deep.RegionHeld3
import Derived.Deep.DeepCutAuto
namespace Go.Proofs.YtnkgpinadgacgabDoor
open Go.RowKit M SM
/-- From position p carts have gone to q, one after the other, none where another is or was. -/
structure MoveOK (co : Int) (cs : ByteArray) (m : Nat) (p q : List Nat) : Prop where
  len : q.length = m
  step : ∀ i, i < m → kmay co cs (p.getD i 0 : Nat) (q.getD i 0 : Nat) = true
  apart : ∀ j i, j < i → i < m → q.getD j 0 ≠ q.getD i 0 ∧ q.getD j 0 ≠ p.getD i 0

/-- The same while the first i have gone. -/
structure MoveTo (co : Int) (cs : ByteArray) (m i : Nat) (p q : List Nat) : Prop where
  len : q.length = i
  step : ∀ j, j < i → kmay co cs (p.getD j 0 : Nat) (q.getD j 0 : Nat) = true
  apart : ∀ j k, j < k → k < i → q.getD j 0 ≠ q.getD k 0
  behind : ∀ j k, j < i → j < k → k < m → q.getD j 0 ≠ p.getD k 0

/-- Cart i may go to b as far as the first k are looked at. -/
structure MoveB (co : Int) (cs : ByteArray) (i k : Nat) (p q : List Nat) (b : Nat) : Prop where
  step : kmay co cs (p.getD i 0 : Nat) (b : Nat) = true
  ahead : ∀ j, j < k → j < i → q.getD j 0 ≠ b
  behind : ∀ j, j < k → i < j → p.getD j 0 ≠ b

theorem MoveTo.zero {co : Int} {cs : ByteArray} {m : Nat} {p : List Nat} : MoveTo co cs m 0 p [] := ⟨rfl, fun j h => absurd h (Nat.not_lt_zero j), fun _ k _ h => absurd h (Nat.not_lt_zero k), fun j _ h => absurd h (Nat.not_lt_zero j)⟩

theorem MoveTo.done {co : Int} {cs : ByteArray} {m : Nat} {p q : List Nat} (h : MoveTo co cs m m p q) : MoveOK co cs m p q :=
  ⟨h.len, h.step, fun j i hj hi => ⟨h.apart j i hj hi, h.behind j i (by omega) hj hi⟩⟩

theorem MoveB.start {co : Int} {cs : ByteArray} {i b : Nat} {p q : List Nat} (h : kmay co cs (p.getD i 0 : Nat) (b : Nat) = true) : MoveB co cs i 0 p q b :=
  ⟨h, fun j h => absurd h (Nat.not_lt_zero j), fun j h => absurd h (Nat.not_lt_zero j)⟩

theorem MoveB.next {co : Int} {cs : ByteArray} {i k b : Nat} {p q : List Nat} (h : MoveB co cs i k p q b) (h1 : k < i → q.getD k 0 ≠ b) (h2 : i < k → p.getD k 0 ≠ b) : MoveB co cs i (k + 1) p q b :=
  ⟨h.step, fun j hj hji => by
    by_cases e : j = k
    · subst e; exact h1 hji
    · exact h.ahead j (by omega) hji, fun j hj hij => by
    by_cases e : j = k
    · subst e; exact h2 hij
    · exact h.behind j (by omega) hij⟩

/-- Where the cart waits all is well. -/
theorem MoveB.wait {co : Int} {cs : ByteArray} {m i k : Nat} {p q : List Nat} (hp : PosG cs m p) (hi : i < m) (hk : k ≤ m) (h : MoveTo co cs m i p q) : MoveB co cs i k p q (p.getD i 0) := by
  refine ⟨?_, fun j hj hji => h.behind j i hji hji hi, fun j hj hij => fun e => hp.2 j i (by omega) hi (by omega) e⟩
  have hf := (hp.1.2 i hi).2
  rw [kmay_adj (free_lt hf)]
  exact adj_self hf

theorem MoveB.add {co : Int} {cs : ByteArray} {m i b : Nat} {p q : List Nat} (h : MoveTo co cs m i p q) (hb : MoveB co cs i m p q b) (hi : i < m) : MoveTo co cs m (i + 1) p (q ++ [b]) := by
  have e := h.len
  refine ⟨by simp [e], fun j hj => ?_, fun j k hjk hk => ?_, fun j k hj hjk hk => ?_⟩
  · by_cases ej : j = i
    · subst ej; rw [getD_snoc_new e.symm]; exact hb.step
    · rw [getD_snoc_old (by omega)]; exact h.step j (by omega)
  · rw [getD_snoc_old (by omega)]
    by_cases ek : k = i
    · subst ek; rw [getD_snoc_new e.symm]; exact hb.ahead j (by omega) hjk
    · rw [getD_snoc_old (by omega)]; exact h.apart j k hjk (by omega)
  · by_cases ej : j = i
    · subst ej; rw [getD_snoc_new e.symm]; exact fun e2 => hb.behind k hk hjk e2.symm
    · rw [getD_snoc_old (by omega)]; exact h.behind j k (by omega) hjk hk

/-- Texts that came in. -/
def StrsIn (w : World) (a : Option Addr) (n : Nat) (S : Nat → ByteArray) : Prop :=
  0 < n → ∃ b off, a = some ⟨b, off, none⟩ ∧ ∀ i, i < n → w.cell? ⟨b, off + i, none⟩ = some (.string (S i))

theorem StrsIn.below {w w' : World} {a : Option Addr} {n : Nat} {S : Nat → ByteArray} (h : StrsIn w a n S) (hb : Below w.heap.size w w') : StrsIn w' a n S := fun hn => by
  obtain ⟨b, off, e, hc⟩ := h hn
  exact ⟨b, off, e, fun i hi => cell_later hb (hc i hi)⟩

set_option maxRecDepth 100000 in
set_option maxHeartbeats 8000000 in
theorem moved_any (ro co bu : Int) (cs : ByteArray) (ac : Option Addr) (mc cc m t : Nat) (p : List Nat) (sa : Value) (ap : Option Addr) (ns cps : Nat) (S : Nat → ByteArray) (w : World) (hs : cs.size ≤ 36) (h1 : 1 ≤ co) (h2 : co ≤ 6) (hm : m ≤ 4) (ht : t ≤ 1000) (hp : PosG cs m p) (hsa : RowQ w sa p) (hst : StrsIn w ap ns S) :
    Calls Tryd.prog 30 #[.agg #[.int .i64 ro, .int .i64 co, .string cs, .slice ac mc cc, .int .i64 bu], sa, .slice ap ns cps, .int .i64 t] w fun e w' => ∃ v q, e = .returned v ∧ MoveOK co cs m p q ∧ OwnN w' w.heap.size v q ∧ Below w.heap.size w w' := by
  have HP := Hid.mk hp
  have HSA := Hid.mk hsa
  have HST := Hid.mk hst
  have pl : p.length = m := hp.1.1
  obtain ⟨aa, ca, rfl, hcells⟩ := hsa.form
  have HC := Hid.mk hcells
  clear hp hsa hst hcells
  rw [pl] at HC HSA ⊢
  go_enter Tryd.func30, Tryd.ntmps30
  obtain ⟨w1, hw1⟩ : ∃ w1, w1 = w.alloc (Obj.cells #[Value.int IntKind.i64 ro, Value.int IntKind.i64 co, Value.string cs, .slice ac mc cc, Value.int IntKind.i64 bu] 28) := ⟨_, rfl⟩
  have B1 : Hid (Below w.heap.size w w1) := by unfold Hid; rw [hw1]; exact (Below.refl _ w).alloc (Nat.le_refl _) _
  have Y1 : Hid (∀ o, w1.cell? ⟨w.heap.size, o, none⟩ = #[Value.int .i64 ro, .int .i64 co, .string cs, .slice ac mc cc, .int .i64 bu][o]?) := by
    unfold Hid
    intro o
    rw [hw1]; go_simp
  have hz1 : w1.heap.size = w.heap.size + 1 := by rw [hw1]; simp
  go_upto_region 3 with fail
  rw [← hw1]
  clear hw1
  go_loopw [9, 10] (fun v9 v10 wr => ∃ (i : Nat) (q : List Nat) (V : Value), V = v9 ∧ v10 = .int .i64 i ∧ i ≤ m ∧ MoveTo co cs m i p q ∧ OwnN wr w1.heap.size V q ∧ Below w1.heap.size w1 wr) (fun _ v10 _ => m - (intOf v10).toNat)
  case atStart => exact ⟨0, [], _, rfl, rfl, Nat.zero_le _, MoveTo.zero, OwnN.nil _ _, Below.refl _ _⟩
  case round =>
    obtain ⟨w2, rfl⟩ : ∃ q, q = wr := ⟨_, rfl⟩
    obtain ⟨i, q, V, rfl, rfl, hi, hmt, hown, hb2⟩ := hrel
    have MT := Hid.mk hmt
    have OWN := Hid.mk hown
    have B2 := Hid.mk hb2
    have hz2 := hb2.size
    have B02 : Hid (Below w.heap.size w w2) := B1.out.trans (hb2.mono (by omega))
    have ql : q.length = i := hmt.len
    clear hmt hown hb2
    by_cases hlt : i < m
    · have hiI : (i : Int) < (m : Int) := by omega
      obtain ⟨g0, rfl, hc0⟩ := HC.out (by omega)
      have d0 := cell_later B02.out (hc0 i hlt)
      have HC0 := Hid.mk hc0
      obtain ⟨x, hx⟩ : ∃ x, x = p.getD i 0 := ⟨_, rfl⟩
      rw [← hx] at d0
      have HX := Hid.mk hx
      have PX : Hid (freeB cs (x : Nat) = true) := by rw [hx]; exact (HP.out.1.2 i hlt).2
      clear hc0 hx
      go_upto_region 6 with fail
      go_cut [36] (fun v36 wx => ∃ tb : Bool, v36 = .bool tb ∧ wx = w2 ∧ (tb = true → i < ns ∧ t < (S i).size))
      case first =>
        by_cases g1 : i < ns
        · have g1I : (i : Int) < (ns : Int) := by omega
          obtain ⟨bs, off, rfl, hsc⟩ := HST.out (by omega)
          have d1 := cell_later B02.out (hsc i g1)
          clear hsc
          by_cases g2 : t < (S i).size
          · have g2I : (t : Int) < ((S i).size : Int) := by omega
            go_wp2_with fail
            go_meet
            case rel => exact ⟨_, rfl, rfl, fun _ => ⟨g1, g2⟩⟩
          · have g2I : ¬ (t : Int) < ((S i).size : Int) := by omega
            go_wp2_with fail
            go_meet
            case rel => exact ⟨_, rfl, rfl, fun h => by cases h⟩
        · have g1I : ¬ (i : Int) < (ns : Int) := by omega
          go_wp2_with fail
          go_meet
          case rel => exact ⟨_, rfl, rfl, fun h => by cases h⟩
      case rest =>
        obtain ⟨tb, rfl, hwc, htb⟩ := hcut
        have hwc := hwc.symm
        subst hwc
        have TB := Hid.mk htb
        clear htb
        go_upto_if 36 with fail
        go_cut [11] (fun v11 wx => ∃ b : Nat, v11 = .int .i64 b ∧ kmay co cs (x : Nat) (b : Nat) = true ∧ Below w2.heap.size w2 wx)
        case first =>
          cases tb
          · go_wp2_with fail
            go_meet
            case rel =>
              refine ⟨x, rfl, ?_, Below.refl _ _⟩
              rw [kmay_adj (free_lt PX.out)]
              exact adj_self PX.out
          · obtain ⟨g1, g2⟩ := TB.out rfl
            obtain ⟨bs, off, rfl, hsc⟩ := HST.out (by omega)
            have d1 := cell_later B02.out (hsc i g1)
            clear hsc
            have y20 := (B2.out.cell (p := ⟨w.heap.size, 0, none⟩) (by show w.heap.size < _; omega)).trans (Y1.out 0)
            have y21 := (B2.out.cell (p := ⟨w.heap.size, 1, none⟩) (by show w.heap.size < _; omega)).trans (Y1.out 1)
            have y22 := (B2.out.cell (p := ⟨w.heap.size, 2, none⟩) (by show w.heap.size < _; omega)).trans (Y1.out 2)
            have y23 := (B2.out.cell (p := ⟨w.heap.size, 3, none⟩) (by show w.heap.size < _; omega)).trans (Y1.out 3)
            have y24 := (B2.out.cell (p := ⟨w.heap.size, 4, none⟩) (by show w.heap.size < _; omega)).trans (Y1.out 4)
            simp only [List.getElem?_toArray, List.getElem?_cons_zero, List.getElem?_cons_succ] at y20 y21 y22 y23 y24
            have g1I : (i : Int) < (ns : Int) := by omega
            have g2I : (t : Int) < ((S i).size : Int) := by omega
            have g3I : (t : Int) + 1 ≤ ((S i).size : Int) := by omega
            have g4I : (t : Int) ≤ (t : Int) + 1 := by omega
            have g5I : (0 : Int) ≤ (t : Int) := by omega
            have hwt : IntKind.i64.wrap ((t : Int) + 1) = (t : Int) + 1 := by rw [IntKind.wrap_i64]; omega
            have hszx : ((S i).extract t (t + 1)).size = 1 := by rw [ByteArray.size_extract]; omega
            have hxN : x < cs.size := free_lt PX.out
            have WS : Hid (∀ u : World, Calls Tryd.prog 50 #[.agg #[.int .i64 ro, .int .i64 co, .string cs, .slice ac mc cc, .int .i64 bu], .int .i64 x, .string ((S i).extract t (t + 1))] u fun e w' => ∃ g cap y, e = .returned (.slice (some ⟨g, 0, none⟩) 2 cap) ∧ w'.cell? ⟨g, 1, none⟩ = some (.int .i64 (y : Nat)) ∧ kmay co cs (x : Nat) (y : Nat) = true ∧ Below u.heap.size u w') := fun u => by
              refine (walkS_any ro co bu x cs _ ac mc cc u hs h1 h2 hxN PX.out (by omega)).mono ?_
              rintro e w' ⟨v, he, g, cap, pp, hv, _, hc, ⟨hp0, hk⟩, hb⟩
              rw [hszx] at hv hc hk
              refine ⟨g, cap, pp 1, by rw [he, hv], hc 1 (Nat.le_refl 1), ?_, hb⟩
              have := hk 0 Nat.one_pos
              rw [hp0] at this
              exact this
            have hwz : w.heap.size < w2.heap.size := by omega
            have hgz : g0 < w2.heap.size := World.block_lt_of_cell? _ _ d0
            have hbz : bs < w2.heap.size := World.block_lt_of_cell? _ _ d1
            go_upto_region 7 with fail
            go_region_held3 (fun w' => w'.cell? ⟨w.heap.size, 0, none⟩ = some (.int .i64 ro) ∧ w'.cell? ⟨w.heap.size, 1, none⟩ = some (.int .i64 co) ∧ w'.cell? ⟨w.heap.size, 2, none⟩ = some (.string cs) ∧ w'.cell? ⟨w.heap.size, 3, none⟩ = some (.slice ac mc cc) ∧ w'.cell? ⟨w.heap.size, 4, none⟩ = some (.int .i64 bu) ∧ w'.cell? ⟨g0, i, none⟩ = some (.int .i64 (x : Nat)) ∧ w'.cell? ⟨bs, off + i, none⟩ = some (.string (S i))) (go_keep)
              (first
                | (go_at_call_of 50 (Value.int IntKind.i64 ro); refine (WS.out _).mono ?_; rintro e w4 ⟨g, cap, y, rfl, hyc, hky, hb4⟩; have q0 : w4.cell? ⟨w.heap.size, 0, none⟩ = some (.int .i64 ro) := (hb4.cell (p := ⟨w.heap.size, 0, none⟩) hwz).trans y20; have q1 : w4.cell? ⟨w.heap.size, 1, none⟩ = some (.int .i64 co) := (hb4.cell (p := ⟨w.heap.size, 1, none⟩) hwz).trans y21; have q2 : w4.cell? ⟨w.heap.size, 2, none⟩ = some (.string cs) := (hb4.cell (p := ⟨w.heap.size, 2, none⟩) hwz).trans y22; have q3 : w4.cell? ⟨w.heap.size, 3, none⟩ = some (.slice ac mc cc) := (hb4.cell (p := ⟨w.heap.size, 3, none⟩) hwz).trans y23; have q4 : w4.cell? ⟨w.heap.size, 4, none⟩ = some (.int .i64 bu) := (hb4.cell (p := ⟨w.heap.size, 4, none⟩) hwz).trans y24; have q5 : w4.cell? ⟨g0, i, none⟩ = some (.int .i64 (x : Nat)) := (hb4.cell (p := ⟨g0, i, none⟩) hgz).trans d0; have q6 : w4.cell? ⟨bs, off + i, none⟩ = some (.string (S i)) := (hb4.cell (p := ⟨bs, off + i, none⟩) hbz).trans d1; have HKY := Hid.mk hky; have B4 : Hid (Below w2.heap.size w2 w4) := (Below.refl _ w2).drew.trans (hb4.mono (Nat.le_refl _)); clear hky hb4))
            go_wp2_with fail
            go_meet
            case rel => exact ⟨y, rfl, HKY.out, B4.out⟩
        case rest =>
          obtain ⟨w3, rfl⟩ : ∃ q, q = wc := ⟨_, rfl⟩
          obtain ⟨b0, rfl, hkb, hb3⟩ := hcut
          have KB0 := Hid.mk hkb
          have hz3 := hb3.size
          have B13 : Hid (Below w1.heap.size w1 w3) := B2.out.trans (hb3.mono hz2)
          have OWN3 : Hid (OwnN w3 w1.heap.size V q) := OWN.out.below hb3
          clear hkb hb3 d0
          go_wp2_with fail
          go_loopw [11, 13] (fun v11 v13 wr => ∃ (b k : Nat), v11 = .int .i64 b ∧ v13 = .int .i64 k ∧ k ≤ m ∧ MoveB co cs i k p q b ∧ Below w3.heap.size w3 wr) (fun _ v13 _ => m - (intOf v13).toNat)
          case atStart => exact ⟨b0, 0, rfl, rfl, Nat.zero_le _, MoveB.start (by rw [← HX.out]; exact KB0.out), Below.refl _ _⟩
          case round =>
            obtain ⟨w4, rfl⟩ : ∃ q, q = wr := ⟨_, rfl⟩
            obtain ⟨b, k, rfl, rfl, hk, hmb, hb4⟩ := hrel
            have MB := Hid.mk hmb
            have B4 := Hid.mk hb4
            have hz4 := hb4.size
            have B14 : Hid (Below w1.heap.size w1 w4) := B13.out.trans (hb4.mono (by omega))
            have B04 : Hid (Below w.heap.size w w4) := B1.out.trans (B14.out.mono (by omega))
            have OWN4 : Hid (OwnN w4 w1.heap.size V q) := OWN3.out.below hb4
            clear hmb hb4
            have MW : Hid (∀ k', k' ≤ m → MoveB co cs i k' p q x) := fun k' hk' => by rw [HX.out]; exact MoveB.wait HP.out hlt hk' MT.out
            by_cases hltk : k < m
            · have hkI : (k : Int) < (m : Int) := by omega
              have c0 := cell_later B04.out (HC0.out i hlt)
              have c1 := cell_later B04.out (HC0.out k hltk)
              rw [← HX.out] at c0
              obtain ⟨z, hz⟩ : ∃ z, z = p.getD k 0 := ⟨_, rfl⟩
              rw [← hz] at c1
              have HZ := Hid.mk hz
              clear hz
              rcases Nat.lt_trichotomy k i with e | e | e
              · have e1 : (k : Int) < (i : Int) := by omega
                have e1b : decide ((k : Int) < (i : Int)) = true := by simp; omega
                have e2b : decide ((i : Int) < (k : Int)) = false := by simp; omega
                have e1n : decide (k < i) = true := by simp; omega
                have e2n : decide (i < k) = false := by simp; omega
                have hql : Hid (k < q.length) := by unfold Hid; omega
                obtain ⟨aV, cV, hV, haV, _⟩ := OWN4.out.form
                obtain ⟨gV, rfl⟩ := haV (by have := hql.out; omega)
                subst hV
                have c2 := OWN4.out.cell hql.out
                obtain ⟨y, hy⟩ : ∃ y, y = q.getD k 0 := ⟨_, rfl⟩
                rw [← hy] at c2
                have HY := Hid.mk hy
                have i1 : (k : Int) < (q.length : Int) := by have := hql.out; omega
                have i1n : k < q.length := hql.out
                have hyx : y ≠ x := by rw [hy, HX.out]; exact MT.out.behind k i e e hlt
                have hyxb : ((y : Int) == (x : Int)) = false := by simp; omega
                clear hy haV hyx
                by_cases f : y = b
                · have fb : ((y : Int) == (b : Int)) = true := by simp [f]
                  have F := Hid.mk f
                  clear f
                  go_wp2_with fail
                  go_quiet (fail)
                  go_wp2_with fail
                  go_roundw
                  case rel => exact ⟨x, k + 1, rfl, by go_num, by omega, MW.out _ (by omega), below_drewN B4.out _⟩
                  case measure => simp [intOf]; omega
                · have fb : ((y : Int) == (b : Int)) = false := by simp; omega
                  have F := Hid.mk f
                  clear f
                  go_wp2_with fail
                  go_quiet (fail)
                  go_wp2_with fail
                  go_roundw
                  case rel => exact ⟨b, k + 1, rfl, by go_num, by omega, MB.out.next (fun _ => by rw [← HY.out]; exact F.out) (fun h => by omega), below_drewN B4.out _⟩
                  case measure => simp [intOf]; omega
              · have e1 : ¬ (k : Int) < (i : Int) := by omega
                have e2 : ¬ (i : Int) < (k : Int) := by omega
                have e1b : decide ((k : Int) < (i : Int)) = false := by simp; omega
                have e2b : decide ((i : Int) < (k : Int)) = false := by simp; omega
                have e1n : decide (k < i) = false := by simp; omega
                have e2n : decide (i < k) = false := by simp; omega
                have E := Hid.mk e
                clear e
                go_wp2_with fail
                go_quiet (fail)
                go_wp2_with fail
                go_roundw
                case rel => exact ⟨b, k + 1, rfl, by go_num, by omega, MB.out.next (fun h => by have := E.out; omega) (fun h => by have := E.out; omega), below_drewN B4.out _⟩
                case measure => simp [intOf]; omega
              · have e1 : ¬ (k : Int) < (i : Int) := by omega
                have e2 : (i : Int) < (k : Int) := by omega
                have e1b : decide ((k : Int) < (i : Int)) = false := by simp; omega
                have e2b : decide ((i : Int) < (k : Int)) = true := by simp; omega
                have e1n : decide (k < i) = false := by simp; omega
                have e2n : decide (i < k) = true := by simp; omega
                by_cases f : z = b
                · have fb : ((z : Int) == (b : Int)) = true := by simp [f]
                  have F := Hid.mk f
                  clear f
                  go_wp2_with fail
                  go_quiet (fail)
                  go_wp2_with fail
                  go_roundw
                  case rel => exact ⟨x, k + 1, rfl, by go_num, by omega, MW.out _ (by omega), below_drewN B4.out _⟩
                  case measure => simp [intOf]; omega
                · have fb : ((z : Int) == (b : Int)) = false := by simp; omega
                  have F := Hid.mk f
                  clear f
                  go_wp2_with fail
                  go_quiet (fail)
                  go_wp2_with fail
                  go_roundw
                  case rel => exact ⟨b, k + 1, rfl, by go_num, by omega, MB.out.next (fun h => by omega) (fun _ => by rw [← HZ.out]; exact F.out), below_drewN B4.out _⟩
                  case measure => simp [intOf]; omega
            · have hd : k = m := by omega
              subst hd
              have hkI : ¬ (k : Int) < (k : Int) := by omega
              have hb14 : w1.heap.size ≤ w4.heap.size := by omega
              have LN : Hid (q.length ≤ 100000000) := by unfold Hid; omega
              have HV : Hid (∀ g, V.ownBlock = some g → w1.heap.size ≤ g) := fun g hg => (OWN4.out.lt g hg).1
              go_wp2_with (at_builtin; go_must (refine wpList_pushN rfl _ _ rfl w1.heap.size V q b rfl OWN4.out (by exact hb14) _ rfl LN.out ?_; intro g5 c5 w6 ho5 hon5 hat5))
              go_roundw
              case rel => exact ⟨i + 1, q ++ [b], _, rfl, by go_num, by omega, MoveB.add MT.out MB.out hlt, (by have h := ho5; rw [show (q ++ [b]).length = i + 1 by simp; exact ql] at h; exact h), below_only B14.out hon5 hb14 HV.out⟩
              case measure => simp [intOf]; omega
    · have hd : i = m := by omega
      subst hd
      have hkI : ¬ (i : Int) < (i : Int) := by omega
      go_wp2_with fail
      go_ret
      exact ⟨V, rfl, q, MT.out.done, OWN.out.le (by omega), B02.out⟩

end Go.Proofs.YtnkgpinadgacgabDoor
