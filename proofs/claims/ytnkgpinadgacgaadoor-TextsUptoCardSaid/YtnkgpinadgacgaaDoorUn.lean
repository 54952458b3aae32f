/- bothCarts: two lists of the calls' own, each written over, share no room. -/
import Derived.Test.YtnkgpinadgacgaaDoorUm
import Derived.Deep.QuietTactic
import Derived.BigQuiet
namespace Go.Proofs.YtnkgpinadgacgaaDoor
open Go.RowKit M

/-- The first k carts are all one. -/
def filled2 (p : Int) (k : Nat) (xs : List Value) : Prop := ∀ i, i < k * 2 → xs[i]? = some (.int .i64 p)

theorem fill2_step {p : Int} {k : Nat} {xs : List Value} (h : filled2 p k xs) (hl : k * 2 + 1 < xs.length) :
    filled2 p (k + 1) ((xs.set (k * 2) (.int .i64 p)).set (k * 2 + 1) (.int .i64 p)) := by
  intro i hi
  simp only [List.getElem?_set, List.length_set]
  by_cases e1 : k * 2 + 1 = i
  · rw [if_pos e1, if_pos (by omega)]
  · rw [if_neg e1]
    by_cases e0 : k * 2 = i
    · rw [if_pos e0, if_pos (by omega)]
    · rw [if_neg e0]
      exact h i (by omega)

/-- So many carts, all one. -/
def reps (p : Int) (n : Nat) : List Value := cartCells (fun _ => p) (fun _ => p) n

theorem fill2_done {p : Int} {n : Nat} {xs : List Value} (h : filled2 p n xs) (hl : xs.length = n * 2) : xs = reps p n := by
  apply List.ext_getElem?
  intro i
  by_cases hi : i < n * 2
  · rw [h i hi]
    obtain ⟨d1, d2⟩ := cartCells_at (fr := fun _ => p) (tt := fun _ => p) (m := n) (i := i / 2) (by omega)
    rcases (show i % 2 = 0 ∨ i % 2 = 1 by omega) with hm | hm
    · rw [show i / 2 * 2 = i by omega] at d1; exact d1.symm
    · rw [show i / 2 * 2 + 1 = i by omega] at d2; exact d2.symm
  · rw [List.getElem?_eq_none (by omega), List.getElem?_eq_none (by unfold reps; rw [cartCells_len]; omega)]

theorem reps_at {p : Int} {n i : Nat} (hi : i < n) : (reps p n)[i * 2]? = some (.int .i64 p) ∧ (reps p n)[i * 2 + 1]? = some (.int .i64 p) := cartCells_at (fr := fun _ => p) (tt := fun _ => p) hi

theorem own_cellT {w : World} {base n g cap : Nat} {e : TypeId} {size : Nat} {xs : List Value} (h : w.ownsRow base e size (.slice (some ⟨g, 0, none⟩) n cap) n xs) {i : Nat} (hi : i < n * size) : w.cell? ⟨g, i, none⟩ = xs[i]? := by
  rcases h.2 with ⟨h0, _⟩ | ⟨g', cap', cur, hv', hg, hh, hn, hc, hs, ht⟩
  · cases h0
  · cases hv'
    rw [← ht, List.getElem?_take, if_pos hi, Array.getElem?_toList]
    simp [World.cell?, hh]

theorem own_fzT {w : World} {base n g cap : Nat} {e : TypeId} {size : Nat} {xs : List Value} (h : w.ownsRow base e size (.slice (some ⟨g, 0, none⟩) n cap) n xs) (o : Nat) : w.frozen? ⟨g, o, none⟩ = false := by
  rcases h.2 with ⟨h0, _⟩ | ⟨g', cap', cur, hv', hg, hh, hn, hc, hs, ht⟩
  · cases h0
  · cases hv'
    simp [World.frozen?, hh]

theorem own_setT {w : World} {base n g cap i : Nat} {e : TypeId} {size : Nat} {xs : List Value} {v : Value} (h : w.ownsRow base e size (.slice (some ⟨g, 0, none⟩) n cap) n xs) : (w.setCell ⟨g, i, none⟩ v).ownsRow base e size (.slice (some ⟨g, 0, none⟩) n cap) n (xs.set i v) := by
  rcases h.2 with ⟨h0, _⟩ | ⟨g', cap', cur, hv', hg, hh, hn, hc, hs, ht⟩
  · cases h0
  · cases hv'
    refine ⟨by rw [List.length_set]; exact h.1, .inr ⟨g, cap, cur.setIfInBounds i v, rfl, hg, ?_, hn, hc, by rw [Array.size_setIfInBounds]; exact hs, ?_⟩⟩
    · simp [World.setCell, Array.getElem?_modify, hh]
    · rw [Array.toList_setIfInBounds, List.take_set, ht]

set_option maxRecDepth 100000 in
/-- A cart is pushed: what else has turned. -/
theorem wpList_pushCO {w0 : World} {ops : Array Oper} {rest : List Oper} {o : Oper} {a : Act} {Q : Exit → Act → World → Prop} (hgd : o.guard = none) (s x : Operand)
    (ho : o.op = .call { callee := .builtin .append, args := #[s, x], argTypes := #[22, 22] })
    (base n : Nat) (v : Value) (p : Int) (hs : a.eval s = v) (hown : w0.ownsRow base 87 2 v n (reps p n)) (hbase : base ≤ w0.heap.size) (c : Nat)
    (hx : a.eval x = .slice (some ⟨w0.heap.size, 0, none⟩) 1 c) (hF : n ≤ 100000000)
    (h : ∀ g cap w', w'.ownsRow base 87 2 (.slice (some ⟨g, 0, none⟩) (n + 1) cap) (n + 1) (reps p (n + 1)) → Only (fun k => v.ownBlock = some k) w0 w' → (v.ownBlock = some g ∨ w0.heap.size ≤ g) → wpList Tryd.prog ops Q rest (a.put o.dst (.slice (some ⟨g, 0, none⟩) (n + 1) cap)) w') :
    wpList Tryd.prog ops Q (o :: rest) a (w0.alloc (.cells #[.int .i64 p, .int .i64 p] 87)) := by
  obtain ⟨i0, hi0, hi1, hi2, hi3⟩ := info_parts Tryd.infoCartT
  have hown1 := own_later hown ((Below.refl _ w0).alloc (Nat.le_refl _) (.cells #[.int .i64 p, .int .i64 p] 87))
  refine wpList_append_lies _ hgd s x _ ho base 87 i0 _ 2 16 Tryd.underlying22 hi0 hi1 hi2 hi3 rfl (by omega) v n (reps p n) hs hown1 _ 1 c [.int .i64 p, .int .i64 p] hx rfl (cell_two_new0 w0 _ _ _) (two_oneCell _ _) (by omega) (by unfold maxLen; omega) (by omega) (by simp; omega) (w0.heap.size + 1) (by simp) ?_
  intro g cap w' ho9 hg9 hl9 _
  refine h g cap w' ho9 ?_ (hl9.imp id (fun e => by omega))
  refine ⟨hg9.os, hg9.tape, hg9.output, Nat.le_trans (by simp) hg9.size, fun k hk hn => ?_⟩
  rw [hg9.block k (by simp; omega) (fun e => hn e.symm)]
  exact Below.heap_alloc _ _ _ hk

set_option maxRecDepth 100000 in
set_option maxHeartbeats 4000000 in
theorem bothCarts_any (B : Nat) (aa ac : Option Addr) (n m ca cc : Nat) (xa xc : List Value) (w : World) (hF : n ≤ 99999999) (hG : m ≤ 99999999) (hB : B ≤ w.heap.size) (ha : w.ownsRow B 87 2 (.slice aa n ca) n xa) (hc : w.ownsRow B 87 2 (.slice ac m cc) m xc) (hd : ∀ k, (Value.slice aa n ca).ownBlock = some k → (Value.slice ac m cc).ownBlock ≠ some k) :
    Calls Tryd.prog 46 #[.slice aa n ca, .slice ac m cc] w fun e w' => e = .returned (.bool true) ∧ Only (fun k => (Value.slice aa n ca).ownBlock = some k ∨ (Value.slice ac m cc).ownBlock = some k) w w' := by
  have OA := Hid.mk ha
  have OC := Hid.mk hc
  have DIS := Hid.mk hd
  have LA : Hid (∀ k, (Value.slice aa n ca).ownBlock = some k → k < w.heap.size ∧ B ≤ k) := Hid.mk fun k hk => ⟨(OA.out.lt k hk).2, (OA.out.lt k hk).1⟩
  have LC : Hid (∀ k, (Value.slice ac m cc).ownBlock = some k → k < w.heap.size ∧ B ≤ k) := Hid.mk fun k hk => ⟨(OC.out.lt k hk).2, (OC.out.lt k hk).1⟩
  clear ha hc hd
  go_enter Tryd.func46, Tryd.ntmps46
  go_wp2
  have B0 : Hid (Below w.heap.size w ((w.alloc (Obj.cells #[.int .i64 (-9), .int .i64 (-9)] 87)).alloc (Obj.cells #[.int .i64 (-10), .int .i64 (-10)] 87))) := Hid.mk (((Below.refl _ w).alloc (Nat.le_refl _) _).alloc (by simp) _)
  have x0 : ∀ o, ((w.alloc (Obj.cells #[.int .i64 (-9), .int .i64 (-9)] 87)).alloc (Obj.cells #[.int .i64 (-10), .int .i64 (-10)] 87)).cell? ⟨w.heap.size, o, none⟩ = #[Value.int .i64 (-9), .int .i64 (-9)][o]? := by
    intro o; go_simp
  have x1 : ∀ o, ((w.alloc (Obj.cells #[.int .i64 (-9), .int .i64 (-9)] 87)).alloc (Obj.cells #[.int .i64 (-10), .int .i64 (-10)] 87)).cell? ⟨w.heap.size + 1, o, none⟩ = #[Value.int .i64 (-10), .int .i64 (-10)][o]? := by
    intro o; go_simp
  have hz0 : ((w.alloc (Obj.cells #[.int .i64 (-9), .int .i64 (-9)] 87)).alloc (Obj.cells #[.int .i64 (-10), .int .i64 (-10)] 87)).heap.size = w.heap.size + 2 := by simp
  generalize ((w.alloc (Obj.cells #[.int .i64 (-9), .int .i64 (-9)] 87)).alloc (Obj.cells #[.int .i64 (-10), .int .i64 (-10)] 87)) = w0 at *
  have X0 := Hid.mk x0
  have X1 := Hid.mk x1
  have HZ := Hid.mk hz0
  have OA0 := Hid.mk (own_later OA.out B0.out)
  have OC0 := Hid.mk (own_later OC.out B0.out)
  clear x0 x1 hz0
  go_loopw [7] (fun v7 wr => ∃ (k : Nat) (xs : List Value), k ≤ n ∧ v7 = .int .i64 k ∧ wr.ownsRow B 87 2 (.slice aa n ca) n xs ∧ filled2 (-9) k xs ∧ Only (fun j => (Value.slice aa n ca).ownBlock = some j) w0 wr) (fun v7 _ => n - (intOf v7).toNat)
  case atStart => exact ⟨0, _, Nat.zero_le _, rfl, OA0.out, fun i hi => absurd hi (by omega), Only.refl _ _⟩
  case round =>
    obtain ⟨k, xs, hk, rfl, hown, hfill, honly⟩ := hrel
    have OWN := Hid.mk hown
    have FILL := Hid.mk hfill
    have ON := Hid.mk honly
    by_cases hlt : k < n
    · have hg : ∃ ga, aa = some ⟨ga, 0, none⟩ := by
        rcases hown.2 with ⟨h0, h1⟩ | ⟨g, cap', cur, hv, _⟩
        · omega
        · cases hv; exact ⟨g, rfl⟩
      obtain ⟨ga, rfl⟩ := hg
      have hl := hown.1
      have a0 := own_cellT hown (i := k * 2) (by omega)
      have a1 := own_cellT hown (i := k * 2 + 1) (by omega)
      rw [List.getElem?_eq_getElem (by omega)] at a0 a1
      obtain ⟨u0, hu0⟩ : ∃ u, u = xs[k * 2]'(by omega) := ⟨_, rfl⟩
      obtain ⟨u1, hu1⟩ : ∃ u, u = xs[k * 2 + 1]'(by omega) := ⟨_, rfl⟩
      rw [← hu0] at a0
      rw [← hu1] at a1
      have fz := own_fzT hown
      have hgl := (LA.out ga rfl).1
      have hne : ¬ (Value.slice (some ⟨ga, 0, none⟩) n ca).ownBlock = some w.heap.size := fun e => by have := (LA.out _ e).1; omega
      have y : ∀ o, wr.cell? ⟨w.heap.size, o, none⟩ = #[Value.int .i64 (-9), .int .i64 (-9)][o]? := fun o => (honly.cell (p := ⟨w.heap.size, o, none⟩) (by show w.heap.size < w0.heap.size; have := HZ.out; omega) hne).trans (X0.out o)
      have NEW : Hid (((wr.setCell ⟨ga, k * 2, none⟩ (.int .i64 (-9))).setCell ⟨ga, k * 2 + 1, none⟩ (.int .i64 (-9))).ownsRow B 87 2 (.slice (some ⟨ga, 0, none⟩) n ca) n ((xs.set (k * 2) (.int .i64 (-9))).set (k * 2 + 1) (.int .i64 (-9)))) := Hid.mk (own_setT (own_setT hown))
      have FILL2 := Hid.mk (fill2_step hfill (by omega))
      have ON2 : Hid (Only (fun j => (Value.slice (some ⟨ga, 0, none⟩) n ca).ownBlock = some j) w0 ((wr.setCell ⟨ga, k * 2, none⟩ (.int .i64 (-9))).setCell ⟨ga, k * 2 + 1, none⟩ (.int .i64 (-9)))) := Hid.mk ((honly.setCell (p := ⟨ga, k * 2, none⟩) (fun _ => rfl) _).setCell (p := ⟨ga, k * 2 + 1, none⟩) (fun _ => rfl) _)
      clear hown hfill honly hu0 hu1 hl hne
      have hnew : ga ≠ w.heap.size := by omega
      go_wp2
      go_roundw
      case rel => exact ⟨k + 1, _, by omega, by go_num, NEW.out, FILL2.out, ON2.out⟩
      case measure => simp [intOf]; omega
    · have hd : k = n := by omega
      have OWN2 : Hid (wr.ownsRow B 87 2 (.slice aa n ca) n (reps (-9) n)) := by
        have e := fill2_done (by rw [hd] at hfill; exact hfill) hown.1
        rw [← e]
        exact Hid.mk hown
      have ONW : Hid (Only (fun j => (Value.slice aa n ca).ownBlock = some j) w0 wr) := Hid.mk honly
      have hbs : Hid (B ≤ wr.heap.size) := by have := honly.size; have := HZ.out; unfold Hid; omega
      have y : ∀ o, wr.cell? ⟨w.heap.size, o, none⟩ = #[Value.int .i64 (-9), .int .i64 (-9)][o]? := fun o => (honly.cell (p := ⟨w.heap.size, o, none⟩) (by show w.heap.size < w0.heap.size; have := HZ.out; omega) (fun e => absurd (LA.out w.heap.size e).1 (by omega))).trans (X0.out o)
      have hzr : w.heap.size < wr.heap.size := by have := honly.size; have := HZ.out; omega
      have HLR : Hid (n ≤ 100000000) := by unfold Hid; omega
      clear hown hfill honly hd OWN FILL ON
      obtain ⟨wa, rfl⟩ : ∃ q, q = wr := ⟨_, rfl⟩
      go_wp2_with (at_builtin; go_must (refine wpList_pushCO rfl _ _ rfl B n (.slice aa n ca) (-9) rfl OWN2.out hbs.out _ rfl HLR.out ?_; intro gx cx w1 hown1 hon1 hl1))
      have OX := Hid.mk hown1
      have ON1 : Hid (Only (fun j => (Value.slice aa n ca).ownBlock = some j) w0 w1) := Hid.mk (ONW.out.trans hon1 (fun i _ h => h))
      have GX : Hid ((Value.slice aa n ca).ownBlock = some gx ∨ w0.heap.size ≤ gx) := Hid.mk (hl1.imp id (fun e => Nat.le_trans ONW.out.size e))
      have OC1 : Hid (w1.ownsRow B 87 2 (.slice ac m cc) m xc) := Hid.mk (own_keep OC0.out (fun g _ hg hv => ON1.out.block g hg (fun e => DIS.out g e hv)))
      have GXC : Hid (∀ k, (Value.slice ac m cc).ownBlock = some k → k ≠ gx) := Hid.mk fun k hk e => by
        subst e
        rcases GX.out with h | h
        · exact DIS.out k h hk
        · have := (LC.out k hk).1; have := HZ.out; omega
      have HGX : Hid (gx < w1.heap.size) := Hid.mk (OX.out.lt gx rfl).2
      clear hown1 hon1 hl1 y hzr OWN2 ONW hbs HLR
      go_wp2
      go_loopw [9] (fun v9 wr => ∃ (k : Nat) (xs : List Value), k ≤ m ∧ v9 = .int .i64 k ∧ wr.ownsRow B 87 2 (.slice ac m cc) m xs ∧ filled2 (-10) k xs ∧ Only (fun j => (Value.slice ac m cc).ownBlock = some j) w1 wr) (fun v9 _ => m - (intOf v9).toNat)
      case atStart => exact ⟨0, _, Nat.zero_le _, rfl, OC1.out, fun i hi => absurd hi (by omega), Only.refl _ _⟩
      case round =>
        obtain ⟨k2, xs, hk2, rfl, hown, hfill, honly⟩ := hrel
        have OWN := Hid.mk hown
        have z1 : w0.heap.size ≤ w1.heap.size := ON1.out.size
        have xb1 : ∀ o, w1.cell? ⟨w.heap.size + 1, o, none⟩ = #[Value.int .i64 (-10), .int .i64 (-10)][o]? := fun o => (ON1.out.cell (p := ⟨w.heap.size + 1, o, none⟩) (by show w.heap.size + 1 < w0.heap.size; have := HZ.out; omega) (fun e => absurd (LA.out (w.heap.size + 1) e).1 (by omega))).trans (X1.out o)
        have y : ∀ o, wr.cell? ⟨w.heap.size + 1, o, none⟩ = #[Value.int .i64 (-10), .int .i64 (-10)][o]? := fun o => (honly.cell (p := ⟨w.heap.size + 1, o, none⟩) (by show w.heap.size + 1 < w1.heap.size; have := HZ.out; omega) (fun e => absurd (LC.out (w.heap.size + 1) e).1 (by omega))).trans (xb1 o)
        clear xb1
        by_cases hlt2 : k2 < m
        · have hg : ∃ gc, ac = some ⟨gc, 0, none⟩ := by
            rcases hown.2 with ⟨h0, h1⟩ | ⟨g, cap', cur, hv, _⟩
            · omega
            · cases hv; exact ⟨g, rfl⟩
          obtain ⟨gc, rfl⟩ := hg
          have hl := hown.1
          have a0 := own_cellT hown (i := k2 * 2) (by omega)
          have a1 := own_cellT hown (i := k2 * 2 + 1) (by omega)
          rw [List.getElem?_eq_getElem (by omega)] at a0 a1
          obtain ⟨u0, hu0⟩ : ∃ u, u = xs[k2 * 2]'(by omega) := ⟨_, rfl⟩
          obtain ⟨u1, hu1⟩ : ∃ u, u = xs[k2 * 2 + 1]'(by omega) := ⟨_, rfl⟩
          rw [← hu0] at a0
          rw [← hu1] at a1
          have fz := own_fzT hown
          have hgl := (LC.out gc rfl).1
          have NEW : Hid (((wr.setCell ⟨gc, k2 * 2, none⟩ (.int .i64 (-10))).setCell ⟨gc, k2 * 2 + 1, none⟩ (.int .i64 (-10))).ownsRow B 87 2 (.slice (some ⟨gc, 0, none⟩) m cc) m ((xs.set (k2 * 2) (.int .i64 (-10))).set (k2 * 2 + 1) (.int .i64 (-10)))) := Hid.mk (own_setT (own_setT hown))
          have FILL2 := Hid.mk (fill2_step hfill (by omega))
          have ON2 : Hid (Only (fun j => (Value.slice (some ⟨gc, 0, none⟩) m cc).ownBlock = some j) w1 ((wr.setCell ⟨gc, k2 * 2, none⟩ (.int .i64 (-10))).setCell ⟨gc, k2 * 2 + 1, none⟩ (.int .i64 (-10)))) := Hid.mk ((honly.setCell (p := ⟨gc, k2 * 2, none⟩) (fun _ => rfl) _).setCell (p := ⟨gc, k2 * 2 + 1, none⟩) (fun _ => rfl) _)
          clear hown hfill honly hu0 hu1 hl
          have hnew : gc ≠ w.heap.size + 1 := by omega
          go_wp2
          go_roundw
          case rel => exact ⟨k2 + 1, _, by omega, by go_num, NEW.out, FILL2.out, ON2.out⟩
          case measure => simp [intOf]; omega
        · have hd : k2 = m := by omega
          have OWN2 : Hid (wr.ownsRow B 87 2 (.slice ac m cc) m (reps (-10) m)) := by
            have e := fill2_done (by rw [hd] at hfill; exact hfill) hown.1
            rw [← e]
            exact Hid.mk hown
          have ONW : Hid (Only (fun j => (Value.slice ac m cc).ownBlock = some j) w1 wr) := Hid.mk honly
          have hbs : Hid (B ≤ wr.heap.size) := by have := honly.size; have := HZ.out; unfold Hid; omega
          have hzr : w.heap.size + 1 < wr.heap.size := by have := honly.size; have := HZ.out; omega
          have HLR : Hid (m ≤ 100000000) := by unfold Hid; omega
          clear hown hfill honly hd OWN
          obtain ⟨wb, rfl⟩ : ∃ q, q = wr := ⟨_, rfl⟩
          go_wp2_with (at_builtin; go_must (refine wpList_pushCO rfl _ _ rfl B m (.slice ac m cc) (-10) rfl OWN2.out hbs.out _ rfl HLR.out ?_; intro gy cy w2 hown1 hon1 hl1))
          have OY := Hid.mk hown1
          have ON2 : Hid (Only (fun j => (Value.slice ac m cc).ownBlock = some j) w1 w2) := Hid.mk (ONW.out.trans hon1 (fun i _ h => h))
          have OX2 : Hid (w2.ownsRow B 87 2 (.slice (some ⟨gx, 0, none⟩) (n + 1) cx) (n + 1) (reps (-9) (n + 1))) := Hid.mk (own_keep OX.out (fun g _ hg hv => ON2.out.block g hg (fun e => GXC.out g e (by simp [Value.ownBlock] at hv; exact hv.symm))))
          have OAC : Hid (Only (fun k => (Value.slice aa n ca).ownBlock = some k ∨ (Value.slice ac m cc).ownBlock = some k) w w2) := Hid.mk (((Only.of_below (S := fun k => (Value.slice aa n ca).ownBlock = some k ∨ (Value.slice ac m cc).ownBlock = some k) B0.out).trans ON1.out (fun i _ h => .inl h)).trans ON2.out (fun i _ h => .inr h))
          have y0 : ∀ o, w2.cell? ⟨w.heap.size, o, none⟩ = #[Value.int .i64 (-9), .int .i64 (-9)][o]? := fun o => (ON2.out.cell (p := ⟨w.heap.size, o, none⟩) (by show w.heap.size < w1.heap.size; have := HZ.out; omega) (fun e => absurd (LC.out w.heap.size e).1 (by omega))).trans ((ON1.out.cell (p := ⟨w.heap.size, o, none⟩) (by show w.heap.size < w0.heap.size; have := HZ.out; omega) (fun e => absurd (LA.out w.heap.size e).1 (by omega))).trans (X0.out o))
          have y1 : ∀ o, w2.cell? ⟨w.heap.size + 1, o, none⟩ = #[Value.int .i64 (-10), .int .i64 (-10)][o]? := fun o => (ON2.out.cell (p := ⟨w.heap.size + 1, o, none⟩) (by show w.heap.size + 1 < w1.heap.size; have := HZ.out; omega) (fun e => absurd (LC.out (w.heap.size + 1) e).1 (by omega))).trans ((ON1.out.cell (p := ⟨w.heap.size + 1, o, none⟩) (by show w.heap.size + 1 < w0.heap.size; have := HZ.out; omega) (fun e => absurd (LA.out (w.heap.size + 1) e).1 (by omega))).trans (X1.out o))
          have Y0 := Hid.mk y0
          have Y1 := Hid.mk y1
          have z2 : w.heap.size + 2 ≤ w2.heap.size := by have := ON2.out.size; have := HZ.out; omega
          clear hown1 hon1 hl1 y y0 y1 hzr OWN2 ONW hbs HLR OX z1
          go_wp2
          go_loopw [11, 12] (fun v11 v12 wr => ∃ k : Nat, k ≤ n + 1 ∧ v11 = .bool true ∧ v12 = .int .i64 k ∧ Below w2.heap.size w2 wr) (fun _ v12 _ => n + 1 - (intOf v12).toNat)
          case atStart => exact ⟨0, Nat.zero_le _, rfl, rfl, Below.refl _ _⟩
          case round =>
            obtain ⟨k3, hk3, rfl, rfl, hbr⟩ := hrel
            have BR := Hid.mk hbr
            by_cases hlt3 : k3 < n + 1
            · obtain ⟨r0, r1⟩ := reps_at (p := -9) hlt3
              have d0 := cell_later hbr ((own_cellT OX2.out (i := k3 * 2) (by omega)).trans r0)
              have d1 := cell_later hbr ((own_cellT OX2.out (i := k3 * 2 + 1) (by omega)).trans r1)
              have y : ∀ o, wr.cell? ⟨w.heap.size, o, none⟩ = #[Value.int .i64 (-9), .int .i64 (-9)][o]? := fun o => (hbr.cell (p := ⟨w.heap.size, o, none⟩) (by show w.heap.size < w2.heap.size; omega)).trans (Y0.out o)
              have q0 := y 0
              have q1 := y 1
              simp only [List.getElem?_toArray, List.getElem?_cons_zero, List.getElem?_cons_succ] at q0 q1
              clear r0 r1 hbr y
              go_wp2_with fail
              go_quiet (fail)
              go_wp2
              go_roundw
              case rel => exact ⟨k3 + 1, by omega, rfl, by go_num, below_drewN BR.out _⟩
              case measure => simp [intOf]; omega
            · obtain ⟨wd, rfl⟩ : ∃ q, q = wr := ⟨_, rfl⟩
              clear hbr
              go_wp2
              go_loopw [11, 13] (fun v11 v13 wr => ∃ k : Nat, k ≤ m + 1 ∧ v11 = .bool true ∧ v13 = .int .i64 k ∧ Below w2.heap.size w2 wr) (fun _ v13 _ => m + 1 - (intOf v13).toNat)
              case atStart => exact ⟨0, Nat.zero_le _, rfl, rfl, BR.out⟩
              case round =>
                obtain ⟨k4, hk4, rfl, rfl, hbr⟩ := hrel
                have BR4 := Hid.mk hbr
                by_cases hlt4 : k4 < m + 1
                · obtain ⟨r0, r1⟩ := reps_at (p := -10) hlt4
                  have d0 := cell_later hbr ((own_cellT OY.out (i := k4 * 2) (by omega)).trans r0)
                  have d1 := cell_later hbr ((own_cellT OY.out (i := k4 * 2 + 1) (by omega)).trans r1)
                  have y : ∀ o, wr.cell? ⟨w.heap.size + 1, o, none⟩ = #[Value.int .i64 (-10), .int .i64 (-10)][o]? := fun o => (hbr.cell (p := ⟨w.heap.size + 1, o, none⟩) (by show w.heap.size + 1 < w2.heap.size; omega)).trans (Y1.out o)
                  have q0 := y 0
                  have q1 := y 1
                  simp only [List.getElem?_toArray, List.getElem?_cons_zero, List.getElem?_cons_succ] at q0 q1
                  clear r0 r1 hbr y
                  go_wp2_with fail
                  go_quiet (fail)
                  go_wp2
                  go_roundw
                  case rel => exact ⟨k4 + 1, by omega, rfl, by go_num, below_drewN BR4.out _⟩
                  case measure => simp [intOf]; omega
                · clear hbr
                  have OF : Hid (Only (fun k => (Value.slice aa n ca).ownBlock = some k ∨ (Value.slice ac m cc).ownBlock = some k) w wr) := Hid.mk (OAC.out.trans (Only.of_below (S := fun _ => False) BR4.out) (fun _ _ h => h.elim))
                  go_wp2
                  go_ret
                  exact ⟨rfl, OF.out⟩

end Go.Proofs.YtnkgpinadgacgaaDoor
