/- Walk of bothFaults: do two answers of Judge share no room? -/
import Derived.Test.YtnkgpinadgacgaaDoorCl
namespace Go.Proofs.YtnkgpinadgacgaaDoor
open Go.RowKit M

/-- The first k elements are all one fault. -/
def filled4 (m : FaultM) (k : Nat) (xs : List Value) : Prop := ∀ i, i < k * 4 → xs[i]? = (fcell m)[i % 4]?

theorem fill_step {l c o a : Int} {k : Nat} {xs : List Value} (h : filled4 ⟨l, c, o, a⟩ k xs) (hl : k * 4 + 3 < xs.length) :
    filled4 ⟨l, c, o, a⟩ (k + 1) ((((xs.set (k * 4) (.int .i64 l)).set (k * 4 + 1) (.int .i64 c)).set (k * 4 + 2) (.int .i64 o)).set (k * 4 + 3) (.int .i64 a)) := by
  intro i hi
  simp only [List.getElem?_set, List.length_set]
  by_cases e3 : k * 4 + 3 = i
  · rw [if_pos e3, if_pos (by omega), show i % 4 = 3 by omega]; rfl
  · rw [if_neg e3]
    by_cases e2 : k * 4 + 2 = i
    · rw [if_pos e2, if_pos (by omega), show i % 4 = 2 by omega]; rfl
    · rw [if_neg e2]
      by_cases e1 : k * 4 + 1 = i
      · rw [if_pos e1, if_pos (by omega), show i % 4 = 1 by omega]; rfl
      · rw [if_neg e1]
        by_cases e0 : k * 4 = i
        · rw [if_pos e0, if_pos (by omega), show i % 4 = 0 by omega]; rfl
        · rw [if_neg e0]
          exact h i (by omega)

theorem fill_done {m : FaultM} {n : Nat} {xs : List Value} (h : filled4 m n xs) (hl : xs.length = n * 4) : xs = faultCells (List.replicate n m) := by
  apply List.ext_getElem?
  intro i
  by_cases hi : i < n * 4
  · rw [h i hi]
    have hq : i / 4 < (List.replicate n m).length := by rw [List.length_replicate]; omega
    obtain ⟨d1, d2, d3, d4⟩ := faultCells_at hq
    simp only [List.getElem_replicate] at d1 d2 d3 d4
    have hm : i % 4 = 0 ∨ i % 4 = 1 ∨ i % 4 = 2 ∨ i % 4 = 3 := by omega
    rcases hm with hm | hm | hm | hm
    · rw [show i / 4 * 4 = i by omega] at d1; rw [d1, hm]; rfl
    · rw [show i / 4 * 4 + 1 = i by omega] at d2; rw [d2, hm]; rfl
    · rw [show i / 4 * 4 + 2 = i by omega] at d3; rw [d3, hm]; rfl
    · rw [show i / 4 * 4 + 3 = i by omega] at d4; rw [d4, hm]; rfl
  · rw [List.getElem?_eq_none (by omega), List.getElem?_eq_none (by rw [faultCells_len, List.length_replicate]; omega)]

theorem own_cellS {w : World} {base n g cap : Nat} {e : TypeId} {size : Nat} {xs : List Value} (h : w.ownsRow base e size (.slice (some ⟨g, 0, none⟩) n cap) n xs) {i : Nat} (hi : i < n * size) : w.cell? ⟨g, i, none⟩ = xs[i]? := by
  rcases h.2 with ⟨h0, _⟩ | ⟨g', cap', cur, hv', hg, hh, hn, hc, hs, ht⟩
  · cases h0
  · cases hv'
    rw [← ht, List.getElem?_take, if_pos hi, Array.getElem?_toList]
    simp [World.cell?, hh]

theorem own_fzS {w : World} {base n g cap : Nat} {e : TypeId} {size : Nat} {xs : List Value} (h : w.ownsRow base e size (.slice (some ⟨g, 0, none⟩) n cap) n xs) (o : Nat) : w.frozen? ⟨g, o, none⟩ = false := by
  rcases h.2 with ⟨h0, _⟩ | ⟨g', cap', cur, hv', hg, hh, hn, hc, hs, ht⟩
  · cases h0
  · cases hv'
    simp [World.frozen?, hh]

/-- A fault is pushed: what else has turned. -/
theorem wpList_pushO {w0 : World} {ops : Array Oper} {rest : List Oper} {o : Oper} {a : Act} {Q : Exit → Act → World → Prop} (hgd : o.guard = none) (s x : Operand)
    (ho : o.op = .call { callee := .builtin .append, args := #[s, x], argTypes := #[53, 53] })
    (base : Nat) (v : Value) (F : List FaultM) (f : FaultM) (hs : a.eval s = v) (hown : OwnF w0 base v F) (hbase : base ≤ w0.heap.size) (c : Nat)
    (hx : a.eval x = .slice (some ⟨w0.heap.size, 0, none⟩) 1 c) (hF : F.length ≤ 100000000)
    (h : ∀ g cap w', OwnF w' base (.slice (some ⟨g, 0, none⟩) (F ++ [f]).length cap) (F ++ [f]) → Only (fun k => v.ownBlock = some k) w0 w' → (v.ownBlock = some g ∨ w0.heap.size ≤ g) → wpList Tryd.prog ops Q rest (a.put o.dst (.slice (some ⟨g, 0, none⟩) (F ++ [f]).length cap)) w') :
    wpList Tryd.prog ops Q (o :: rest) a (w0.alloc (.cells #[.int .i64 f.level, .int .i64 f.cart, .int .i64 f.other, .int .i64 f.at'] 116)) := by
  obtain ⟨i0, hi0, hi1, hi2, hi3⟩ := info_parts Tryd.infoFault
  have hown1 := own_keep (w' := w0.alloc (.cells #[.int .i64 f.level, .int .i64 f.cart, .int .i64 f.other, .int .i64 f.at'] 116)) hown.1 (fun g _ hg _ => Below.heap_alloc _ _ _ hg)
  refine wpList_append_lies _ hgd s x _ ho base 116 i0 _ 4 32 Tryd.underlying53 hi0 hi1 hi2 hi3 rfl (by omega) v F.length (faultCells F) hs hown1 _ 1 c (fcell f) hx rfl (four_fresh w0 f) (fcell_one f) (by omega) (by unfold maxLen; omega) (by omega) (by simp; omega) (w0.heap.size + 1) (by simp) ?_
  intro g cap w' ho9 hg9 hl9 _
  have e1 : (F ++ [f]).length = F.length + 1 := by simp
  have e2 : faultCells [f] = fcell f := by simp [faultCells]
  rw [e1] at h
  refine h g cap w' ⟨?_, fun e => ?_⟩ ?_ (hl9.imp id (fun e => by omega))
  · rw [faultCells_app, e1, e2]; exact ho9
  · simp at e
  · refine ⟨hg9.os, hg9.tape, hg9.output, Nat.le_trans (by simp) hg9.size, fun k hk hn => ?_⟩
    rw [hg9.block k (by simp; omega) (fun e => hn e.symm)]
    exact Below.heap_alloc _ _ _ hk

theorem rep_snoc (n : Nat) (m : FaultM) : List.replicate n m ++ [m] = List.replicate (n + 1) m := by
  rw [List.replicate_succ']

theorem rep_nil {n : Nat} {m : FaultM} {aa : Option Addr} {ca : Nat} {F : List FaultM} (hn : n = F.length) (h : F = [] → (Value.slice aa n ca) = .slice none 0 0) : List.replicate n m = [] → (Value.slice aa n ca) = .slice none 0 0 := fun e => h (by
  have e2 := congrArg List.length e
  rw [List.length_replicate, List.length_nil] at e2
  exact List.eq_nil_of_length_eq_zero (by omega))

set_option maxRecDepth 100000 in
set_option maxHeartbeats 4000000 in
theorem bothFaults_any (B : Nat) (va vc : Value) (F G : List FaultM) (w : World) (hF : F.length ≤ 100000000 - 1) (hG : G.length ≤ 100000000 - 1) (hB : B ≤ w.heap.size) (ha : OwnF w B va F) (hc : OwnF w B vc G) (hd : ∀ k, va.ownBlock = some k → vc.ownBlock ≠ some k) :
    Calls Tryd.prog 34 #[va, vc] w fun e w' => e = .returned (.bool true) ∧ Below B w w' := by
  obtain ⟨aa, ca, rfl, _⟩ := ha.form
  obtain ⟨ac, cc, rfl, _⟩ := hc.form
  obtain ⟨n, hn⟩ : ∃ n, n = F.length := ⟨_, rfl⟩
  obtain ⟨m, hm⟩ : ∃ m, m = G.length := ⟨_, rfl⟩
  have OA : Hid (w.ownsRow B 116 4 (.slice aa n ca) n (faultCells F)) := by rw [hn]; exact ha.1
  have OC : Hid (w.ownsRow B 116 4 (.slice ac m cc) m (faultCells G)) := by rw [hm]; exact hc.1
  have NA : Hid (List.replicate n (⟨0, -101, 0, 0⟩ : FaultM) = [] → (Value.slice aa n ca) = .slice none 0 0) := rep_nil hn (by rw [hn]; exact ha.2)
  have NC : Hid (List.replicate m (⟨0, -102, 0, 0⟩ : FaultM) = [] → (Value.slice ac m cc) = .slice none 0 0) := rep_nil hm (by rw [hm]; exact hc.2)
  have DIS : Hid (∀ k, (Value.slice aa n ca).ownBlock = some k → (Value.slice ac m cc).ownBlock ≠ some k) := by rw [hn, hm]; exact hd
  have LA : Hid (∀ k, (Value.slice aa n ca).ownBlock = some k → k < w.heap.size ∧ B ≤ k) := fun k hk => ⟨(OA.out.lt k hk).2, (OA.out.lt k hk).1⟩
  have LC : Hid (∀ k, (Value.slice ac m cc).ownBlock = some k → k < w.heap.size ∧ B ≤ k) := fun k hk => ⟨(OC.out.lt k hk).2, (OC.out.lt k hk).1⟩
  rw [← hn] at hF ⊢
  rw [← hm] at hG ⊢
  clear ha hc hn hm hd
  go_enter Tryd.func34, Tryd.ntmps34
  go_wp2
  have B0 : Hid (Below w.heap.size w ((w.alloc (Obj.cells #[.int .i64 0, .int .i64 (-101), .int .i64 0, .int .i64 0] 116)).alloc (Obj.cells #[.int .i64 0, .int .i64 (-102), .int .i64 0, .int .i64 0] 116))) := ((Below.refl _ w).alloc (Nat.le_refl _) _).alloc (by simp) _
  have x0 : ∀ o, ((w.alloc (Obj.cells #[.int .i64 0, .int .i64 (-101), .int .i64 0, .int .i64 0] 116)).alloc (Obj.cells #[.int .i64 0, .int .i64 (-102), .int .i64 0, .int .i64 0] 116)).cell? ⟨w.heap.size, o, none⟩ = #[Value.int .i64 0, .int .i64 (-101), .int .i64 0, .int .i64 0][o]? := by
    intro o; go_simp
  have x1 : ∀ o, ((w.alloc (Obj.cells #[.int .i64 0, .int .i64 (-101), .int .i64 0, .int .i64 0] 116)).alloc (Obj.cells #[.int .i64 0, .int .i64 (-102), .int .i64 0, .int .i64 0] 116)).cell? ⟨w.heap.size + 1, o, none⟩ = #[Value.int .i64 0, .int .i64 (-102), .int .i64 0, .int .i64 0][o]? := by
    intro o; go_simp
  have hz0 : ((w.alloc (Obj.cells #[.int .i64 0, .int .i64 (-101), .int .i64 0, .int .i64 0] 116)).alloc (Obj.cells #[.int .i64 0, .int .i64 (-102), .int .i64 0, .int .i64 0] 116)).heap.size = w.heap.size + 2 := by simp
  generalize (w.alloc (Obj.cells #[.int .i64 0, .int .i64 (-101), .int .i64 0, .int .i64 0] 116)).alloc (Obj.cells #[.int .i64 0, .int .i64 (-102), .int .i64 0, .int .i64 0] 116) = w0 at *
  have X0 := Hid.mk x0
  have X1 := Hid.mk x1
  have HZ := Hid.mk hz0
  have OA0 := Hid.mk (own_later OA.out B0.out)
  have OC0 := Hid.mk (own_later OC.out B0.out)
  clear x0 x1 hz0
  go_loopw [7] (fun v7 wr => ∃ (k : Nat) (xs : List Value), k ≤ n ∧ v7 = .int .i64 k ∧ wr.ownsRow B 116 4 (.slice aa n ca) n xs ∧ filled4 ⟨0, -101, 0, 0⟩ k xs ∧ Only (fun j => (Value.slice aa n ca).ownBlock = some j) w0 wr) (fun v7 _ => n - (intOf v7).toNat)
  case atStart => exact ⟨0, _, Nat.zero_le _, rfl, OA0.out, fun i hi => absurd hi (by omega), Only.refl _ _⟩
  case round =>
    obtain ⟨k, xs, hk, rfl, hown, hfill, honly⟩ := hrel
    have OWN := Hid.mk hown
    have FILL := Hid.mk hfill
    have ON := Hid.mk honly
    by_cases hlt : k < n
    · have hg : ∃ ga, aa = some ⟨ga, 0, none⟩ := by
        rcases hown.2 with ⟨h0, h1⟩ | ⟨g, cap', cur, hv, _⟩
        · omega
        · cases hv; exact ⟨g, rfl⟩
      obtain ⟨ga, rfl⟩ := hg
      have hl := hown.1
      have a0 := own_cellS hown (i := k * 4) (by omega)
      have a1 := own_cellS hown (i := k * 4 + 1) (by omega)
      have a2 := own_cellS hown (i := k * 4 + 2) (by omega)
      have a3 := own_cellS hown (i := k * 4 + 3) (by omega)
      rw [List.getElem?_eq_getElem (by omega)] at a0 a1 a2 a3
      obtain ⟨u0, hu0⟩ : ∃ u, u = xs[k * 4]'(by omega) := ⟨_, rfl⟩
      obtain ⟨u1, hu1⟩ : ∃ u, u = xs[k * 4 + 1]'(by omega) := ⟨_, rfl⟩
      obtain ⟨u2, hu2⟩ : ∃ u, u = xs[k * 4 + 2]'(by omega) := ⟨_, rfl⟩
      obtain ⟨u3, hu3⟩ : ∃ u, u = xs[k * 4 + 3]'(by omega) := ⟨_, rfl⟩
      rw [← hu0] at a0
      rw [← hu1] at a1
      rw [← hu2] at a2
      rw [← hu3] at a3
      have fz := own_fzS hown
      have hgl := (LA.out ga rfl).1
      have hne : ¬ (Value.slice (some ⟨ga, 0, none⟩) n ca).ownBlock = some w.heap.size := fun e => by have := (LA.out _ e).1; omega
      have y : ∀ o, wr.cell? ⟨w.heap.size, o, none⟩ = #[Value.int .i64 0, .int .i64 (-101), .int .i64 0, .int .i64 0][o]? := fun o => (honly.cell (p := ⟨w.heap.size, o, none⟩) (by show w.heap.size < w0.heap.size; have := HZ.out; omega) hne).trans (X0.out o)
      have NEW : Hid (((((wr.setCell ⟨ga, k * 4, none⟩ (.int .i64 0)).setCell ⟨ga, k * 4 + 1, none⟩ (.int .i64 (-101))).setCell ⟨ga, k * 4 + 2, none⟩ (.int .i64 0)).setCell ⟨ga, k * 4 + 3, none⟩ (.int .i64 0)).ownsRow B 116 4 (.slice (some ⟨ga, 0, none⟩) n ca) n ((((xs.set (k * 4) (.int .i64 0)).set (k * 4 + 1) (.int .i64 (-101))).set (k * 4 + 2) (.int .i64 0)).set (k * 4 + 3) (.int .i64 0))) := own_set (own_set (own_set (own_set hown)))
      have FILL2 := Hid.mk (fill_step hfill (by omega))
      have ON2 : Hid (Only (fun j => (Value.slice (some ⟨ga, 0, none⟩) n ca).ownBlock = some j) w0 ((((wr.setCell ⟨ga, k * 4, none⟩ (.int .i64 0)).setCell ⟨ga, k * 4 + 1, none⟩ (.int .i64 (-101))).setCell ⟨ga, k * 4 + 2, none⟩ (.int .i64 0)).setCell ⟨ga, k * 4 + 3, none⟩ (.int .i64 0))) := (((honly.setCell (p := ⟨ga, k * 4, none⟩) (fun _ => rfl) _).setCell (p := ⟨ga, k * 4 + 1, none⟩) (fun _ => rfl) _).setCell (p := ⟨ga, k * 4 + 2, none⟩) (fun _ => rfl) _).setCell (p := ⟨ga, k * 4 + 3, none⟩) (fun _ => rfl) _
      clear hown hfill honly hu0 hu1 hu2 hu3 hl hne
      have hnew : ga ≠ w.heap.size := by omega
      go_wp2
      go_roundw
      case rel => exact ⟨k + 1, _, by omega, by go_num, NEW.out, FILL2.out, ON2.out⟩
      case measure => simp [intOf]; omega
    · have hd : k = n := by omega
      have OWN2 : Hid (OwnF wr B (.slice aa n ca) (List.replicate n ⟨0, -101, 0, 0⟩)) := by
        have e := fill_done (by rw [hd] at hfill; exact hfill) hown.1
        refine ⟨?_, NA.out⟩
        rw [← e, List.length_replicate]; exact hown
      have ONW : Hid (Only (fun j => (Value.slice aa n ca).ownBlock = some j) w0 wr) := honly
      have hbs : Hid (B ≤ wr.heap.size) := by have := honly.size; have := HZ.out; unfold Hid; omega
      have y : ∀ o, wr.cell? ⟨w.heap.size, o, none⟩ = #[Value.int .i64 0, .int .i64 (-101), .int .i64 0, .int .i64 0][o]? := fun o => (honly.cell (p := ⟨w.heap.size, o, none⟩) (by show w.heap.size < w0.heap.size; have := HZ.out; omega) (fun e => absurd (LA.out w.heap.size e).1 (by omega))).trans (X0.out o)
      have hzr : w.heap.size < wr.heap.size := by have := honly.size; have := HZ.out; omega
      have HLR : Hid ((List.replicate n (⟨0, -101, 0, 0⟩ : FaultM)).length ≤ 100000000) := by unfold Hid; rw [List.length_replicate]; omega
      clear hown hfill honly hd OWN FILL ON
      obtain ⟨wa, rfl⟩ : ∃ q, q = wr := ⟨_, rfl⟩
      go_wp2_with (at_builtin; go_must (refine wpList_pushO rfl _ _ rfl B (.slice aa n ca) (List.replicate n ⟨0, -101, 0, 0⟩) ⟨0, -101, 0, 0⟩ rfl OWN2.out hbs.out _ rfl HLR.out ?_; intro gx cx w1 hown1 hon1 hl1))
      rw [rep_snoc, List.length_replicate] at hown1
      have OX := Hid.mk hown1
      have ON1 : Hid (Only (fun j => (Value.slice aa n ca).ownBlock = some j) w0 w1) := ONW.out.trans hon1 (fun i _ h => h)
      have GX : Hid ((Value.slice aa n ca).ownBlock = some gx ∨ w0.heap.size ≤ gx) := hl1.imp id (fun e => Nat.le_trans ONW.out.size e)
      have OC1 : Hid (w1.ownsRow B 116 4 (.slice ac m cc) m (faultCells G)) := own_keep OC0.out (fun g _ hg hv => ON1.out.block g hg (fun e => DIS.out g e hv))
      have GXC : Hid (∀ k, (Value.slice ac m cc).ownBlock = some k → k ≠ gx) := fun k hk e => by
        subst e
        rcases GX.out with h | h
        · exact DIS.out k h hk
        · have := (LC.out k hk).1; have := HZ.out; omega
      have HGX : Hid (gx < w1.heap.size) := (OX.out.1.lt gx rfl).2
      clear hown1 hon1 hl1 y hzr OWN2 ONW hbs HLR
      go_wp2
      go_loopw [9] (fun v9 wr => ∃ (k : Nat) (xs : List Value), k ≤ m ∧ v9 = .int .i64 k ∧ wr.ownsRow B 116 4 (.slice ac m cc) m xs ∧ filled4 ⟨0, -102, 0, 0⟩ k xs ∧ Only (fun j => (Value.slice ac m cc).ownBlock = some j) w1 wr) (fun v9 _ => m - (intOf v9).toNat)
      case atStart => exact ⟨0, _, Nat.zero_le _, rfl, OC1.out, fun i hi => absurd hi (by omega), Only.refl _ _⟩
      case round =>
        obtain ⟨k2, xs, hk2, rfl, hown, hfill, honly⟩ := hrel
        have OWN := Hid.mk hown
        have z1 : w0.heap.size ≤ w1.heap.size := ON1.out.size
        have xb1 : ∀ o, w1.cell? ⟨w.heap.size + 1, o, none⟩ = #[Value.int .i64 0, .int .i64 (-102), .int .i64 0, .int .i64 0][o]? := fun o => (ON1.out.cell (p := ⟨w.heap.size + 1, o, none⟩) (by show w.heap.size + 1 < w0.heap.size; have := HZ.out; omega) (fun e => absurd (LA.out (w.heap.size + 1) e).1 (by omega))).trans (X1.out o)
        have y : ∀ o, wr.cell? ⟨w.heap.size + 1, o, none⟩ = #[Value.int .i64 0, .int .i64 (-102), .int .i64 0, .int .i64 0][o]? := fun o => (honly.cell (p := ⟨w.heap.size + 1, o, none⟩) (by show w.heap.size + 1 < w1.heap.size; have := HZ.out; omega) (fun e => absurd (LC.out (w.heap.size + 1) e).1 (by omega))).trans (xb1 o)
        clear xb1
        by_cases hlt2 : k2 < m
        · have hg : ∃ gc, ac = some ⟨gc, 0, none⟩ := by
            rcases hown.2 with ⟨h0, h1⟩ | ⟨g, cap', cur, hv, _⟩
            · omega
            · cases hv; exact ⟨g, rfl⟩
          obtain ⟨gc, rfl⟩ := hg
          have hl := hown.1
          have a0 := own_cellS hown (i := k2 * 4) (by omega)
          have a1 := own_cellS hown (i := k2 * 4 + 1) (by omega)
          have a2 := own_cellS hown (i := k2 * 4 + 2) (by omega)
          have a3 := own_cellS hown (i := k2 * 4 + 3) (by omega)
          rw [List.getElem?_eq_getElem (by omega)] at a0 a1 a2 a3
          obtain ⟨u0, hu0⟩ : ∃ u, u = xs[k2 * 4]'(by omega) := ⟨_, rfl⟩
          obtain ⟨u1, hu1⟩ : ∃ u, u = xs[k2 * 4 + 1]'(by omega) := ⟨_, rfl⟩
          obtain ⟨u2, hu2⟩ : ∃ u, u = xs[k2 * 4 + 2]'(by omega) := ⟨_, rfl⟩
          obtain ⟨u3, hu3⟩ : ∃ u, u = xs[k2 * 4 + 3]'(by omega) := ⟨_, rfl⟩
          rw [← hu0] at a0
          rw [← hu1] at a1
          rw [← hu2] at a2
          rw [← hu3] at a3
          have fz := own_fzS hown
          have hgl := (LC.out gc rfl).1
          have NEW : Hid (((((wr.setCell ⟨gc, k2 * 4, none⟩ (.int .i64 0)).setCell ⟨gc, k2 * 4 + 1, none⟩ (.int .i64 (-102))).setCell ⟨gc, k2 * 4 + 2, none⟩ (.int .i64 0)).setCell ⟨gc, k2 * 4 + 3, none⟩ (.int .i64 0)).ownsRow B 116 4 (.slice (some ⟨gc, 0, none⟩) m cc) m ((((xs.set (k2 * 4) (.int .i64 0)).set (k2 * 4 + 1) (.int .i64 (-102))).set (k2 * 4 + 2) (.int .i64 0)).set (k2 * 4 + 3) (.int .i64 0))) := own_set (own_set (own_set (own_set hown)))
          have FILL2 := Hid.mk (fill_step hfill (by omega))
          have ON2 : Hid (Only (fun j => (Value.slice (some ⟨gc, 0, none⟩) m cc).ownBlock = some j) w1 ((((wr.setCell ⟨gc, k2 * 4, none⟩ (.int .i64 0)).setCell ⟨gc, k2 * 4 + 1, none⟩ (.int .i64 (-102))).setCell ⟨gc, k2 * 4 + 2, none⟩ (.int .i64 0)).setCell ⟨gc, k2 * 4 + 3, none⟩ (.int .i64 0))) := (((honly.setCell (p := ⟨gc, k2 * 4, none⟩) (fun _ => rfl) _).setCell (p := ⟨gc, k2 * 4 + 1, none⟩) (fun _ => rfl) _).setCell (p := ⟨gc, k2 * 4 + 2, none⟩) (fun _ => rfl) _).setCell (p := ⟨gc, k2 * 4 + 3, none⟩) (fun _ => rfl) _
          clear hown hfill honly hu0 hu1 hu2 hu3 hl
          have hnew : gc ≠ w.heap.size + 1 := by omega
          go_wp2
          go_roundw
          case rel => exact ⟨k2 + 1, _, by omega, by go_num, NEW.out, FILL2.out, ON2.out⟩
          case measure => simp [intOf]; omega
        · have hd : k2 = m := by omega
          have OWN2 : Hid (OwnF wr B (.slice ac m cc) (List.replicate m ⟨0, -102, 0, 0⟩)) := by
            have e := fill_done (by rw [hd] at hfill; exact hfill) hown.1
            refine ⟨?_, NC.out⟩
            rw [← e, List.length_replicate]; exact hown
          have ONW : Hid (Only (fun j => (Value.slice ac m cc).ownBlock = some j) w1 wr) := honly
          have hbs : Hid (B ≤ wr.heap.size) := by have := honly.size; have := HZ.out; unfold Hid; omega
          have hzr : w.heap.size + 1 < wr.heap.size := by have := honly.size; have := HZ.out; omega
          have HLR : Hid ((List.replicate m (⟨0, -102, 0, 0⟩ : FaultM)).length ≤ 100000000) := by unfold Hid; rw [List.length_replicate]; omega
          clear hown hfill honly hd OWN
          obtain ⟨wb, rfl⟩ : ∃ q, q = wr := ⟨_, rfl⟩
          go_wp2_with (at_builtin; go_must (refine wpList_pushO rfl _ _ rfl B (.slice ac m cc) (List.replicate m ⟨0, -102, 0, 0⟩) ⟨0, -102, 0, 0⟩ rfl OWN2.out hbs.out _ rfl HLR.out ?_; intro gy cy w2 hown1 hon1 hl1))
          rw [rep_snoc, List.length_replicate] at hown1
          have OY := Hid.mk hown1
          have ON2 : Hid (Only (fun j => (Value.slice ac m cc).ownBlock = some j) w1 w2) := ONW.out.trans hon1 (fun i _ h => h)
          have OX2 : Hid (OwnF w2 B (.slice (some ⟨gx, 0, none⟩) (n + 1) cx) (List.replicate (n + 1) ⟨0, -101, 0, 0⟩)) := by
            have h := OX.out
            refine ⟨?_, fun e => by simp at e⟩
            have h1 := h.1
            rw [List.length_replicate] at h1 ⊢
            exact own_keep h1 (fun g _ hg hv => ON2.out.block g hg (fun e => GXC.out g e (by simp [Value.ownBlock] at hv; exact hv.symm)))
          have FX := Hid.mk OX2.out.at
          have FY := Hid.mk OY.out.at
          have BW2 : Hid (Below B w w2) := (B0.out.mono hB).trans ((ON1.out.below (by have := HZ.out; omega) (fun i hi => (LA.out i hi).2)).trans (ON2.out.below (by have := HZ.out; omega) (fun i hi => (LC.out i hi).2)))
          have y0 : ∀ o, w2.cell? ⟨w.heap.size, o, none⟩ = #[Value.int .i64 0, .int .i64 (-101), .int .i64 0, .int .i64 0][o]? := fun o => (ON2.out.cell (p := ⟨w.heap.size, o, none⟩) (by show w.heap.size < w1.heap.size; have := HZ.out; omega) (fun e => absurd (LC.out w.heap.size e).1 (by omega))).trans ((ON1.out.cell (p := ⟨w.heap.size, o, none⟩) (by show w.heap.size < w0.heap.size; have := HZ.out; omega) (fun e => absurd (LA.out w.heap.size e).1 (by omega))).trans (X0.out o))
          have y1 : ∀ o, w2.cell? ⟨w.heap.size + 1, o, none⟩ = #[Value.int .i64 0, .int .i64 (-102), .int .i64 0, .int .i64 0][o]? := fun o => (ON2.out.cell (p := ⟨w.heap.size + 1, o, none⟩) (by show w.heap.size + 1 < w1.heap.size; have := HZ.out; omega) (fun e => absurd (LC.out (w.heap.size + 1) e).1 (by omega))).trans ((ON1.out.cell (p := ⟨w.heap.size + 1, o, none⟩) (by show w.heap.size + 1 < w0.heap.size; have := HZ.out; omega) (fun e => absurd (LA.out (w.heap.size + 1) e).1 (by omega))).trans (X1.out o))
          have Y0 := Hid.mk y0
          have Y1 := Hid.mk y1
          have z2 : w.heap.size + 2 ≤ w2.heap.size := by have := ON2.out.size; have := HZ.out; omega
          clear hown1 hon1 hl1 y y0 y1 hzr OWN2 ONW hbs HLR OX OY OX2 z1
          go_wp2
          go_loopw [11, 12] (fun v11 v12 wr => ∃ k : Nat, k ≤ n + 1 ∧ v11 = .bool true ∧ v12 = .int .i64 k ∧ Below w2.heap.size w2 wr) (fun _ v12 _ => n + 1 - (intOf v12).toNat)
          case atStart => exact ⟨0, Nat.zero_le _, rfl, rfl, Below.refl _ _⟩
          case round =>
            obtain ⟨k3, hk3, rfl, rfl, hbr⟩ := hrel
            have BR := Hid.mk hbr
            by_cases hlt3 : k3 < n + 1
            · rcases FX.out with ⟨e, _⟩ | ⟨g', c', hv, _, hcx⟩
              · simp at e
              · rw [List.length_replicate] at hv
                cases hv
                obtain ⟨d0, d1, d2, d3⟩ := hcx k3 (by rw [List.length_replicate]; omega)
                simp only [List.getElem_replicate] at d0 d1 d2 d3
                have d0 := cell_later hbr d0
                have d1 := cell_later hbr d1
                have d2 := cell_later hbr d2
                have d3 := cell_later hbr d3
                have y : ∀ o, wr.cell? ⟨w.heap.size, o, none⟩ = #[Value.int .i64 0, .int .i64 (-101), .int .i64 0, .int .i64 0][o]? := fun o => (hbr.cell (p := ⟨w.heap.size, o, none⟩) (by show w.heap.size < w2.heap.size; omega)).trans (Y0.out o)
                have q0 := y 0
                have q1 := y 1
                have q2 := y 2
                have q3 := y 3
                simp only [List.getElem?_toArray, List.getElem?_cons_zero, List.getElem?_cons_succ] at q0 q1 q2 q3
                clear hcx hbr y
                go_wp2_with fail
                go_quiet (fail)
                go_wp2
                go_roundw
                case rel => exact ⟨k3 + 1, by omega, rfl, by go_num, below_drewN BR.out _⟩
                case measure => simp [intOf]; omega
            · obtain ⟨wd, rfl⟩ : ∃ q, q = wr := ⟨_, rfl⟩
              clear hbr
              go_wp2
              go_loopw [11, 13] (fun v11 v13 wr => ∃ k : Nat, k ≤ m + 1 ∧ v11 = .bool true ∧ v13 = .int .i64 k ∧ Below w2.heap.size w2 wr) (fun _ v13 _ => m + 1 - (intOf v13).toNat)
              case atStart => exact ⟨0, Nat.zero_le _, rfl, rfl, BR.out⟩
              case round =>
                obtain ⟨k4, hk4, rfl, rfl, hbr⟩ := hrel
                have BR4 := Hid.mk hbr
                by_cases hlt4 : k4 < m + 1
                · rcases FY.out with ⟨e, _⟩ | ⟨g', c', hv, _, hcx⟩
                  · simp at e
                  · rw [List.length_replicate] at hv
                    cases hv
                    obtain ⟨d0, d1, d2, d3⟩ := hcx k4 (by rw [List.length_replicate]; omega)
                    simp only [List.getElem_replicate] at d0 d1 d2 d3
                    have d0 := cell_later hbr d0
                    have d1 := cell_later hbr d1
                    have d2 := cell_later hbr d2
                    have d3 := cell_later hbr d3
                    have y : ∀ o, wr.cell? ⟨w.heap.size + 1, o, none⟩ = #[Value.int .i64 0, .int .i64 (-102), .int .i64 0, .int .i64 0][o]? := fun o => (hbr.cell (p := ⟨w.heap.size + 1, o, none⟩) (by show w.heap.size + 1 < w2.heap.size; omega)).trans (Y1.out o)
                    have q0 := y 0
                    have q1 := y 1
                    have q2 := y 2
                    have q3 := y 3
                    simp only [List.getElem?_toArray, List.getElem?_cons_zero, List.getElem?_cons_succ] at q0 q1 q2 q3
                    clear hcx hbr y
                    go_wp2_with fail
                    go_quiet (fail)
                    go_wp2
                    go_roundw
                    case rel => exact ⟨k4 + 1, by omega, rfl, by go_num, below_drewN BR4.out _⟩
                    case measure => simp [intOf]; omega
                · clear hbr
                  have BF : Hid (Below B w wr) := BW2.out.trans (BR4.out.mono (by omega))
                  go_wp2
                  go_ret
                  exact ⟨rfl, BF.out⟩

end Go.Proofs.YtnkgpinadgacgaaDoor
