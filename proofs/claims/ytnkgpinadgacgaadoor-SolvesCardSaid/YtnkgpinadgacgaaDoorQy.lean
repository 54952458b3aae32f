/- Several texts in one: Es, Et. -/
import Derived.Test.YtnkgpinadgacgaaDoorQw
import Derived.Deep.QuietTactic
import Derived.BigQuiet
namespace Go.Proofs.YtnkgpinadgacgaaDoor
open Go.RowKit M
/-- Where two answers lie. -/
def twoS (lo1 hi1 lo2 hi2 : Nat) (k : Nat) : Prop := (lo1 ≤ k ∧ k < hi1) ∨ (lo2 ≤ k ∧ k < hi2)

set_option maxRecDepth 100000 in
set_option maxHeartbeats 8000000 in
theorem both_only (lo1 hi1 lo2 hi2 K g1 g2 : Nat) (h1 n1 c1 h2 n2 c2 : Nat → Nat) (L1 L2 : Nat → List Int) (w : World) (hK : 0 < K) (hK2 : K ≤ 100) (R1 : Rows w lo1 hi1 g1 K h1 n1 c1 L1) (R2 : Rows w lo2 hi2 g2 K h2 n2 c2 L2) (h12 : hi1 ≤ lo2) (hw : hi2 ≤ w.heap.size) :
    Calls Tryd.prog 28 #[.slice (some ⟨g1, 0, none⟩) K K, .slice (some ⟨g2, 0, none⟩) K K] w fun e w' => e = .returned (.bool true) ∧ Only (twoS lo1 hi1 lo2 hi2) w w' := by
  have R1G := Hid.mk R1.gat
  have R2G := Hid.mk R2.gat
  have RA := Hid.mk R1
  have RB := Hid.mk R2
  have hg1 := R1.row.lt
  have hg2 := R2.row.lt
  have hlow : lo1 ≤ w.heap.size := by have := R1.gat; omega
  clear R1 R2
  go_enter Tryd.func28, Tryd.ntmps28
  have hK8 : K ≤ 100000000 := by omega
  have N0 : Hid (w.ownsRow w.heap.size 26 1 (.slice none 0 0) 0 []) := ⟨rfl, .inl ⟨rfl, rfl⟩⟩
  have C0 : Hid (∀ j, j < K → w.cell? ⟨g1, j, none⟩ = some (.slice (some ⟨h1 j, 0, none⟩) (n1 j) (c1 j))) := fun j hj => RA.out.row.cell hj
  obtain ⟨KK, hKK⟩ : ∃ KK, KK = K + K := ⟨_, rfl⟩
  have hKK8 : KK ≤ 100000000 := by omega
  have HK0 : Hid (K = 0 + K) := by unfold Hid; omega
  have HKK := Hid.mk hKK
  have hKKa : KK ≤ K + K := by omega
  have hKKb : K + K ≤ KK := by omega
  clear hKK
  go_upto_region 3 with (at_builtin; go_must (refine wpList_catV rfl _ _ rfl w.heap.size (.slice none 0 0) 0 K K [] rfl N0.out (Nat.le_refl _) g1 K _ rfl C0.out (fun _ _ => rfl) hK HK0.out hK8 ?_; intro P1 p1 w1 ho1 hon1 hat1 hl1))
  have O1 : Hid (Below w.heap.size w w1) := hon1.below (Nat.le_refl _) (fun i e => by cases e)
  have OW1 := Hid.mk ho1
  have hz1 := hon1.size
  have hP1 : P1 = w.heap.size := hat1.elim (fun e => by cases e) id
  have C1 : Hid (∀ j, j < K → w1.cell? ⟨g2, j, none⟩ = some (.slice (some ⟨h2 j, 0, none⟩) (n2 j) (c2 j))) := fun j hj => cell_later O1.out (RB.out.row.cell hj)
  have hzw1 : Hid (w.heap.size ≤ w1.heap.size) := hz1
  clear ho1 hon1 hat1 N0 C0
  go_wp2_with (at_builtin; go_must (refine wpList_catV rfl _ _ rfl w.heap.size (.slice (some ⟨P1, 0, none⟩) K p1) K K KK _ rfl OW1.out hzw1.out g2 K _ rfl C1.out (fun _ _ => rfl) hK HKK.out hKK8 ?_; intro P2 p2 w2 ho2 hon2 hat2 hl2))
  have O2 : Hid (Below w.heap.size w w2) := O1.out.trans (hon2.below hzw1.out (fun i e => by have e2 : P1 = i := Option.some.inj e; omega))
  have hz2 := O2.out.size
  have hP2 : w.heap.size ≤ P2 := hat2.elim (fun e => by have e2 : P1 = P2 := Option.some.inj e; omega) (fun e => by have := hzw1.out; omega)
  have C2 : Hid (∀ t, t < KK → w2.cell? ⟨P2, t, none⟩ = some (.slice (some ⟨joinF K h1 h2 t, 0, none⟩) (joinF K n1 n2 t) (joinF K c1 c2 t))) := by
    intro t ht
    rw [own_cell ho2 ht]
    by_cases e : t < K
    · rw [List.nil_append, List.getElem?_append_left (by simpa using e), List.getElem?_map, List.getElem?_range e, joinF_lo e, joinF_lo e, joinF_lo e]; rfl
    · rw [List.nil_append, List.getElem?_append_right (by simp; omega), List.getElem?_map, joinF_hi e, joinF_hi e, joinF_hi e]
      simp only [List.length_map, List.length_range]
      rw [List.getElem?_range (by omega)]; rfl
  have RA2 : Hid (Rows w2 lo1 hi1 g1 K h1 n1 c1 L1) := RA.out.below O2.out
  have RB2 : Hid (Rows w2 lo2 hi2 g2 K h2 n2 c2 L2) := RB.out.below O2.out
  have LO : Hid (∀ t, t < KK → joinF K h1 h2 t < w.heap.size ∧ lo1 ≤ joinF K h1 h2 t ∧ joinF K h1 h2 t ≠ g1 ∧ joinF K h1 h2 t ≠ g2 ∧ twoS lo1 hi1 lo2 hi2 (joinF K h1 h2 t)) := by
    intro t ht
    have q1 := R1G.out
    have q2 := R2G.out
    by_cases e : t < K
    · rw [joinF_lo e]
      have a1 := RA.out.at' t e
      have a2 := RA.out.ne t e
      exact ⟨by omega, by omega, a2, by omega, .inl a1⟩
    · rw [joinF_hi e]
      have a1 := RB.out.at' (t - K) (by omega)
      have a2 := RB.out.ne (t - K) (by omega)
      exact ⟨by omega, by omega, by omega, a2, .inr a1⟩
  have OWJ : Hid (∀ t, t < KK → OwnZ w2 lo1 (.slice (some ⟨joinF K h1 h2 t, 0, none⟩) (joinF K n1 n2 t) (joinF K c1 c2 t)) (joinF K L1 L2 t)) := by
    intro t ht
    by_cases e : t < K
    · rw [joinF_lo e, joinF_lo e, joinF_lo e, joinF_lo e]; exact RA2.out.own t e
    · rw [joinF_hi e, joinF_hi e, joinF_hi e, joinF_hi e]; exact (RB2.out.own (t - K) (by omega)).le (by have := R1G.out; omega)
  have NJ : Hid (∀ t, t < KK → 0 < joinF K n1 n2 t ∧ joinF K n1 n2 t ≤ 1000000) := by
    intro t ht
    by_cases e : t < K
    · rw [joinF_lo e]; exact RA2.out.num t e
    · rw [joinF_hi e]; exact RB2.out.num (t - K) (by omega)
  have IJ : Hid (∀ s t, s < KK → t < KK → joinF K h1 h2 s = joinF K h1 h2 t → s = t) := by
    intro s t hs ht
    by_cases e : s < K <;> by_cases e2 : t < K
    · rw [joinF_lo e, joinF_lo e2]; exact RA2.out.inj s t e e2
    · rw [joinF_lo e, joinF_hi e2]
      have a1 := RA.out.at' s e
      have a2 := RB.out.at' (t - K) (by omega)
      intro h; omega
    · rw [joinF_hi e, joinF_lo e2]
      have a1 := RA.out.at' t e2
      have a2 := RB.out.at' (s - K) (by omega)
      intro h; omega
    · rw [joinF_hi e, joinF_hi e2]
      intro h
      have := RB2.out.inj (s - K) (t - K) (by omega) (by omega) h
      omega
  clear ho2 hon2 hat2 OW1 C1 hl1 hP1 hz1
  go_wp2_with fail
  refine (apart_own lo1 KK P2 p2 (joinF K h1 h2) (joinF K n1 n2) (joinF K c1 c2) (joinF K L1 L2) w2 (by omega) (by omega) C2.out OWJ.out NJ.out IJ.out (fun t ht => by have := LO.out t ht; omega) hl2).mono ?_
  rintro e w3 ⟨rfl, ho3⟩
  have ROW1 : Hid (w3.rowIs g1 26 K (fun t => .slice (some ⟨h1 t, 0, none⟩) (n1 t) (c1 t))) := row_block RA2.out.row (ho3.block g1 RA2.out.row.lt (by rintro ⟨t, ht, e⟩; exact (LO.out t ht).2.2.1 e.symm))
  have ROW2' : Hid (w3.rowIs g2 26 K (fun t => .slice (some ⟨h2 t, 0, none⟩) (n2 t) (c2 t))) := row_block RB2.out.row (ho3.block g2 RB2.out.row.lt (by rintro ⟨t, ht, e⟩; exact (LO.out t ht).2.2.2.1 e.symm))
  have O3 : Hid (Only (twoS lo1 hi1 lo2 hi2) w w3) := (Only.of_below O2.out).trans ho3 (fun i _ e => by obtain ⟨t, ht, e⟩ := e; rw [e]; exact (LO.out t ht).2.2.2.2)
  have G1L : Hid (g1 < w3.heap.size) := ROW1.out.lt
  have G2L : Hid (g2 < w3.heap.size) := ROW2'.out.lt
  have hz3 := ho3.size
  clear ho3 C2 RA2 RB2 OWJ NJ IJ RA RB LO hP2 hl2 HKK hKKa hKKb hKK8 HK0
  go_wp2
  go_loopw [7] (fun v7 wr => ∃ (i : Nat) (B : Nat → Value), v7 = .int .i64 i ∧ i ≤ K ∧ wr.rowIs g1 26 K B ∧ OnesAt wr w3.heap.size B i (-101) ∧ Only (fun k => k = g1) w3 wr) (fun v7 _ => K - (intOf v7).toNat)
  case atStart => exact ⟨0, _, rfl, Nat.zero_le _, ROW1.out, fun t ht => absurd ht (Nat.not_lt_zero t), Only.refl _ _⟩
  case round =>
    obtain ⟨i1, B1, rfl, hi, hrow, hones, ho⟩ := hrel
    obtain ⟨u1, rfl⟩ : ∃ q, q = wr := ⟨_, rfl⟩
    have O1 := Hid.mk ho
    have ON1 := Hid.mk hones
    have hzu1 := ho.size
    by_cases hlt : i1 < K
    · have d0 := hrow.cell hlt
      have d1 := hrow.frozen i1
      have hiI : (i1 : Int) < (K : Int) := by omega
      have hgu : g1 < u1.heap.size := hrow.lt
      have hgn : g1 ≠ u1.heap.size := by omega
      have NEW : Hid (((u1.setCell ⟨g1, i1, none⟩ (.slice (some ⟨u1.heap.size, 0, none⟩) 1 1)).alloc (Obj.cells #[Value.int .i64 (-101)] 3)).rowIs g1 26 K (extA B1 i1 (.slice (some ⟨u1.heap.size, 0, none⟩) 1 1))) := (hrow.set i1 _).alloc _
      have O2 : Hid (Only (fun k => k = g1) w3 ((u1.setCell ⟨g1, i1, none⟩ (.slice (some ⟨u1.heap.size, 0, none⟩) 1 1)).alloc (Obj.cells #[Value.int .i64 (-101)] 3))) := (ho.setCell (p := ⟨g1, i1, none⟩) (fun _ => rfl) _).alloc _
      have OW2 : Hid (Only (fun k => k = g1) u1 ((u1.setCell ⟨g1, i1, none⟩ (.slice (some ⟨u1.heap.size, 0, none⟩) 1 1)).alloc (Obj.cells #[Value.int .i64 (-101)] 3))) := ((Only.refl (fun k => k = g1) u1).setCell (p := ⟨g1, i1, none⟩) (fun _ => rfl) _).alloc _
      have C2 : Hid (((u1.setCell ⟨g1, i1, none⟩ (.slice (some ⟨u1.heap.size, 0, none⟩) 1 1)).alloc (Obj.cells #[Value.int .i64 (-101)] 3)).cell? ⟨u1.heap.size, 0, none⟩ = some (.int .i64 (-101))) := by unfold Hid; go_simp
      have W3U : Hid (w3.heap.size ≤ u1.heap.size) := by unfold Hid; omega
      clear hrow hones ho
      go_wp2
      go_roundw
      case rel => exact ⟨i1 + 1, _, by go_num, by omega, NEW.out, (ON1.out.only OW2.out (fun k hk e => by have := G1L.out; omega)).next u1.heap.size 1 W3U.out C2.out, O2.out⟩
      case measure => simp [intOf]; omega
    · have hd : i1 = K := by omega
      rw [hd] at hones
      have ONK1 := Hid.mk hones
      have hz9 : (u1.alloc (Obj.cells #[Value.int .i64 (-101)] 3)).heap.size = u1.heap.size + 1 := by simp
      have OWN1 : Hid ((u1.alloc (Obj.cells #[Value.int .i64 (-101)] 3)).ownsRow lo1 26 1 (.slice (some ⟨g1, 0, none⟩) K K) K ((List.range K).map B1)) := row_ownV (hrow.alloc _) R1G.out.1 (by unfold maxLen; omega)
      have HU1 : Hid (lo1 ≤ (u1.alloc (Obj.cells #[Value.int .i64 (-101)] 3)).heap.size) := by
        unfold Hid
        have := R1G.out
        have := G1L.out
        rw [hz9]; omega
      have CN1 : Hid ((u1.alloc (Obj.cells #[Value.int .i64 (-101)] 3)).cell? ⟨u1.heap.size, 0, none⟩ = some (.int .i64 (-101))) := by unfold Hid; go_simp
      have PP1 : Hid (Below u1.heap.size u1 (u1.alloc (Obj.cells #[Value.int .i64 (-101)] 3))) := (Below.refl _ _).alloc (Nat.le_refl _) _
      have W3U : Hid (w3.heap.size ≤ u1.heap.size) := by unfold Hid; omega
      have HZ9 := Hid.mk hz9
      clear hrow hones ho ON1 hz9
      go_wp2_with (at_builtin; go_must (refine wpList_pushV rfl _ _ rfl lo1 (.slice (some ⟨g1, 0, none⟩) K K) K ((List.range K).map B1) (some ⟨u1.heap.size, 0, none⟩) 1 1 rfl OWN1.out HU1.out _ (by rw [HZ9.out]; exact rfl) hK8 ?_; intro gx1 cx1 w4 ho5 hon5 hat5))
      have M1 : Hid (Marks w4 w3.heap.size g1 gx1 (K + 1) (-101)) := marks_push ONK1.out PP1.out CN1.out W3U.out G1L.out ho5 (hon5.mono (fun q _ e => (Option.some.inj e).symm)) (hat5.imp Option.some.inj id)
      have OO1 : Hid (Only (fun k => k = g1) w3 w4) := (O1.out.trans (Only.of_below PP1.out : Only (fun _ => False) _ _) (fun _ _ e => e.elim)).trans hon5 (fun q _ e => (Option.some.inj e).symm)
      clear ho5 hon5 hat5 OWN1 HU1 CN1 PP1 HZ9 ONK1 O1 hzu1 hd hi hlt
      have ROW2 : Hid (w4.rowIs g2 26 K (fun t => .slice (some ⟨h2 t, 0, none⟩) (n2 t) (c2 t))) := row_block ROW2'.out (OO1.out.block g2 G2L.out (by have := R1G.out; have := R2G.out; omega))
      have hz4 := OO1.out.size
      go_wp2
      go_loopw [9] (fun v9 wr => ∃ (i : Nat) (B : Nat → Value), v9 = .int .i64 i ∧ i ≤ K ∧ wr.rowIs g2 26 K B ∧ OnesAt wr w3.heap.size B i (-102) ∧ Only (fun k => k = g2) w4 wr) (fun v9 _ => K - (intOf v9).toNat)
      case atStart => exact ⟨0, _, rfl, Nat.zero_le _, ROW2.out, fun t ht => absurd ht (Nat.not_lt_zero t), Only.refl _ _⟩
      case round =>
        obtain ⟨i2, B2, rfl, hi, hrow, hones, ho⟩ := hrel
        obtain ⟨u2, rfl⟩ : ∃ q, q = wr := ⟨_, rfl⟩
        have O2 := Hid.mk ho
        have ON2 := Hid.mk hones
        have hzu2 := ho.size
        by_cases hlt : i2 < K
        · have d0 := hrow.cell hlt
          have d1 := hrow.frozen i2
          have hiI : (i2 : Int) < (K : Int) := by omega
          have hgu : g2 < u2.heap.size := hrow.lt
          have hgn : g2 ≠ u2.heap.size := by omega
          have NEW : Hid (((u2.setCell ⟨g2, i2, none⟩ (.slice (some ⟨u2.heap.size, 0, none⟩) 1 1)).alloc (Obj.cells #[Value.int .i64 (-102)] 3)).rowIs g2 26 K (extA B2 i2 (.slice (some ⟨u2.heap.size, 0, none⟩) 1 1))) := (hrow.set i2 _).alloc _
          have O2 : Hid (Only (fun k => k = g2) w4 ((u2.setCell ⟨g2, i2, none⟩ (.slice (some ⟨u2.heap.size, 0, none⟩) 1 1)).alloc (Obj.cells #[Value.int .i64 (-102)] 3))) := (ho.setCell (p := ⟨g2, i2, none⟩) (fun _ => rfl) _).alloc _
          have OW2 : Hid (Only (fun k => k = g2) u2 ((u2.setCell ⟨g2, i2, none⟩ (.slice (some ⟨u2.heap.size, 0, none⟩) 1 1)).alloc (Obj.cells #[Value.int .i64 (-102)] 3))) := ((Only.refl (fun k => k = g2) u2).setCell (p := ⟨g2, i2, none⟩) (fun _ => rfl) _).alloc _
          have C2 : Hid (((u2.setCell ⟨g2, i2, none⟩ (.slice (some ⟨u2.heap.size, 0, none⟩) 1 1)).alloc (Obj.cells #[Value.int .i64 (-102)] 3)).cell? ⟨u2.heap.size, 0, none⟩ = some (.int .i64 (-102))) := by unfold Hid; go_simp
          have W3U : Hid (w3.heap.size ≤ u2.heap.size) := by unfold Hid; omega
          clear hrow hones ho
          go_wp2
          go_roundw
          case rel => exact ⟨i2 + 1, _, by go_num, by omega, NEW.out, (ON2.out.only OW2.out (fun k hk e => by have := G2L.out; omega)).next u2.heap.size 1 W3U.out C2.out, O2.out⟩
          case measure => simp [intOf]; omega
        · have hd : i2 = K := by omega
          rw [hd] at hones
          have ONK2 := Hid.mk hones
          have hz9 : (u2.alloc (Obj.cells #[Value.int .i64 (-102)] 3)).heap.size = u2.heap.size + 1 := by simp
          have OWN2 : Hid ((u2.alloc (Obj.cells #[Value.int .i64 (-102)] 3)).ownsRow lo2 26 1 (.slice (some ⟨g2, 0, none⟩) K K) K ((List.range K).map B2)) := row_ownV (hrow.alloc _) R2G.out.1 (by unfold maxLen; omega)
          have HU2 : Hid (lo2 ≤ (u2.alloc (Obj.cells #[Value.int .i64 (-102)] 3)).heap.size) := by
            unfold Hid
            have := R2G.out
            have := G2L.out
            rw [hz9]; omega
          have CN2 : Hid ((u2.alloc (Obj.cells #[Value.int .i64 (-102)] 3)).cell? ⟨u2.heap.size, 0, none⟩ = some (.int .i64 (-102))) := by unfold Hid; go_simp
          have PP2 : Hid (Below u2.heap.size u2 (u2.alloc (Obj.cells #[Value.int .i64 (-102)] 3))) := (Below.refl _ _).alloc (Nat.le_refl _) _
          have W3U : Hid (w3.heap.size ≤ u2.heap.size) := by unfold Hid; omega
          have HZ9 := Hid.mk hz9
          clear hrow hones ho ON2 hz9
          go_wp2_with (at_builtin; go_must (refine wpList_pushV rfl _ _ rfl lo2 (.slice (some ⟨g2, 0, none⟩) K K) K ((List.range K).map B2) (some ⟨u2.heap.size, 0, none⟩) 1 1 rfl OWN2.out HU2.out _ (by rw [HZ9.out]; exact rfl) hK8 ?_; intro gx2 cx2 w5 ho5 hon5 hat5))
          have M2 : Hid (Marks w5 w3.heap.size g2 gx2 (K + 1) (-102)) := marks_push ONK2.out PP2.out CN2.out W3U.out G2L.out ho5 (hon5.mono (fun q _ e => (Option.some.inj e).symm)) (hat5.imp Option.some.inj id)
          have OO2 : Hid (Only (fun k => k = g2) w4 w5) := (O2.out.trans (Only.of_below PP2.out : Only (fun _ => False) _ _) (fun _ _ e => e.elim)).trans hon5 (fun q _ e => (Option.some.inj e).symm)
          clear ho5 hon5 hat5 OWN2 HU2 CN2 PP2 HZ9 ONK2 O2 hzu2 hd hi hlt
          have M1' := M1
          have MA : Hid (Marks w5 w3.heap.size g1 gx1 (K + 1) (-101)) := M1'.out.only OO2.out (fun k hk e => by have := G2L.out; omega) (by have := R1G.out; have := R2G.out; omega)
          clear M1 M1'
          have M1 := MA
          clear MA
          have OF : Hid (Only (twoS lo1 hi1 lo2 hi2) w w5) := (O3.out.trans OO1.out (fun i _ e => by rw [e]; exact .inl R1G.out)).trans OO2.out (fun i _ e => by rw [e]; exact .inr R2G.out)
          clear OO1 OO2 O3 O2 O1 ROW1 ROW2 ROW2' G1L G2L
          go_wp2
          go_loopw [6, 11] (fun v6 vs wr => v6 = .bool true ∧ ∃ i : Nat, vs = .int .i64 i ∧ i ≤ K + 1 ∧ w5 = wr) (fun _ vs _ => K + 1 - (intOf vs).toNat)
          case atStart => exact ⟨rfl, 0, rfl, Nat.zero_le _, rfl⟩
          case round =>
            obtain ⟨rfl, j1, rfl, hj, rfl⟩ := hrel
            by_cases hlt : j1 < K + 1
            · obtain ⟨hh, hc, d0, _, d1⟩ := M1.out.cells j1 hlt
              have hjI : (j1 : Int) < (K : Int) + 1 := by omega
              go_wp2
              go_roundw
              case rel => exact ⟨by first | rfl | trivial, j1 + 1, by go_num, by omega, by first | rfl | trivial⟩
              case measure => simp [intOf]; omega
            · have hltn := hlt
              go_wp2
              go_loopw [6, 12] (fun v6 vs wr => v6 = .bool true ∧ ∃ i : Nat, vs = .int .i64 i ∧ i ≤ K + 1 ∧ w5 = wr) (fun _ vs _ => K + 1 - (intOf vs).toNat)
              case atStart => exact ⟨rfl, 0, rfl, Nat.zero_le _, rfl⟩
              case round =>
                obtain ⟨rfl, j2, rfl, hj, rfl⟩ := hrel
                by_cases hlt : j2 < K + 1
                · obtain ⟨hh, hc, d0, _, d1⟩ := M2.out.cells j2 hlt
                  have hjI : (j2 : Int) < (K : Int) + 1 := by omega
                  go_wp2
                  go_roundw
                  case rel => exact ⟨by first | rfl | trivial, j2 + 1, by go_num, by omega, by first | rfl | trivial⟩
                  case measure => simp [intOf]; omega
                · have hltn := hlt
                  go_wp2
                  go_ret
                  exact ⟨rfl, OF.out⟩

end Go.Proofs.YtnkgpinadgacgaaDoor

namespace Go.Proofs.YtnkgpinadgacgaaDoor
open Go.RowKit M
theorem RowQ.drewN {w : World} {s : Value} {q : List Nat} (h : RowQ w s q) (n : Nat) : RowQ (w.drewN n) s q :=
  h.only ((Only.refl (fun _ => False) w).drewN n) (fun _ _ e => e)

set_option maxRecDepth 100000 in
set_option maxHeartbeats 1000000 in
theorem sameInts_q (v1 v2 : Value) (L : List Nat) (w : World) (hL : L.length ≤ 1000000) (h1 : RowQ w v1 L) (h2 : RowQ w v2 L) :
    Calls Tryd.prog 17 #[v1, v2] w fun e w' => e = .returned (.bool true) ∧ ∃ m, w' = w.drewN m := by
  obtain ⟨a1, c1, rfl, k1⟩ := h1.form
  obtain ⟨a2, c2, rfl, k2⟩ := h2.form
  have K1 := Hid.mk k1
  have K2 := Hid.mk k2
  clear h1 h2 k1 k2
  obtain ⟨N, hN⟩ : ∃ N, N = L.length := ⟨_, rfl⟩
  rw [← hN] at K1 K2 hL ⊢
  clear hN
  go_enter Tryd.func17, Tryd.ntmps17
  go_wp2
  go_loopw [5] (fun s wr => ∃ k m : Nat, k ≤ N ∧ s = .int .i64 k ∧ wr = w.drewN m) (fun s _ => N - (intOf s).toNat)
  case atStart => exact ⟨0, 0, Nat.zero_le _, rfl, rfl⟩
  case round =>
    obtain ⟨k, m, hk, rfl, rfl⟩ := hrel
    by_cases hlt : k < N
    · obtain ⟨b1, rfl, e1⟩ := K1.out (by omega)
      obtain ⟨b2, rfl, e2⟩ := K2.out (by omega)
      have d1 := e1 k hlt
      have d2 := e2 k hlt
      have hkI : (k : Int) < (N : Int) := by omega
      clear e1 e2
      go_wp2
      go_quiet (fail)
      go_wp2
      go_roundw
      case rel => exact ⟨k + 1, _, by omega, by go_num, by first | rfl | rw [World.drewN_drewN]⟩
      case measure => simp [intOf]; omega
    · go_wp2
      go_ret
      exact ⟨rfl, m, rfl⟩

set_option maxRecDepth 100000 in
set_option maxHeartbeats 1000000 in
theorem samePlans_q (v1 v2 : Value) (Ls : List (List Nat)) (w : World) (hK : Ls.length ≤ 1000) (hL : ∀ t, t < Ls.length → (Ls.getD t []).length ≤ 1000000) (h1 : PlanQ w v1 Ls) (h2 : PlanQ w v2 Ls) :
    Calls Tryd.prog 27 #[v1, v2] w fun e w' => e = .returned (.bool true) ∧ Below w.heap.size w w' := by
  obtain ⟨a1, c1, rfl, k1⟩ := h1
  obtain ⟨a2, c2, rfl, k2⟩ := h2
  have K1 := Hid.mk k1
  have K2 := Hid.mk k2
  have HL := Hid.mk hL
  clear hL k1 k2
  obtain ⟨N, hN⟩ : ∃ N, N = Ls.length := ⟨_, rfl⟩
  rw [← hN] at K1 K2 HL hK ⊢
  clear hN
  go_enter Tryd.func27, Tryd.ntmps27
  go_wp2
  go_loopw [5, 6] (fun s _ wr => ∃ k : Nat, k ≤ N ∧ s = .int .i64 k ∧ Below w.heap.size w wr) (fun s _ _ => N - (intOf s).toNat)
  case atStart => exact ⟨0, Nat.zero_le _, rfl, Below.refl _ _⟩
  case round =>
    obtain ⟨k, hk, rfl, hbr⟩ := hrel
    have HB := Hid.mk hbr
    by_cases hlt : k < N
    · obtain ⟨b1, rfl, e1⟩ := K1.out (by omega)
      obtain ⟨b2, rfl, e2⟩ := K2.out (by omega)
      obtain ⟨s1, c1', q1⟩ := e1 k hlt
      obtain ⟨s2, c2', q2⟩ := e2 k hlt
      have d1 := cell_later HB.out c1'
      have d2 := cell_later HB.out c2'
      have Q1 := Hid.mk (q1.below HB.out)
      have Q2 := Hid.mk (q2.below HB.out)
      have hkI : (k : Int) < (N : Int) := by omega
      have SI : Hid (∀ n, Calls Tryd.prog 17 #[s1, s2] (wr.drewN n) fun e w' => e = .returned (.bool true) ∧ ∃ j, w' = (wr.drewN n).drewN j) := fun n => sameInts_q s1 s2 _ _ (HL.out k hlt) (Q1.out.drewN n) (Q2.out.drewN n)
      clear e1 e2 q1 q2 c1' c2' hbr
      go_wp2_with fail
      go_quiet ((go_at_call 17; exact Calls.quiet_of (SI.out _)))
      go_wp2
      go_roundw
      case rel => exact ⟨k + 1, by omega, by go_num, below_drewN HB.out _⟩
      case measure => simp [intOf]; omega
    · clear hbr
      go_wp2
      go_ret
      exact ⟨rfl, HB.out⟩

end Go.Proofs.YtnkgpinadgacgaaDoor
