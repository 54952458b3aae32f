/- Walk of Steps, where shaped gives a good yard: the law answers true. -/
import Derived.Test.YtnkgpinadgacgaaDoorBf
namespace Go.Proofs.YtnkgpinadgacgaaDoor
open Go.RowKit M

theorem far_hi {N : Nat} {adj : Nat → Nat → Bool} {c a : Nat} {d : Nat → Int} (h : IsFar N adj c d) (hc : c < N) (ha : a < N) : d a ≤ N := by
  rw [h.unique (orow_isFar hc) a ha]
  have := (part_all (adj := adj) hc (N - 1)).high a ha
  omega

/-- Is the cell c itself at 0 or untold, or has one of the first k cells, a neighbour, a distance less by one? -/
def nearK (sa : Nat → Int) (co : Int) (cs : ByteArray) (c : Nat) : Nat → Bool
  | 0 => decide (sa c < 1)
  | k + 1 => nearK sa co cs c k || (kmay co cs c k && (sa k == sa c - 1))

theorem nearK_of {sa : Nat → Int} {co : Int} {cs : ByteArray} {c b : Nat} (h1 : kmay co cs c b = true) (h2 : sa b = sa c - 1) : ∀ k, b < k → nearK sa co cs c k = true
  | 0, h => by omega
  | k + 1, h => by
    simp only [nearK]
    by_cases e : b = k
    · subst e; rw [h1, h2]; simp
    · rw [nearK_of h1 h2 k (by omega)]; rfl

theorem nearK_low {sa : Nat → Int} {co : Int} {cs : ByteArray} {c : Nat} (h : sa c < 1) : ∀ k, nearK sa co cs c k = true
  | 0 => by simp [nearK, h]
  | k + 1 => by simp only [nearK]; rw [nearK_low h k]; rfl

theorem nearK_all {sa : Nat → Int} {co : Int} {cs : ByteArray} {A c : Nat} (h : IsFar cs.size (adjM co cs) A sa) (hA : freeB cs A = true) (hc : c < cs.size) (hf : freeB cs c = true) : nearK sa co cs c cs.size = true := by
  by_cases e : sa c < 1
  · exact nearK_low e _
  · obtain ⟨b, hb, h1, h2⟩ := far_near h hA hc hf (by omega)
    exact nearK_of h1 h2 _ hb

set_option maxRecDepth 100000 in
set_option maxHeartbeats 2000000 in
theorem steps_any (HSH : Shapes) (rr rc rb at1 at2 : Int) (s : ByteArray) (a : Option Addr) (n cap : Nat) (x : Nat → Int) (w : World) (hs : s.size ≤ maxLen) (hn : n ≤ 17592186044415) (hsd : SidesIn w)
    (wr0 : (Lit.int .i64 rr).wf = true) (wc0 : (Lit.int .i64 rc).wf = true) (wb0 : (Lit.int .i64 rb).wf = true) (wa1 : (Lit.int .i64 at1).wf = true) (wa2 : (Lit.int .i64 at2).wf = true)
    (hx : (∀ i, i < n → (Lit.int .i64 (x i)).wf = true) ∧ (0 < n → ∃ b off, a = some ⟨b, off, none⟩ ∧ ∀ i, i < n → w.cell? ⟨b, off + i, none⟩ = some (.int .i64 (x i)))) :
    Calls Tryd.prog 10 #[.agg #[.int .i64 rr, .int .i64 rc, .string s, .slice a n cap, .int .i64 rb], .int .i64 at1, .int .i64 at2] w fun e w' => e = .returned (.bool true) ∧ Below w.heap.size w w' := by
  have HSD := Hid.mk hsd
  have HX := Hid.mk hx
  have HH := Hid.mk HSH
  clear hsd hx HSH
  go_enter Tryd.func10, Tryd.ntmps10
  go_wp2_with fail
  refine (HH.out rr rc rb s a n cap x _ hs hn wr0 wc0 wb0 (by exact ⟨HX.out.1, fun h => by obtain ⟨b, off, hab, hc⟩ := HX.out.2 h; exact ⟨b, off, hab, fun i hi => cell_later ((Below.refl _ _).alloc (Nat.le_refl _) _) (hc i hi)⟩⟩)).mono ?_
  rintro e w1 ⟨R, C, U, m, cc, g, cs, fr, tt, rfl, hm1, hm4, hmc, hcarts, hck, hf0, hN, hb1⟩
  have hB1 := Hid.mk (((Below.refl _ w).alloc (Nat.le_refl _) _).trans (hb1.mono (by simp)) : Below w.heap.size w w1)
  have hz1 : w.heap.size < w1.heap.size := by have := hb1.size; simp at this; omega
  have HC1 := Hid.mk hcarts
  have HCK := Hid.mk hck
  have HF0 := Hid.mk hf0
  obtain ⟨sd1, sd2, hsz⟩ := checkM_good (show (checkM R C cs m fr tt U).1 = 0 by rw [hck])
  obtain ⟨r1, r2⟩ := side_bd sd1
  obtain ⟨r3, r4⟩ := side_bd sd2
  obtain ⟨hp1, hp2⟩ := mul_bd r1 r2 r3 r4
  have hN1 : 1 ≤ cs.size := by omega
  have hsm : cs.size ≤ maxLen := by unfold maxLen; omega
  have hmm : m ≤ maxLen := by unfold maxLen; omega
  have HSZ := Hid.mk hsz
  clear hcarts hck hf0 hb1 sd1 sd2 hsz hp1 hp2
  go_wp2_with fail
  have y1 : ∀ o, (w1.alloc (Obj.cells #[Value.int .i64 (R : Int), .int .i64 (C : Int), .string cs, .slice (some ⟨g, 0, none⟩) m cc, .int .i64 (U : Int)] 24)).cell? ⟨w1.heap.size, o, none⟩ = #[Value.int .i64 (R : Int), .int .i64 (C : Int), .string cs, .slice (some ⟨g, 0, none⟩) m cc, .int .i64 (U : Int)][o]? := by
    intro o; go_simp
  have B12 : Hid (Below w1.heap.size w1 (w1.alloc (Obj.cells #[Value.int .i64 (R : Int), .int .i64 (C : Int), .string cs, .slice (some ⟨g, 0, none⟩) m cc, .int .i64 (U : Int)] 24))) := (Below.refl _ _).alloc (Nat.le_refl _) _
  have hz2 : w1.heap.size < (w1.alloc (Obj.cells #[Value.int .i64 (R : Int), .int .i64 (C : Int), .string cs, .slice (some ⟨g, 0, none⟩) m cc, .int .i64 (U : Int)] 24)).heap.size := by simp
  generalize w1.alloc (Obj.cells #[Value.int .i64 (R : Int), .int .i64 (C : Int), .string cs, .slice (some ⟨g, 0, none⟩) m cc, .int .i64 (U : Int)] 24) = w2 at *
  have HC2 := Hid.mk (HC1.out.below B12.out)
  have HS2 := Hid.mk (HSD.out.below (hB1.out.trans (B12.out.mono (by omega))))
  have hB2 : Hid (Below w.heap.size w w2) := hB1.out.trans (B12.out.mono (by omega))
  refine (right_any _ _ _ _ _ _ _ fr tt _ hsm hmm hmc (by exact fun _ => ⟨g, 0, rfl, HC2.out⟩) (by exact HCK.out)).mono ?_
  rintro e w3 ⟨rfl, hb3⟩
  have y3 : ∀ o, w3.cell? ⟨w1.heap.size, o, none⟩ = #[Value.int .i64 (R : Int), .int .i64 (C : Int), .string cs, .slice (some ⟨g, 0, none⟩) m cc, .int .i64 (U : Int)][o]? := fun o => (hb3.cell (p := ⟨w1.heap.size, o, none⟩) hz2).trans (y1 o)
  have B23 := Hid.mk hb3
  have hz3 : w2.heap.size ≤ w3.heap.size := hb3.size
  clear y1 hb3
  go_wp2_with fail
  refine (kfree_any _ _ _ cs _ _ hN).mono ?_
  rintro e w4 ⟨v9, rfl, ho9, hb4⟩
  have y4 : ∀ o, w4.cell? ⟨w1.heap.size, o, none⟩ = #[Value.int .i64 (R : Int), .int .i64 (C : Int), .string cs, .slice (some ⟨g, 0, none⟩) m cc, .int .i64 (U : Int)][o]? := fun o => (hb4.cell (p := ⟨w1.heap.size, o, none⟩) (by show w1.heap.size < _; omega)).trans (y3 o)
  have B34 := Hid.mk hb4
  have hz4 : w3.heap.size ≤ w4.heap.size := hb4.size
  obtain ⟨L, hL⟩ : ∃ L, L = freeTo cs cs.size := ⟨_, rfl⟩
  have hLp : 0 < L.length := by
    rw [hL]; obtain ⟨k, hk⟩ : ∃ k, cs.size = k + 1 := ⟨cs.size - 1, by omega⟩
    rw [hk]; exact freeTo_pos HF0.out k
  have hL36 : L.length ≤ 36 := by rw [hL]; have := freeTo_len cs cs.size; omega
  rw [← hL] at ho9
  have HL := Hid.mk hL
  obtain ⟨g9, c9, rfl⟩ : ∃ g9 c9, v9 = .slice (some ⟨g9, 0, none⟩) L.length c9 := by
    rcases ho9.2 with ⟨_, e2⟩ | ⟨g9, c9, cur, e1, _⟩
    · omega
    · exact ⟨g9, c9, e1⟩
  have O9 := Hid.mk ho9
  clear y3 hb4 hL ho9
  go_wp2_with fail
  refine (pick_any at1 L.length _ hLp (by omega) wa1).mono ?_
  rintro e w5 ⟨p1, hp1, rfl, hw5⟩
  have hw5 := hw5.symm
  subst hw5
  have d1 : w4.cell? ⟨g9, p1, none⟩ = some (.int .i64 (L.getD p1 0)) := by rw [own_cell O9.out hp1, ints_at' hp1]
  obtain ⟨A, hAN, hA1, hA2⟩ := freeTo_at (cs := cs) (k := cs.size) (j := p1) (by rw [← HL.out]; exact hp1)
  rw [← HL.out] at hA1
  rw [hA1] at d1
  have FA := Hid.mk hA2
  clear hA1 hA2
  go_wp2_with fail
  refine (pick_any at2 L.length _ hLp (by omega) wa2).mono ?_
  rintro e w5 ⟨p2, hp2, rfl, hw5⟩
  have hw5 := hw5.symm
  subst hw5
  have d2 : w4.cell? ⟨g9, p2, none⟩ = some (.int .i64 (L.getD p2 0)) := by rw [own_cell O9.out hp2, ints_at' hp2]
  obtain ⟨B, hBN, hB1', hB2'⟩ := freeTo_at (cs := cs) (k := cs.size) (j := p2) (by rw [← HL.out]; exact hp2)
  rw [← HL.out] at hB1'
  rw [hB1'] at d2
  have FB := Hid.mk hB2'
  have HC4 := Hid.mk ((HC2.out.below B23.out).below B34.out)
  have HS4 := Hid.mk ((HS2.out.below B23.out).below B34.out)
  clear hB1' hB2'
  go_wp2_with fail
  refine (yfar_ok _ _ _ _ _ _ _ fr tt A _ hsm hmm hmc (by exact HS4.out) (by exact fun _ => ⟨g, 0, rfl, HC4.out⟩) (by rw [HCK.out]) FA.out).mono ?_
  rintro e w5 ⟨ga, sa, rfl, hga, hfa, hra, hb5⟩
  have y5 : ∀ o, w5.cell? ⟨w1.heap.size, o, none⟩ = #[Value.int .i64 (R : Int), .int .i64 (C : Int), .string cs, .slice (some ⟨g, 0, none⟩) m cc, .int .i64 (U : Int)][o]? := fun o => (hb5.cell (p := ⟨w1.heap.size, o, none⟩) (by show w1.heap.size < _; omega)).trans (y4 o)
  have B45 := Hid.mk hb5
  have hz5 : w4.heap.size ≤ w5.heap.size := hb5.size
  have HFA := Hid.mk hfa
  have HRA := Hid.mk hra
  have HC5 := Hid.mk (HC4.out.below hb5)
  have HS5 := Hid.mk (HS4.out.below hb5)
  clear y4 d1 d2 hb5 hfa hra
  go_wp2_with fail
  refine (yfar_ok _ _ _ _ _ _ _ fr tt B _ hsm hmm hmc (by exact HS5.out) (by exact fun _ => ⟨g, 0, rfl, HC5.out⟩) (by rw [HCK.out]) FB.out).mono ?_
  rintro e w6 ⟨gb, sb, rfl, hgb, hfb, hrb, hb6⟩
  have y6 : ∀ o, w6.cell? ⟨w1.heap.size, o, none⟩ = #[Value.int .i64 (R : Int), .int .i64 (C : Int), .string cs, .slice (some ⟨g, 0, none⟩) m cc, .int .i64 (U : Int)][o]? := fun o => (hb6.cell (p := ⟨w1.heap.size, o, none⟩) (by show w1.heap.size < _; omega)).trans (y5 o)
  have B56 := Hid.mk hb6
  have hz6 : w5.heap.size ≤ w6.heap.size := hb6.size
  have HFB := Hid.mk hfb
  have HRB := Hid.mk hrb
  have HRA6 := Hid.mk (rowIs_below HRA.out hb6)
  have hB6 : Hid (Below w.heap.size w w6) := (((hB2.out.trans (B23.out.mono (by omega))).trans (B34.out.mono (by omega))).trans (B45.out.mono (by omega))).trans (B56.out.mono (by omega))
  clear y5 hb6 hfb hrb
  go_wp2_with fail
  have y62 : w6.cell? ⟨w1.heap.size, 2, none⟩ = some (.string cs) := by rw [y6]; rfl
  have hza := HFA.out.zero
  have hsy := far_sym HFA.out HFB.out FA.out FB.out hAN hBN
  have cA := HRA6.out.cell hAN
  have cB := HRA6.out.cell hBN
  have cF := HRB.out.cell hAN
  rw [show intV sa A = Value.int .i64 0 from by rw [intV, hza]] at cA
  rw [show intV sa B = Value.int .i64 (sb A) from by rw [intV, hsy]] at cB
  rw [show intV sb A = Value.int .i64 (sb A) from rfl] at cF
  have Y6 := Hid.mk y6
  have hz16 : w1.heap.size < w6.heap.size := by omega
  clear y6 hza hsy
  go_quiet (fail)
  go_wp2
  clear cA cB cF y62
  go_loopw [16] (fun s wr => ∃ c : Nat, c ≤ cs.size ∧ s = .int .i64 c ∧ Below w6.heap.size w6 wr) (fun s _ => cs.size - (intOf s).toNat)
  case atStart => exact ⟨0, Nat.zero_le _, rfl, below_drewN (Below.refl _ _) _⟩
  case round =>
    obtain ⟨c, hc, rfl, hbr0⟩ := hrel
    obtain ⟨wo, rfl⟩ : ∃ x, x = wr := ⟨_, rfl⟩
    have HB := Hid.mk hbr0
    have hzo := hbr0.size
    have RA := Hid.mk (rowIs_below HRA6.out hbr0)
    have yo : ∀ o, wo.cell? ⟨w1.heap.size, o, none⟩ = #[Value.int .i64 (R : Int), .int .i64 (C : Int), .string cs, .slice (some ⟨g, 0, none⟩) m cc, .int .i64 (U : Int)][o]? := fun o => (hbr0.cell (p := ⟨w1.heap.size, o, none⟩) (by show w1.heap.size < _; omega)).trans (Y6.out o)
    have YO := Hid.mk yo
    have yc : wo.cell? ⟨w1.heap.size, 2, none⟩ = some (.string cs) := by rw [yo]; rfl
    clear hbr0 yo
    by_cases hlt : c < cs.size
    · have rc := RA.out.cell hlt
      rw [show intV sa c = Value.int .i64 (sa c) from rfl] at rc
      have hin := freeB_in (cs := cs) (c := (c : Int)) (by omega) (by omega)
      simp only [Int.toNat_natCast] at hin
      by_cases hf : freeB cs c = true
      · have hbb : ((cs[c].toNat : Int) != 46) = false := by rw [hin] at hf; simpa using hf
        have FC := Hid.mk hf
        have lo := HFA.out.low c hlt
        have hi := far_hi HFA.out hAN hlt
        clear hin hf
        go_wp2
        go_loopw [17, 18] (fun s17 s18 wr => ∃ (k : Nat) (nb : Bool), k ≤ cs.size ∧ s17 = .bool nb ∧ s18 = .int .i64 k ∧ nb = nearK sa C cs c k ∧ Below wo.heap.size wo wr) (fun _ s18 _ => cs.size - (intOf s18).toNat)
        case atStart => exact ⟨0, _, Nat.zero_le _, rfl, rfl, rfl, Below.refl _ _⟩
        case round =>
          obtain ⟨k, nb, hk, rfl, rfl, hnb, hbi⟩ := hrel
          have HNB := Hid.mk hnb
          have HBI := Hid.mk hbi
          have hzi := hbi.size
          have RAi := Hid.mk (rowIs_below RA.out hbi)
          have rci := cell_later hbi rc
          have yi : ∀ o, wr.cell? ⟨w1.heap.size, o, none⟩ = #[Value.int .i64 (R : Int), .int .i64 (C : Int), .string cs, .slice (some ⟨g, 0, none⟩) m cc, .int .i64 (U : Int)][o]? := fun o => (hbi.cell (p := ⟨w1.heap.size, o, none⟩) (by show w1.heap.size < _; omega)).trans (YO.out o)
          have RC := Hid.mk rc
          have YC := Hid.mk yc
          clear hnb hbi rc yc
          by_cases hlk : k < cs.size
          · have rk := RAi.out.cell hlk
            rw [show intV sa k = Value.int .i64 (sa k) from rfl] at rk
            have lok := HFA.out.low k hlk
            go_wp2_with fail
            refine (kmay_any _ _ _ c k cs _ _ hN (by omega) (by omega) hlt hlk).mono ?_
            rintro e wk ⟨he, hbk⟩
            obtain ⟨mb, hmb⟩ : ∃ mb, mb = kmay C cs c k := ⟨_, rfl⟩
            rw [← hmb] at he
            subst he
            have rc2 := cell_later hbk rci
            have rk2 := cell_later hbk rk
            have HBK : Hid (Below wo.heap.size wo wk) := HBI.out.trans (hbk.mono (by omega))
            clear hbk rci rk yi
            cases mb
            · have HN := Hid.mk (show nb = nearK sa C cs c (k + 1) by simp only [nearK]; rw [← hmb, ← HNB.out]; simp)
              clear hmb
              go_wp2
              go_roundw
              case rel => exact ⟨k + 1, nb, by omega, rfl, by go_num, HN.out, HBK.out⟩
              case measure => simp [intOf]; omega
            · obtain ⟨st1, st2⟩ := far_step HFA.out hlt hlk FC.out hmb.symm
              have HN := Hid.mk (show (nb || (sa k == sa c - 1)) = nearK sa C cs c (k + 1) by simp only [nearK]; rw [← hmb, ← HNB.out]; simp)
              have st3 : decide (sa c + 1 < sa k) = false := decide_eq_false (by omega)
              clear hmb
              by_cases hsg : sa c < 0
              · have hsg' : sa k < 0 := by simpa [hsg] using st1
                clear st1
                cases nb
                · go_wp2
                  go_quiet (fail)
                  go_wp2
                  go_quiet (fail)
                  go_wp2
                  go_roundw
                  case rel => exact ⟨k + 1, _, by omega, rfl, by go_num, HN.out, below_drewN HBK.out _⟩
                  case measure => simp [intOf]; omega
                · go_wp2
                  go_quiet (fail)
                  go_wp2
                  go_quiet (fail)
                  go_wp2
                  go_roundw
                  case rel => exact ⟨k + 1, _, by omega, rfl, by go_num, HN.out, below_drewN HBK.out _⟩
                  case measure => simp [intOf]; omega
              · have hsg1 : decide (sa c < 0) = false := decide_eq_false hsg
                have hsg2 : decide (sa k < 0) = false := by rw [st1]; exact hsg1
                clear st1 hsg
                cases nb
                · go_wp2
                  go_quiet (fail)
                  go_wp2
                  go_quiet (fail)
                  go_wp2
                  go_roundw
                  case rel => exact ⟨k + 1, _, by omega, rfl, by go_num, HN.out, below_drewN HBK.out _⟩
                  case measure => simp [intOf]; omega
                · go_wp2
                  go_quiet (fail)
                  go_wp2
                  go_quiet (fail)
                  go_wp2
                  go_roundw
                  case rel => exact ⟨k + 1, _, by omega, rfl, by go_num, HN.out, below_drewN HBK.out _⟩
                  case measure => simp [intOf]; omega
          · have hd : k = cs.size := by omega
            have hn1 : nb = true := by rw [HNB.out, hd]; exact nearK_all HFA.out FA.out hlt FC.out
            subst hn1
            have lo1 : decide (sa c < -1) = false := decide_eq_false (by omega)
            clear hd yi
            by_cases hz : sa c = 0
            · have hca := HFA.out.src c hlt hz
              have z1 : (sa c == 0) = true := by simpa using hz
              have z2 : ((c : Int) != (A : Int)) = false := by simp [hca]
              clear hca hz
              go_wp2
              go_roundw
              case rel => exact ⟨c + 1, by omega, by go_num, HB.out.trans (HBI.out.mono hzo)⟩
              case measure => simp [intOf]; omega
            · have z1 : (sa c == 0) = false := by simpa using hz
              clear hz
              go_wp2
              go_roundw
              case rel => exact ⟨c + 1, by omega, by go_num, HB.out.trans (HBI.out.mono hzo)⟩
              case measure => simp [intOf]; omega
      · have hbb : ((cs[c].toNat : Int) != 46) = true := by rw [hin] at hf; simpa using hf
        have e1 := far_wall HFA.out FA.out hlt (by simpa using hf)
        rw [e1] at rc
        clear e1 hin hf
        go_wp2
        go_roundw
        case rel => exact ⟨c + 1, by omega, by go_num, HB.out⟩
        case measure => simp [intOf]; omega
    · go_wp2
      go_ret
      exact ⟨rfl, hB6.out.trans (HB.out.mono (by omega))⟩

end Go.Proofs.YtnkgpinadgacgaaDoor
