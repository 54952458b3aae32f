/- Walk of Lanes: the law answers true. -/
import Derived.Test.YtnkgpinadgacgaaDoorEz
import Derived.Test.YtnkgpinadgacgaaDoorBs
import Derived.Deep.DeepCutAuto
namespace Go.Proofs.YtnkgpinadgacgaaDoor
open Go.RowKit M

set_option maxRecDepth 100000 in
set_option maxHeartbeats 8000000 in
theorem lanes_any (HSH : Shapes) (rr rc rb cart less : Int) (s sw : ByteArray) (a : Option Addr) (n cap : Nat) (x : Nat → Int) (ar : Option Addr) (nr capr : Nat) (Rr : Nat → RuleM) (w : World) (hs : s.size ≤ maxLen) (hn : n ≤ 17592186044415) (hsd : SidesIn w)
    (wr0 : (Lit.int .i64 rr).wf = true) (wc0 : (Lit.int .i64 rc).wf = true) (wb0 : (Lit.int .i64 rb).wf = true) (wa1 : (Lit.int .i64 cart).wf = true) (wa2 : (Lit.int .i64 less).wf = true) (hsw : sw.size ≤ maxLen)
    (hx : (∀ i, i < n → (Lit.int .i64 (x i)).wf = true) ∧ (0 < n → ∃ b off, a = some ⟨b, off, none⟩ ∧ ∀ i, i < n → w.cell? ⟨b, off + i, none⟩ = some (.int .i64 (x i))))
    (hnr : nr ≤ maxLen) (har : RulesAt w ar nr Rr) (hri : RulesInt nr Rr) :
    Calls Tryd.prog 12 #[.agg #[.int .i64 rr, .int .i64 rc, .string s, .slice a n cap, .int .i64 rb], .int .i64 cart, .slice ar nr capr, .string sw, .int .i64 less] w fun e w' => e = .returned (.bool true) ∧ Below w.heap.size w w' := by
  have HSD := Hid.mk hsd
  have HX := Hid.mk hx
  have HH := Hid.mk HSH
  have HAR := Hid.mk har
  have HRI := Hid.mk hri
  clear hsd hx HSH har hri
  go_enter Tryd.func12, Tryd.ntmps12
  go_wp2_with fail
  refine (HH.out rr rc rb s a n cap x _ hs hn wr0 wc0 wb0 (by exact ⟨HX.out.1, fun h => by obtain ⟨b, off, hab, hc⟩ := HX.out.2 h; exact ⟨b, off, hab, fun i hi => cell_later ((Below.refl _ _).alloc (Nat.le_refl _) _) (hc i hi)⟩⟩)).mono ?_
  rintro e w1 ⟨R, C, U, m, cc, g, cs, fr, tt, rfl, hm1, hm4, hmc, hcarts, hck, hf0, hN, hb1⟩
  have hB1 := Hid.mk (((Below.refl _ w).alloc (Nat.le_refl _) _).trans (hb1.mono (by simp)) : Below w.heap.size w w1)
  have hz1 : w.heap.size < w1.heap.size := by have := hb1.size; simp at this; omega
  have HC1 := Hid.mk hcarts
  have HCK := Hid.mk hck
  obtain ⟨sd1, sd2, hsz⟩ := checkM_good (show (checkM R C cs m fr tt U).1 = 0 by rw [hck])
  obtain ⟨r1, r2⟩ := side_bd sd1
  obtain ⟨r3, r4⟩ := side_bd sd2
  obtain ⟨hp1, hp2⟩ := mul_bd r1 r2 r3 r4
  have hN1 : 1 ≤ cs.size := by omega
  have hsm : cs.size ≤ maxLen := by unfold maxLen; omega
  have hmm : m ≤ maxLen := by unfold maxLen; omega
  have FREE := Hid.mk (carts_free (show (checkM R C cs m fr tt U).1 = 0 by rw [hck])).2
  clear hcarts hck hf0 hb1 sd1 sd2 hsz hp1 hp2
  go_wp2_with fail
  have y1 : ∀ o, (w1.alloc (Obj.cells #[Value.int .i64 (R : Int), .int .i64 (C : Int), .string cs, .slice (some ⟨g, 0, none⟩) m cc, .int .i64 (U : Int)] 24)).cell? ⟨w1.heap.size, o, none⟩ = #[Value.int .i64 (R : Int), .int .i64 (C : Int), .string cs, .slice (some ⟨g, 0, none⟩) m cc, .int .i64 (U : Int)][o]? := by
    intro o; go_simp
  have B12 : Hid (Below w1.heap.size w1 (w1.alloc (Obj.cells #[Value.int .i64 (R : Int), .int .i64 (C : Int), .string cs, .slice (some ⟨g, 0, none⟩) m cc, .int .i64 (U : Int)] 24))) := (Below.refl _ _).alloc (Nat.le_refl _) _
  have hz2 : w1.heap.size < (w1.alloc (Obj.cells #[Value.int .i64 (R : Int), .int .i64 (C : Int), .string cs, .slice (some ⟨g, 0, none⟩) m cc, .int .i64 (U : Int)] 24)).heap.size := by simp
  generalize w1.alloc (Obj.cells #[Value.int .i64 (R : Int), .int .i64 (C : Int), .string cs, .slice (some ⟨g, 0, none⟩) m cc, .int .i64 (U : Int)] 24) = w2 at *
  have HC2 := Hid.mk (HC1.out.below B12.out)
  have hB2 : Hid (Below w.heap.size w w2) := hB1.out.trans (B12.out.mono (by omega))
  have HS2 := Hid.mk (HSD.out.below hB2.out)
  have HA2 := Hid.mk (HAR.out.below hB2.out)
  refine (pick_any cart m _ (by omega) (by omega) wa1).mono ?_
  rintro e w5 ⟨k, hk, rfl, hw5⟩
  have hw5 := hw5.symm
  subst hw5
  obtain ⟨ff, fc⟩ := FREE.out k hk
  obtain ⟨f, hf⟩ := Int.eq_ofNat_of_zero_le (freeB_nonneg ff)
  obtain ⟨c, hc⟩ := Int.eq_ofNat_of_zero_le (freeB_nonneg fc)
  rw [hf] at ff
  rw [hc] at fc
  have FF := Hid.mk ff
  have FC := Hid.mk fc
  have HF := Hid.mk hf
  have HC := Hid.mk hc
  clear ff fc hf hc FREE
  go_wp2_with fail
  refine (krules_any _ _ _ cs _ _ _ ar nr capr Rr _ hN hN1 hnr HA2.out HRI.out).mono ?_
  rintro e w3 ⟨mr, a', c', R', rfl, hform, h40, hmc', hra, hrb, hrw, hb3⟩
  have y3 : ∀ o, w3.cell? ⟨w1.heap.size, o, none⟩ = #[Value.int .i64 (R : Int), .int .i64 (C : Int), .string cs, .slice (some ⟨g, 0, none⟩) m cc, .int .i64 (U : Int)][o]? := fun o => (hb3.cell (p := ⟨w1.heap.size, o, none⟩) hz2).trans (y1 o)
  have hz3 : w1.heap.size < w3.heap.size := Nat.lt_of_lt_of_le hz2 hb3.size
  have HB3 : Hid (Below w.heap.size w w3) := hB2.out.trans (hb3.mono (by have := hB2.out.size; omega))
  have HC3 := Hid.mk (HC2.out.below hb3)
  have HS3 := Hid.mk (HS2.out.below hb3)
  have RA3 := Hid.mk hra
  have RB := Hid.mk hrb
  have RW := Hid.mk hrw
  have FORM := Hid.mk hform
  have hmr : mr ≤ maxLen := by unfold maxLen; omega
  clear hb3 hra hrb hrw hform y1 hz2 HA2 HC2 HS2 B12
  go_upto_if 44 with fail
  go_cut [3] (fun v3 wx => ∃ s2 : ByteArray, s2.size ≤ 60 ∧ v3 = .string s2 ∧ wx = w3)
  case first =>
    by_cases hl : 60 < sw.size
    · have hlI : (60 : Int) < (sw.size : Int) := by omega
      have hl60 : 60 ≤ sw.size := by omega
      have hsw2 := hsw
      unfold maxLen at hsw2
      go_wp2
      go_meet
      case rel => exact ⟨_, (by first | (simp [ByteArray.size_extract]; omega) | (simp; omega) | simp), rfl, rfl⟩
    · have hlI : ¬ (60 : Int) < (sw.size : Int) := by omega
      go_wp2
      go_meet
      case rel => exact ⟨sw, by omega, rfl, rfl⟩
  case rest =>
    obtain ⟨s2, hs2, rfl, hwx⟩ := hcut
    have hwx := hwx.symm
    subst hwx
    have YALL : Hid (∀ wx, Below w3.heap.size w3 wx → (∀ o, wx.cell? ⟨w1.heap.size, o, none⟩ = #[Value.int .i64 (R : Int), .int .i64 (C : Int), .string cs, .slice (some ⟨g, 0, none⟩) m cc, .int .i64 (U : Int)][o]?) ∧ SidesIn wx ∧ CartsIn wx g 0 m fr tt ∧ RulesAt wx a' mr R' ∧ Below w.heap.size w wx ∧ wx.cell? ⟨g, k * 2, none⟩ = some (.int .i64 (f : Int)) ∧ w1.heap.size < wx.heap.size) := by
      intro wx hb
      have hcx := HC3.out.below hb
      have c0 := (hcx k hk).1
      rw [HF.out] at c0
      refine ⟨fun o => (hb.cell (p := ⟨w1.heap.size, o, none⟩) hz3).trans (y3 o), HS3.out.below hb, hcx, RA3.out.below hb, HB3.out.trans (hb.mono (by have := HB3.out.size; omega)), by simpa using c0, Nat.lt_of_lt_of_le hz3 hb.size⟩
    have GV : Hid (givenE R C U cs m fr tt (k : Int) mr R' = 0) := given_good HCK.out hk RB.out
    have hfN : f < cs.size := free_lt FF.out
    have hcN : c < cs.size := free_lt FC.out
    have hkI : (k : Int) < (m : Int) := by omega
    clear y3 HX HRI HAR HSD HC1 HS3 HC3 HH hB1 hB2 hz1
    obtain ⟨yw, _, _, _, _, y35, z13⟩ := YALL.out w3 (Below.refl _ _)
    have y30 := yw 0
    have y31 := yw 1
    have y32 := yw 2
    have y33 := yw 3
    have y34 := yw 4
    simp only [List.getElem?_toArray, List.getElem?_cons_zero, List.getElem?_cons_succ] at y30 y31 y32 y33 y34
    have zg3 : g < w3.heap.size := World.block_lt_of_cell? _ _ y35
    clear yw
    go_upto_region 6 with fail
    go_region_held3 (fun w' => w'.cell? ⟨w1.heap.size, 0, none⟩ = some (.int .i64 (R : Int)) ∧ w'.cell? ⟨w1.heap.size, 1, none⟩ = some (.int .i64 (C : Int)) ∧ w'.cell? ⟨w1.heap.size, 2, none⟩ = some (.string cs) ∧ w'.cell? ⟨w1.heap.size, 3, none⟩ = some (.slice (some ⟨g, 0, none⟩) m cc) ∧ w'.cell? ⟨w1.heap.size, 4, none⟩ = some (.int .i64 (U : Int)) ∧ w'.cell? ⟨g, k * 2, none⟩ = some (.int .i64 (f : Int))) (go_keep)
      (first
        | (go_at_call_of 56 (Value.int IntKind.i64 (R : Int)); refine (walk_any _ _ _ f cs s2 _ _ _ _ hN (by omega) (by omega) hfN (by omega)).mono ?_; rintro e w12 ⟨vw, rfl, gw, capw, pw, rfl, hcw, hcells, hin, hb12⟩; have q0 : w12.cell? ⟨w1.heap.size, 0, none⟩ = some (.int .i64 (R : Int)) := (hb12.cell (p := ⟨w1.heap.size, 0, none⟩) z13).trans y30; have q1 : w12.cell? ⟨w1.heap.size, 1, none⟩ = some (.int .i64 (C : Int)) := (hb12.cell (p := ⟨w1.heap.size, 1, none⟩) z13).trans y31; have q2 : w12.cell? ⟨w1.heap.size, 2, none⟩ = some (.string cs) := (hb12.cell (p := ⟨w1.heap.size, 2, none⟩) z13).trans y32; have q3 : w12.cell? ⟨w1.heap.size, 3, none⟩ = some (.slice (some ⟨g, 0, none⟩) m cc) := (hb12.cell (p := ⟨w1.heap.size, 3, none⟩) z13).trans y33; have q4 : w12.cell? ⟨w1.heap.size, 4, none⟩ = some (.int .i64 (U : Int)) := (hb12.cell (p := ⟨w1.heap.size, 4, none⟩) z13).trans y34; have q5 : w12.cell? ⟨g, k * 2, none⟩ = some (.int .i64 (f : Int)) := (hb12.cell (p := ⟨g, k * 2, none⟩) zg3).trans y35; have z112 : w1.heap.size < w12.heap.size := Nat.lt_of_lt_of_le z13 hb12.size; have zg12 : g < w12.heap.size := Nat.lt_of_lt_of_le zg3 hb12.size; have HCW := Hid.mk hcells; have HCP := Hid.mk hcw; have HIN := Hid.mk hin; have B12 : Hid (Below w3.heap.size w3 w12) := (Below.refl _ w3).drew.trans (hb12.mono (Nat.le_refl _)); clear hcells hin hb12 hcw)
        | (go_at_call 55; refine (trimmed_any gw s2.size capw pw _ (by omega) HCP.out HCW.out).mono ?_; rintro e w13 ⟨T', hT', rfl, hb13⟩; have t0 : w13.cell? ⟨w1.heap.size, 0, none⟩ = some (.int .i64 (R : Int)) := (hb13.cell (p := ⟨w1.heap.size, 0, none⟩) z112).trans q0; have t1 : w13.cell? ⟨w1.heap.size, 1, none⟩ = some (.int .i64 (C : Int)) := (hb13.cell (p := ⟨w1.heap.size, 1, none⟩) z112).trans q1; have t2 : w13.cell? ⟨w1.heap.size, 2, none⟩ = some (.string cs) := (hb13.cell (p := ⟨w1.heap.size, 2, none⟩) z112).trans q2; have t3 : w13.cell? ⟨w1.heap.size, 3, none⟩ = some (.slice (some ⟨g, 0, none⟩) m cc) := (hb13.cell (p := ⟨w1.heap.size, 3, none⟩) z112).trans q3; have t4 : w13.cell? ⟨w1.heap.size, 4, none⟩ = some (.int .i64 (U : Int)) := (hb13.cell (p := ⟨w1.heap.size, 4, none⟩) z112).trans q4; have t5 : w13.cell? ⟨g, k * 2, none⟩ = some (.int .i64 (f : Int)) := (hb13.cell (p := ⟨g, k * 2, none⟩) zg12).trans q5; have B13 : Hid (Below w3.heap.size w3 w13) := B12.out.trans (hb13.mono B12.out.size); have HC13 : Hid (∀ j, j ≤ s2.size → w13.cell? ⟨gw, j, none⟩ = some (natV pw j)) := (fun j hj => cell_later hb13 (HCW.out j hj)); clear hb13))
    clear t0 t1 t2 t3 t4 t5 q0 q1 q2 q3 q4 q5 y30 y31 y32 y33 y34 y35 z112 zg12 HCW
    obtain ⟨yw, _, hc13, _, _, _, z113⟩ := YALL.out w13 B13.out
    have HK13 := Hid.mk hc13
    clear hc13
    go_wp2_with fail
    refine (kisPath_any _ _ _ cs g 0 m cc fr tt k f c gw T' _ pw _ hN (by omega) (by omega) hk (by omega) HF.out HC.out HK13.out (fun s hs' => HC13.out s (by omega)) (fun s hs' => HIN.out s (by omega))).mono ?_
    rintro e w14 ⟨he, hb14⟩
    obtain ⟨ub, hub⟩ : ∃ ub, ub = isPathM C cs f c T' pw := ⟨_, rfl⟩
    rw [← hub] at he
    subst he
    have UB := Hid.mk hub
    have B14 : Hid (Below w3.heap.size w3 w14) := B13.out.trans (hb14.mono B13.out.size)
    have HC14 : Hid (∀ j, j ≤ s2.size → w14.cell? ⟨gw, j, none⟩ = some (natV pw j)) := fun j hj => cell_later hb14 (HC13.out j hj)
    clear hub hb14 yw HC13 HK13 z113
    obtain ⟨yw, _, _, ra14, _, _, z114⟩ := YALL.out w14 B14.out
    have RA14 := Hid.mk ra14
    clear ra14
    go_wp2_with fail
    refine (kkeeps_any a' mr c' R' gw T' _ pw _ hmr (by omega) RA14.out (fun s hs' => HC14.out s (by omega))).mono ?_
    rintro e w15 ⟨he, hb15⟩
    obtain ⟨vb, hvb⟩ : ∃ vb, vb = keepsM mr R' T' pw := ⟨_, rfl⟩
    rw [← hvb] at he
    subst he
    have VB := Hid.mk hvb
    have B15 : Hid (Below w3.heap.size w3 w15) := B14.out.trans (hb15.mono B14.out.size)
    have HC15 : Hid (∀ j, j ≤ s2.size → w15.cell? ⟨gw, j, none⟩ = some (natV pw j)) := fun j hj => cell_later hb15 (HC14.out j hj)
    have OKW : Hid (ub = true → vb = true → PathOK C cs mr R' f c T' pw) := fun h1 h2 => kept_ok RB.out FC.out (by rw [← UB.out]; exact h1) (fun s hs' => HIN.out s (by omega)) (by rw [← VB.out]; exact h2)
    have HIT : Hid (ub = true → vb = true → hitM C cs mr R' f c T' = true) := fun h1 h2 => keeps_hit RB.out FC.out (by rw [← UB.out]; exact h1) (fun s hs' => HIN.out s (by omega)) (by rw [← VB.out]; exact h2)
    clear hvb hb15 yw HC14 RA14 z114
    obtain ⟨yw, s15, hc15, ra15, _, _, z115⟩ := YALL.out w15 B15.out
    have S15 := Hid.mk s15
    have HK15 := Hid.mk hc15
    have RA15 := Hid.mk ra15
    clear s15 hc15 ra15
    go_wp2_with fail
    refine (alone_uni _ _ _ cs g 0 m cc fr tt k f c a' mr c' R' _ hmc hmr S15.out HK15.out RA15.out RW.out GV.out HF.out HC.out).mono ?_
    rintro e w16 ⟨⟨av, nv, ev, rfl, hres⟩, hb16⟩
    have B16 : Hid (Below w3.heap.size w3 w16) := B15.out.trans (hb16.mono B15.out.size)
    have RES := Hid.mk hres
    have HC16 : Hid (∀ j, j ≤ s2.size → w16.cell? ⟨gw, j, none⟩ = some (natV pw j)) := fun j hj => cell_later hb16 (HC15.out j hj)
    clear hres hb16 yw HC15 S15 HK15 RA15 z115
    go_upto_region 10 with fail
    go_cut [74] (fun v74 wx => ∃ tb : Bool, v74 = .bool tb ∧ (tb = true → ub = true ∧ vb = true) ∧ w16 = wx)
    case first =>
      cases ub
      · go_wp2
        go_meet
        case rel => exact ⟨false, by first | rfl | trivial, by first | (intro h; cases h) | simp, by first | rfl | trivial⟩
      · cases vb
        · go_wp2
          go_meet
          case rel => exact ⟨false, by first | rfl | trivial, by first | (intro h; cases h) | simp, by first | rfl | trivial⟩
        · go_wp2
          go_meet
          case rel => exact ⟨true, by first | rfl | trivial, by first | (intro _; exact ⟨rfl, rfl⟩) | simp, by first | rfl | trivial⟩
    case rest =>
     obtain ⟨tb, rfl, htb, rfl⟩ := hcut
     have TB := Hid.mk htb
     clear htb
     go_upto_if 74 with fail
     go_cut [] (fun wx => Below w16.heap.size w16 wx ∧ Below w3.heap.size w3 wx)
     case first =>
      cases tb
      · go_wp2
        go_meet
        case rel => exact ⟨Below.refl _ _, B16.out⟩
      · skip
        · have OK := Hid.mk (OKW.out (TB.out rfl).1 (TB.out rfl).2)
          have HITT := Hid.mk (HIT.out (TB.out rfl).1 (TB.out rfl).2)
          have PCW : Hid (∀ j, j ≤ T' → w16.cell? ⟨gw, j, none⟩ = some (natV pw j)) := fun j hj => HC16.out j (by omega)
          have HW : Hid (w16.heap.size ≤ w16.heap.size) := Nat.le_refl _
          rcases RES.out with ⟨rfl, rfl, rfl, hf3⟩ | ⟨T3, p3, g3, rfl, rfl, rfl, hf3, hg3, hrow3⟩
          · exfalso
            have := hf3.miss T'
            rw [HITT.out] at this; cases this
          · clear hf3 hg3 hrow3
            have hT60 : T' ≤ 60 := by omega
            have W16 : Hid (∀ wx, Below w16.heap.size w16 wx → Below w16.heap.size w16 wx) := fun _ h => h
            have FUL : Hid (∀ t, t ≤ T' → outTo C cs mr R' f c T' t cs.size ≠ []) := ok_full OK.out
            obtain ⟨yw, sw9, hcw9, raw9, bww9, _, zb⟩ := YALL.out w16 B16.out
            have SW := Hid.mk sw9
            have HCWW := Hid.mk hcw9
            have RAW := Hid.mk raw9
            clear sw9 hcw9 raw9 bww9
            go_wp2_with fail
            refine (klayers_ok _ _ _ cs g 0 m cc fr tt k f c T' a' mr c' R' _ hmc hmr SW.out (by omega) HCWW.out RAW.out RW.out GV.out HF.out HC.out RB.out FF.out FC.out hN FUL.out).mono ?_
            rintro e w17 ⟨gl, hh, na, ca, rfl, hlaid, hb17⟩
            have B17 : Hid (Below w3.heap.size w3 w17) := B16.out.trans (hb17.mono B16.out.size)
            have LA17 := Hid.mk hlaid
            have PC17 : Hid (∀ j, j ≤ T' → w17.cell? ⟨gw, j, none⟩ = some (natV pw j)) := fun j hj => cell_later hb17 (PCW.out j hj)
            have D17 := Hid.mk (hb17 : Below w16.heap.size w16 w17)
            clear hlaid hb17 yw SW HCWW RAW zb
            obtain ⟨yw, _, _, _, _, _, zb⟩ := YALL.out w17 B17.out
            go_wp2_with fail
            refine (kwithin C cs mr R' f c T' _ _ gl gw _ hh na ca pw _ (by omega) hN LA17.out OK.out PC17.out).mono ?_
            rintro e w18 ⟨rfl, hb18⟩
            have B18 : Hid (Below w3.heap.size w3 w18) := B17.out.trans (hb18.mono B17.out.size)
            have LA18 := Hid.mk (LA17.out.below hb18)
            have D18 : Hid (Below w16.heap.size w16 w18) := D17.out.trans (hb18.mono D17.out.size)
            clear hb18 yw zb
            obtain ⟨yw, _, _, _, _, _, zb⟩ := YALL.out w18 B18.out
            go_wp2_with fail
            refine (klinked _ _ _ cs _ _ _ mr R' f c T' _ _ gl hh na ca _ (by omega) hN (by omega) (by omega) LA18.out FUL.out).mono ?_
            rintro e w19 ⟨rfl, hb19⟩
            have B19 : Hid (Below w3.heap.size w3 w19) := B18.out.trans (hb19.mono B18.out.size)
            have LA19 := Hid.mk (LA18.out.below hb19)
            have D19 : Hid (Below w16.heap.size w16 w19) := D18.out.trans (hb19.mono D18.out.size)
            clear hb19 yw zb
            have d0 := LA19.out.rows.row.cell (i := 0) (by omega)
            have e0 : na 0 = 1 := by rw [LA19.out.num 0 (by omega)]; exact out_first (FUL.out 0 (Nat.zero_le _))
            rw [e0] at d0
            have dl : decide ((((T' + 1 : Nat) : Int)) < 1) = false := by simp; omega
            have dl2 : ¬ ((T' : Int) + 1 < 1) := by omega
            clear e0
            go_wp2
            go_meet
            case rel => exact ⟨D19.out, B19.out⟩
     case rest =>
      obtain ⟨hd16, hbc⟩ := hcut
      have BC := Hid.mk hbc
      have D16 := Hid.mk hd16
      have BWC : Hid (Below w.heap.size w wc) := (YALL.out wc hbc).2.2.2.2.1
      clear hbc hd16 OKW HIT UB VB HC16 HIN
      rcases RES.out with ⟨rfl, rfl, rfl, hf3⟩ | ⟨T3, p3, g3, rfl, rfl, rfl, hf3, hg3, hrow3⟩
      · have LN : Hid (∀ r : Nat, r < 61 → ∀ u : World, Below w3.heap.size w3 u → Calls Tryd.prog 25 #[.agg #[Value.int .i64 (R : Int), .int .i64 (C : Int), .string cs, .slice (some ⟨g, 0, none⟩) m cc, .int .i64 (U : Int)], .int .i64 k, .slice a' mr c', .int .i64 (r : Nat)] u fun e w' => e = .returned (.tuple #[.slice none 0 0, .int .i64 9]) ∧ Below u.heap.size u w') := fun r hr u hu => by
          obtain ⟨_, su, hcu, rau, _⟩ := YALL.out u hu
          exact klayers_none _ _ _ cs g 0 m cc fr tt k f c r a' mr c' R' u hmc hmr su (by omega) hcu rau RW.out GV.out HF.out HC.out RB.out FF.out FC.out (hf3.miss r)
        clear hf3
        obtain ⟨yw, _, _, _, _, _, zb⟩ := YALL.out wc BC.out
        have yb0 := yw 0
        have yb1 := yw 1
        have yb2 := yw 2
        have yb3 := yw 3
        have yb4 := yw 4
        simp only [List.getElem?_toArray, List.getElem?_cons_zero, List.getElem?_cons_succ] at yb0 yb1 yb2 yb3 yb4
        clear yw
        go_upto_region 17 with fail
        go_region_held3 (fun w' => w'.cell? ⟨w1.heap.size, 0, none⟩ = some (.int .i64 (R : Int)) ∧ w'.cell? ⟨w1.heap.size, 1, none⟩ = some (.int .i64 (C : Int)) ∧ w'.cell? ⟨w1.heap.size, 2, none⟩ = some (.string cs) ∧ w'.cell? ⟨w1.heap.size, 3, none⟩ = some (.slice (some ⟨g, 0, none⟩) m cc) ∧ w'.cell? ⟨w1.heap.size, 4, none⟩ = some (.int .i64 (U : Int))) (go_keep)
          (first
            | (go_at_call 50; refine (pick_any less 61 _ (by omega) (by omega) wa2).mono ?_; rintro e w21 ⟨r, hr, rfl, hw21⟩; have hw21 := hw21.symm; subst hw21)
                    | (go_at_call 25; refine (LN.out r hr _ (BC.out.drew)).mono ?_; rintro e w22 ⟨rfl, hb22⟩; have q0 : w22.cell? ⟨w1.heap.size, 0, none⟩ = some (.int .i64 (R : Int)) := (hb22.cell (p := ⟨w1.heap.size, 0, none⟩) zb).trans yb0; have q1 : w22.cell? ⟨w1.heap.size, 1, none⟩ = some (.int .i64 (C : Int)) := (hb22.cell (p := ⟨w1.heap.size, 1, none⟩) zb).trans yb1; have q2 : w22.cell? ⟨w1.heap.size, 2, none⟩ = some (.string cs) := (hb22.cell (p := ⟨w1.heap.size, 2, none⟩) zb).trans yb2; have q3 : w22.cell? ⟨w1.heap.size, 3, none⟩ = some (.slice (some ⟨g, 0, none⟩) m cc) := (hb22.cell (p := ⟨w1.heap.size, 3, none⟩) zb).trans yb3; have q4 : w22.cell? ⟨w1.heap.size, 4, none⟩ = some (.int .i64 (U : Int)) := (hb22.cell (p := ⟨w1.heap.size, 4, none⟩) zb).trans yb4; have B22 : Hid (Below w3.heap.size w3 w22) := BC.out.drew.trans (hb22.mono BC.out.size); clear hb22))
        clear q0 q1 q2 q3 q4 yb0 yb1 yb2 yb3 yb4
        have BF : Hid (Below w.heap.size w w22) := (YALL.out w22 B22.out).2.2.2.2.1
        go_wp2
        go_ret
        exact ⟨rfl, BF.out⟩
      · obtain ⟨hT96, hhit3, hok3, hleast⟩ := hf3.hit
        have OK := Hid.mk hok3
        have LEAST : Hid (∀ r, r < T3 → hitM C cs mr R' f c r = false) := fun r hr => by
          cases e : hitM C cs mr R' f c r with
          | false => rfl
          | true => have := hleast r e; omega
        have PC3 : Hid (∀ j, j ≤ T3 → wc.cell? ⟨g3, j, none⟩ = some (natV p3 j)) := fun j hj => cell_later D16.out (hrow3.cell (by omega))
        clear hf3 hg3 hrow3 hhit3 hok3 hleast
        by_cases hT60 : T3 ≤ 60
        · have hTn : ¬ (60 : Int) < (T3 : Int) := by omega
          have FUL : Hid (∀ t, t ≤ T3 → outTo C cs mr R' f c T3 t cs.size ≠ []) := ok_full OK.out
          obtain ⟨yw, sw9, hcw9, raw9, bww9, _, zb⟩ := YALL.out wc BC.out
          have SW := Hid.mk sw9
          have HCWW := Hid.mk hcw9
          have RAW := Hid.mk raw9
          clear sw9 hcw9 raw9 bww9
          go_wp2_with fail
          refine (klayers_ok _ _ _ cs g 0 m cc fr tt k f c T3 a' mr c' R' _ hmc hmr SW.out (by omega) HCWW.out RAW.out RW.out GV.out HF.out HC.out RB.out FF.out FC.out hN FUL.out).mono ?_
          rintro e w17 ⟨gl, hh, na, ca, rfl, hlaid, hb17⟩
          have B17 : Hid (Below w3.heap.size w3 w17) := BC.out.trans (hb17.mono BC.out.size)
          have LA17 := Hid.mk hlaid
          have PC17 : Hid (∀ j, j ≤ T3 → w17.cell? ⟨g3, j, none⟩ = some (natV p3 j)) := fun j hj => cell_later hb17 (PC3.out j hj)
          clear hlaid hb17 yw SW HCWW RAW zb
          obtain ⟨yw, _, _, _, _, _, zb⟩ := YALL.out w17 B17.out
          go_wp2_with fail
          refine (kwithin C cs mr R' f c T3 _ _ gl g3 _ hh na ca p3 _ (by omega) hN LA17.out OK.out PC17.out).mono ?_
          rintro e w18 ⟨rfl, hb18⟩
          have B18 : Hid (Below w3.heap.size w3 w18) := B17.out.trans (hb18.mono B17.out.size)
          have LA18 := Hid.mk (LA17.out.below hb18)
          clear hb18 yw zb
          obtain ⟨yw, _, _, _, _, _, zb⟩ := YALL.out w18 B18.out
          go_wp2_with fail
          refine (klinked _ _ _ cs _ _ _ mr R' f c T3 _ _ gl hh na ca _ (by omega) hN (by omega) (by omega) LA18.out FUL.out).mono ?_
          rintro e w19 ⟨rfl, hb19⟩
          have B19 : Hid (Below w3.heap.size w3 w19) := B18.out.trans (hb19.mono B18.out.size)
          have LA19 := Hid.mk (LA18.out.below hb19)
          clear hb19 yw zb
          have d0 := LA19.out.rows.row.cell (i := T3) (by omega)
          have e0 : na T3 = 1 := by rw [LA19.out.num T3 (by omega)]; exact out_last (FUL.out T3 (Nat.le_refl _))
          rw [e0] at d0
          have hTT : (T3 : Int) < (T3 : Int) + 1 := by omega
          have hTl : T3 < T3 + 1 := by omega
          have BF : Hid (Below w.heap.size w w19) := (YALL.out w19 B19.out).2.2.2.2.1
          clear e0
          by_cases hT0 : T3 = 0
          · have hb0 : ((T3 : Int) == 0) = true := by simp [hT0]
            have hb0n : (T3 == 0) = true := by simp [hT0]
            clear hT0
            go_wp2
            go_ret
            exact ⟨rfl, BF.out⟩
          · have hb0 : ((T3 : Int) == 0) = false := by simp; omega
            have hb0n : (T3 == 0) = false := by simp; omega
            have hTp : 0 < T3 := by omega
            have LN : Hid (∀ r : Nat, r < T3 → ∀ u : World, Below w3.heap.size w3 u → Calls Tryd.prog 25 #[.agg #[Value.int .i64 (R : Int), .int .i64 (C : Int), .string cs, .slice (some ⟨g, 0, none⟩) m cc, .int .i64 (U : Int)], .int .i64 k, .slice a' mr c', .int .i64 (r : Nat)] u fun e w' => e = .returned (.tuple #[.slice none 0 0, .int .i64 9]) ∧ Below u.heap.size u w') := fun r hr u hu => by
              obtain ⟨_, su, hcu, rau, _⟩ := YALL.out u hu
              exact klayers_none _ _ _ cs g 0 m cc fr tt k f c r a' mr c' R' u hmc hmr su (by omega) hcu rau RW.out GV.out HF.out HC.out RB.out FF.out FC.out (LEAST.out r hr)
            clear hT0
            obtain ⟨yw, _, _, _, _, _, zb⟩ := YALL.out w19 B19.out
            have yb0 := yw 0
            have yb1 := yw 1
            have yb2 := yw 2
            have yb3 := yw 3
            have yb4 := yw 4
            simp only [List.getElem?_toArray, List.getElem?_cons_zero, List.getElem?_cons_succ] at yb0 yb1 yb2 yb3 yb4
            clear yw
            go_upto_region 31 with fail
            go_region_held3 (fun w' => w'.cell? ⟨w1.heap.size, 0, none⟩ = some (.int .i64 (R : Int)) ∧ w'.cell? ⟨w1.heap.size, 1, none⟩ = some (.int .i64 (C : Int)) ∧ w'.cell? ⟨w1.heap.size, 2, none⟩ = some (.string cs) ∧ w'.cell? ⟨w1.heap.size, 3, none⟩ = some (.slice (some ⟨g, 0, none⟩) m cc) ∧ w'.cell? ⟨w1.heap.size, 4, none⟩ = some (.int .i64 (U : Int))) (go_keep)
              (first
                | (go_at_call 50; refine (pick_any less T3 _ (by omega) (by omega) wa2).mono ?_; rintro e w21 ⟨r, hr, rfl, hw21⟩; have hw21 := hw21.symm; subst hw21)
                            | (go_at_call 25; refine (LN.out r hr _ (B19.out.drew)).mono ?_; rintro e w22 ⟨rfl, hb22⟩; have q0 : w22.cell? ⟨w1.heap.size, 0, none⟩ = some (.int .i64 (R : Int)) := (hb22.cell (p := ⟨w1.heap.size, 0, none⟩) zb).trans yb0; have q1 : w22.cell? ⟨w1.heap.size, 1, none⟩ = some (.int .i64 (C : Int)) := (hb22.cell (p := ⟨w1.heap.size, 1, none⟩) zb).trans yb1; have q2 : w22.cell? ⟨w1.heap.size, 2, none⟩ = some (.string cs) := (hb22.cell (p := ⟨w1.heap.size, 2, none⟩) zb).trans yb2; have q3 : w22.cell? ⟨w1.heap.size, 3, none⟩ = some (.slice (some ⟨g, 0, none⟩) m cc) := (hb22.cell (p := ⟨w1.heap.size, 3, none⟩) zb).trans yb3; have q4 : w22.cell? ⟨w1.heap.size, 4, none⟩ = some (.int .i64 (U : Int)) := (hb22.cell (p := ⟨w1.heap.size, 4, none⟩) zb).trans yb4; have B22 : Hid (Below w3.heap.size w3 w22) := B19.out.drew.trans (hb22.mono B19.out.size); clear hb22))
            clear q0 q1 q2 q3 q4 yb0 yb1 yb2 yb3 yb4
            have BG : Hid (Below w.heap.size w w22) := (YALL.out w22 B22.out).2.2.2.2.1
            go_wp2
            go_ret
            exact ⟨rfl, BG.out⟩
        · have hTn : (60 : Int) < (T3 : Int) := by omega
          have hTg : ¬ ((T3 : Int) < 0) := by omega
          go_wp2
          go_ret
          exact ⟨rfl, BWC.out⟩

end Go.Proofs.YtnkgpinadgacgaaDoor
