/- Walk of Single, where shaped gives a good yard: the law answers true. -/
import Derived.Test.YtnkgpinadgacgaaDoorBr
import Derived.Test.YtnkgpinadgacgaaDoorBf
import Derived.Test.YtnkgpinadgacgaaDoorBo
import Derived.Test.YtnkgpinadgacgaaDoorBp
import Derived.Test.YtnkgpinadgacgaaDoorBq
namespace Go.Proofs.YtnkgpinadgacgaaDoor
open Go.RowKit M

theorem RulesAt.less {w : World} {a : Option Addr} {n p : Nat} {R : Nat → RuleM} (h : RulesAt w a n R) (hp : p ≤ n) : RulesAt w a p R := fun h0 => by
  obtain ⟨b, off, ha, hr⟩ := h (by omega)
  exact ⟨b, off, ha, fun i hi => hr i (by omega)⟩

theorem rulesB_less {N n p : Nat} {R : Nat → RuleM} (h : rulesB N n R = true) (hp : p ≤ n) : rulesB N p R = true := by
  unfold rulesB at h ⊢
  simp only [Bool.and_eq_true, decide_eq_true_eq, Bool.not_eq_true'] at h ⊢
  exact ⟨by omega, anyB_false.2 fun i hi => anyB_false.1 h.2 i (by omega)⟩

theorem freeB_nonneg {cs : ByteArray} {x : Int} (hx : freeB cs x = true) : 0 ≤ x := by
  by_cases h : 0 ≤ x
  · exact h
  · rw [freeB_out (by omega)] at hx; cases hx

theorem given_good {ro co bu : Int} {cs : ByteArray} {m : Nat} {fr tt : Nat → Int} {k n : Nat} {R : Nat → RuleM} (h : checkM ro co cs m fr tt bu = (0, 0)) (hk : k < m) (hr : rulesB cs.size n R = true) : givenE ro co bu cs m fr tt (k : Int) n R = 0 := by
  unfold givenE
  rw [h, if_pos rfl, if_pos ⟨by omega, by omega⟩, if_pos hr]

theorem pick_succ (c : Int) (n : Nat) (w : World) (hn1 : n < 20000) (hc : (Lit.int .i64 c).wf = true) :
    Calls Tryd.prog 50 #[.int .i64 c, .int .i64 ((n : Int) + 1)] w fun e w' => ∃ r : Nat, r ≤ n ∧ e = .returned (.int .i64 r) ∧ w' = w := by
  refine (pick_any c (n + 1) w (by omega) (by omega) hc).mono ?_
  rintro e w' ⟨r, h1, h2, h3⟩
  exact ⟨r, by omega, h2, h3⟩

theorem Res.below {w w' w2 : World} {co : Int} {cs : ByteArray} {n : Nat} {R : Nat → RuleM} {f c : Nat} {av : Option Addr} {nv : Nat} {ev : Int} (h : Res w w' co cs n R f c av nv ev) (hb : Below w'.heap.size w' w2) : Res w w2 co cs n R f c av nv ev := by
  rcases h with h | ⟨T, p, g, h1, h2, h3, h4, h5, h6⟩
  · exact .inl h
  · exact .inr ⟨T, p, g, h1, h2, h3, h4, h5, rowIs_below h6 hb⟩

/-- What Alone tells is held to be right. -/
theorem held_res (ro co bu : Int) (cs : ByteArray) (b off m cap : Nat) (fr tt : Nat → Int) (k f c : Nat) (ar : Option Addr) (n capr : Nat) (R : Nat → RuleM) (w0 w : World) (av : Option Addr) (nv : Nat) (ev : Int) (hs : cs.size ≤ 36) (h1 : 1 ≤ co) (h2 : co ≤ 6) (hk : k < m) (hn : n ≤ maxLen) (hf : fr k = (f : Int)) (hc : tt k = (c : Int))
    (hcs : CartsIn w b off m fr tt) (har : RulesAt w ar n R) (hr : rulesB cs.size n R = true) (hres : Res w0 w co cs n R f c av nv ev) :
    Calls Tryd.prog 54 #[.agg #[.int .i64 ro, .int .i64 co, .string cs, .slice (some ⟨b, off, none⟩) m cap, .int .i64 bu], .int .i64 k, .slice ar n capr, .slice av nv nv, .int .i64 ev] w fun e w' =>
      e = .returned (.bool true) ∧ Below w.heap.size w w' := by
  rcases hres with ⟨rfl, rfl, rfl, hf1⟩ | ⟨T, p, g, rfl, rfl, rfl, hf1, hg, hrow⟩
  · exact held_none _ k ro co bu cs _ m cap rfl ar n capr w
  · obtain ⟨hT, _, hok, _⟩ := hf1.hit
    exact held_path ro co bu cs b off m cap fr tt k f c ar n capr g T (T + 1) R p w hs h1 h2 hk hn (by omega) hf hc hcs har hr (fun s hs' => hrow.cell (by omega)) hok

/-- Of more rules the path costs no less. -/
theorem res_less {w0 w : World} {co : Int} {cs : ByteArray} {m n : Nat} {R : Nat → RuleM} {f c : Nat} {av : Option Addr} {nv : Nat} {ev : Int} {T : Nat} {p : Nat → Nat} (hm : m ≤ n) (h : Res w0 w co cs m R f c av nv ev) (h2 : Found co cs n R f c (some (T, p))) :
    ∃ T2, ev = 0 ∧ nv = T2 + 1 ∧ T2 ≤ T := by
  have hh := hit_fewer hm h2.hit.2.1
  rcases h with ⟨_, _, _, hf1⟩ | ⟨T2, p2, g, _, hn, he, hf1, _⟩
  · rw [hf1.miss T] at hh; cases hh
  · exact ⟨T2, he, hn, hf1.hit.2.2.2 T hh⟩

set_option maxRecDepth 100000 in
set_option maxHeartbeats 8000000 in
theorem single_any (HSH : Shapes) (rr rc rb cart cut : Int) (s sw : ByteArray) (a : Option Addr) (n cap : Nat) (x : Nat → Int) (ar : Option Addr) (nr capr : Nat) (Rr : Nat → RuleM) (w : World) (hs : s.size ≤ maxLen) (hn : n ≤ 17592186044415) (hsd : SidesIn w)
    (wr0 : (Lit.int .i64 rr).wf = true) (wc0 : (Lit.int .i64 rc).wf = true) (wb0 : (Lit.int .i64 rb).wf = true) (wa1 : (Lit.int .i64 cart).wf = true) (wa2 : (Lit.int .i64 cut).wf = true) (hsw : sw.size ≤ 1048576)
    (hx : (∀ i, i < n → (Lit.int .i64 (x i)).wf = true) ∧ (0 < n → ∃ b off, a = some ⟨b, off, none⟩ ∧ ∀ i, i < n → w.cell? ⟨b, off + i, none⟩ = some (.int .i64 (x i))))
    (hnr : nr ≤ maxLen) (har : RulesAt w ar nr Rr) (hri : RulesInt nr Rr) :
    Calls Tryd.prog 11 #[.agg #[.int .i64 rr, .int .i64 rc, .string s, .slice a n cap, .int .i64 rb], .int .i64 cart, .slice ar nr capr, .string sw, .int .i64 cut] w fun e w' => e = .returned (.bool true) ∧ Below w.heap.size w w' := by
  have HSD := Hid.mk hsd
  have HX := Hid.mk hx
  have HH := Hid.mk HSH
  have HAR := Hid.mk har
  have HRI := Hid.mk hri
  clear hsd hx HSH har hri
  go_enter Tryd.func11, Tryd.ntmps11
  go_wp2_with fail
  refine (HH.out rr rc rb s a n cap x _ hs hn wr0 wc0 wb0 (by exact ⟨HX.out.1, fun h => by obtain ⟨b, off, hab, hc⟩ := HX.out.2 h; exact ⟨b, off, hab, fun i hi => cell_later ((Below.refl _ _).alloc (Nat.le_refl _) _) (hc i hi)⟩⟩)).mono ?_
  rintro e w1 ⟨R, C, U, m, cc, g, cs, fr, tt, rfl, hm1, hm4, hmc, hcarts, hck, hf0, hN, hb1⟩
  have hB1 := Hid.mk (((Below.refl _ w).alloc (Nat.le_refl _) _).trans (hb1.mono (by simp)) : Below w.heap.size w w1)
  have hz1 : w.heap.size < w1.heap.size := by have := hb1.size; simp at this; omega
  have HC1 := Hid.mk hcarts
  have HCK := Hid.mk hck
  obtain ⟨sd1, sd2, hsz⟩ := checkM_good (show (checkM R C cs m fr tt U).1 = 0 by rw [hck])
  obtain ⟨r1, r2⟩ := side_bd sd1
  obtain ⟨r3, r4⟩ := side_bd sd2
  obtain ⟨hp1, hp2⟩ := mul_bd r1 r2 r3 r4
  have hN1 : 1 ≤ cs.size := by omega
  have hsm : cs.size ≤ maxLen := by unfold maxLen; omega
  have hmm : m ≤ maxLen := by unfold maxLen; omega
  have FREE := Hid.mk (carts_free (show (checkM R C cs m fr tt U).1 = 0 by rw [hck])).2
  clear hcarts hck hf0 hb1 sd1 sd2 hsz hp1 hp2
  go_wp2_with fail
  have y1 : ∀ o, (w1.alloc (Obj.cells #[Value.int .i64 (R : Int), .int .i64 (C : Int), .string cs, .slice (some ⟨g, 0, none⟩) m cc, .int .i64 (U : Int)] 24)).cell? ⟨w1.heap.size, o, none⟩ = #[Value.int .i64 (R : Int), .int .i64 (C : Int), .string cs, .slice (some ⟨g, 0, none⟩) m cc, .int .i64 (U : Int)][o]? := by
    intro o; go_simp
  have B12 : Hid (Below w1.heap.size w1 (w1.alloc (Obj.cells #[Value.int .i64 (R : Int), .int .i64 (C : Int), .string cs, .slice (some ⟨g, 0, none⟩) m cc, .int .i64 (U : Int)] 24))) := (Below.refl _ _).alloc (Nat.le_refl _) _
  have hz2 : w1.heap.size < (w1.alloc (Obj.cells #[Value.int .i64 (R : Int), .int .i64 (C : Int), .string cs, .slice (some ⟨g, 0, none⟩) m cc, .int .i64 (U : Int)] 24)).heap.size := by simp
  generalize w1.alloc (Obj.cells #[Value.int .i64 (R : Int), .int .i64 (C : Int), .string cs, .slice (some ⟨g, 0, none⟩) m cc, .int .i64 (U : Int)] 24) = w2 at *
  have HC2 := Hid.mk (HC1.out.below B12.out)
  have hB2 : Hid (Below w.heap.size w w2) := hB1.out.trans (B12.out.mono (by omega))
  have HS2 := Hid.mk (HSD.out.below hB2.out)
  have HA2 := Hid.mk (HAR.out.below hB2.out)
  refine (pick_any cart m _ (by omega) (by omega) wa1).mono ?_
  rintro e w5 ⟨k, hk, rfl, hw5⟩
  have hw5 := hw5.symm
  subst hw5
  obtain ⟨ff, fc⟩ := FREE.out k hk
  obtain ⟨f, hf⟩ := Int.eq_ofNat_of_zero_le (freeB_nonneg ff)
  obtain ⟨c, hc⟩ := Int.eq_ofNat_of_zero_le (freeB_nonneg fc)
  rw [hf] at ff
  rw [hc] at fc
  have FF := Hid.mk ff
  have FC := Hid.mk fc
  have HF := Hid.mk hf
  have HC := Hid.mk hc
  clear ff fc hf hc FREE
  go_wp2_with fail
  refine (krules_any _ _ _ cs _ _ _ ar nr capr Rr _ hN hN1 hnr HA2.out HRI.out).mono ?_
  rintro e w3 ⟨mr, a', c', R', rfl, hform, h40, hmc', hra, hrb, hrw, hb3⟩
  have y3 : ∀ o, w3.cell? ⟨w1.heap.size, o, none⟩ = #[Value.int .i64 (R : Int), .int .i64 (C : Int), .string cs, .slice (some ⟨g, 0, none⟩) m cc, .int .i64 (U : Int)][o]? := fun o => (hb3.cell (p := ⟨w1.heap.size, o, none⟩) hz2).trans (y1 o)
  have hz3 : w1.heap.size < w3.heap.size := Nat.lt_of_lt_of_le hz2 hb3.size
  have HB3 : Hid (Below w.heap.size w w3) := hB2.out.trans (hb3.mono (by have := hB2.out.size; omega))
  have HC3 := Hid.mk (HC2.out.below hb3)
  have HS3 := Hid.mk (HS2.out.below hb3)
  have RA3 := Hid.mk hra
  have RB := Hid.mk hrb
  have RW := Hid.mk hrw
  have FORM := Hid.mk hform
  have hmr : mr ≤ maxLen := by unfold maxLen; omega
  clear hb3 hra hrb hrw hform y1 hz2 HA2 HC2 HS2 B12
  go_upto_region 4 with fail
  go_cut [14] (fun v14 wx => ∃ p c4 : Nat, p ≤ mr ∧ v14 = .slice a' p c4 ∧ wx = w3)
  case first =>
    rcases FORM.out with ⟨rfl, rfl, rfl⟩ | ⟨gr, rfl⟩
    · go_wp2_with fail
      refine (pick_succ cut 0 _ (by omega) wa2).mono ?_
      rintro e w5 ⟨p, hp, rfl, hw5⟩
      have hw5 := hw5.symm
      subst hw5
      obtain rfl : p = 0 := by omega
      go_wp2
      go_meet
      case rel => exact ⟨0, _, by omega, rfl, rfl⟩
    · go_wp2_with fail
      refine (pick_succ cut mr _ (by omega) wa2).mono ?_
      rintro e w5 ⟨p, hp, rfl, hw5⟩
      have hw5 := hw5.symm
      subst hw5
      have hpI : (p : Int) ≤ (c' : Int) := by omega
      have hpN : p ≤ c' := by omega
      go_wp2
      go_meet
      case rel => exact ⟨p, _, hp, rfl, rfl⟩
  case rest =>
    obtain ⟨pf, cf, hpf, rfl, hwx⟩ := hcut
    have hwx := hwx.symm
    subst hwx
    have hpfL : pf ≤ maxLen := by omega
    have YALL : Hid (∀ wx, Below w3.heap.size w3 wx → (∀ o, wx.cell? ⟨w1.heap.size, o, none⟩ = #[Value.int .i64 (R : Int), .int .i64 (C : Int), .string cs, .slice (some ⟨g, 0, none⟩) m cc, .int .i64 (U : Int)][o]?) ∧ SidesIn wx ∧ CartsIn wx g 0 m fr tt ∧ RulesAt wx a' mr R' ∧ RulesAt wx a' pf R' ∧ Below w.heap.size w wx ∧ wx.cell? ⟨g, k * 2, none⟩ = some (.int .i64 (f : Int)) ∧ wx.cell? ⟨g, k * 2 + 1, none⟩ = some (.int .i64 (c : Int)) ∧ w1.heap.size < wx.heap.size) := by
      intro wx hb
      have hcx := HC3.out.below hb
      have c0 := (hcx k hk).1
      have c1 := (hcx k hk).2
      rw [HF.out] at c0
      rw [HC.out] at c1
      refine ⟨fun o => (hb.cell (p := ⟨w1.heap.size, o, none⟩) hz3).trans (y3 o), HS3.out.below hb, hcx, RA3.out.below hb, (RA3.out.below hb).less hpf, HB3.out.trans (hb.mono (by have := HB3.out.size; omega)), by simpa using c0, by simpa using c1, Nat.lt_of_lt_of_le hz3 hb.size⟩
    have GV : Hid (∀ n (R0 : Nat → RuleM), rulesB cs.size n R0 = true → givenE R C U cs m fr tt (k : Int) n R0 = 0) := fun n R0 hr => given_good HCK.out hk hr
    have RBf := Hid.mk (rulesB_less RB.out hpf)
    have RWf : Hid (RulesWf pf R') := fun i hi => RW.out i (by omega)
    have hfN : f < cs.size := free_lt FF.out
    have hcN : c < cs.size := free_lt FC.out
    have hkI : (k : Int) < (m : Int) := by omega
    clear y3 HX HRI HAR HSD HC1 HS3 HC3 HH hB1 hB2 hz1
    obtain ⟨y3, s3, hc3, ra3, rf3, bw3, c30, c31, _⟩ := YALL.out w3 (Below.refl _ _)
    have S3 := Hid.mk s3
    have HC3 := Hid.mk hc3
    have y30 := y3 0
    have y31 := y3 1
    have y32 := y3 2
    have y33 := y3 3
    have y34 := y3 4
    simp only [List.getElem?_toArray, List.getElem?_cons_zero, List.getElem?_cons_succ] at y30 y31 y32 y33 y34
    have zg : g < w3.heap.size := World.block_lt_of_cell? _ _ c30
    clear s3 hc3 ra3 rf3 bw3 y3
    go_upto_region 5 with fail
    go_region_held3 (fun w' => w'.cell? ⟨w1.heap.size, 0, none⟩ = some (.int .i64 (R : Int)) ∧ w'.cell? ⟨w1.heap.size, 1, none⟩ = some (.int .i64 (C : Int)) ∧ w'.cell? ⟨w1.heap.size, 2, none⟩ = some (.string cs) ∧ w'.cell? ⟨w1.heap.size, 3, none⟩ = some (.slice (some ⟨g, 0, none⟩) m cc) ∧ w'.cell? ⟨w1.heap.size, 4, none⟩ = some (.int .i64 (U : Int)) ∧ w'.cell? ⟨g, k * 2 + 1, none⟩ = some (.int .i64 (c : Int))) (go_keep)
      (first
        | (go_at_call_of 14 (Value.int IntKind.i64 (R : Int)); refine (yfar_ok _ _ _ cs _ _ _ fr tt c _ hsm hmm hmc (by exact S3.out) (by exact fun _ => ⟨g, 0, rfl, HC3.out⟩) (by rw [HCK.out]) FC.out).mono ?_; rintro e w4 ⟨gd, st, rfl, hgd, hfar, hrd, hb4⟩; have q0 : w4.cell? ⟨w1.heap.size, 0, none⟩ = some (.int .i64 (R : Int)) := (hb4.cell (p := ⟨w1.heap.size, 0, none⟩) hz3).trans y30; have q1 : w4.cell? ⟨w1.heap.size, 1, none⟩ = some (.int .i64 (C : Int)) := (hb4.cell (p := ⟨w1.heap.size, 1, none⟩) hz3).trans y31; have q2 : w4.cell? ⟨w1.heap.size, 2, none⟩ = some (.string cs) := (hb4.cell (p := ⟨w1.heap.size, 2, none⟩) hz3).trans y32; have q3 : w4.cell? ⟨w1.heap.size, 3, none⟩ = some (.slice (some ⟨g, 0, none⟩) m cc) := (hb4.cell (p := ⟨w1.heap.size, 3, none⟩) hz3).trans y33; have q4 : w4.cell? ⟨w1.heap.size, 4, none⟩ = some (.int .i64 (U : Int)) := (hb4.cell (p := ⟨w1.heap.size, 4, none⟩) hz3).trans y34; have q5 : w4.cell? ⟨g, k * 2 + 1, none⟩ = some (.int .i64 (c : Int)) := (hb4.cell (p := ⟨g, k * 2 + 1, none⟩) zg).trans c31; have HFAR := Hid.mk hfar; have HRD := Hid.mk hrd; have B4 : Hid (Below w3.heap.size w3 w4) := (Below.refl _ w3).drew.trans (hb4.mono (Nat.le_refl _)); clear hgd hfar hrd hb4))
    clear q0 q1 q2 q3 q4 q5 y30 y31 y32 y33 y34 c30 c31 S3 HC3
    obtain ⟨y4, s4, hc4, ra4, rf4, bw4, c40, c41, z14⟩ := YALL.out w4 B4.out
    have S4 := Hid.mk s4
    have HC4 := Hid.mk hc4
    clear s4 hc4 ra4 rf4 bw4
    go_wp2_with fail
    refine (alone_uni _ _ _ cs g 0 m cc fr tt k f c none 0 0 (fun _ => ⟨0, 0, 0, 0⟩) _ hmc (by unfold maxLen; omega) S4.out HC4.out (fun h => absurd h (Nat.lt_irrefl 0)) (fun i hi => absurd hi (Nat.not_lt_zero i)) (GV.out 0 _ lone_rules) HF.out HC.out).mono ?_
    rintro e w6 ⟨⟨av, nv, ev, rfl, hres1⟩, hb6⟩
    have B6 : Hid (Below w3.heap.size w3 w6) := B4.out.trans (hb6.mono B4.out.size)
    have RES1 := Hid.mk hres1
    have hrd6 := (rowIs_below HRD.out hb6).cell hfN
    rw [show intV st f = Value.int .i64 (st f) from rfl] at hrd6
    clear hres1 hb6 y4 S4 HC4 c40 c41 z14 HRD
    obtain ⟨y6, s6, hc6, ra6, rf6, bw6, c60, c61, z16⟩ := YALL.out w6 B6.out
    have y62 := y6 2
    have y63 := y6 3
    simp only [List.getElem?_toArray, List.getElem?_cons_zero, List.getElem?_cons_succ] at y62 y63
    have hfI : (f : Int) < (cs.size : Int) := by omega
    have BW6 := Hid.mk bw6
    have HC6 := Hid.mk hc6
    have S6 := Hid.mk s6
    have RF6 := Hid.mk rf6
    clear s6 hc6 ra6 rf6 bw6 c61
    rcases RES1.out with ⟨rfl, rfl, rfl, hf1⟩ | ⟨T1, p1, g1, rfl, rfl, rfl, hf1, hg1, hrow1⟩
    · have hneg : st f < 0 := lone_none FF.out FC.out HFAR.out hf1
      clear hf1
      go_wp2
      go_ret
      exact ⟨rfl, BW6.out⟩
    · have hst : st f = (T1 : Int) := lone_cost FF.out FC.out HFAR.out hf1
      rw [hst] at hrd6
      obtain ⟨hT1, _, hok1, _⟩ := hf1.hit
      have OK1 := Hid.mk hok1
      have RW1 := Hid.mk hrow1
      have hT60 : T1 ≤ 96 := by omega
      have hT0 : ¬ (T1 : Int) < 0 := by omega
      clear hf1 hst hok1 hT1 hg1 hrow1
      go_wp2_with fail
      refine (kisPath_any _ _ _ cs g 0 m cc fr tt k f c g1 T1 _ p1 _ hN (by omega) (by omega) hk (by omega) HF.out HC.out HC6.out (fun s hs' => RW1.out.cell (by omega)) OK1.out.inN).mono ?_
      rintro e w7 ⟨he, hb7⟩
      rw [ok_isPath OK1.out] at he
      subst he
      have B7 : Hid (Below w3.heap.size w3 w7) := B6.out.trans (hb7.mono B6.out.size)
      clear hb7 y6 y62 y63 c60 z16 hrd6 HC6 S6 RF6 RW1
      obtain ⟨y7, s7, hc7, ra7, rf7, bw7, c70, c71, z17⟩ := YALL.out w7 B7.out
      have HC7 := Hid.mk hc7
      have S7 := Hid.mk s7
      have RF7 := Hid.mk rf7
      clear s7 hc7 ra7 rf7 bw7 c70 c71
      have e1 : (((T1 + 1 : Nat) : Int) != (T1 : Int) + 1) = false := by simp
      go_wp2_with fail
      refine (alone_uni _ _ _ cs g 0 m cc fr tt k f c a' pf cf R' _ hmc hpfL S7.out HC7.out RF7.out RWf.out (GV.out pf _ RBf.out) HF.out HC.out).mono ?_
      rintro e w8 ⟨⟨av2, nv2, ev2, rfl, hres2⟩, hb8⟩
      have B8 : Hid (Below w3.heap.size w3 w8) := B7.out.trans (hb8.mono B7.out.size)
      have RES2 := Hid.mk hres2
      clear hres2 hb8 y7 HC7 S7 RF7 z17 e1
      obtain ⟨y8, s8, hc8, ra8, rf8, bw8, c80, c81, z18⟩ := YALL.out w8 B8.out
      have HC8 := Hid.mk hc8
      have S8 := Hid.mk s8
      have RA8 := Hid.mk ra8
      clear s8 hc8 ra8 rf8 bw8 c80 c81
      go_wp2_with fail
      refine (alone_uni _ _ _ cs g 0 m cc fr tt k f c a' mr c' R' _ hmc hmr S8.out HC8.out RA8.out RW.out (GV.out mr _ RB.out) HF.out HC.out).mono ?_
      rintro e w9 ⟨⟨av3, nv3, ev3, rfl, hres3⟩, hb9⟩
      have B9 : Hid (Below w3.heap.size w3 w9) := B8.out.trans (hb9.mono B8.out.size)
      have RES3 := Hid.mk hres3
      have RES29 := Hid.mk (RES2.out.below hb9)
      clear hres3 hb9 y8 HC8 S8 RA8 z18 RES2
      obtain ⟨y9, s9, hc9, ra9, rf9, bw9, c90, c91, z19⟩ := YALL.out w9 B9.out
      have HC9 := Hid.mk hc9
      have RF9 := Hid.mk rf9
      clear s9 hc9 ra9 rf9 bw9 c90 c91
      go_wp2_with fail
      refine (held_res _ _ _ cs g 0 m cc fr tt k f c a' pf cf R' _ _ av2 nv2 ev2 hN (by omega) (by omega) hk hpfL HF.out HC.out HC9.out RF9.out RBf.out RES29.out).mono ?_
      rintro e w10 ⟨rfl, hb10⟩
      have B10 : Hid (Below w3.heap.size w3 w10) := B9.out.trans (hb10.mono B9.out.size)
      have RES3a := Hid.mk (RES3.out.below hb10)
      clear hb10 y9 HC9 RF9 z19 RES3
      obtain ⟨y10, s10, hc10, ra10, rf10, bw10, c100, c101, z110⟩ := YALL.out w10 B10.out
      have HC10 := Hid.mk hc10
      have RA10 := Hid.mk ra10
      clear s10 hc10 ra10 rf10 bw10 c100 c101
      go_wp2_with fail
      refine (held_res _ _ _ cs g 0 m cc fr tt k f c a' mr c' R' _ _ av3 nv3 ev3 hN (by omega) (by omega) hk hmr HF.out HC.out HC10.out RA10.out RB.out RES3a.out).mono ?_
      rintro e w11 ⟨rfl, hb11⟩
      have B11 : Hid (Below w3.heap.size w3 w11) := B10.out.trans (hb11.mono B10.out.size)
      clear hb11 y10 HC10 RA10 z110
      obtain ⟨y11, s11, hc11, ra11, rf11, bw11, c110, c111, z111⟩ := YALL.out w11 B11.out
      have yb0 := y11 0
      have yb1 := y11 1
      have yb2 := y11 2
      have yb3 := y11 3
      have yb4 := y11 4
      simp only [List.getElem?_toArray, List.getElem?_cons_zero, List.getElem?_cons_succ] at yb0 yb1 yb2 yb3 yb4
      have zg11 : g < w11.heap.size := World.block_lt_of_cell? _ _ c110
      clear s11 hc11 ra11 rf11 bw11 c111 y11
      go_upto_region 19 with fail
      go_region_held3 (fun w' => w'.cell? ⟨w1.heap.size, 0, none⟩ = some (.int .i64 (R : Int)) ∧ w'.cell? ⟨w1.heap.size, 1, none⟩ = some (.int .i64 (C : Int)) ∧ w'.cell? ⟨w1.heap.size, 2, none⟩ = some (.string cs) ∧ w'.cell? ⟨w1.heap.size, 3, none⟩ = some (.slice (some ⟨g, 0, none⟩) m cc) ∧ w'.cell? ⟨w1.heap.size, 4, none⟩ = some (.int .i64 (U : Int)) ∧ w'.cell? ⟨g, k * 2, none⟩ = some (.int .i64 (f : Int))) (go_keep)
        (first
          | (go_at_call_of 56 (Value.int IntKind.i64 (R : Int)); refine (walk_any _ _ _ f cs sw _ _ _ _ hN (by omega) (by omega) hfN hsw).mono ?_; rintro e w12 ⟨vw, rfl, gw, capw, pw, rfl, hcw, hcells, hin, hb12⟩; have q0 : w12.cell? ⟨w1.heap.size, 0, none⟩ = some (.int .i64 (R : Int)) := (hb12.cell (p := ⟨w1.heap.size, 0, none⟩) z111).trans yb0; have q1 : w12.cell? ⟨w1.heap.size, 1, none⟩ = some (.int .i64 (C : Int)) := (hb12.cell (p := ⟨w1.heap.size, 1, none⟩) z111).trans yb1; have q2 : w12.cell? ⟨w1.heap.size, 2, none⟩ = some (.string cs) := (hb12.cell (p := ⟨w1.heap.size, 2, none⟩) z111).trans yb2; have q3 : w12.cell? ⟨w1.heap.size, 3, none⟩ = some (.slice (some ⟨g, 0, none⟩) m cc) := (hb12.cell (p := ⟨w1.heap.size, 3, none⟩) z111).trans yb3; have q4 : w12.cell? ⟨w1.heap.size, 4, none⟩ = some (.int .i64 (U : Int)) := (hb12.cell (p := ⟨w1.heap.size, 4, none⟩) z111).trans yb4; have q5 : w12.cell? ⟨g, k * 2, none⟩ = some (.int .i64 (f : Int)) := (hb12.cell (p := ⟨g, k * 2, none⟩) zg11).trans c110; have z112 : w1.heap.size < w12.heap.size := Nat.lt_of_lt_of_le z111 hb12.size; have zg12 : g < w12.heap.size := Nat.lt_of_lt_of_le zg11 hb12.size; have HCW := Hid.mk hcells; have HCP := Hid.mk hcw; have HIN := Hid.mk hin; have B12 : Hid (Below w3.heap.size w3 w12) := B11.out.drew.trans (hb12.mono B11.out.size); clear hcells hin hb12 hcw)
          | (go_at_call 55; refine (trimmed_any gw sw.size capw pw _ (by omega) HCP.out HCW.out).mono ?_; rintro e w13 ⟨T', hT', rfl, hb13⟩; have t0 : w13.cell? ⟨w1.heap.size, 0, none⟩ = some (.int .i64 (R : Int)) := (hb13.cell (p := ⟨w1.heap.size, 0, none⟩) z112).trans q0; have t1 : w13.cell? ⟨w1.heap.size, 1, none⟩ = some (.int .i64 (C : Int)) := (hb13.cell (p := ⟨w1.heap.size, 1, none⟩) z112).trans q1; have t2 : w13.cell? ⟨w1.heap.size, 2, none⟩ = some (.string cs) := (hb13.cell (p := ⟨w1.heap.size, 2, none⟩) z112).trans q2; have t3 : w13.cell? ⟨w1.heap.size, 3, none⟩ = some (.slice (some ⟨g, 0, none⟩) m cc) := (hb13.cell (p := ⟨w1.heap.size, 3, none⟩) z112).trans q3; have t4 : w13.cell? ⟨w1.heap.size, 4, none⟩ = some (.int .i64 (U : Int)) := (hb13.cell (p := ⟨w1.heap.size, 4, none⟩) z112).trans q4; have t5 : w13.cell? ⟨g, k * 2, none⟩ = some (.int .i64 (f : Int)) := (hb13.cell (p := ⟨g, k * 2, none⟩) zg12).trans q5; have B13 : Hid (Below w3.heap.size w3 w13) := B12.out.trans (hb13.mono B12.out.size); have HC13 : Hid (∀ j, j ≤ sw.size → w13.cell? ⟨gw, j, none⟩ = some (natV pw j)) := (fun j hj => cell_later hb13 (HCW.out j hj)); clear hb13))
      clear t0 t1 t2 t3 t4 t5 q0 q1 q2 q3 q4 q5 yb0 yb1 yb2 yb3 yb4 c110 z112 zg12 zg11 HCW
      obtain ⟨y13, s13, hc13, ra13, rf13, bw13, c130, c131, z113⟩ := YALL.out w13 B13.out
      have HK13 := Hid.mk hc13
      clear s13 hc13 ra13 rf13 bw13 c130 c131
      go_wp2_with fail
      refine (kisPath_any _ _ _ cs g 0 m cc fr tt k f c gw T' _ pw _ hN (by omega) (by omega) hk (by omega) HF.out HC.out HK13.out (fun s hs' => HC13.out s (by omega)) (fun s hs' => HIN.out s (by omega))).mono ?_
      rintro e w14 ⟨he, hb14⟩
      obtain ⟨ub, hub⟩ : ∃ ub, ub = isPathM C cs f c T' pw := ⟨_, rfl⟩
      rw [← hub] at he
      subst he
      have UB := Hid.mk hub
      have B14 : Hid (Below w3.heap.size w3 w14) := B13.out.trans (hb14.mono B13.out.size)
      have HC14 : Hid (∀ j, j ≤ sw.size → w14.cell? ⟨gw, j, none⟩ = some (natV pw j)) := fun j hj => cell_later hb14 (HC13.out j hj)
      clear hub hb14 y13 HC13 HK13 z113
      obtain ⟨y14, s14, hc14, ra14, rf14, bw14, c140, c141, z114⟩ := YALL.out w14 B14.out
      have RA14 := Hid.mk ra14
      clear s14 hc14 ra14 rf14 bw14 c140 c141
      go_wp2_with fail
      refine (kkeeps_any a' mr c' R' gw T' _ pw _ hmr (by omega) RA14.out (fun s hs' => HC14.out s (by omega))).mono ?_
      rintro e w15 ⟨he, hb15⟩
      obtain ⟨vb, hvb⟩ : ∃ vb, vb = keepsM mr R' T' pw := ⟨_, rfl⟩
      rw [← hvb] at he
      subst he
      have VB := Hid.mk hvb
      have BW15 : Hid (Below w.heap.size w w15) := (YALL.out _ (B14.out.trans (hb15.mono B14.out.size))).2.2.2.2.2.1
      have HIT : Hid (ub = true → vb = true → hitM C cs mr R' f c T' = true) := fun h1 h2 => keeps_hit RB.out FC.out (by rw [← UB.out]; exact h1) (fun s hs' => HIN.out s (by omega)) (by rw [← VB.out]; exact h2)
      clear hvb hb15 y14 z114
      rcases RES3a.out with ⟨rfl, rfl, rfl, hf3⟩ | ⟨T3, p3, g3, rfl, rfl, rfl, hf3, hg3, hrow3⟩
      · have NO : Hid (ub = true → vb = true → False) := fun h1 h2 => by
          have h := hf3.miss T'
          rw [HIT.out h1 h2] at h; cases h
        clear hf3
        cases ub
        · go_wp2
          go_ret
          exact ⟨rfl, BW15.out⟩
        · cases vb
          · go_wp2
            go_ret
            exact ⟨rfl, BW15.out⟩
          · exact absurd rfl (NO.out rfl)
      · obtain ⟨T2, he2, hn2, hle⟩ := res_less hpf RES29.out hf3
        subst he2 hn2
        have LE : Hid (ub = true → vb = true → T3 ≤ T') := fun h1 h2 => hf3.hit.2.2.2 _ (HIT.out h1 h2)
        have d1 : decide (((T3 + 1 : Nat) : Int) < ((T2 + 1 : Nat) : Int)) = false := by simp; omega
        have d1' : ¬ ((T3 + 1 : Nat) : Int) < ((T2 + 1 : Nat) : Int) := by omega
        clear hf3 hle hg3 hrow3
        cases ub
        · go_wp2
          go_ret
          exact ⟨rfl, BW15.out⟩
        · cases vb
          · go_wp2
            go_ret
            exact ⟨rfl, BW15.out⟩
          · have d2 := LE.out rfl rfl
            have d3 : decide (((T3 + 1 : Nat) : Int) ≤ ((T' + 1 : Nat) : Int)) = true := by simp; omega
            have d3' : ((T3 + 1 : Nat) : Int) ≤ ((T' + 1 : Nat) : Int) := by omega
            go_wp2
            go_ret
            exact ⟨rfl, BW15.out⟩

end Go.Proofs.YtnkgpinadgacgaaDoor
