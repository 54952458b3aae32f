/- Several texts in one: Tv, Bv. -/
import Derived.Test.YtnkgpinadgacgabDoorMkzx
import Derived.Test.YtnkgpinadgacgabDoorMkzz
import Derived.Test.YtnkgpinadgacgabDoorMkl
import Derived.Test.YtnkgpinadgacgabDoorMkj
import Derived.Test.YtnkgpinadgacgabDoorMke
import Derived.Test.YtnkgpinadgacgabDoorMkb
import Derived.Carry
import Derived.Test.YtnkgpinadgacgabDoorCards
import Derived.Test.YtnkgpinadgacgabDoorMkd
import Derived.ProofKit
import Derived.OpenShut
import Derived.Lib.LaidTab
namespace Go.Proofs.YtnkgpinadgacgabDoor
open Go.RowKit Go.Shelf Go.Deep M SM

theorem Tryd.infoStrT : (Tryd.prog.info? 9).map (fun i => (i.zero, i.size, i.bytes)) = some (some (.string ⟨#[]⟩), 1, 16) := by kernel_rfl

/-- The requests, the written yard behind each. -/
def alls (S : Nat → ByteArray) (W : ByteArray) (k : Nat) : List ByteArray := (List.range k).flatMap fun i => [S i, W]

theorem alls_succ (S : Nat → ByteArray) (W : ByteArray) (k : Nat) : alls S W (k + 1) = alls S W k ++ [S k] ++ [W] := by
  unfold alls
  rw [List.range_succ, List.flatMap_append]
  simp

theorem alls_len (S : Nat → ByteArray) (W : ByteArray) : ∀ k, (alls S W k).length = 2 * k
  | 0 => rfl
  | k + 1 => by rw [alls_succ, List.length_append, List.length_append, alls_len S W k]; simp; omega

def strsV (l : List ByteArray) : List Value := l.map Value.string

theorem strsV_snoc (l : List ByteArray) (X : ByteArray) : strsV (l ++ [X]) = strsV l ++ [.string X] := by simp [strsV]

theorem str_one_new (w : World) (X : ByteArray) (t : TypeId) : ∀ j u, [Value.string X][j]? = some u → (w.alloc (.cells #[.string X] t)).cell? ((⟨w.heap.size, 0, none⟩ : Addr).add j) = some u := by
  intro j u hj
  match j, hj with
  | 0, hj =>
    simp at hj
    subst hj
    simp [Addr.add]

theorem str_oneCell (X : ByteArray) : ∀ u ∈ [Value.string X], u.oneCell' = true := by simp [Value.oneCell']

set_option maxRecDepth 100000 in
set_option maxHeartbeats 2000000 in
theorem asked_any (SH : Shapes) (rr rc rb : Int) (s : ByteArray) (a : Option Addr) (n cap : Nat) (x : Nat → Int) (ap : Option Addr) (ns cps : Nat) (S : Nat → ByteArray) (w : World) (hs : s.size ≤ maxLen) (hn : n ≤ 17592186044415) (hns : ns ≤ 1048576) (hS : ∀ i, i < ns → (S i).size ≤ 1048576)
    (hT : Lib.TabIs Tryd.prog w "internal/strconv.uint64pow10" .u64 Lib.pow10Tab) (hsd : SidesIn w)
    (h0 : (Lit.int .i64 rr).wf = true) (h1 : (Lit.int .i64 rc).wf = true) (h2 : (Lit.int .i64 rb).wf = true)
    (hx : (∀ i, i < n → (Lit.int .i64 (x i)).wf = true) ∧ (0 < n → ∃ b off, a = some ⟨b, off, none⟩ ∧ ∀ i, i < n → w.cell? ⟨b, off + i, none⟩ = some (.int .i64 (x i)))) (hst : StrsIn w ap ns S) :
    Calls Tryd.prog 9 #[.slice ap ns cps, .agg #[.int .i64 rr, .int .i64 rc, .string s, .slice a n cap, .int .i64 rb]] w fun e w' => e = .returned (.bool true) ∧ Below w.heap.size w w' := by
  obtain ⟨i0, hi0, hi1, hi2, hi3⟩ := info_parts Tryd.infoStrT
  obtain ⟨F0, hF0⟩ : ∃ F0 : Nat, 200400000 ≤ F0 := ⟨_, Nat.le_refl _⟩
  have HT := Hid.mk (Lib.tabBelow_of_tabIs hT)
  have HSD := Hid.mk hsd
  have HS := Hid.mk hS
  have HST := Hid.mk hst
  have HSH : Hid (∀ u : World, Below w.heap.size w u → Calls Tryd.prog 19 #[.agg #[.int .i64 rr, .int .i64 rc, .string s, .slice a n cap, .int .i64 rb]] u fun e w' =>
      ∃ (R C U m cc g : Nat) (cs : ByteArray) (fr tt : Nat → Int), e = .returned (.agg #[.int .i64 (R : Int), .int .i64 (C : Int), .string cs, .slice (some ⟨g, 0, none⟩) m cc, .int .i64 (U : Int)]) ∧
        1 ≤ m ∧ m ≤ 4 ∧ m ≤ cc ∧ CartsIn w' g 0 m fr tt ∧ checkM R C cs m fr tt U = (0, 0) ∧ freeB cs 0 = true ∧ cs.size ≤ 36 ∧ Below u.heap.size u w') := fun u hu => by
    refine SH rr rc rb s a n cap x u hs hn h0 h1 h2 ⟨hx.1, fun hp => ?_⟩
    obtain ⟨b, off, e, hc⟩ := hx.2 hp
    exact ⟨b, off, e, fun i hi => cell_later hu (hc i hi)⟩
  have TW : Hid (∀ u, Below w.heap.size w u → Lib.TabBelow Tryd.prog u.heap.size u "internal/strconv.uint64pow10" .u64 Lib.pow10Tab) := fun u hu v hv => HT.out v (hu.trans (hv.mono hu.size))
  clear hT hsd hS hst hx
  go_enter Tryd.func9, Tryd.ntmps9
  go_wp2_with fail
  have B0 : Hid (Below w.heap.size w (w.alloc (Obj.cells #[Value.int IntKind.i64 rr, Value.int IntKind.i64 rc, Value.string s, .slice a n cap, Value.int IntKind.i64 rb] 24))) := (Below.refl _ w).alloc (Nat.le_refl _) _
  have RB : Hid (Box (w.alloc (Obj.cells #[Value.int IntKind.i64 rr, Value.int IntKind.i64 rc, Value.string s, .slice a n cap, Value.int IntKind.i64 rb] 24)) w.heap.size #[Value.int IntKind.i64 rr, Value.int IntKind.i64 rc, Value.string s, .slice a n cap, Value.int IntKind.i64 rb]) := box_new _ _
  generalize (w.alloc (Obj.cells #[Value.int IntKind.i64 rr, Value.int IntKind.i64 rc, Value.string s, .slice a n cap, Value.int IntKind.i64 rb] 24)) = w0 at *
  refine (open_any w0).mono ?_
  rintro e w1 ⟨⟨sa, rfl⟩, hb1⟩
  have B1 : Hid (Below w.heap.size w w1) := B0.out.trans (hb1.mono B0.out.size)
  have RB1 : Hid (Box w1 w.heap.size #[Value.int IntKind.i64 rr, Value.int IntKind.i64 rc, Value.string s, .slice a n cap, Value.int IntKind.i64 rb]) := RB.out.belowB hb1 RB.out.lt
  have r0 := RB1.out.c 0
  have r1 := RB1.out.c 1
  have r2 := RB1.out.c 2
  have r3 := RB1.out.c 3
  have r4 := RB1.out.c 4
  simp only [List.getElem?_toArray, List.getElem?_cons_zero, List.getElem?_cons_succ] at r0 r1 r2 r3 r4
  clear hb1
  go_wp2_with fail
  refine (HSH.out _ B1.out).mono ?_
  rintro e w2 ⟨R, C, U, m, cc, g, cs, fr, tt, rfl, hm1, hm4, hmc, hcs, hck, hf0, hs36, hb2⟩
  have B2 : Hid (Below w.heap.size w w2) := B1.out.trans (hb2.mono B1.out.size)
  have CK : Hid (checkM R C cs m fr tt U = (0, 0)) := hck
  have CK1 : Hid ((checkM R C cs m fr tt U).1 = 0) := by unfold Hid; rw [hck]
  have GY := Hid.mk (chk_form CK1.out)
  have Y3 : Hid (Box (w2.alloc (.cells #[.int .i64 (R : Int), .int .i64 (C : Int), .string cs, .slice (some ⟨g, 0, none⟩) m cc, .int .i64 (U : Int)] 28)) w2.heap.size #[.int .i64 (R : Int), .int .i64 (C : Int), .string cs, .slice (some ⟨g, 0, none⟩) m cc, .int .i64 (U : Int)]) := box_new _ _
  have B3 : Hid (Below w.heap.size w (w2.alloc (.cells #[.int .i64 (R : Int), .int .i64 (C : Int), .string cs, .slice (some ⟨g, 0, none⟩) m cc, .int .i64 (U : Int)] 28))) := B2.out.alloc B2.out.size _
  have C3 : Hid (CartsIn (w2.alloc (.cells #[.int .i64 (R : Int), .int .i64 (C : Int), .string cs, .slice (some ⟨g, 0, none⟩) m cc, .int .i64 (U : Int)] 28)) g 0 m fr tt) := hcs.below ((Below.refl _ w2).alloc (Nat.le_refl _) _)
  clear hck hcs hb2 HSH hf0 r0 r1 r2 r3 r4
  go_wp2_with fail
  generalize (w2.alloc (.cells #[.int .i64 (R : Int), .int .i64 (C : Int), .string cs, .slice (some ⟨g, 0, none⟩) m cc, .int .i64 (U : Int)] 28)) = w3 at *
  refine (ywrite_good R C U m g cc cs fr tt w3 (TW.out _ B3.out) CK1.out hmc C3.out).mono ?_
  rintro e w4 ⟨W, rfl, hW, hb4⟩
  have HW := Hid.mk hW
  have hWs : W.size ≤ 500 := by rw [Lib.size_eq, hW]; exact textY_len GY.out
  have Y4 : Hid (Box w4 w2.heap.size #[.int .i64 (R : Int), .int .i64 (C : Int), .string cs, .slice (some ⟨g, 0, none⟩) m cc, .int .i64 (U : Int)]) := Y3.out.belowB hb4 Y3.out.lt
  have B4 : Hid (Below w.heap.size w w4) := B3.out.trans (hb4.mono B3.out.size)
  have C4 : Hid (CartsIn w4 g 0 m fr tt) := C3.out.below hb4
  have y0 := Y4.out.c 0
  have y1 := Y4.out.c 1
  have y2 := Y4.out.c 2
  have y3 := Y4.out.c 3
  have y4 := Y4.out.c 4
  simp only [List.getElem?_toArray, List.getElem?_cons_zero, List.getElem?_cons_succ] at y0 y1 y2 y3 y4
  clear hW hb4
  go_wp2_with fail
  refine (solve_any F0 hF0 _ _ _ cs (some ⟨g, 0, none⟩) m cc fr tt w4 (by unfold maxLen; omega) (by unfold maxLen; omega) hmc (HSD.out.below B4.out) (fun _ => ⟨g, 0, rfl, C4.out⟩)).mono ?_
  rintro e w5 ⟨xv, yv, zv, rfl, hsol, hb5⟩
  have B5 : Hid (Below w.heap.size w w5) := B4.out.trans (hb5.mono B4.out.size)
  have hverd : ∃ (f : Int) (nn : Nat) (d : Bool), zv = .int .i64 f ∧ M.Told (stepP (R : Int) (C : Int) cs m) (cellsOf fr m) (cellsOf tt m) (U : Int) nn d ∧ (((U : Int) < nn ∧ f = 10) ∨ (¬ (U : Int) < nn ∧ d = false ∧ f = 9) ∨ (¬ (U : Int) < nn ∧ d = true ∧ f = 0)) := by
    rcases hsol with ⟨hne, _⟩ | ⟨_, nn, d, ht, hsol⟩
    · exact absurd CK1.out hne
    · rcases hsol with ⟨hq, _, _, rfl⟩ | ⟨hq, hd, _, _, rfl⟩ | ⟨hq, hd, rfl, _⟩
      · exact ⟨10, nn, d, rfl, ht, .inl ⟨hq, rfl⟩⟩
      · exact ⟨9, nn, d, rfl, ht, .inr (.inl ⟨hq, hd, rfl⟩)⟩
      · exact ⟨0, nn, d, rfl, ht, .inr (.inr ⟨hq, hd, rfl⟩)⟩
  obtain ⟨f, nn, d, rfl, htd, hfd⟩ := hverd
  have BG : Hid (∀ A, ansR F0 W A → BeginsR f A) := fun A hA => ans_begins CK.out HW.out htd hfd hA
  clear hsol hb5 htd hfd y0 y1 y2 y3 y4
  go_wp2
  go_loopw [12, 13] (fun sl si wr => ∃ (k : Nat) (l : List ByteArray) (av : Option Addr) (cv : Nat), sl = .slice av l.length cv ∧ si = .int .i64 (k : Int) ∧ k ≤ ns ∧ Hid (l = alls S W k) ∧ wr.ownsRow w5.heap.size 9 1 (.slice av l.length cv) l.length (strsV l) ∧ Below w5.heap.size w5 wr) (fun _ si _ => ns - (intOf si).toNat)
  case atStart => exact ⟨0, [], none, 0, rfl, rfl, Nat.zero_le _, rfl, ⟨rfl, .inl ⟨rfl, rfl⟩⟩, Below.refl _ _⟩
  case round =>
    obtain ⟨k, l, av, cv, rfl, rfl, hk, HL, how, hbr⟩ := hrel
    obtain ⟨wo, rfl⟩ : ∃ x, x = wr := ⟨_, rfl⟩
    have WO := Hid.mk how
    have BO := Hid.mk hbr
    have hzo := hbr.size
    have hlb : l.length ≤ 2097152 := by rw [HL.out, alls_len]; omega
    clear how hbr
    by_cases hlt : k < ns
    · have e1 : decide (((k : Nat) : Int) < (ns : Int)) = true := by simp; omega
      have hkI : (k : Int) < (ns : Int) := by omega
      obtain ⟨b, off, hap, hsc⟩ := HST.out (by omega)
      have BW : Hid (Below w.heap.size w wo) := B5.out.trans (BO.out.mono B5.out.size)
      have c0 := cell_later BW.out (hsc k hlt)
      obtain ⟨X, hX⟩ : ∃ X, X = S k := ⟨_, rfl⟩
      rw [← hX] at c0
      have HX := Hid.mk hX
      have HAP := Hid.mk hap
      subst hap
      clear hsc hX
      go_upto_region 14 with (at_builtin; go_must (refine wpList_append_lies _ rfl _ _ 25 (by rfl) w5.heap.size 9 i0 _ 1 16 Tryd.underlying25 hi0 hi1 hi2 hi3 rfl (by omega) (.slice av l.length cv) l.length (strsV l) (by rfl) (own_later WO.out ((Below.refl _ wo).alloc (Nat.le_refl _) _)) ⟨wo.heap.size, 0, none⟩ 1 1 [.string X] (by rfl) (by rfl) (str_one_new wo X _) (str_oneCell X) (by omega) (by unfold maxLen; omega) (by omega) (by simp; omega) (wo.heap.size + 1) (by simp) ?_; intro g1 c1 w8 ho8 hg8 hl8 hlt8))
      have O8 : Hid (w8.ownsRow w5.heap.size 9 1 (.slice (some ⟨g1, 0, none⟩) (l.length + 1) c1) (l.length + 1) (strsV (l ++ [X]))) := by unfold Hid; rw [strsV_snoc]; exact ho8
      have B8 : Hid (Below w5.heap.size w5 w8) := (BO.out.alloc hzo _).grown hg8 (by simp; omega) (fun q hq => (WO.out.lt q hq).1)
      have hz8 : w5.heap.size ≤ w8.heap.size := B8.out.size
      clear ho8 hg8 hl8 hlt8 c0
      go_wp2_with (at_builtin; go_must (refine wpList_append_lies _ rfl _ _ 25 (by rfl) w5.heap.size 9 i0 _ 1 16 Tryd.underlying25 hi0 hi1 hi2 hi3 rfl (by omega) (.slice (some ⟨g1, 0, none⟩) (l.length + 1) c1) (l.length + 1) (strsV (l ++ [X])) (by rfl) (own_later O8.out ((Below.refl _ w8).alloc (Nat.le_refl _) _)) ⟨w8.heap.size, 0, none⟩ 1 1 [.string W] (by rfl) (by rfl) (str_one_new w8 W _) (str_oneCell W) (by omega) (by unfold maxLen; omega) (by omega) (by simp; omega) (w8.heap.size + 1) (by simp) ?_; intro g2 c2 w9 ho9 hg9 hl9 hlt9))
      have O9 : Hid (w9.ownsRow w5.heap.size 9 1 (.slice (some ⟨g2, 0, none⟩) (l.length + 1 + 1) c2) (l.length + 1 + 1) (strsV (l ++ [X] ++ [W]))) := by unfold Hid; rw [strsV_snoc]; exact ho9
      have B9 : Hid (Below w5.heap.size w5 w9) := (B8.out.alloc hz8 _).grown hg9 (by simp; omega) (fun q hq => (O8.out.lt q hq).1)
      clear ho9 hg9 hl9 hlt9
      have hln : (l ++ [X] ++ [W]).length = l.length + 1 + 1 := by simp
      go_round
      case rel =>
        refine ⟨k + 1, l ++ [X] ++ [W], some ⟨g2, 0, none⟩, c2, by rw [hln], by go_num, by omega, ?_, ?_, B9.out⟩
        · unfold Hid
          rw [alls_succ, ← HX.out, ← HL.out]
        · have h := O9.out
          rw [hln]
          exact h
      case measure => simp [intOf]; omega
    · have e1 : decide (((k : Nat) : Int) < (ns : Int)) = false := by simp; omega
      have hkI : ¬ (k : Int) < (ns : Int) := by omega
      have hkn : k = ns := by omega
      have HKN := Hid.mk hkn
      clear hkn
      go_upto_region 16 with (at_builtin; go_must (refine wpList_append_lies _ rfl _ _ 25 (by rfl) w5.heap.size 9 i0 _ 1 16 Tryd.underlying25 hi0 hi1 hi2 hi3 rfl (by omega) (.slice av l.length cv) l.length (strsV l) (by rfl) (own_later WO.out ((Below.refl _ wo).alloc (Nat.le_refl _) _)) ⟨wo.heap.size, 0, none⟩ 1 1 [.string W] (by rfl) (by rfl) (str_one_new wo W _) (str_oneCell W) (by omega) (by unfold maxLen; omega) (by omega) (by simp; omega) (wo.heap.size + 1) (by simp) ?_; intro g1 c1 w8 ho8 hg8 hl8 hlt8))
      have O8 : Hid (w8.ownsRow w5.heap.size 9 1 (.slice (some ⟨g1, 0, none⟩) (l.length + 1) c1) (l.length + 1) (strsV (l ++ [W]))) := by unfold Hid; rw [strsV_snoc]; exact ho8
      have B8 : Hid (Below w.heap.size w w8) := B5.out.trans (((BO.out.alloc hzo _).grown hg8 (by simp; omega) (fun q hq => (WO.out.lt q hq).1)).mono B5.out.size)
      obtain ⟨T, hT⟩ : ∃ T, T = l ++ [W] := ⟨_, rfl⟩
      have hTl : T.length = l.length + 1 := by rw [hT]; simp
      have O8T : Hid (w8.ownsRow w5.heap.size 9 1 (.slice (some ⟨g1, 0, none⟩) T.length c1) T.length (strsV T)) := by
        have h := O8.out
        rw [← hT, ← hTl] at h
        exact h
      have TS : Hid (∀ i, i < T.length → (T.getD i ⟨#[]⟩).size ≤ 1048576) := fun i hi => by
        have hmem : T.getD i ⟨#[]⟩ ∈ T := by
          rw [List.getD_eq_getElem?_getD, List.getElem?_eq_getElem hi]
          exact List.getElem_mem _
        rw [hT, HL.out, HKN.out] at hmem
        rcases List.mem_append.1 hmem with h | h
        · obtain ⟨q, hq, h3⟩ := List.mem_flatMap.1 h
          simp only [List.mem_cons, List.not_mem_nil, or_false] at h3
          rw [hT, HL.out, HKN.out]
          rcases h3 with h3 | h3
          · rw [h3]; exact HS.out q (List.mem_range.1 hq)
          · rw [h3]; omega
        · rw [hT, HL.out, HKN.out, List.mem_singleton.1 h]; omega
      rw [← hTl]
      clear ho8 hg8 hl8 hlt8 O8 hT
      have hTb : T.length ≤ 2097153 := by omega
      go_wp2
      have hzw8 : w.heap.size ≤ w8.heap.size := B8.out.size
      go_loopw [14] (fun si wr => ∃ i : Nat, si = .int .i64 (i : Int) ∧ i ≤ T.length ∧ Below w8.heap.size w8 wr) (fun si _ => T.length - (intOf si).toNat)
      case atStart => exact ⟨0, rfl, Nat.zero_le _, Below.refl _ _⟩
      case round =>
        obtain ⟨i, rfl, hi, hbr⟩ := hrel
        obtain ⟨wq, rfl⟩ : ∃ x, x = wr := ⟨_, rfl⟩
        have BQ := Hid.mk hbr
        clear hbr
        by_cases hit : i < T.length
        · have e2 : decide (((i : Nat) : Int) < (T.length : Int)) = true := by simp; omega
          have hiI : (i : Int) < (T.length : Int) := by omega
          obtain ⟨X, hX⟩ : ∃ X, X = T.getD i ⟨#[]⟩ := ⟨_, rfl⟩
          have hXs : X.size ≤ 1048576 := by rw [hX]; exact TS.out i hit
          have c8 : w8.cell? ⟨g1, i, none⟩ = some (.string X) := by
            rw [own_cell O8T.out hit, hX]
            unfold strsV
            rw [List.getElem?_map, List.getElem?_eq_getElem hit, List.getD_eq_getElem?_getD, List.getElem?_eq_getElem hit]
            rfl
          have C8 := Hid.mk c8
          have BWQ : Hid (Below w.heap.size w wq) := B8.out.trans (BQ.out.mono hzw8)
          clear hX c8
          go_wp2_with fail
          refine (open_any wq).mono ?_
          rintro e wa ⟨⟨sb, rfl⟩, hba⟩
          have BA : Hid (Below w8.heap.size w8 wa) := BQ.out.trans (hba.mono BQ.out.size)
          have BWA : Hid (Below w.heap.size w wa) := B8.out.trans (BA.out.mono hzw8)
          have ca := cell_later BA.out C8.out
          clear hba
          go_wp2_with fail
          refine (ask_any F0 hF0 (.pointer (some sa)) X wa (by omega) (TW.out _ BWA.out) (HSD.out.below BWA.out)).mono ?_
          rintro e wb ⟨F1, rfl, hA1, hbb⟩
          have BB : Hid (Below w8.heap.size w8 wb) := BA.out.trans (hbb.mono BA.out.size)
          have BWB : Hid (Below w.heap.size w wb) := B8.out.trans (BB.out.mono hzw8)
          have A1 := Hid.mk hA1
          have cb := cell_later BB.out C8.out
          clear hA1 hbb ca
          go_wp2_with fail
          refine (ask_any F0 hF0 (.pointer (some sb)) X wb (by omega) (TW.out _ BWB.out) (HSD.out.below BWB.out)).mono ?_
          rintro e wc2 ⟨F2, rfl, hA2, hbc⟩
          have BC : Hid (Below w8.heap.size w8 wc2) := BB.out.trans (hbc.mono BB.out.size)
          obtain rfl : F1 = F2 := bytes_eq (ansR_det A1.out hA2)
          have cc2 := cell_later BC.out C8.out
          have hne := ansR_ne A1.out
          have hzE : F1.toList.isEmpty = false := by
            rw [Lib.toList_data]
            cases hq : F1.data.toList with
            | nil => exact absurd hq hne
            | cons _ _ => rfl
          clear hA2 hbc cb hne
          by_cases hXW : X.toList = W.toList
          · obtain rfl : X = W := bytes_eq (by rw [← Lib.toList_data, ← Lib.toList_data]; exact hXW)
            clear hXW
            have hbg := begins_any F1 f
            have BGN : Hid (∀ u, Calls Tryd.prog 29 #[.string F1, .int .i64 f] u fun e w' => e = .returned (.bool true) ∧ w' = u) := fun u => hbg u (BG.out _ A1.out)
            clear hbg
            go_wp2_with fail
            refine (BGN.out _).mono ?_
            rintro e wd ⟨rfl, rfl⟩
            go_wp2
            go_round
            case rel => exact ⟨i + 1, by go_num, by omega, BC.out⟩
            case measure => simp [intOf]; omega
          · have hXWb : (X.toList == W.toList) = false := by simp [hXW]
            go_wp2
            go_round
            case rel => exact ⟨i + 1, by go_num, by omega, BC.out⟩
            case measure => simp [intOf]; omega
        · have e2 : decide (((i : Nat) : Int) < (T.length : Int)) = false := by simp; omega
          have hiI : ¬ (i : Int) < (T.length : Int) := by omega
          have BWQ : Hid (Below w.heap.size w wq) := B8.out.trans (BQ.out.mono hzw8)
          go_wp2
          go_ret
          exact ⟨rfl, BWQ.out⟩

end Go.Proofs.YtnkgpinadgacgabDoor

namespace Go.Proofs.YtnkgpinadgacgabDoor
open Go.ChangeShapes Go.WideShapes Go.ChangeAt Go.RowKit Go.Deep Go.Joins
theorem listOf4 {α : Type} {l : List α} (h : l.length = 4) : ∃ c0 c1 c2 c3, l = [c0, c1, c2, c3] := by
  match l, h with
  | [c0, c1, c2, c3], _ => exact ⟨c0, c1, c2, c3, rfl⟩

end Go.Proofs.YtnkgpinadgacgabDoor

/- What the bound on what comes in gives: bulk of parts, of lists, of texts; five arguments opened and shut. -/
namespace Go.Proofs.YtnkgpinadgacgabDoor
open Go.ChangeShapes Go.WideShapes Go.ChangeAt Go.RowKit
theorem bulk_one {H : Type} (d : DataW H) : 1 ≤ Rows.uptoBulk d := by
  cases d with
  | lit l => cases l <;> simp [Rows.uptoBulk]
  | nil => simp [Rows.uptoBulk]
  | ptr d => simp [Rows.uptoBulk]
  | slice elems spare => simp [Rows.uptoBulk]
  | agg parts => simp [Rows.uptoBulk]
  | iface t d => simp [Rows.uptoBulk]
  | map entries => simp [Rows.uptoBulk]
  | held h => simp [Rows.uptoBulk]

theorem bulk_part {H : Type} {d : DataW H} : ∀ {l : List (DataW H)}, d ∈ l → Rows.uptoBulk d ≤ Rows.uptoBulkAll l
  | x :: r, h => by
    simp only [Rows.uptoBulkAll]
    cases List.mem_cons.1 h with
    | inl e => subst e; omega
    | inr e => have := bulk_part e; omega

theorem bulk_len {H : Type} : ∀ (l : List (DataW H)), l.length ≤ Rows.uptoBulkAll l
  | [] => by simp [Rows.uptoBulkAll]
  | x :: r => by
    have := bulk_one x
    have := bulk_len r
    simp only [Rows.uptoBulkAll, List.length_cons]; omega

section
variable {H : Type} {enc : TypeId × Value → H} {P : Program} {w : World} {base : Nat} {spare : Nat → Bool} {held : Bool}
theorem trodAll_five {t t1 t2 t3 t4 : TypeId} {args : Array Value} {ds : List (DataW H)} {ps : List MemPlace} (h : DataW.TrodAll enc P w base spare held [t, t1, t2, t3, t4] args.toList ds ps) :
    ∃ v v1 v2 v3 v4 d d1 d2 d3 d4 p p1 p2 p3 p4, args = #[v, v1, v2, v3, v4] ∧ ds = [d, d1, d2, d3, d4] ∧ ps = p ++ (p1 ++ (p2 ++ (p3 ++ p4))) ∧ DataW.Trod enc P w base spare held t v d p ∧ DataW.Trod enc P w base spare held t1 v1 d1 p1 ∧ DataW.Trod enc P w base spare held t2 v2 d2 p2 ∧ DataW.Trod enc P w base spare held t3 v3 d3 p3 ∧ DataW.Trod enc P w base spare held t4 v4 d4 p4 := by
  obtain ⟨v, vs, d, ds', p, q, hargs, rfl, rfl, hd, hrest⟩ := trodAll_cons h
  obtain ⟨v1, vs1, d1, ds1, p1, q1, rfl, rfl, rfl, hd1, hrest1⟩ := trodAll_cons hrest
  obtain ⟨v2, vs2, d2, ds2, p2, q2, rfl, rfl, rfl, hd2, hrest2⟩ := trodAll_cons hrest1
  obtain ⟨v3, vs3, d3, ds3, p3, q3, rfl, rfl, rfl, hd3, hrest3⟩ := trodAll_cons hrest2
  obtain ⟨v4, vs4, d4, ds4, p4, q4, rfl, rfl, rfl, hd4, hrest4⟩ := trodAll_cons hrest3
  obtain ⟨rfl, rfl, rfl⟩ := trodAll_nil hrest4
  exact ⟨v, v1, v2, v3, v4, d, d1, d2, d3, d4, p, p1, p2, p3, p4, by cases args; simp_all, rfl, by simp, hd, hd1, hd2, hd3, hd4⟩

theorem trodAll_mk5 {t t1 t2 t3 t4 : TypeId} {v v1 v2 v3 v4 : Value} {d d1 d2 d3 d4 : DataW H} {p p1 p2 p3 p4 : List MemPlace} (h : DataW.Trod enc P w base spare held t v d p) (h1 : DataW.Trod enc P w base spare held t1 v1 d1 p1)
    (h2 : DataW.Trod enc P w base spare held t2 v2 d2 p2) (h3 : DataW.Trod enc P w base spare held t3 v3 d3 p3) (h4 : DataW.Trod enc P w base spare held t4 v4 d4 p4) : DataW.TrodAll enc P w base spare held [t, t1, t2, t3, t4] [v, v1, v2, v3, v4] [d, d1, d2, d3, d4] (p ++ (p1 ++ (p2 ++ (p3 ++ p4)))) :=
  ⟨p, _, h, ⟨p1, _, h1, ⟨p2, _, h2, ⟨p3, _, h3, ⟨p4, [], h4, rfl, by simp⟩, rfl⟩, rfl⟩, rfl⟩, rfl⟩

end
end Go.Proofs.YtnkgpinadgacgabDoor

/- What the row's list gives: the table of the four sides lies in memory. -/
namespace Go.Proofs.YtnkgpinadgacgabDoor
open Go.ChangeShapes Go.WideShapes Go.ChangeAt Go.RowKit
theorem Tryd.gSides : Tryd.prog.globalNamed "yard/grid.sides" = some 0 := by kernel_rfl

theorem Tryd.gSidesType : (Tryd.prog.globals[0]?).map (·.type) = some 174 := by kernel_rfl

theorem Tryd.cellsSides : Tryd.prog.cellsOf 174 = 8 := by kernel_rfl

theorem Tryd.cellsSide : Tryd.prog.cellsOf 173 = 2 := by kernel_rfl

theorem Tryd.cellsI : Tryd.prog.cellsOf 3 = 1 := by kernel_rfl

theorem list8 {α : Type} {l : List α} (h : l.length = 8) : ∃ c0 c1 c2 c3 c4 c5 c6 c7, l = [c0, c1, c2, c3, c4, c5, c6, c7] := by
  match l, h with
  | [c0, c1, c2, c3, c4, c5, c6, c7], _ => exact ⟨c0, c1, c2, c3, c4, c5, c6, c7, rfl⟩

theorem list4 {α : Type} {l : List α} (h : l.length = 4) : ∃ c0 c1 c2 c3, l = [c0, c1, c2, c3] := by
  match l, h with
  | [c0, c1, c2, c3], _ => exact ⟨c0, c1, c2, c3, rfl⟩

theorem list2 {α : Type} {l : List α} (h : l.length = 2) : ∃ c0 c1, l = [c0, c1] := by
  match l, h with
  | [c0, c1], _ => exact ⟨c0, c1, rfl⟩

/-- One side: its two cells. -/
theorem side_open {H : Type} {enc : TypeId × Value → H} {w : World} {base : Nat} {sp : Nat → Bool} {held : Bool} {fuel : Nat} {u v : Value} {x y : Int} {p : List MemPlace}
    (h : DataW.trod enc Tryd.prog w base sp held fuel 173 [u, v] = some (.agg [.lit (.int .i64 x), .lit (.int .i64 y)], p)) : u = .int .i64 x ∧ v = .int .i64 y := by
  obtain ⟨xs, m, _, hx, _, hxl, hfs⟩ := DataW.trod_struct Tryd.underlying173 h
  obtain ⟨x0, x1, rfl⟩ := list2 hxl
  have g0 := hfs 0 _ rfl
  have g1 := hfs 1 _ rfl
  simp [Tryd.cellsI] at g0 g1
  obtain ⟨n0, e0, d0, _⟩ := DataW.trod_int Tryd.underlying3 g0
  obtain ⟨n1, e1, d1, _⟩ := DataW.trod_int Tryd.underlying3 g1
  simp only [List.cons.injEq, and_true] at e0 e1
  subst e0 e1
  simp [d0, d1] at hx
  obtain ⟨⟨h1, h2⟩, _⟩ := hx
  rw [h1, h2]; exact ⟨rfl, rfl⟩

set_option maxRecDepth 100000 in
theorem sides_of_laid {W : World} (h : laidMet Tryd.prog [("yard/grid.sides", Rows.laid_yard_grid_sides)] W) : SidesIn W := by
  obtain ⟨ps, ⟨g', t', cs, fuel, p, q, hg', ht', hvar, hd, _, _⟩, _⟩ := h
  obtain rfl := Option.some.inj (Tryd.gSides.symm.trans hg')
  obtain rfl := Option.some.inj (Tryd.gSidesType.symm.trans ht')
  obtain ⟨xs, m, _, hx, hcl, hxl, hel⟩ := DataW.trod_array Tryd.underlying174 hd
  rw [Tryd.cellsSides] at hcl
  obtain ⟨c0, c1, c2, c3, c4, c5, c6, c7, hcs⟩ := list8 hcl
  obtain ⟨x0, x1, x2, x3, rfl⟩ := list4 hxl
  rw [hcs, Tryd.cellsSide] at hel
  have e0 := hel 0 (by omega)
  have e1 := hel 1 (by omega)
  have e2 := hel 2 (by omega)
  have e3 := hel 3 (by omega)
  simp at e0 e1 e2 e3
  have hd' : x0.1 = .agg [.lit (.int .i64 (-1)), .lit (.int .i64 0)] ∧ x1.1 = .agg [.lit (.int .i64 1), .lit (.int .i64 0)] ∧ x2.1 = .agg [.lit (.int .i64 0), .lit (.int .i64 (-1))] ∧ x3.1 = .agg [.lit (.int .i64 0), .lit (.int .i64 1)] := by
    have := congrArg Prod.fst hx
    simp [Rows.laid_yard_grid_sides] at this
    exact ⟨this.1.symm, this.2.1.symm, this.2.2.1.symm, this.2.2.2.symm⟩
  obtain ⟨d0, d1, d2, d3⟩ := hd'
  obtain ⟨y0, z0⟩ := x0
  obtain ⟨y1, z1⟩ := x1
  obtain ⟨y2, z2⟩ := x2
  obtain ⟨y3, z3⟩ := x3
  simp only at d0 d1 d2 d3
  subst d0 d1 d2 d3
  obtain ⟨a0, a1⟩ := side_open e0
  obtain ⟨a2, a3⟩ := side_open e1
  obtain ⟨a4, a5⟩ := side_open e2
  obtain ⟨a6, a7⟩ := side_open e3
  have hc : ∀ i, W.cell? ⟨0, i, none⟩ = [c0, c1, c2, c3, c4, c5, c6, c7][i]? := by
    intro i
    rw [World.var?_cell Tryd.gSides hvar i, ← hcs, Array.getElem?_toList]
  refine ⟨?_, ?_, ?_, ?_, ?_, ?_, ?_, ?_⟩ <;> rw [hc] <;> simp [a0, a1, a2, a3, a4, a5, a6, a7]

end Go.Proofs.YtnkgpinadgacgabDoor
