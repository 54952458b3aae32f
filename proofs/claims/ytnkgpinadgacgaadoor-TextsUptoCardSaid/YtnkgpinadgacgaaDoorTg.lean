/- The reader's rows of cells, gathered in a builder. -/
import Derived.Test.YtnkgpinadgacgaaDoorTf
namespace Go.Proofs.YtnkgpinadgacgaaDoor
open Go.RowKit Go.Shelf Go.Deep M

theorem isB_only {B b : Nat} {bs : List Value} {w w' : World} {S : Nat → Prop} (h : IsB B b bs w) (ho : Only S w w') (hs : ∀ i, B ≤ i → ¬ S i) : IsB B b bs w' := by
  have key : ∀ p, Lib.BuilderAtF 203 5 B b p bs w → Lib.BuilderAtF 203 5 B b p bs w' := by
    intro p hA
    have hlt := hA.lt
    obtain ⟨hB, v, hb, hown, hne⟩ := hA
    refine ⟨hB, v, (ho.block b hlt (hs b hB)).trans hb, ⟨hown.1, ?_⟩, hne⟩
    rcases hown.2 with h0 | ⟨g, cap, cur, fz, hv, hg, hh, r⟩
    · exact .inl h0
    · refine .inr ⟨g, cap, cur, fz, hv, hg, ?_, r⟩
      exact (ho.block g (hown.lt g (by rw [hv]; rfl)).2 (hs g hg)).trans hh
  exact h.elim (fun x => .inl (key _ x)) (fun x => .inr (key _ x))

theorem only_ge {B : Nat} {w w' : World} (h : Below B w w') : Only (fun x => B ≤ x) w w' := ⟨h.os, h.tape, h.output, h.size, fun k _ hn => h.block k (by omega)⟩

theorem strCells_list (F : ByteArray) : Lib.strCells F = Lib.byteCells F.data.toList := rfl

theorem bytes_app (a : List UInt8) (F : ByteArray) : Lib.byteCells a ++ Lib.strCells F = Lib.byteCells (a ++ F.data.toList) := by
  rw [strCells_list]
  unfold Lib.byteCells
  rw [List.map_append]

theorem cellsP_all {M : Nat} {l : List UInt8} (h : l.length ≤ M) : TX.cellsP M l = TX.cellsP l.length l := by
  obtain ⟨h1, h2, h3, h4⟩ := TX.cellsP_form l.length l
  have e : TX.cellsP M ((TX.cellsP l.length l).1 ++ (TX.cellsP l.length l).2) = ((TX.cellsP l.length l).1, (TX.cellsP l.length l).2) := by
    refine TX.cellsP_run M _ _ (by omega) h3 ?_
    by_cases hl : (TX.cellsP l.length l).1.length < l.length
    · exact .inr (h4 hl)
    · have : (TX.cellsP l.length l).2 = [] := by
        have hh := congrArg List.length h1
        rw [List.length_append] at hh
        exact List.length_eq_zero_iff.1 (by omega)
      rw [this]
      exact .inr rfl
  rw [← h1] at e
  exact e

/-- Cells read, as a string whose bytes they are. -/
theorem cells_str (b k M : Nat) (s : ByteArray) (w : World) (hs : s.size ≤ 2000000) (hM : M ≤ 2000000) (h : Rd w b s k) :
    Calls Tryd.prog 184 #[.pointer (some ⟨b, 0, none⟩), .int .i64 (M : Int)] w fun e w' =>
      ∃ (k' : Nat) (F : ByteArray), e = .returned (.string F) ∧ TX.cellsP M (restS s k) = (F.data.toList, restS s k') ∧ F.size + (s.size - k') = s.size - k ∧ Rd w' b s k' ∧ Only (fun x => x = b) w w' := by
  refine (cells_any' b k M s w hs hM h).mono ?_
  rintro e w' ⟨k', rfl, hc, hr, ho⟩
  refine ⟨k', ⟨(TX.cellsP M (restS s k)).1.toArray⟩, rfl, Prod.ext rfl hc, ?_, hr, ho⟩
  have h1 := congrArg List.length (TX.cellsP_form M (restS s k)).1
  rw [List.length_append, hc, rest_len, rest_len] at h1
  have h2 : (⟨(TX.cellsP M (restS s k)).1.toArray⟩ : ByteArray).size = (TX.cellsP M (restS s k)).1.length := by
    show (TX.cellsP M (restS s k)).1.toArray.size = _
    simp
  rw [h2]
  omega

set_option maxHeartbeats 1000000 in
/-- The rows. -/
theorem rows_any (b yb k : Nat) (s : ByteArray) (x0 x1 x2 x3 x4 : Value) (w : World) (hs : s.size ≤ 2000000) (hne : yb ≠ b) (h : Rd w b s k) (hy : Box w yb #[x0, x1, x2, x3, x4]) :
    Calls Tryd.prog 144 #[.pointer (some ⟨b, 0, none⟩), .pointer (some ⟨yb, 0, none⟩)] w fun e w' =>
      ∃ (k' n C : Nat) (cs : List UInt8) (ok : Bool), e = .returned (.bool ok) ∧ TX.rowsP (restS s k) = (restS s k', if ok then some (cs, n, C) else none) ∧ Rd w' b s k' ∧ (ok = true → Box w' yb #[.int .i64 (n : Int), .int .i64 (C : Int), .string ⟨cs.toArray⟩, x3, x4]) ∧ Only (fun x => x = b ∨ x = yb) w w' := by
  have HR := Hid.mk h
  have HY := Hid.mk hy
  have hne2 : b ≠ yb := fun e => hne e.symm
  have c0 := h.c0
  have hlb := h.lt
  have hly := hy.lt
  clear h hy
  go_enter Tryd.func144, Tryd.ntmps144
  go_wp2_with fail
  refine (cells_str b k s.size s w hs hs HR.out).mono ?_
  rintro e w1 ⟨k1, F, rfl, hF, hF2, hr1, ho1⟩
  rw [cellsP_all (by rw [rest_len]; omega)] at hF
  have CF := Hid.mk hF
  have R1 := Hid.mk hr1
  have O1 := Hid.mk ho1
  have Y1 : Hid (Box w1 yb #[x0, x1, x2, x3, x4]) := HY.out.only ho1 hne
  clear hF hr1 ho1
  by_cases hz : F.toList = []
  · have hzE : F.toList.isEmpty = true := by rw [hz]; rfl
    have hcl : (TX.cellsP (restS s k).length (restS s k)).1 = [] := by rw [CF.out, ← Lib.toList_data]; exact hz
    have CL := Hid.mk hcl
    clear hcl
    go_wp2
    go_ret
    refine ⟨k1, 0, 0, [], false, rfl, ?_, R1.out, (fun h => by cases h), O1.out.mono (fun _ _ h => .inl h)⟩
    unfold TX.rowsP
    rw [if_pos CL.out, CF.out]
    rfl
  · have hzE : F.toList.isEmpty = false := by
      cases h : F.toList with
      | nil => exact absurd h hz
      | cons _ _ => rfl
    have hcl : ¬ (TX.cellsP (restS s k).length (restS s k)).1 = [] := by rw [CF.out, ← Lib.toList_data]; exact hz
    have CL := Hid.mk hcl
    clear hcl
    go_wp2_with fail
    refine (take_any b k1 s 10 _ hs R1.out).mono ?_
    rintro e w2 ⟨k2, rfl, hr2, ht2, ho2⟩
    have R2 := Hid.mk hr2
    have T2 := Hid.mk ht2
    have Y2 : Hid (Box w2 yb #[x0, x1, x2, x3, x4]) := Y1.out.only ho2 hne
    have O2 : Hid (Only (fun x => x = b) w w2) := O1.out.trans ho2 (fun _ _ h => h)
    obtain ⟨tb, htb⟩ : ∃ x, x = (TX.take 10 (restS s k1)).2 := ⟨_, rfl⟩
    have TB := Hid.mk htb
    rw [← htb]
    clear hr2 ht2 ho2 htb
    cases tb
    · go_wp2
      go_ret
      refine ⟨k2, 0, 0, [], false, rfl, ?_, R2.out, (fun h => by cases h), O2.out.mono (fun _ _ h => .inl h)⟩
      unfold TX.rowsP
      rw [if_neg CL.out, CF.out]
      show TX.okP (TX.take 10 (restS s k1)) _ = _
      unfold TX.okP
      rw [← TB.out, T2.out]
      rfl
    · have y0 := Y2.out.c 0
      have y1 := Y2.out.c 1
      have f2 := Y2.out.fz
      simp only [List.getElem?_toArray, List.getElem?_cons_zero, List.getElem?_cons_succ] at y0 y1
      have hlen1 := R1.out.le
      have hlen2 := R2.out.le
      have hk12 : restS s k1 = 10 :: restS s k2 := by
        have := TX.take_form (show TX.take 10 (restS s k1) = (restS s k2, true) from Prod.ext T2.out.symm TB.out.symm)
        exact this
      have hk2 : k2 = k1 + 1 := by
        have h1 := congrArg List.length hk12
        rw [List.length_cons, rest_len, rest_len] at h1
        omega
      have hb2 : b < w2.heap.size := R2.out.lt
      have hy2 : yb < w2.heap.size := Y2.out.lt
      have Y3 : Hid (Box ((w2.setCell ⟨yb, 0, none⟩ (.int .i64 1)).setCell ⟨yb, 1, none⟩ (.int .i64 (F.size : Int))) yb #[.int .i64 ((1 : Nat) : Int), .int .i64 (F.size : Int), x2, x3, x4]) :=
        (Y2.out.set (i := 0) (by simp) (v' := #[.int .i64 ((1 : Nat) : Int), x1, x2, x3, x4]) rfl).set (i := 1) (by simp) rfl
      have R3 : Hid (Rd ((w2.setCell ⟨yb, 0, none⟩ (.int .i64 1)).setCell ⟨yb, 1, none⟩ (.int .i64 (F.size : Int))) b s k2) := (R2.out.setOther hne).setOther hne
      have O3 : Hid (Only (fun x => x = b ∨ x = yb) w ((w2.setCell ⟨yb, 0, none⟩ (.int .i64 1)).setCell ⟨yb, 1, none⟩ (.int .i64 (F.size : Int)))) :=
        Only.setCell (S := fun x => x = b ∨ x = yb) (Only.setCell (S := fun x => x = b ∨ x = yb) (O2.out.mono (fun _ _ h => .inl h)) (p := ⟨yb, 0, none⟩) (fun _ => .inr rfl) _) (p := ⟨yb, 1, none⟩) (fun _ => .inr rfl) _
      have hsz3 : ((w2.setCell ⟨yb, 0, none⟩ (.int .i64 1)).setCell ⟨yb, 1, none⟩ (.int .i64 (F.size : Int))).heap.size = w2.heap.size := by simp [World.setCell]
      have I3 : Hid (IsB w2.heap.size w2.heap.size (Lib.byteCells []) (((w2.setCell ⟨yb, 0, none⟩ (.int .i64 1)).setCell ⟨yb, 1, none⟩ (.int .i64 (F.size : Int))).alloc (.cells #[.pointer none, .slice none 0 0] 203))) := by
        have h1 := Lib.IsBuilderF.of (Lib.fresh_isBuilder 203 5 ((w2.setCell ⟨yb, 0, none⟩ (.int .i64 1)).setCell ⟨yb, 1, none⟩ (.int .i64 (F.size : Int))))
        rw [hsz3] at h1
        exact h1
      have A3 : Hid (∀ o, Only (fun _ => False) ((w2.setCell ⟨yb, 0, none⟩ (.int .i64 1)).setCell ⟨yb, 1, none⟩ (.int .i64 (F.size : Int))) (((w2.setCell ⟨yb, 0, none⟩ (.int .i64 1)).setCell ⟨yb, 1, none⟩ (.int .i64 (F.size : Int))).alloc o)) := fun o => (Only.refl _ _).alloc o
      go_wp2_with fail
      refine (wstring_any w2.heap.size w2.heap.size _ F _ I3.out (by have : ([] : List UInt8).length = 0 := rfl
                                                                     rw [Lib.byteCells_length]; simp; omega) (by simp [World.setCell])).mono ?_
      rintro e w4 ⟨rfl, hi4, hb4, _⟩
      rw [bytes_app] at hi4
      have I4 : Hid (IsB w2.heap.size w2.heap.size (Lib.byteCells F.data.toList) w4) := .inr hi4
      have Y4 : Hid (Box w4 yb #[.int .i64 ((1 : Nat) : Int), .int .i64 (F.size : Int), x2, x3, x4]) := (Y3.out.only (A3.out _) (fun e => e)).belowB hb4 hy2
      have R4 : Hid (Rd w4 b s k2) := (R3.out.only (A3.out _) (fun e => e)).belowB hb4 hb2
      have O4 : Hid (Only (fun x => x = b ∨ x = yb ∨ w2.heap.size ≤ x) w w4) :=
        ((O3.out.mono (fun _ _ h => h.elim .inl (fun h => .inr (.inl h)))).trans (A3.out _) (fun _ _ h => h.elim)).trans (only_ge hb4) (fun _ _ h => .inr (.inr h))
      have hz4 : w2.heap.size ≤ w4.heap.size := by have := hb4.size; simp [World.setCell] at this; omega
      have CF2 : Hid (F.size = F.data.toList.length) := Lib.size_eq F
      clear hi4 hb4 hzE hz
      go_wp2
      go_loopg [] (s.size - k2 + 1) (fun f wr => ∃ (kk n : Nat) (acc : List UInt8), Rd wr b s kk ∧ Box wr yb #[.int .i64 (n : Int), .int .i64 (F.size : Int), x2, x3, x4] ∧ IsB w2.heap.size w2.heap.size (Lib.byteCells acc) wr ∧ Only (fun x => x = b ∨ x = yb ∨ w2.heap.size ≤ x) w wr ∧ w2.heap.size ≤ wr.heap.size ∧ s.size - kk < f ∧ TX.moreRows F.size f (restS s kk) acc n = TX.moreRows F.size (s.size - k2 + 1) (restS s k2) F.data.toList 1 ∧ n + (s.size - kk) ≤ s.size + 1 ∧ acc.length + (s.size - kk) ≤ s.size)
      case atStart => exact ⟨k2, 1, F.data.toList, R4.out, Y4.out, I4.out, O4.out, hz4, by omega, rfl, by omega, by rw [← CF2.out]; omega⟩
      case round =>
        obtain ⟨kk, n, acc, hr, hy, hi, ho, hzr, hf, hm, hn, hacc⟩ := hrel
        obtain ⟨wo, rfl⟩ : ∃ x, x = wr := ⟨_, rfl⟩
        have RO := Hid.mk hr
        have YO := Hid.mk hy
        have IW := Hid.mk hi
        have OO := Hid.mk ho
        have MO := Hid.mk hm
        obtain ⟨f0, hf0⟩ : ∃ f0, gk = f0 + 1 := ⟨gk - 1, by omega⟩
        have GF := Hid.mk hf0
        have hkk := hr.le
        have hbo := hr.lt
        have hyo := hy.lt
        clear hr hy hi ho hm
        have HNS : Hid (∀ i, w2.heap.size ≤ i → ¬ (i = b)) := fun i hi e => by omega
        go_wp2_with fail
        refine (before_any b kk s wo RO.out).mono ?_
        rintro e w5 ⟨rfl, nd, rfl⟩
        obtain ⟨tb, htb⟩ : ∃ x, x = TX.beforeCell (restS s kk) := ⟨_, rfl⟩
        have HT := Hid.mk htb
        rw [← htb]
        clear htb
        have RD : Hid (Rd (wo.drewN nd) b s kk) := RO.out.drewN nd
        have YD : Hid (Box (wo.drewN nd) yb #[.int .i64 (n : Int), .int .i64 (F.size : Int), x2, x3, x4]) := YO.out.drewN nd
        have OD : Hid (Only (fun x => x = b ∨ x = yb ∨ w2.heap.size ≤ x) w (wo.drewN nd)) := OO.out.drewN nd
        have ID : Hid (IsB w2.heap.size w2.heap.size (Lib.byteCells acc) (wo.drewN nd)) := isB_only IW.out ((Only.refl (fun _ => False) wo).drewN nd) (fun _ _ e => e)
        cases tb
        · have hans : TX.moreRows F.size (s.size - k2 + 1) (restS s k2) F.data.toList 1 = (restS s kk, some (acc, n)) := by
            rw [← MO.out, GF.out]
            show (if TX.beforeCell (restS s kk) then _ else _) = _
            rw [← HT.out]
            rfl
          have AN := Hid.mk hans
          clear hans
          go_wp2_with fail
          refine (bstring_any w2.heap.size w2.heap.size acc _ ID.out hzr).mono ?_
          rintro e w6 ⟨rfl, _, hb6, _⟩
          have Y6 : Hid (Box w6 yb #[.int .i64 (n : Int), .int .i64 (F.size : Int), x2, x3, x4]) := YD.out.belowB hb6 hy2
          have R6 : Hid (Rd w6 b s kk) := RD.out.belowB hb6 hb2
          have O6 : Hid (Only (fun x => x = b ∨ x = yb ∨ w2.heap.size ≤ x) w w6) := OD.out.trans (only_ge hb6) (fun _ _ h => .inr (.inr h))
          have f6 := Y6.out.fz
          have y6 := Y6.out.c 2
          simp only [List.getElem?_toArray, List.getElem?_cons_zero, List.getElem?_cons_succ] at y6
          clear hb6
          go_wp2
          go_ret
          have hsz : w.heap.size ≤ w2.heap.size := O2.out.size
          refine ⟨kk, n, F.size, acc, true, rfl, ?_, R6.out.setOther hne, (fun _ => Y6.out.set (i := 2) (by simp) rfl), ?_⟩
          · unfold TX.rowsP
            rw [if_neg CL.out, CF.out]
            show TX.okP (TX.take 10 (restS s k1)) _ = _
            have ht : TX.take 10 (restS s k1) = (restS s k2, true) := Prod.ext T2.out.symm TB.out.symm
            rw [ht, TX.okP_mk]
            show TX.andP (TX.moreRows F.data.toList.length ((restS s k2).length + 1) (restS s k2) F.data.toList 1) _ = _
            rw [← CF2.out, rest_len, AN.out]
            rfl
          · exact Only.setCell (S := fun x => x = b ∨ x = yb) (O6.out.mono (fun i hi h => h.elim .inl (fun h => h.elim .inr (fun h => absurd h (by omega))))) (p := ⟨yb, 2, none⟩) (fun _ => .inr rfl) _
        · have hun : TX.moreRows F.size gk (restS s kk) acc n = (if (TX.cellsP F.size (restS s kk)).1.length < F.size then ((TX.cellsP F.size (restS s kk)).2, none) else TX.okP (TX.take 10 (TX.cellsP F.size (restS s kk)).2) fun l1 => TX.moreRows F.size f0 l1 (acc ++ (TX.cellsP F.size (restS s kk)).1) (n + 1)) := by
            rw [GF.out]
            show (if TX.beforeCell (restS s kk) then _ else _) = _
            rw [← HT.out]
            rfl
          have UN := Hid.mk hun
          clear hun
          have hFs : F.size ≤ 2000000 := by omega
          have f5 := YD.out.fz
          have y5 := YD.out.c 1
          simp only [List.getElem?_toArray, List.getElem?_cons_zero, List.getElem?_cons_succ] at y5
          go_wp2_with fail
          refine (cells_str b kk F.size s _ hs hFs RD.out).mono ?_
          rintro e w6 ⟨k6, G, rfl, hG, hG2, hr6, ho6⟩
          have CG := Hid.mk hG
          have R6 := Hid.mk hr6
          have Y6 : Hid (Box w6 yb #[.int .i64 (n : Int), .int .i64 (F.size : Int), x2, x3, x4]) := YD.out.only ho6 hne
          have O6 : Hid (Only (fun x => x = b ∨ x = yb ∨ w2.heap.size ≤ x) w w6) := OD.out.trans ho6 (fun _ _ h => .inl h)
          have I6 : Hid (IsB w2.heap.size w2.heap.size (Lib.byteCells acc) w6) := isB_only ID.out ho6 HNS.out
          have hz6 : w2.heap.size ≤ w6.heap.size := Nat.le_trans hzr ho6.size
          have hGl : G.size = G.data.toList.length := Lib.size_eq G
          have hk6 := hr6.le
          have f6 := Y6.out.fz
          have y6 := Y6.out.c 1
          simp only [List.getElem?_toArray, List.getElem?_cons_zero, List.getElem?_cons_succ] at y6
          have GL := Hid.mk hGl
          clear hG hr6 ho6 hGl f5 y5
          by_cases hlt : G.size < F.size
          · have hltI : decide ((G.size : Int) < (F.size : Int)) = true := by simp; omega
            have hans : TX.moreRows F.size (s.size - k2 + 1) (restS s k2) F.data.toList 1 = (restS s k6, none) := by
              rw [← MO.out, UN.out, CG.out, if_pos (by rw [← GL.out]; exact hlt)]
            have AN := Hid.mk hans
            clear hans
            go_wp2
            go_ret
            have hsz : w.heap.size ≤ w2.heap.size := O2.out.size
            refine ⟨k6, 0, 0, [], false, rfl, ?_, R6.out, (fun h => by cases h), O6.out.mono (fun i hi h => h.elim .inl (fun h => h.elim .inr (fun h => absurd h (by omega))))⟩
            unfold TX.rowsP
            rw [if_neg CL.out, CF.out]
            show TX.okP (TX.take 10 (restS s k1)) _ = _
            have ht : TX.take 10 (restS s k1) = (restS s k2, true) := Prod.ext T2.out.symm TB.out.symm
            rw [ht, TX.okP_mk]
            show TX.andP (TX.moreRows F.data.toList.length ((restS s k2).length + 1) (restS s k2) F.data.toList 1) _ = _
            rw [← CF2.out, rest_len, AN.out]
            rfl
          · have hltI : decide ((G.size : Int) < (F.size : Int)) = false := by simp; omega
            go_wp2_with fail
            refine (take_any b k6 s 10 _ hs R6.out).mono ?_
            rintro e w7 ⟨k7, rfl, hr7, ht7, ho7⟩
            have R7 := Hid.mk hr7
            have T7 := Hid.mk ht7
            have Y7 : Hid (Box w7 yb #[.int .i64 (n : Int), .int .i64 (F.size : Int), x2, x3, x4]) := Y6.out.only ho7 hne
            have O7 : Hid (Only (fun x => x = b ∨ x = yb ∨ w2.heap.size ≤ x) w w7) := O6.out.trans ho7 (fun _ _ h => .inl h)
            have I7 : Hid (IsB w2.heap.size w2.heap.size (Lib.byteCells acc) w7) := isB_only I6.out ho7 HNS.out
            have hz7 : w2.heap.size ≤ w7.heap.size := Nat.le_trans hz6 ho7.size
            have hb7 : b < w7.heap.size := hr7.lt
            have hk7 := hr7.le
            obtain ⟨tc, htc⟩ : ∃ x, x = (TX.take 10 (restS s k6)).2 := ⟨_, rfl⟩
            have TC := Hid.mk htc
            rw [← htc]
            clear hr7 ht7 ho7 htc f6 y6
            cases tc
            · have hans : TX.moreRows F.size (s.size - k2 + 1) (restS s k2) F.data.toList 1 = (restS s k7, none) := by
                rw [← MO.out, UN.out, CG.out, if_neg (by rw [← GL.out]; exact hlt)]
                show TX.okP (TX.take 10 (restS s k6)) _ = _
                unfold TX.okP
                rw [← TC.out, T7.out]
                rfl
              have AN := Hid.mk hans
              clear hans
              go_wp2
              go_ret
              have hsz : w.heap.size ≤ w2.heap.size := O2.out.size
              refine ⟨k7, 0, 0, [], false, rfl, ?_, R7.out, (fun h => by cases h), O7.out.mono (fun i hi h => h.elim .inl (fun h => h.elim .inr (fun h => absurd h (by omega))))⟩
              unfold TX.rowsP
              rw [if_neg CL.out, CF.out]
              show TX.okP (TX.take 10 (restS s k1)) _ = _
              have ht : TX.take 10 (restS s k1) = (restS s k2, true) := Prod.ext T2.out.symm TB.out.symm
              rw [ht, TX.okP_mk]
              show TX.andP (TX.moreRows F.data.toList.length ((restS s k2).length + 1) (restS s k2) F.data.toList 1) _ = _
              rw [← CF2.out, rest_len, AN.out]
              rfl
            · have hstep : TX.moreRows F.size f0 (restS s k7) (acc ++ G.data.toList) (n + 1) = TX.moreRows F.size (s.size - k2 + 1) (restS s k2) F.data.toList 1 := by
                rw [← MO.out, UN.out, CG.out, if_neg (by rw [← GL.out]; exact hlt)]
                show _ = TX.okP (TX.take 10 (restS s k6)) _
                unfold TX.okP
                rw [← TC.out, T7.out]
                rfl
              have ST := Hid.mk hstep
              have hrt := TX.take_form (show TX.take 10 (restS s k6) = (restS s k7, true) from Prod.ext T7.out.symm TC.out.symm)
              have hk67 : s.size - k6 = s.size - k7 + 1 := by
                have h1 := congrArg List.length hrt
                rw [List.length_cons, rest_len, rest_len] at h1
                omega
              clear hstep hrt
              have f7 := Y7.out.fz
              have y7 := Y7.out.c 0
              simp only [List.getElem?_toArray, List.getElem?_cons_zero] at y7
              go_wp2_with fail
              refine (wstring_any w2.heap.size w2.heap.size _ G _ I7.out (by rw [Lib.byteCells_length]; omega) hz7).mono ?_
              rintro e w8 ⟨rfl, hi8, hb8, _⟩
              rw [bytes_app] at hi8
              have I8 : Hid (IsB w2.heap.size w2.heap.size (Lib.byteCells (acc ++ G.data.toList)) w8) := .inr hi8
              have Y8 : Hid (Box w8 yb #[.int .i64 (n : Int), .int .i64 (F.size : Int), x2, x3, x4]) := Y7.out.belowB hb8 hy2
              have R8 : Hid (Rd w8 b s k7) := R7.out.belowB hb8 hb2
              have O8 : Hid (Only (fun x => x = b ∨ x = yb ∨ w2.heap.size ≤ x) w w8) := O7.out.trans (only_ge hb8) (fun _ _ h => .inr (.inr h))
              have hz8 : w2.heap.size ≤ w8.heap.size := Nat.le_trans hz7 hb8.size
              have f8 := Y8.out.fz
              have y8 := Y8.out.c 0
              simp only [List.getElem?_toArray, List.getElem?_cons_zero] at y8
              clear hi8 hb8 f7 y7
              have hy8 : yb < w8.heap.size := Y8.out.lt
              go_wp2
              go_roundg f0
              case rel =>
                have O9 : Only (fun x => x = b ∨ x = yb ∨ w2.heap.size ≤ x) w (w8.setCell ⟨yb, 0, none⟩ (.int .i64 ((n : Int) + 1))) := Only.setCell (S := fun x => x = b ∨ x = yb ∨ w2.heap.size ≤ x) O8.out (p := ⟨yb, 0, none⟩) (fun _ => .inr (.inl rfl)) _
                have I9 := isB_only I8.out (Only.setCell (S := fun x => x = yb) (Only.refl _ w8) (p := ⟨yb, 0, none⟩) (fun _ => rfl) (.int .i64 ((n : Int) + 1))) (fun i hi e => by omega)
                have Y9 : Box (w8.setCell ⟨yb, 0, none⟩ (.int .i64 ((n : Int) + 1))) yb #[.int .i64 ((n + 1 : Nat) : Int), .int .i64 (F.size : Int), x2, x3, x4] := Y8.out.set (i := 0) (by simp) (by simp)
                exact ⟨k7, n + 1, acc ++ G.data.toList, R8.out.setOther hne, Y9, I9, O9, (by simp [World.setCell]; exact hz8), (by have := GF.out; omega), ST.out, (by omega), (by rw [List.length_append, ← GL.out]; omega)⟩
              all_goals (have := GF.out; omega)

end Go.Proofs.YtnkgpinadgacgaaDoor
