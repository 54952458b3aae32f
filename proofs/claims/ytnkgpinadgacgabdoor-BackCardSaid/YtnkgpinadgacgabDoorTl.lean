/- A line of numbers, written into a builder. -/
import Derived.Test.YtnkgpinadgacgabDoorTk
import Derived.Lib.AppendIntMem
namespace Go.Proofs.YtnkgpinadgacgabDoor
open Go.RowKit Go.Shelf Go.Deep M

theorem dec_len19 {n : Nat} (h : n ≤ 9223372036854775807) : (Lib.decDigits n).length ≤ 19 := by
  rw [Lib.decDigits_length]
  rcases Nat.lt_or_ge (Lib.nDigits n) 20 with h6 | h6
  · omega
  · exfalso
    have h1 : ∀ (k m : Nat), k + 1 ≤ Lib.nDigits m → 1 ≤ k → 10 ^ k ≤ m := by
      intro k
      induction k with
      | zero => intro m _ h; omega
      | succ k ih =>
        intro m hm _
        by_cases hs : m < 10
        · rw [Lib.nDigits_small hs] at hm; omega
        · rw [Lib.nDigits_big hs] at hm
          by_cases hk : k = 0
          · subst hk; simp; omega
          · have := ih (m / 10) (by omega) (by omega)
            rw [Nat.pow_succ]
            omega
    have := h1 19 n (by omega) (by omega)
    omega

theorem sep_snoc : ∀ (ns : List Nat) (n : Nat), TX.sep (ns ++ [n]) = TX.sep ns ++ ((if ns = [] then [] else [32]) ++ Lib.decDigits n)
  | [], n => by simp [TX.sep]
  | [a], n => by simp [TX.sep]
  | a :: b :: r, n => by
    have ih := sep_snoc (b :: r) n
    show Lib.decDigits a ++ 32 :: TX.sep (b :: (r ++ [n])) = (Lib.decDigits a ++ 32 :: TX.sep (b :: r)) ++ _
    have ih' : TX.sep (b :: (r ++ [n])) = TX.sep (b :: r) ++ ([32] ++ Lib.decDigits n) := by simpa using ih
    rw [ih']
    simp

theorem sep_take {ns : List Nat} {j : Nat} (hj : j < ns.length) : TX.sep (ns.take (j + 1)) = TX.sep (ns.take j) ++ ((if j = 0 then [] else [32]) ++ Lib.decDigits ns[j]) := by
  rw [List.take_add_one, List.getElem?_eq_getElem hj]
  show TX.sep (ns.take j ++ [ns[j]]) = _
  rw [sep_snoc]
  by_cases h0 : j = 0
  · subst h0; simp
  · have : ns.take j ≠ [] := by
      intro e
      have h2 : (ns.take j).length = 0 := by rw [e]; rfl
      rw [List.length_take] at h2
      omega
    rw [if_neg this, if_neg h0]

theorem sep_len (ns : List Nat) (h : ∀ x ∈ ns, x ≤ 9223372036854775807) : ∀ j, j ≤ ns.length → (TX.sep (ns.take j)).length ≤ 20 * j
  | 0, _ => by simp [TX.sep]
  | j + 1, hj => by
    have ih := sep_len ns h j (by omega)
    have h19 := dec_len19 (h ns[j] (List.getElem_mem _))
    have e : (if j = 0 then ([] : List UInt8) else [32]).length ≤ 1 := by split <;> simp
    rw [sep_take (by omega), List.length_append, List.length_append]
    omega

theorem isB_below {B b : Nat} {bs : List Value} {w w' : World} (h : IsB B b bs w) (hb : Below w.heap.size w w') : IsB B b bs w' := isB_only h (Only.of_below (S := fun _ => False) hb) (fun _ _ e => e)

theorem others_below {e : TypeId} {b : Option Nat} {w w' : World} (h : Below w.heap.size w w') : Lib.OthersKept e b w w' := fun k o hk _ _ => by
  have hlt : k < w.heap.size := by
    rcases Nat.lt_or_ge k w.heap.size with h1 | h1
    · exact h1
    · rw [Array.getElem?_eq_none h1] at hk; cases hk
  rw [h.block k hlt]
  exact hk

theorem byte_app (a : List UInt8) (c : UInt8) : Lib.byteCells a ++ [Value.int .u8 (c.toNat : Int)] = Lib.byteCells (a ++ [c]) := by
  unfold Lib.byteCells
  rw [List.map_append]
  rfl

set_option maxRecDepth 100000 in
set_option maxHeartbeats 1000000 in
/-- A line of numbers. -/
theorem wline_any (B b g : Nat) (ns : List Nat) (l : List UInt8) (cs : Array Value) (fz : Nat × Nat) (w : World) (hT : Lib.TabBelow Tryd.prog B w "internal/strconv.uint64pow10" .u64 Lib.pow10Tab) (hI : IsB B b (Lib.byteCells l) w) (hB : B ≤ w.heap.size) (hl : l.length + 20 * ns.length + 1 ≤ 90000000)
    (hmax : ∀ x ∈ ns, x ≤ 9223372036854775807) (hg : w.heap[g]? = some (.cells cs 3 fz)) (hgb : g ≠ b) (hcs : ∀ j (h : j < ns.length), cs[j]? = some (.int .i64 (ns[j] : Int))) :
    Calls Tryd.prog 67 #[.pointer (some ⟨b, 0, none⟩), .slice (some ⟨g, 0, none⟩) ns.length ns.length] w fun e w' =>
      e = .returned (.tuple #[]) ∧ UsedB B b (Lib.byteCells (l ++ TX.lineT ns)) w' ∧ Below B w w' ∧ Lib.OthersKept 5 (some b) w w' := by
  have HI := Hid.mk hI
  have HT := Hid.mk hT
  have HG := Hid.mk hg
  have HC := Hid.mk hcs
  have HM := Hid.mk hmax
  have hlen4 : ns.length ≤ 4500000 := by omega
  clear hI hT hg hcs hmax
  go_enter Tryd.func67, Tryd.ntmps67
  go_wp2
  go_loopw [8] (fun s8 wr => ∃ j : Nat, s8 = .int .i64 (j : Int) ∧ j ≤ ns.length ∧ IsB B b (Lib.byteCells (l ++ TX.sep (ns.take j))) wr ∧ Below B w wr ∧ Lib.OthersKept 5 (some b) w wr) (fun s8 _ => ns.length - (intOf s8).toNat)
  case atStart => exact ⟨0, rfl, Nat.zero_le _, by simpa [TX.sep] using HI.out, Below.refl _ _, Lib.OthersKept.refl _ _ _⟩
  case round =>
    obtain ⟨j, rfl, hj, hi, hb, ho⟩ := hrel
    obtain ⟨wo, rfl⟩ : ∃ x, x = wr := ⟨_, rfl⟩
    have IW := Hid.mk hi
    have BO := Hid.mk hb
    have OO := Hid.mk ho
    have hBo : B ≤ wo.heap.size := Nat.le_trans hB hb.size
    have hsl := sep_len ns HM.out j hj
    clear hi hb ho
    by_cases hlt : j < ns.length
    · have hltI : (j : Int) < (ns.length : Int) := by omega
      have hgo : wo.heap[g]? = some (.cells cs 3 fz) := OO.out g _ HG.out (fun e => hgb (Option.some.inj e)) (fun c f e => by cases e)
      obtain ⟨x, hx⟩ : ∃ x, x = ns[j] := ⟨_, rfl⟩
      have gc : wo.cell? ⟨g, j, none⟩ = some (.int .i64 (x : Int)) := by rw [Lib.cell_of_heap hgo, HC.out j hlt, hx]
      have hx9 : x ≤ 9223372036854775807 := by rw [hx]; exact HM.out _ (List.getElem_mem _)
      have HX := Hid.mk hx
      have HGO := Hid.mk hgo
      have IT : Hid (∀ u, Below B w u → Calls Tryd.prog 92 #[.int .i64 (x : Int)] u fun e w' => ∃ F : ByteArray, e = .returned (.string F) ∧ F.data.toList = Lib.decDigits x ∧ F.size ≤ 19 ∧ Below u.heap.size u w') := fun u hu => by
        refine (Any.strconv_Itoa Tryd.laysM171 (x : Int) (by omega) (by omega) u (HT.out u hu)).mono ?_
        rintro e w' ⟨rfl, k, os, rfl⟩
        have e1 : (⟨(Lib.itoa (x : Int)).toArray⟩ : ByteArray).data.toList = Lib.decDigits x := by
          show (Lib.itoa (x : Int)).toArray.toList = _
          rw [Lib.itoa_nonneg]
        refine ⟨_, rfl, e1, ?_, Lib.below_grow _ u (Nat.le_refl _) k os⟩
        rw [Lib.size_eq, e1]
        exact dec_len19 hx9
      clear hx hgo
      by_cases hj0 : j = 0
      · have e0 : decide ((0 : Int) < ((j : Nat) : Int)) = false := by simp; omega
        have e0n : ¬ 0 < j := by omega
        have hst : TX.sep (ns.take (j + 1)) = TX.sep (ns.take j) ++ Lib.decDigits x := by rw [sep_take hlt, if_pos hj0, HX.out]; rfl
        have ST := Hid.mk hst
        have HJ := Hid.mk hj0
        clear hst hj0
        go_wp2_with fail
        refine (IT.out wo BO.out).mono ?_
        rintro e w3 ⟨F, rfl, hF, hF9, hb3⟩
        have HF := Hid.mk hF
        have I3 : Hid (IsB B b (Lib.byteCells (l ++ TX.sep (ns.take j))) w3) := isB_below IW.out hb3
        have B3 : Hid (Below B w w3) := (BO.out).trans (hb3.mono hBo)
        have O3 : Hid (Lib.OthersKept 5 (some b) w w3) := (OO.out).trans (others_below hb3)
        have hz3 : B ≤ w3.heap.size := Nat.le_trans hBo hb3.size
        clear hF hb3
        go_wp2_with fail
        refine (wstring_any B b _ F w3 I3.out (by rw [Lib.byteCells_length]; simp only [List.length_append]; omega) hz3).mono ?_
        rintro e w5 ⟨rfl, hi5, hb5, hk5⟩
        rw [bytes_app, HF.out] at hi5
        have I5 : Hid (IsB B b (Lib.byteCells (l ++ TX.sep (ns.take (j + 1)))) w5) := by
          unfold Hid
          rw [ST.out]
          refine .inr ?_
          simpa [List.append_assoc] using hi5
        have B5 : Hid (Below B w w5) := B3.out.trans hb5
        have O5 : Hid (Lib.OthersKept 5 (some b) w w5) := O3.out.trans hk5
        clear hi5 hb5 hk5
        go_wp2
        go_round
        case rel => exact ⟨j + 1, by go_num, by omega, I5.out, B5.out, O5.out⟩
        case measure => simp [intOf]; omega
      · have e0 : decide ((0 : Int) < ((j : Nat) : Int)) = true := by simp; omega
        have hst : TX.sep (ns.take (j + 1)) = TX.sep (ns.take j) ++ ([32] ++ Lib.decDigits x) := by rw [sep_take hlt, if_neg hj0, HX.out]
        have ST := Hid.mk hst
        clear hst
        go_wp2_with fail
        refine (wbyte_any B b _ 32 wo IW.out (by rw [Lib.byteCells_length]; simp only [List.length_append]; omega) hBo).mono ?_
        rintro e w2 ⟨rfl, hi2, hb2, hk2⟩
        rw [show (Value.int .u8 32) = Value.int .u8 (((32 : UInt8).toNat : Nat) : Int) from rfl, byte_app] at hi2
        have I2 : Hid (IsB B b (Lib.byteCells (l ++ TX.sep (ns.take j) ++ [32])) w2) := .inr hi2
        have B2 : Hid (Below B w w2) := BO.out.trans hb2
        have O2 : Hid (Lib.OthersKept 5 (some b) w w2) := OO.out.trans hk2
        have hz2 : B ≤ w2.heap.size := Nat.le_trans hBo hb2.size
        clear hi2 hb2 hk2
        go_wp2_with fail
        refine (IT.out w2 B2.out).mono ?_
        rintro e w3 ⟨F, rfl, hF, hF9, hb3⟩
        have HF := Hid.mk hF
        have I3 : Hid (IsB B b (Lib.byteCells (l ++ TX.sep (ns.take j) ++ [32])) w3) := isB_below I2.out hb3
        have B3 : Hid (Below B w w3) := (B2.out).trans (hb3.mono hz2)
        have O3 : Hid (Lib.OthersKept 5 (some b) w w3) := (O2.out).trans (others_below hb3)
        have hz3 : B ≤ w3.heap.size := Nat.le_trans hz2 hb3.size
        clear hF hb3
        go_wp2_with fail
        refine (wstring_any B b _ F w3 I3.out (by rw [Lib.byteCells_length]; simp only [List.length_append, List.length_cons, List.length_nil]; omega) hz3).mono ?_
        rintro e w5 ⟨rfl, hi5, hb5, hk5⟩
        rw [bytes_app, HF.out] at hi5
        have I5 : Hid (IsB B b (Lib.byteCells (l ++ TX.sep (ns.take (j + 1)))) w5) := by
          unfold Hid
          rw [ST.out]
          refine .inr ?_
          simpa [List.append_assoc] using hi5
        have B5 : Hid (Below B w w5) := B3.out.trans hb5
        have O5 : Hid (Lib.OthersKept 5 (some b) w w5) := O3.out.trans hk5
        clear hi5 hb5 hk5
        go_wp2
        go_round
        case rel => exact ⟨j + 1, by go_num, by omega, I5.out, B5.out, O5.out⟩
        case measure => simp [intOf]; omega
    · have hge : ¬ (j : Int) < (ns.length : Int) := by omega
      have hjn : j = ns.length := by omega
      have HJ := Hid.mk hjn
      clear hjn
      go_wp2_with fail
      refine (wbyte_any B b _ 10 wo IW.out (by rw [Lib.byteCells_length]; simp only [List.length_append]; omega) hBo).mono ?_
      rintro e w2 ⟨rfl, hi2, hb2, hk2⟩
      rw [show (Value.int .u8 10) = Value.int .u8 (((10 : UInt8).toNat : Nat) : Int) from rfl, byte_app] at hi2
      have I2 : Hid (UsedB B b (Lib.byteCells (l ++ TX.lineT ns)) w2) := by
        unfold Hid TX.lineT
        rw [HJ.out, List.take_length] at hi2
        simpa [List.append_assoc] using hi2
      have B2 : Hid (Below B w w2) := BO.out.trans hb2
      have O2 : Hid (Lib.OthersKept 5 (some b) w w2) := OO.out.trans hk2
      clear hi2 hb2 hk2
      go_wp2
      go_end0
      exact ⟨rfl, I2.out, B2.out, O2.out⟩

end Go.Proofs.YtnkgpinadgacgabDoor
