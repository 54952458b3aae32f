/- Tl, Tm, Bn, Tn, Tq, Va, Wc. -/
import Derived.Test.YtnkgpinadgacgaaGreatDoorQj
import Derived.Lib.AppendIntMem
import Derived.Carry
import Derived.Laws.EntriesVeiled
import Derived.Lib.SliceRun
set_option maxRecDepth 1000000
set_option maxHeartbeats 1000000
namespace Go.Proofs.YtnkgpinadgacgaaGreatDoor
section
open Go.RowKit Go.Shelf Go.Deep M
theorem dec_len19 {n : Nat} (h : n <= 9223372036854775807) : (Lib.decDigits n).length <= 19 := by
 rw [Lib.decDigits_length]; rcases Nat.lt_or_ge (Lib.nDigits n) 20 with h6 | h6
 . omega
 . exfalso; have h1 : ∀ (k m : Nat), k + 1 <= Lib.nDigits m -> 1 <= k -> 10 ^ k <= m := by
    intro k; induction k with
    | zero => intro m _ h; omega
    | succ k ih =>
      intro m hm _; by_cases hs : m < 10
      . rw [Lib.nDigits_small hs] at hm; omega
      . rw [Lib.nDigits_big hs] at hm; by_cases hk : k = 0
        . subst hk; simp; omega
        . have := ih (m / 10) (by omega) (by omega); rw [Nat.pow_succ]; omega
   have := h1 19 n (by omega) (by omega); omega
theorem sep_snoc : ∀ (ns : List Nat) (n : Nat), TX.sep (ns ++ [n]) = TX.sep ns ++ ((if ns = [] then [] else [32]) ++ Lib.decDigits n)
 | [], n => by simp [TX.sep]
 | [a], n => by simp [TX.sep]
 | a :: b :: r, n => by
   have ih := sep_snoc (b :: r) n; show Lib.decDigits a ++ 32 :: TX.sep (b :: (r ++ [n])) = (Lib.decDigits a ++ 32 :: TX.sep (b :: r)) ++ _; have ih' : TX.sep (b :: (r ++ [n])) = TX.sep (b :: r) ++ ([32] ++ Lib.decDigits n) := by simpa using ih
   rw [ih']; simp
theorem sep_take {ns : List Nat} {j : Nat} (hj : j < ns.length) : TX.sep (ns.take (j + 1)) = TX.sep (ns.take j) ++ ((if j = 0 then [] else [32]) ++ Lib.decDigits ns[j]) := by
 rw [List.take_add_one, List.getElem?_eq_getElem hj]; show TX.sep (ns.take j ++ [ns[j]]) = _; rw [sep_snoc]; by_cases h0 : j = 0
 . subst h0; simp
 . have : ns.take j ≠ [] := by
    intro e; have h2 : (ns.take j).length = 0 := by rw [e]; rfl
    rw [List.length_take] at h2; omega
   rw [if_neg this, if_neg h0]
theorem sep_len (ns : List Nat) (h : ∀ x ∈ ns, x <= 9223372036854775807) : ∀ j, j <= ns.length -> (TX.sep (ns.take j)).length <= 20 * j
 | 0, _ => by simp [TX.sep]
 | j + 1, hj => by
   have ih := sep_len ns h j (by omega); have h19 := dec_len19 (h ns[j] (List.getElem_mem _)); have e : (if j = 0 then ([] : List UInt8) else [32]).length <= 1 := by split <;> simp
   rw [sep_take (by omega), List.length_append, List.length_append]; omega
theorem isB_below {B b : Nat} {bs : List Value} {w w' : World} (h : IsB B b bs w) (hb : Below w.heap.size w w') : IsB B b bs w' := isB_only h (Only.of_below (S := fun _ => False) hb) (fun _ _ e => e)
theorem others_below {e : TypeId} {b : Option Nat} {w w' : World} (h : Below w.heap.size w w') : Lib.OthersKept e b w w' := fun k o hk _ _ => by
 have hlt : k < w.heap.size := by
  rcases Nat.lt_or_ge k w.heap.size with h1 | h1
  . exact h1
  . rw [Array.getElem?_eq_none h1] at hk; cases hk
 rw [h.block k hlt]; exact hk
theorem byte_app (a : List UInt8) (c : UInt8) : Lib.byteCells a ++ [Value.int .u8 (c.toNat : Int)] = Lib.byteCells (a ++ [c]) := by
 unfold Lib.byteCells; rw [List.map_append]; rfl
theorem wline_any (B b g : Nat) (ns : List Nat) (l : List UInt8) (cs : Array Value) (fz : Nat × Nat) (w : World) (hT : Lib.TabBelow Tryz.prog B w "internal/strconv.uint64pow10" .u64 Lib.pow10Tab) (hI : IsB B b (Lib.byteCells l) w) (hB : B <= w.heap.size) (hl : l.length + 20 * ns.length + 1 <= 90000000)
 (hmax : ∀ x ∈ ns, x <= 9223372036854775807) (hg : w.heap[g]? = some (.cells cs 3 fz)) (hgb : g ≠ b) (hcs : ∀ j (h : j < ns.length), cs[j]? = some (.int .i64 (ns[j] : Int))) :
 Calls Tryz.prog 19 #[.pointer (some ⟨b, 0, none⟩), .slice (some ⟨g, 0, none⟩) ns.length ns.length] w fun e w' =>
  e = .returned (.tuple #[]) ∧ UsedB B b (Lib.byteCells (l ++ TX.lineT ns)) w' ∧ Below B w w' ∧ Lib.OthersKept 5 (some b) w w' := by
 have HI := zx hI; have HT := zx hT; have HG := zx hg; have HC := zx hcs; have HM := zx hmax; have hlen4 : ns.length <= 4500000 := by omega
 clear hI hT hg hcs hmax; go_enter Tryz.func19, Tryz.ntmps19; go_wp2; go_loopw [8] (fun s8 wr => ∃ j : Nat, s8 = .int .i64 j ∧ j <= ns.length ∧ IsB B b (Lib.byteCells (l ++ TX.sep (ns.take j))) wr ∧ Below B w wr ∧ Lib.OthersKept 5 (some b) w wr) (fun s8 _ => ns.length - (intOf s8).toNat)
 case atStart => exact ⟨0, rfl, Nat.zero_le _, by simpa [TX.sep] using HI.out, Below.refl _ _, Lib.OthersKept.refl _ _ _⟩
 case round =>
  obtain ⟨j, rfl, hj, hi, hb, ho⟩ := hrel; obtain ⟨wo, rfl⟩ : ∃ x, x = wr := ⟨_, rfl⟩
  have IW := zx hi; have BO := zx hb; have OO := zx ho; have hBo : B <= wo.heap.size := Nat.le_trans hB hb.size; have hsl := sep_len ns HM.out j hj; clear hi hb ho; by_cases hlt : j < ns.length
  . have hltI : (j : Int) < (ns.length : Int) := by omega
    have hgo : wo.heap[g]? = some (.cells cs 3 fz) := OO.out g _ HG.out (fun e => hgb (Option.some.inj e)) (fun c f e => by cases e); obtain ⟨x, hx⟩ : ∃ x, x = ns[j] := ⟨_, rfl⟩
    have gc : wo.cell? ⟨g, j, none⟩ = some (.int .i64 x) := by rw [Lib.cell_of_heap hgo, HC.out j hlt, hx]
    have hx9 : x <= 9223372036854775807 := by rw [hx]; exact HM.out _ (List.getElem_mem _)
    have HX := zx hx; have HGO := zx hgo; have IT : Hid (∀ u, Below B w u -> Calls Tryz.prog 45 #[.int .i64 x] u fun e w' => ∃ F : ByteArray, e = .returned (.string F) ∧ F.data.toList = Lib.decDigits x ∧ F.size <= 19 ∧ Below u.heap.size u w') := fun u hu => by
     refine (Any.strconv_Itoa Tryz.laysM171 (x : Int) (by omega) (by omega) u (HT.out u hu)).mono ?_; rintro e w' ⟨rfl, k, os, rfl⟩; have e1 : (⟨(Lib.itoa (x : Int)).toArray⟩ : ByteArray).data.toList = Lib.decDigits x := by
      show (Lib.itoa (x : Int)).toArray.toList = _; rw [Lib.itoa_nonneg]
     refine ⟨_, rfl, e1, ?_, Lib.below_grow _ u zl k os⟩; rw [Lib.size_eq, e1]; exact dec_len19 hx9
    clear hx hgo; by_cases hj0 : j = 0
    . have e0 : decide ((0 : Int) < ((j : Nat) : Int)) = false := by simp; omega
      have e0n : ¬ 0 < j := by omega
      have hst : TX.sep (ns.take (j + 1)) = TX.sep (ns.take j) ++ Lib.decDigits x := by rw [sep_take hlt, if_pos hj0, HX.out]; rfl
      have ST := zx hst; have HJ := zx hj0; clear hst hj0; go_wp2_with fail; refine (IT.out wo BO.out).mono ?_; rintro e w3 ⟨F, rfl, hF, hF9, hb3⟩; have HF := zx hF; have I3 : Hid (IsB B b (Lib.byteCells (l ++ TX.sep (ns.take j))) w3) := isB_below IW.out hb3; have B3 : Hid (Below B w w3) := (BO.out).trans (hb3.mono hBo); have O3 : Hid (Lib.OthersKept 5 (some b) w w3) := (OO.out).trans (others_below hb3); have hz3 : B <= w3.heap.size := Nat.le_trans hBo hb3.size; clear hF hb3; go_wp2_with fail
      refine (wstring_any B b _ F w3 I3.out (by rw [Lib.byteCells_length]; simp only [List.length_append]; omega) hz3).mono ?_; rintro e w5 ⟨rfl, hi5, hb5, hk5⟩; rw [bytes_app, HF.out] at hi5; have I5 : Hid (IsB B b (Lib.byteCells (l ++ TX.sep (ns.take (j + 1)))) w5) := by
       unfold Hid; rw [ST.out]; refine .inr ?_; simpa [List.append_assoc] using hi5
      have B5 := zx (B3.out.trans hb5); have O5 : Hid (Lib.OthersKept 5 (some b) w w5) := O3.out.trans hk5; clear hi5 hb5 hk5; go_wp2; go_round
      case rel => exact ⟨j + 1, by go_num, by omega, I5.out, B5.out, O5.out⟩
      case measure => simp [intOf]; omega
    . have e0 : decide ((0 : Int) < ((j : Nat) : Int)) = true := by simp; omega
      have hst : TX.sep (ns.take (j + 1)) = TX.sep (ns.take j) ++ ([32] ++ Lib.decDigits x) := by rw [sep_take hlt, if_neg hj0, HX.out]
      have ST := zx hst; clear hst; go_wp2_with fail; refine (wbyte_any B b _ 32 wo IW.out (by rw [Lib.byteCells_length]; simp only [List.length_append]; omega) hBo).mono ?_; rintro e w2 ⟨rfl, hi2, hb2, hk2⟩; rw [show (Value.int .u8 32) = Value.int .u8 (((32 : UInt8).toNat : Nat) : Int) from rfl, byte_app] at hi2; have I2 : Hid (IsB B b (Lib.byteCells (l ++ TX.sep (ns.take j) ++ [32])) w2) := .inr hi2; have B2 := zx (BO.out.trans hb2); have O2 : Hid (Lib.OthersKept 5 (some b) w w2) := OO.out.trans hk2; have hz2 : B <= w2.heap.size := Nat.le_trans hBo hb2.size; clear hi2 hb2 hk2
      go_wp2_with fail; refine (IT.out w2 B2.out).mono ?_; rintro e w3 ⟨F, rfl, hF, hF9, hb3⟩; have HF := zx hF; have I3 : Hid (IsB B b (Lib.byteCells (l ++ TX.sep (ns.take j) ++ [32])) w3) := isB_below I2.out hb3; have B3 : Hid (Below B w w3) := (B2.out).trans (hb3.mono hz2); have O3 : Hid (Lib.OthersKept 5 (some b) w w3) := (O2.out).trans (others_below hb3); have hz3 : B <= w3.heap.size := Nat.le_trans hz2 hb3.size; clear hF hb3; go_wp2_with fail
      refine (wstring_any B b _ F w3 I3.out (by rw [Lib.byteCells_length]; simp only [List.length_append, List.length_cons, List.length_nil]; omega) hz3).mono ?_; rintro e w5 ⟨rfl, hi5, hb5, hk5⟩; rw [bytes_app, HF.out] at hi5; have I5 : Hid (IsB B b (Lib.byteCells (l ++ TX.sep (ns.take (j + 1)))) w5) := by
       unfold Hid; rw [ST.out]; refine .inr ?_; simpa [List.append_assoc] using hi5
      have B5 := zx (B3.out.trans hb5); have O5 : Hid (Lib.OthersKept 5 (some b) w w5) := O3.out.trans hk5; clear hi5 hb5 hk5; go_wp2; go_round
      case rel => exact ⟨j + 1, by go_num, by omega, I5.out, B5.out, O5.out⟩
      case measure => simp [intOf]; omega
  . have hge : ¬ (j : Int) < (ns.length : Int) := by omega
    have hjn : j = ns.length := by omega
    have HJ := zx hjn; clear hjn; go_wp2_with fail; refine (wbyte_any B b _ 10 wo IW.out (by rw [Lib.byteCells_length]; simp only [List.length_append]; omega) hBo).mono ?_; rintro e w2 ⟨rfl, hi2, hb2, hk2⟩; rw [show (Value.int .u8 10) = Value.int .u8 (((10 : UInt8).toNat : Nat) : Int) from rfl, byte_app] at hi2; have I2 : Hid (UsedB B b (Lib.byteCells (l ++ TX.lineT ns)) w2) := by
     unfold Hid TX.lineT; rw [HJ.out, List.take_length] at hi2; simpa [List.append_assoc] using hi2
    have B2 := zx (BO.out.trans hb2); have O2 : Hid (Lib.OthersKept 5 (some b) w w2) := OO.out.trans hk2; clear hi2 hb2 hk2; go_wp2; go_end0
    exact ⟨rfl, I2.out, B2.out, O2.out⟩
end
section
open Go.RowKit Go.Shelf Go.Deep M
theorem wrap_nat {n : Nat} (h : n <= 1000) : IntKind.i64.wrap ((n : Nat) : Int) = ((n : Nat) : Int) := by rw [IntKind.wrap_i64]; omega
structure Wr (w u : World) (Y : Array Value) (l : List UInt8) : Prop where
 i : IsB (w.heap.size + 1) (w.heap.size + 1) (Lib.byteCells l) u
 y : Box u w.heap.size Y
 b : Below w.heap.size w u
 z : w.heap.size + 1 + 1 <= u.heap.size
theorem Wr.step {w u u' : World} {Y : Array Value} {l l' : List UInt8} (h : Wr w u Y l) (hi : UsedB (w.heap.size + 1) (w.heap.size + 1) (Lib.byteCells l') u') (hb : Below (w.heap.size + 1) u u') : Wr w u' Y l' :=
 ⟨.inr hi, h.y.belowB hb (Nat.lt_succ_self _), h.b.trans (hb.mono (Nat.le_succ _)), Nat.le_trans h.z hb.size⟩
theorem Wr.below {w u u' : World} {Y : Array Value} {l : List UInt8} (h : Wr w u Y l) (hb : Below u.heap.size u u') : Wr w u' Y l :=
 ⟨isB_below h.i hb, h.y.only (Only.of_below (S := fun _ => False) hb) (fun e => e), h.b.trans (hb.mono (by have := h.z; omega)), Nat.le_trans h.z hb.size⟩
end
section
open Go.RowKit M
end
section
open Go.RowKit M
end
section
open Go.RowKit M
theorem M.firstOf_is {p : Nat -> Bool} : ∀ n, firstOf p n < n -> p (firstOf p n) = true
 | 0, h => by omega
 | n + 1, h => by
   simp only [firstOf] at h ⊢; by_cases h1 : firstOf p n < n
   . rw [if_pos h1]; exact firstOf_is n h1
   . rw [if_neg h1] at h ⊢; by_cases h2 : p n = true
     . rw [if_pos h2]; exact h2
     . rw [if_neg h2] at h; omega
theorem M.firstOf_none {p : Nat -> Bool} {n : Nat} (h : ¬ firstOf p n < n) : ∀ j, j < n -> p j = false := by
 induction n with
 | zero => intro j hj; omega
 | succ n ih =>
   simp only [firstOf] at h; by_cases h1 : firstOf p n < n
   . rw [if_pos h1] at h; omega
   . rw [if_neg h1] at h; by_cases h2 : p n = true
     . rw [if_pos h2] at h; omega
     . intro j hj; by_cases e : j = n
       . subst e; simpa using h2
       . exact ih h1 j (by omega)
theorem carts_free {ro co bu : Int} {cs : ByteArray} {m : Nat} {fr tt : Nat -> Int} (h : (checkM ro co cs m fr tt bu).1 = 0) : m <= 4 ∧ ∀ k, k < m -> freeB cs (fr k) = true ∧ freeB cs (tt k) = true := by
 unfold checkM at h; by_cases h1 : (sideB ro && sideB co) = false
 . rw [if_pos h1] at h; simp at h
 . rw [if_neg h1] at h; by_cases h2 : 0 <= cellsM ro co cs
   . rw [if_pos h2] at h; simp at h
   . rw [if_neg h2] at h; by_cases h3 : m < 1 ∨ 4 < m
     . rw [if_pos h3] at h; simp at h
     . rw [if_neg h3] at h; refine ⟨by omega, ?_⟩; by_cases h4 : firstOf (fun i => !(cartM cs fr tt i == 0)) m < m
       . rw [if_pos h4] at h; have := M.firstOf_is (p := fun i => !(cartM cs fr tt i == 0)) m h4; simp only [] at h this; rw [h] at this; cases this
       . intro k hk; have := M.firstOf_none h4 k hk; have h5 : cartM cs fr tt k = 0 := by simpa using this
         unfold cartM at h5; by_cases h6 : (freeB cs (fr k) && freeB cs (tt k)) = true
         . simpa using h6
         . rw [if_neg h6] at h5; omega
end
section
open Go.RowKit Go.Shelf Go.Deep M
theorem chk_bu {ro co bu : Int} {cs : ByteArray} {m : Nat} {fr tt : Nat -> Int} (h : (checkM ro co cs m fr tt bu).1 = 0) : (1 <= bu ∧ bu <= 20000 ∧ 1 <= m) ∧ ¬ 0 <= cellsM ro co cs := by
 unfold checkM at h; by_cases h1 : (sideB ro && sideB co) = false
 . rw [if_pos h1] at h; simp at h
 . rw [if_neg h1] at h; by_cases h2 : 0 <= cellsM ro co cs
   . rw [if_pos h2] at h; simp at h
   . rw [if_neg h2] at h; refine ⟨?_, h2⟩; by_cases h3 : m < 1 ∨ 4 < m
     . rw [if_pos h3] at h; simp at h
     . rw [if_neg h3] at h; by_cases h4 : firstOf (fun i => !(cartM cs fr tt i == 0)) m < m
       . rw [if_pos h4] at h; have := M.firstOf_is (p := fun i => !(cartM cs fr tt i == 0)) m h4; simp only [] at h this; rw [h] at this; cases this
       . rw [if_neg h4] at h; by_cases h5 : bu < 1 ∨ 20000 < bu
         . rw [if_pos h5] at h; simp at h
         . omega
theorem chk_cells {ro co : Int} {cs : ByteArray} (h : ¬ 0 <= cellsM ro co cs) : ∀ b ∈ cs.data.toList, TX.isCell b = true := by
 unfold cellsM at h; by_cases h1 : (cs.size : Int) ≠ ro * co
 . rw [if_pos h1] at h; omega
 . rw [if_neg h1] at h; by_cases h2 : firstOf (badB cs) cs.size < cs.size
   . rw [if_pos h2] at h; omega
   . intro b hb; obtain ⟨j, hj, rfl⟩ := List.getElem_of_mem hb; have hjs : j < cs.size := by rw [Array.length_toList] at hj; exact hj
     have h3 := M.firstOf_none h2 j hjs; rw [badB_in hjs] at h3; have e : cs.data.toList[j] = cs[j] := rfl; rw [e, <- isCell_iff]; cases hq : ((((cs[j]).toNat : Nat) : Int) == 46 || (((cs[j]).toNat : Nat) : Int) == 35) with
     | true => rfl
     | false => rw [hq] at h3; cases h3
structure GoodY (R C U m : Nat) (cs : ByteArray) (fr tt : Nat -> Int) : Prop where
 r1 : 1 <= R
 r2 : R <= 6
 c1 : 1 <= C
 c2 : C <= 6
 sz : cs.size = R * C
 m1 : 1 <= m
 m2 : m <= 4
 u1 : 1 <= U
 u2 : U <= 20000
 inn : ∀ i, i < m -> 0 <= fr i ∧ fr i < ((R * C : Nat) : Int) ∧ 0 <= tt i ∧ tt i < ((R * C : Nat) : Int)
 cell : ∀ b ∈ cs.data.toList, TX.isCell b = true
theorem chk_form {R C U m : Nat} {cs : ByteArray} {fr tt : Nat -> Int} (h : (checkM (R : Int) (C : Int) cs m fr tt (U : Int)).1 = 0) : GoodY R C U m cs fr tt := by
 obtain ⟨hs1, hs2, hsz⟩ := checkM_good h; obtain ⟨⟨hb1, hb2, hm1⟩, hcel⟩ := chk_bu h; obtain ⟨hm4, hfree⟩ := carts_free h; unfold sideB at hs1 hs2; simp only [Bool.and_eq_true, decide_eq_true_eq] at hs1 hs2; have hsz2 : cs.size = R * C := by
  have : ((cs.size : Nat) : Int) = ((R * C : Nat) : Int) := by rw [hsz]; simp
  exact Int.ofNat.inj this
 refine ⟨by omega, by omega, by omega, by omega, hsz2, hm1, hm4, by omega, by omega, fun i hi => ?_, chk_cells hcel⟩; obtain ⟨h1, h2⟩ := hfree i hi; have key : ∀ z : Int, freeB cs z = true -> 0 <= z ∧ z < ((R * C : Nat) : Int) := by
  intro z hz; by_cases hq : 0 <= z ∧ z < cs.size
  . rw [hsz2] at hq; exact hq
  . rw [freeB_out hq] at hz; cases hz
 exact ⟨(key _ h1).1, (key _ h1).2, (key _ h2).1, (key _ h2).2⟩
end
section
open Go.RowKit Go.Shelf Go.Deep M
def letB (C a b : Nat) : UInt8 := if b / C < a / C then 117 else if a / C < b / C then 100 else if b % C < a % C then 108 else if a % C < b % C then 114 else 119
theorem letter_any (R C U a b : Nat) (cs : ByteArray) (sv : Value) (w : World) (hC : 1 <= C) (ha : a <= 900) (hb : b <= 900) :
 Calls Tryz.prog 24 #[.agg #[.int .i64 R, .int .i64 C, .string cs, sv, .int .i64 U], .int .i64 a, .int .i64 b] w fun e w' => e = .returned (.int .u8 ((letB C a b).toNat : Int)) ∧ Below w.heap.size w w' := by
 obtain ⟨a1, h1⟩ : ∃ x, x = a / C := ⟨_, rfl⟩
 obtain ⟨a2, h2⟩ : ∃ x, x = a % C := ⟨_, rfl⟩
 obtain ⟨b1, h3⟩ : ∃ x, x = b / C := ⟨_, rfl⟩
 obtain ⟨b2, h4⟩ : ∃ x, x = b % C := ⟨_, rfl⟩
 have l1 : a1 <= 900 := by rw [h1]; exact Nat.le_trans (Nat.div_le_self a C) ha
 have l2 : a2 <= 900 := by rw [h2]; exact Nat.le_trans (Nat.mod_le a C) ha
 have l3 : b1 <= 900 := by rw [h3]; exact Nat.le_trans (Nat.div_le_self b C) hb
 have l4 : b2 <= 900 := by rw [h4]; exact Nat.le_trans (Nat.mod_le b C) hb
 have q1 : IntKind.i64.wrap ((a : Int) / (C : Int)) = (a1 : Int) := by rw [show (a : Int) / (C : Int) = (a1 : Int) by rw [h1]; simp]; exact wrap_nat (by omega)
 have q3 : IntKind.i64.wrap ((b : Int) / (C : Int)) = (b1 : Int) := by rw [show (b : Int) / (C : Int) = (b1 : Int) by rw [h3]; simp]; exact wrap_nat (by omega)
 have q2 : (a : Int).tmod (C : Int) = (a2 : Int) := by rw [h2]; exact Int.ofNat_tmod a C |>.symm
 have q4 : (b : Int).tmod (C : Int) = (b2 : Int) := by rw [h4]; exact Int.ofNat_tmod b C |>.symm
 have hL : Hid (letB C a b = if b1 < a1 then 117 else if a1 < b1 then 100 else if b2 < a2 then 108 else if a2 < b2 then 114 else 119) := by unfold Hid letB; rw [h1, h2, h3, h4]
 have hC0 : ¬ (C : Int) = 0 := by omega
 have hC0n : ¬ C = 0 := by omega
 have B1 : Hid (Below w.heap.size w (w.alloc (.cells #[.int .i64 R, .int .i64 C, .string cs, sv, .int .i64 U] 34))) := (Below.refl _ w).alloc zl _; clear h1 h2 h3 h4 ha hb; go_enter Tryz.func24, Tryz.ntmps24; go_wp2; have YB : Box (w.alloc (.cells #[.int .i64 R, .int .i64 C, .string cs, sv, .int .i64 U] 34)) w.heap.size #[.int .i64 R, .int .i64 C, .string cs, sv, .int .i64 U] := box_new _ _; generalize (w.alloc (.cells #[.int .i64 R, .int .i64 C, .string cs, sv, .int .i64 U] 34)) = w1 at *; have y1 : w1.cell? ⟨w.heap.size, 1, none⟩ = some (.int .i64 C) := YB.c 1; clear YB
 go_quiet (fail); have BF : Hid (Below w.heap.size w (w1.drewN nq)) := ⟨B1.out.os, B1.out.tape, B1.out.output, B1.out.size, B1.out.block⟩
 have f1 : decide ((b1 : Int) - (a1 : Int) < 0) = decide (b1 < a1) := by rw [decide_eq_decide]; omega
 have f2 : decide ((0 : Int) < (b1 : Int) - (a1 : Int)) = decide (a1 < b1) := by rw [decide_eq_decide]; omega
 have f3 : decide ((b2 : Int) - (a2 : Int) < 0) = decide (b2 < a2) := by rw [decide_eq_decide]; omega
 have f4 : decide ((0 : Int) < (b2 : Int) - (a2 : Int)) = decide (a2 < b2) := by rw [decide_eq_decide]; omega
 obtain ⟨dr, hdr⟩ : ∃ x, x = (b1 : Int) - (a1 : Int) := ⟨_, rfl⟩
 obtain ⟨dc, hdc⟩ : ∃ x, x = (b2 : Int) - (a2 : Int) := ⟨_, rfl⟩
 rw [<- hdr] at f1 f2; rw [<- hdc] at f3 f4; simp only [<- hdr, <- hdc]; have HDR := zx hdr; have HDC := zx hdc; clear hdr hdc q1 q2 q3 q4 y1; by_cases g1 : b1 < a1
 . rw [decide_eq_true g1] at f1; have G1 := zx g1; clear g1 f2 f3 f4; go_wp2; go_ret; exact ⟨by rw [hL.out, if_pos G1.out]; rfl, BF.out⟩
 . rw [decide_eq_false g1] at f1; by_cases g2 : a1 < b1
   . rw [decide_eq_true g2] at f2; have G1 := zx g1; have G2 := zx g2; clear g1 g2 f3 f4; go_wp2; go_ret; exact ⟨by rw [hL.out, if_neg G1.out, if_pos G2.out]; rfl, BF.out⟩
   . rw [decide_eq_false g2] at f2; by_cases g3 : b2 < a2
     . rw [decide_eq_true g3] at f3; have G1 := zx g1; have G2 := zx g2; have G3 := zx g3; clear g1 g2 g3 f4; go_wp2; go_ret; exact ⟨by rw [hL.out, if_neg G1.out, if_neg G2.out, if_pos G3.out]; rfl, BF.out⟩
     . rw [decide_eq_false g3] at f3; by_cases g4 : a2 < b2
       . rw [decide_eq_true g4] at f4; have G1 := zx g1; have G2 := zx g2; have G3 := zx g3; have G4 := zx g4; clear g1 g2 g3 g4; go_wp2; go_ret; exact ⟨by rw [hL.out, if_neg G1.out, if_neg G2.out, if_neg G3.out, if_pos G4.out]; rfl, BF.out⟩
       . rw [decide_eq_false g4] at f4; have G1 := zx g1; have G2 := zx g2; have G3 := zx g3; have G4 := zx g4; clear g1 g2 g3 g4; go_wp2; go_ret; exact ⟨by rw [hL.out, if_neg G1.out, if_neg G2.out, if_neg G3.out, if_neg G4.out]; rfl, BF.out⟩
end
section
open Go.RowKit Go.Shelf Go.Deep M
def stepI (C a : Nat) (c : UInt8) : Int :=
 if c = 117 then (a : Int) - (C : Int) else if c = 100 then (a : Int) + (C : Int) else if c = 108 then (if 0 < a % C then (a : Int) - 1 else -1) else if c = 114 then (if a % C < C - 1 then (a : Int) + 1 else -1) else if c = 119 then (a : Int) else -1
theorem step_letter {C a b : Nat} (hC : 1 <= C) (hC6 : C <= 6) (h : nearM (C : Int) (a : Int) (b : Int) = true) : stepI C a (letB C a b) = (b : Int) := by
 have hn := near_iff.1 h; have e : C = 1 ∨ C = 2 ∨ C = 3 ∨ C = 4 ∨ C = 5 ∨ C = 6 := by omega
 clear h; unfold letB; by_cases g1 : b / C < a / C
 . rw [if_pos g1]; show (a : Int) - (C : Int) = _; rcases e with rfl | rfl | rfl | rfl | rfl | rfl <;> omega
 . rw [if_neg g1]; by_cases g2 : a / C < b / C
   . rw [if_pos g2]; show (a : Int) + (C : Int) = _; rcases e with rfl | rfl | rfl | rfl | rfl | rfl <;> omega
   . rw [if_neg g2]; by_cases g3 : b % C < a % C
     . rw [if_pos g3]; show (if 0 < a % C then (a : Int) - 1 else -1) = _; rw [if_pos (by omega)]; rcases e with rfl | rfl | rfl | rfl | rfl | rfl <;> omega
     . rw [if_neg g3]; by_cases g4 : a % C < b % C
       . rw [if_pos g4]; show (if a % C < C - 1 then (a : Int) + 1 else -1) = _; have hb : b % C < C := Nat.mod_lt _ hC; rw [if_pos (by omega)]; rcases e with rfl | rfl | rfl | rfl | rfl | rfl <;> omega
       . rw [if_neg g4]; show (a : Int) = _; rcases e with rfl | rfl | rfl | rfl | rfl | rfl <;> omega
end
section
open Go.RowKit Go.Shelf Go.Deep M
theorem step_any (C a : Nat) (ro cs ca bu : Value) (c : UInt8) (w : World) (hC : 1 <= C) (hC6 : C <= 6) (ha : a <= 900) (hc : c = 117 ∨ c = 100 ∨ c = 108 ∨ c = 114 ∨ c = 119) :
 Calls Tryz.prog 36 #[.agg #[ro, .int .i64 C, cs, ca, bu], .int .i64 a, .int .u8 ((c.toNat : Nat) : Int)] w fun e w' => e = .returned (.int .i64 (stepI C a c)) ∧ Below w.heap.size w w' := by
 have B1 : Hid (∀ o, Below w.heap.size w (w.alloc o)) := zx fun o => (Below.refl _ w).alloc zl o
 obtain ⟨a2, h2⟩ : ∃ x, x = a % C := ⟨_, rfl⟩
 have hm : (a : Int).tmod (C : Int) = (a2 : Int) := by rw [h2]; exact Int.ofNat_tmod a C |>.symm
 have ha2 : a2 <= 900 := by rw [h2]; exact Nat.le_trans (Nat.mod_le a C) ha
 have hC0 : ((C : Int) == 0) = false := by simp; omega
 have hC3 : ¬ (C : Int) = 0 := by omega
 have H2 := zx h2; clear h2; rcases hc with rfl | rfl | rfl | rfl | rfl
 . have e : (((117 : UInt8).toNat : Nat) : Int) = 117 := rfl; rw [e]; clear e; go_enter Tryz.func36, Tryz.ntmps36; go_wp2; go_ret; exact ⟨rfl, B1.out _⟩
 . have e : (((100 : UInt8).toNat : Nat) : Int) = 100 := rfl; rw [e]; clear e; go_enter Tryz.func36, Tryz.ntmps36; go_wp2; go_ret; exact ⟨rfl, B1.out _⟩
 . have e : (((108 : UInt8).toNat : Nat) : Int) = 108 := rfl; rw [e]; clear e; have hs : stepI C a 108 = if 0 < a2 then (a : Int) - 1 else -1 := by rw [H2.out]; rfl
   rw [hs]; clear hs; by_cases h : 0 < a2
   . rw [if_pos h]; have e1 : decide ((0 : Int) < (a2 : Int)) = true := by simp; omega
     go_enter Tryz.func36, Tryz.ntmps36; go_wp2; go_ret; exact ⟨rfl, B1.out _⟩
   . rw [if_neg h]; have e1 : decide ((0 : Int) < (a2 : Int)) = false := by simp; omega
     go_enter Tryz.func36, Tryz.ntmps36; go_wp2; go_ret; exact ⟨rfl, B1.out _⟩
 . have e : (((114 : UInt8).toNat : Nat) : Int) = 114 := rfl; rw [e]; clear e; have hs : stepI C a 114 = if a2 < C - 1 then (a : Int) + 1 else -1 := by rw [H2.out]; rfl
   rw [hs]; clear hs; by_cases h : a2 < C - 1
   . rw [if_pos h]; have e1 : decide ((a2 : Int) < (C : Int) - 1) = true := by simp; omega
     have e2 : (a2 : Int) < (C : Int) - 1 := by omega
     go_enter Tryz.func36, Tryz.ntmps36; go_wp2; go_quiet (fail); go_wp2; go_ret; exact ⟨rfl, below_drewN (B1.out _) _⟩
   . rw [if_neg h]; have e1 : decide ((a2 : Int) < (C : Int) - 1) = false := by simp; omega
     have e2 : ¬ (a2 : Int) < (C : Int) - 1 := by omega
     go_enter Tryz.func36, Tryz.ntmps36; go_wp2; go_quiet (fail); go_wp2; go_ret; exact ⟨rfl, below_drewN (B1.out _) _⟩
 . have e : (((119 : UInt8).toNat : Nat) : Int) = 119 := rfl; rw [e]; clear e; go_enter Tryz.func36, Tryz.ntmps36; go_wp2; go_ret; exact ⟨rfl, B1.out _⟩
theorem let_five (C a b : Nat) : letB C a b = 117 ∨ letB C a b = 100 ∨ letB C a b = 108 ∨ letB C a b = 114 ∨ letB C a b = 119 := by
 unfold letB; split
 . exact .inl rfl
 . split
   . exact .inr (.inl rfl)
   . split
     . exact .inr (.inr (.inl rfl))
     . split
       . exact .inr (.inr (.inr (.inl rfl)))
       . exact .inr (.inr (.inr (.inr rfl)))
end
end Go.Proofs.YtnkgpinadgacgaaGreatDoor
