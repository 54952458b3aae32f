/- Ba. -/
import Derived.Test.YtnkgpinadgacgaaGreatDoorRows
import Derived.WalkKit
import Derived.WalkSpells
import Derived.WalkLawsBesides
import Derived.Deep.QuietTactic
import Derived.BigQuiet
import Derived.WalkSmall
set_option maxRecDepth 1000000
set_option maxHeartbeats 400000
namespace Go.Proofs.YtnkgpinadgacgaaGreatDoor
section
open Go.RowKit
theorem zl {n : Nat} : n <= n := Nat.le_refl n
theorem zj {w w' : World} {p : Addr} {v : Value} (h : Below w.heap.size w w') (k : w.cell? p = some v) : w'.cell? p = some v := cell_later h k
theorem zg {α : Type} {l : List α} {d : α} {i : Nat} : l.getD i d = l[i]?.getD d := List.getD_eq_getElem?_getD
theorem zA {α : Type} {l : List α} {i : Nat} : l.toArray[i]? = l[i]? := List.getElem?_toArray
theorem zB {α : Type} {a : α} {l : List α} : (a :: l)[0]? = some a := List.getElem?_cons_zero
theorem zC {α : Type} {a : α} {l : List α} {i : Nat} : (a :: l)[i + 1]? = l[i]? := List.getElem?_cons_succ
end
namespace M
def firstOf (p : Nat -> Bool) : Nat -> Nat
 | 0 => 0
 | n + 1 => if firstOf p n < n then firstOf p n else if p n then n else n + 1
theorem firstOf_miss {p : Nat -> Bool} {n : Nat} (h : ∀ j, j < n -> p j = false) : firstOf p n = n := by
 induction n with
 | zero => rfl
 | succ n ih =>
   have := ih (fun j hj => h j (by omega)); simp only [firstOf, this, h n (by omega)]; simp
theorem firstOf_hit {p : Nat -> Bool} {k : Nat} (hk : p k = true) (h : ∀ j, j < k -> p j = false) : ∀ n, k < n -> firstOf p n = k
 | n + 1, hn => by
   by_cases e : k = n
   . subst e; simp only [firstOf, firstOf_miss h, hk]; simp
   . have := firstOf_hit hk h n (by omega); simp only [firstOf, this]; rw [if_pos (by omega)]
def freeB (cs : ByteArray) (c : Int) : Bool := if h : 0 <= c ∧ c < cs.size then ((cs[c.toNat]'(by omega)).toNat : Int) == 46 else false
theorem freeB_in {cs : ByteArray} {c : Int} (h0 : 0 <= c) (h1 : c < cs.size) : freeB cs c = (((cs[c.toNat]'(by omega)).toNat : Int) == 46) := by
 unfold freeB; rw [dif_pos ⟨h0, h1⟩]
theorem freeB_out {cs : ByteArray} {c : Int} (h : ¬ (0 <= c ∧ c < cs.size)) : freeB cs c = false := by
 unfold freeB; rw [dif_neg h]
def badB (cs : ByteArray) (j : Nat) : Bool := if h : j < cs.size then !((((cs[j]).toNat : Int) == 46) || (((cs[j]).toNat : Int) == 35)) else false
theorem badB_in {cs : ByteArray} {j : Nat} (h : j < cs.size) : badB cs j = !((((cs[j]).toNat : Int) == 46) || (((cs[j]).toNat : Int) == 35)) := by
 unfold badB; rw [dif_pos h]
def cellsM (ro co : Int) (cs : ByteArray) : Int :=
 if (cs.size : Int) ≠ ro * co then cs.size else if firstOf (badB cs) cs.size < cs.size then firstOf (badB cs) cs.size else -1
def twiceB (fr tt : Nat -> Int) (i : Nat) (j : Nat) : Bool := fr j == fr i || tt j == tt i
def cartM (cs : ByteArray) (fr tt : Nat -> Int) (i : Nat) : Int :=
 if freeB cs (fr i) && freeB cs (tt i) then (if firstOf (twiceB fr tt i) i < i then 5 else 0) else 4
def sideB (n : Int) : Bool := decide (1 <= n) && decide (n <= 6)
def checkM (ro co : Int) (cs : ByteArray) (n : Nat) (fr tt : Nat -> Int) (bu : Int) : Int × Int :=
 if (sideB ro && sideB co) = false then (1, 0)
 else if 0 <= cellsM ro co cs then (2, cellsM ro co cs)
 else if n < 1 ∨ 4 < n then (3, 0)
 else if firstOf (fun i => !(cartM cs fr tt i == 0)) n < n then (cartM cs fr tt (firstOf (fun i => !(cartM cs fr tt i == 0)) n), firstOf (fun i => !(cartM cs fr tt i == 0)) n)
 else if bu < 1 ∨ 20000 < bu then (6, 0) else (0, 0)
end M
section
open Go.RowKit M
theorem within_any (n a b : Int) (w : World) :
 Calls Tryz.prog 41 #[.int .i64 n, .int .i64 a, .int .i64 b] w fun e w' => e = .returned (.bool (decide (a <= n) && decide (n <= b))) ∧ w' = w := by
 go_enter Tryz.func41, Tryz.ntmps41; by_cases h1 : a <= n
 . by_cases h2 : n <= b
   . go_wp2; go_ret; exact ⟨by simp <;> omega, rfl⟩
   . go_wp2; go_ret; exact ⟨by simp <;> omega, rfl⟩
 . go_wp2; go_ret; exact ⟨by simp <;> omega, rfl⟩
theorem within_side (n : Int) (w : World) :
 Calls Tryz.prog 41 #[.int .i64 n, .int .i64 1, .int .i64 6] w fun e w' => e = .returned (.bool (sideB n)) ∧ w' = w := within_any n 1 6 w
theorem isSide_any (n : Int) (w : World) :
 Calls Tryz.prog 55 #[.int .i64 n] w fun e w' => e = .returned (.bool (sideB n)) ∧ w' = w := by
 go_enter Tryz.func55, Tryz.ntmps55; by_cases h1 : 1 <= n
 . by_cases h2 : n <= 6
   . go_wp2; go_ret; exact ⟨by simp [sideB] <;> omega, rfl⟩
   . go_wp2; go_ret; exact ⟨by simp [sideB] <;> omega, rfl⟩
 . go_wp2; go_ret; exact ⟨by simp [sideB] <;> omega, rfl⟩
theorem ret_bool {a b : Bool} (h : a = b) : Ending.returned (.bool a) = .returned (.bool b) := by rw [h]
theorem ret_int {k : IntKind} {a b : Int} (h : a = b) : Ending.returned (.int k a) = .returned (.int k b) := by rw [h]
theorem rfree_any (ro co bu c : Int) (cs : ByteArray) (ca : Value) (w : World) (_hs : cs.size <= maxLen) :
 Calls Tryz.prog 61 #[.agg #[.int .i64 ro, .int .i64 co, .string cs, ca, .int .i64 bu], .int .i64 c] w fun e w' => e = .returned (.bool (freeB cs c)) ∧ Below w.heap.size w w' := by
 go_enter Tryz.func61, Tryz.ntmps61; by_cases h1 : 0 <= c
 . by_cases h2 : c < cs.size
   . go_wp2; go_ret; exact ⟨ret_bool (freeB_in h1 h2).symm, (Below.refl _ _).alloc zl _⟩
   . go_wp2; go_ret; exact ⟨ret_bool (freeB_out (by omega)).symm, (Below.refl _ _).alloc zl _⟩
 . go_wp2; go_ret; exact ⟨ret_bool (freeB_out (by omega)).symm, (Below.refl _ _).alloc zl _⟩
theorem gfree_any (ro co bu c : Int) (cs : ByteArray) (ca : Value) (w : World) (hs : cs.size <= maxLen) :
 Calls Tryz.prog 71 #[.agg #[.int .i64 ro, .int .i64 co, .string cs, ca, .int .i64 bu], .int .i64 c] w fun e w' => e = .returned (.bool (freeB cs c)) ∧ Below w.heap.size w w' := by
 unfold maxLen at hs; go_enter Tryz.func71, Tryz.ntmps71; by_cases h1 : 0 <= c
 . by_cases h2 : c < cs.size
   . go_wp2; go_ret; exact ⟨ret_bool (freeB_in h1 h2).symm, (Below.refl _ _).alloc zl _⟩
   . go_wp2; go_ret; exact ⟨ret_bool (freeB_out (by omega)).symm, (Below.refl _ _).alloc zl _⟩
 . go_wp2; go_ret; exact ⟨ret_bool (freeB_out (by omega)).symm, (Below.refl _ _).alloc zl _⟩
end
section
open Go.RowKit M
theorem mul_bd {a b : Int} (h1 : 1 <= a) (h2 : a <= 6) (h3 : 1 <= b) (h4 : b <= 6) : 1 <= a * b ∧ a * b <= 36 := by
 have e : a = 1 ∨ a = 2 ∨ a = 3 ∨ a = 4 ∨ a = 5 ∨ a = 6 := by omega
 rcases e with e | e | e | e | e | e <;> subst e <;> omega
theorem zx {p : Prop} (h : p) : Hid p := h
theorem cellsM_size {ro co : Int} {cs : ByteArray} (h : ¬ (cs.size : Int) = ro * co) : cellsM ro co cs = cs.size := by
 unfold cellsM; rw [if_pos h]
theorem cellsM_none {ro co : Int} {cs : ByteArray} (h : (cs.size : Int) = ro * co) (hg : ∀ j, j < cs.size -> badB cs j = false) : -1 = cellsM ro co cs := by
 unfold cellsM; rw [if_neg (by omega), firstOf_miss hg, if_neg (by omega)]
theorem cellsM_hit {ro co : Int} {cs : ByteArray} {k : Nat} (h : (cs.size : Int) = ro * co) (hk : k < cs.size) (hb : badB cs k = true) (hg : ∀ j, j < k -> badB cs j = false) : (k : Int) = cellsM ro co cs := by
 unfold cellsM; rw [if_neg (by omega), firstOf_hit hb hg _ hk, if_pos hk]
theorem bad_step {cs : ByteArray} {k : Nat} (hb : badB cs k = false) (hg : ∀ j, j < k -> badB cs j = false) : ∀ j, j < k + 1 -> badB cs j = false := by
 intro j hj; by_cases e : j = k
 . subst e; exact hb
 . exact hg j (by omega)
theorem cells_any (ro co bu : Int) (cs : ByteArray) (ca : Value) (w : World) (hs : cs.size <= maxLen) (h1 : 1 <= ro) (h2 : ro <= 6) (h3 : 1 <= co) (h4 : co <= 6) :
 Calls Tryz.prog 56 #[.agg #[.int .i64 ro, .int .i64 co, .string cs, ca, .int .i64 bu]] w fun e w' => e = .returned (.int .i64 (cellsM ro co cs)) ∧ Below w.heap.size w w' := by
 obtain ⟨hp1, hp2⟩ := mul_bd h1 h2 h3 h4; unfold maxLen at hs; go_enter Tryz.func56, Tryz.ntmps56; by_cases hsz : (cs.size : Int) = ro * co
 . have hb : ((cs.size : Int) != ro * co) = false := by simp [hsz]
   have H : Hid ((cs.size : Int) = ro * co) := hsz; clear hsz; go_wp2; go_loop [3] (fun i => ∃ k : Nat, k <= cs.size ∧ i = .int .i64 k ∧ ∀ j, j < k -> badB cs j = false) (fun i => cs.size - (intOf i).toNat)
   case atStart => exact ⟨0, Nat.zero_le _, rfl, fun j hj => absurd hj (Nat.not_lt_zero j)⟩
   case round =>
    obtain ⟨k, hk, rfl, hg0⟩ := hrel; have hg := zx hg0; clear hg0; by_cases hlt : k < cs.size
    . by_cases hb1 : badB cs k = true
      . have H1 := zx hb1; rw [badB_in hlt] at hb1; have e1 : (((cs[k]).toNat : Int) != 46) = true := by simp at hb1; simp; omega
        have e2 : (((cs[k]).toNat : Int) != 35) = true := by simp at hb1; simp; omega
        clear hb1; go_wp2; go_ret; exact ⟨ret_int (cellsM_hit H.out hlt H1.out hg.out), (Below.refl _ _).alloc zl _⟩
      . have H1 := zx (Bool.eq_false_iff.2 hb1); rw [badB_in hlt] at hb1; by_cases h46 : ((cs[k]).toNat : Int) = 46
        . have e1 : (((cs[k]).toNat : Int) != 46) = false := by simp [h46]
          clear hb1 h46; go_wp2; go_round
          case rel => exact ⟨k + 1, by omega, by go_num, bad_step H1.out hg.out⟩
          case measure => simp [intOf]; omega
        . have e1 : (((cs[k]).toNat : Int) != 46) = true := by simp; omega
          have e2 : (((cs[k]).toNat : Int) != 35) = false := by simp at hb1; simp; omega
          clear hb1 h46; go_wp2; go_round
          case rel => exact ⟨k + 1, by omega, by go_num, bad_step H1.out hg.out⟩
          case measure => simp [intOf]; omega
    . go_wp2; go_ret
      exact ⟨ret_int (cellsM_none H.out (by have : k = cs.size := by omega
                                            subst this; exact hg.out)), (Below.refl _ _).alloc zl _⟩
 . have hb : ((cs.size : Int) != ro * co) = true := by simp [hsz]
   go_wp2; go_ret; exact ⟨ret_int (cellsM_size hsz).symm, (Below.refl _ _).alloc zl _⟩
theorem ret_ib {a b : Int} {c d : Bool} (h : a = b) (h' : c = d) : Ending.returned (.tuple #[.int .i64 a, .bool c]) = .returned (.tuple #[.int .i64 b, .bool d]) := by rw [h, h']
def badM (ro co : Int) (cs : ByteArray) : Int := if 0 <= cellsM ro co cs then cellsM ro co cs else 0
theorem badM_size {ro co : Int} {cs : ByteArray} (h : ¬ (cs.size : Int) = ro * co) : (cs.size : Int) = badM ro co cs ∧ true = decide (0 <= cellsM ro co cs) := by
 unfold badM; rw [cellsM_size h, if_pos (by omega)]; simp
theorem badM_none {ro co : Int} {cs : ByteArray} (h : (cs.size : Int) = ro * co) (hg : ∀ j, j < cs.size -> badB cs j = false) : (0 : Int) = badM ro co cs ∧ false = decide (0 <= cellsM ro co cs) := by
 unfold badM; rw [<- cellsM_none h hg]; simp
theorem badM_hit {ro co : Int} {cs : ByteArray} {k : Nat} (h : (cs.size : Int) = ro * co) (hk : k < cs.size) (hb : badB cs k = true) (hg : ∀ j, j < k -> badB cs j = false) : (k : Int) = badM ro co cs ∧ true = decide (0 <= cellsM ro co cs) := by
 unfold badM; rw [<- cellsM_hit h hk hb hg, if_pos (by omega)]; simp
theorem isCell_any (x : Int) (w : World) :
 Calls Tryz.prog 70 #[.int .u8 x] w fun e w' => e = .returned (.bool ((x == 46) || (x == 35))) ∧ w' = w := by
 go_enter Tryz.func70, Tryz.ntmps70; by_cases h1 : (x == 46) = true
 . have H1 := zx h1; go_wp2; go_ret; exact ⟨ret_bool (by rw [H1.out]; rfl), rfl⟩
 . have h1 : (x == 46) = false := by simpa using h1
   have H1 := zx h1; go_wp2; go_ret; exact ⟨ret_bool (by rw [H1.out]; rfl), rfl⟩
theorem badCell_any (ro co bu : Int) (cs : ByteArray) (ca : Value) (w : World) (hs : cs.size <= maxLen) (h1 : 1 <= ro) (h2 : ro <= 6) (h3 : 1 <= co) (h4 : co <= 6) :
 Calls Tryz.prog 42 #[.agg #[.int .i64 ro, .int .i64 co, .string cs, ca, .int .i64 bu]] w fun e w' => e = .returned (.tuple #[.int .i64 (badM ro co cs), .bool (decide (0 <= cellsM ro co cs))]) ∧ Below w.heap.size w w' := by
 obtain ⟨hp1, hp2⟩ := mul_bd h1 h2 h3 h4; unfold maxLen at hs; go_enter Tryz.func42, Tryz.ntmps42; by_cases hsz : (cs.size : Int) = ro * co
 . have hb : ((cs.size : Int) != ro * co) = false := by simp [hsz]
   have H : Hid ((cs.size : Int) = ro * co) := hsz; clear hsz; go_wp2; go_loop [20] (fun i => ∃ k : Nat, k <= cs.size ∧ i = .int .i64 k ∧ ∀ j, j < k -> badB cs j = false) (fun i => cs.size - (intOf i).toNat)
   case atStart => exact ⟨0, Nat.zero_le _, rfl, fun j hj => absurd hj (Nat.not_lt_zero j)⟩
   case round =>
    obtain ⟨k, hk, rfl, hg0⟩ := hrel; have hg := zx hg0; clear hg0; by_cases hlt : k < cs.size
    . by_cases hb1 : badB cs k = true
      . have H1 := zx hb1; rw [badB_in hlt] at hb1; have e1 : ((((cs[k]).toNat : Int) == 46) || (((cs[k]).toNat : Int) == 35)) = false := by simpa using hb1
        clear hb1; go_wp2_with fail; refine (isCell_any _ _).mono ?_; rintro e w2 ⟨rfl, hw2⟩; have hw2 := hw2.symm; subst hw2; rw [e1]; go_wp2; go_ret2; exact ⟨ret_ib (badM_hit H.out hlt H1.out hg.out).1 (badM_hit H.out hlt H1.out hg.out).2, (Below.refl _ _).alloc zl _⟩
      . have H1 := zx (Bool.eq_false_iff.2 hb1); rw [badB_in hlt] at hb1; have e1 : ((((cs[k]).toNat : Int) == 46) || (((cs[k]).toNat : Int) == 35)) = true := by
         cases hh : ((((cs[k]).toNat : Int) == 46) || (((cs[k]).toNat : Int) == 35)) with
         | true => rfl
         | false => rw [hh] at hb1; simp at hb1
        clear hb1; go_wp2_with fail; refine (isCell_any _ _).mono ?_; rintro e w2 ⟨rfl, hw2⟩; have hw2 := hw2.symm; subst hw2; rw [e1]; go_wp2; go_round
        case rel => exact ⟨k + 1, by omega, by go_num, bad_step H1.out hg.out⟩
        case measure => simp [intOf]; omega
    . have hd : k = cs.size := by omega
      go_wp2; go_ret2; subst hd; exact ⟨ret_ib (badM_none H.out hg.out).1 (badM_none H.out hg.out).2, (Below.refl _ _).alloc zl _⟩
 . have hb : ((cs.size : Int) != ro * co) = true := by simp [hsz]
   go_wp2; go_ret2; exact ⟨ret_ib (badM_size hsz).1 (badM_size hsz).2, (Below.refl _ _).alloc zl _⟩
end
section
open Go.RowKit M
theorem bcell {W w1 : World} (hb : Below W.heap.size W w1) : (∀ b o, b < W.heap.size -> w1.cell? ⟨b, o, none⟩ = W.cell? ⟨b, o, none⟩) ∧ (∀ b o, b < W.heap.size -> w1.frozen? ⟨b, o, none⟩ = W.frozen? ⟨b, o, none⟩) :=
 ⟨fun b o h => hb.cell (p := ⟨b, o, none⟩) h, fun b o h => hb.frozen (p := ⟨b, o, none⟩) h⟩
def CartsIn (w : World) (b off n : Nat) (fr tt : Nat -> Int) : Prop :=
 ∀ i, i < n -> w.cell? ⟨b, off + i * 2, none⟩ = some (.int .i64 (fr i)) ∧ w.cell? ⟨b, off + i * 2 + 1, none⟩ = some (.int .i64 (tt i))
theorem CartsIn.below {w w' : World} {b off n : Nat} {fr tt : Nat -> Int} (h : CartsIn w b off n fr tt) (hb : Below w.heap.size w w') : CartsIn w' b off n fr tt :=
 fun i hi => ⟨zj hb (h i hi).1, zj hb (h i hi).2⟩
theorem cartM_place {cs : ByteArray} {fr tt : Nat -> Int} {i : Nat} (h : freeB cs (fr i) = false ∨ freeB cs (tt i) = false) : cartM cs fr tt i = 4 := by
 unfold cartM; rcases h with h | h <;> simp [h]
theorem cartM_twice {cs : ByteArray} {fr tt : Nat -> Int} {i k : Nat} (h1 : freeB cs (fr i) = true) (h2 : freeB cs (tt i) = true) (hk : k < i) (ht : twiceB fr tt i k = true) (hg : ∀ j, j < k -> twiceB fr tt i j = false) : cartM cs fr tt i = 5 := by
 unfold cartM; rw [firstOf_hit ht hg _ hk]; simp [h1, h2, hk]
theorem cartM_ok {cs : ByteArray} {fr tt : Nat -> Int} {i : Nat} (h1 : freeB cs (fr i) = true) (h2 : freeB cs (tt i) = true) (hg : ∀ j, j < i -> twiceB fr tt i j = false) : cartM cs fr tt i = 0 := by
 unfold cartM; rw [firstOf_miss hg]; simp [h1, h2]
theorem twice_step {fr tt : Nat -> Int} {i k : Nat} (hb : twiceB fr tt i k = false) (hg : ∀ j, j < k -> twiceB fr tt i j = false) : ∀ j, j < k + 1 -> twiceB fr tt i j = false := by
 intro j hj; by_cases e : j = k
 . subst e; exact hb
 . exact hg j (by omega)
theorem cart_any (ro co bu : Int) (cs : ByteArray) (b off n cap i : Nat) (fr tt : Nat -> Int) (w : World) (hs : cs.size <= maxLen) (hn : n <= maxLen) (hi : i < n) (hc : CartsIn w b off n fr tt) :
 Calls Tryz.prog 57 #[.agg #[.int .i64 ro, .int .i64 co, .string cs, .slice (some ⟨b, off, none⟩) n cap, .int .i64 bu], .int .i64 i] w fun e w' => e = .returned (.int .i64 (cartM cs fr tt i)) ∧ Below w.heap.size w w' := by
 have hci1 := (hc i hi).1; have hci2 := (hc i hi).2; have hbl : b < w.heap.size := World.block_lt_of_cell? _ _ hci1; have Hc := zx hc; clear hc; unfold maxLen at hn; go_enter Tryz.func57, Tryz.ntmps57; go_wp2_with fail; refine (rfree_any _ _ _ _ _ _ _ hs).mono ?_; rintro e w1 ⟨rfl, hb1⟩; obtain ⟨hc1, hf1⟩ := bcell hb1; have hz1 : w.heap.size + 2 <= w1.heap.size := by have := hb1.size; simp at this; omega
 go_wp2_with fail; refine (rfree_any _ _ _ _ _ _ _ hs).mono ?_; rintro e w2 ⟨rfl, hb2⟩; obtain ⟨hc2, hf2⟩ := bcell hb2; have hz2 : w1.heap.size <= w2.heap.size := hb2.size; by_cases e1 : freeB cs (fr i) = true
 . by_cases e2 : freeB cs (tt i) = true
   . have hB : Below w.heap.size w w2 := (((((Below.refl _ _).alloc zl _).alloc (by simp) _).trans (hb1.mono (by simp; omega))).trans (hb2.mono (by omega)))
     have hB := zx hB; have E1 := zx e1; have E2 := zx e2; have y3 : w2.cell? ⟨w.heap.size, 3, none⟩ = some (.slice (some ⟨b, off, none⟩) n cap) := by
      rw [hc2 _ _ (by omega), hc1 _ _ (by simp <;> omega)]; go_simp
     have c0 : w2.cell? ⟨w.heap.size + 1, 0, none⟩ = some (.int .i64 (fr i)) := by
      rw [hc2 _ _ (by omega), hc1 _ _ (by simp <;> omega)]; go_simp
     have c1 : w2.cell? ⟨w.heap.size + 1, 1, none⟩ = some (.int .i64 (tt i)) := by
      rw [hc2 _ _ (by omega), hc1 _ _ (by simp <;> omega)]; go_simp
     have Hc2 := zx (Hc.out.below (by exact hB.out)); go_wp2; clear hb1 hb2 e1 e2 hc1 hc2 hf1 hf2 hci1 hci2; go_loopw [8] (fun s wr => ∃ k : Nat, k <= i ∧ s = .int .i64 k ∧ (∀ j, j < k -> twiceB fr tt i j = false) ∧ Below w2.heap.size w2 wr) (fun s _ => i - (intOf s).toNat)
     case atStart => exact ⟨0, Nat.zero_le _, rfl, fun j hj => absurd hj (Nat.not_lt_zero j), Below.refl _ _⟩
     case round =>
      obtain ⟨k, hk, rfl, hg0, hbr⟩ := hrel; have hg := zx hg0; clear hg0; have z3 := zj hbr y3; have d0 := zj hbr c0; have d1 := zj hbr c1; clear y3 c0 c1; by_cases hlt : k < i
      . have hk1 := zj hbr (Hc2.out k (by omega)).1; have hk2 := zj hbr (Hc2.out k (by omega)).2; by_cases q1 : (fr k == fr i) = true
        . go_wp2; go_quiet (fail); go_wp2; go_ret; exact ⟨ret_int (cartM_twice E1.out E2.out hlt (by unfold twiceB; simp [q1]) hg.out).symm, hB.out.trans ((below_drewN hbr _).mono hB.out.size)⟩
        . have q1' : (fr k == fr i) = false := by simpa using q1
          go_wp2; go_quiet (fail); by_cases q2 : (tt k == tt i) = true
          . go_wp2; go_ret; exact ⟨ret_int (cartM_twice E1.out E2.out hlt (by unfold twiceB; simp [q2]) hg.out).symm, hB.out.trans ((below_drewN hbr _).mono hB.out.size)⟩
          . have q2' : (tt k == tt i) = false := by simpa using q2
            go_wp2; go_roundw; case rel => exact ⟨k + 1, by omega, by go_num, twice_step (by unfold twiceB; rw [q1', q2']; rfl) hg.out, below_drewN hbr _⟩
            case measure => simp [intOf]; omega
      . have hd : k = i := by omega
        go_wp2; go_ret; subst hd; exact ⟨ret_int (cartM_ok E1.out E2.out hg.out).symm, hB.out.trans (hbr.mono hB.out.size)⟩
   . have e2' : freeB cs (tt i) = false := by simpa using e2
     go_wp2; go_ret; exact ⟨ret_int (cartM_place (Or.inr e2')).symm, (((((Below.refl _ _).alloc zl _).alloc (by simp) _).trans (hb1.mono (by simp; omega))).trans (hb2.mono (by omega)))⟩
 . have e1' : freeB cs (fr i) = false := by simpa using e1
   go_wp2; go_ret; exact ⟨ret_int (cartM_place (Or.inl e1')).symm, (((((Below.refl _ _).alloc zl _).alloc (by simp) _).trans (hb1.mono (by simp; omega))).trans (hb2.mono (by omega)))⟩
theorem checkCart_any (ro co bu : Int) (cs : ByteArray) (b off n cap i : Nat) (fr tt : Nat -> Int) (w : World) (hs : cs.size <= maxLen) (hn : n <= maxLen) (hcap : n <= cap) (hi : i < n) (hc : CartsIn w b off n fr tt) :
 Calls Tryz.prog 43 #[.agg #[.int .i64 ro, .int .i64 co, .string cs, .slice (some ⟨b, off, none⟩) n cap, .int .i64 bu], .int .i64 i] w fun e w' => e = .returned (.int .i64 (cartM cs fr tt i)) ∧ Below w.heap.size w w' := by
 have hci1 := (hc i hi).1; have hci2 := (hc i hi).2; have hbl : b < w.heap.size := World.block_lt_of_cell? _ _ hci1; have Hc := zx hc; clear hc; unfold maxLen at hn; go_enter Tryz.func43, Tryz.ntmps43; go_wp2_with fail; refine (gfree_any _ _ _ _ _ _ _ hs).mono ?_; rintro e w1 ⟨rfl, hb1⟩; obtain ⟨hc1, hf1⟩ := bcell hb1; have hz1 : w.heap.size + 2 <= w1.heap.size := by have := hb1.size; simp at this; omega
 by_cases e1 : freeB cs (fr i) = true
 . go_wp2_with fail; refine (gfree_any _ _ _ _ _ _ _ hs).mono ?_; rintro e w2 ⟨rfl, hb2⟩; obtain ⟨hc2, hf2⟩ := bcell hb2; have hz2 : w1.heap.size <= w2.heap.size := hb2.size; by_cases e2 : freeB cs (tt i) = true
   . have hB : Below w.heap.size w w2 := (((((Below.refl _ _).alloc zl _).alloc (by simp) _).trans (hb1.mono (by simp; omega))).trans (hb2.mono (by omega)))
     have hB := zx hB; have E1 := zx e1; have E2 := zx e2; have y3 : w2.cell? ⟨w.heap.size, 3, none⟩ = some (.slice (some ⟨b, off, none⟩) n cap) := by
      rw [hc2 _ _ (by omega), hc1 _ _ (by simp <;> omega)]; go_simp
     have c0 : w2.cell? ⟨w.heap.size + 1, 0, none⟩ = some (.int .i64 (fr i)) := by
      rw [hc2 _ _ (by omega), hc1 _ _ (by simp <;> omega)]; go_simp
     have c1 : w2.cell? ⟨w.heap.size + 1, 1, none⟩ = some (.int .i64 (tt i)) := by
      rw [hc2 _ _ (by omega), hc1 _ _ (by simp <;> omega)]; go_simp
     have Hc2 := zx (Hc.out.below (by exact hB.out)); go_wp2; clear hb1 hb2 e1 e2 hc1 hc2 hf1 hf2 hci1 hci2; go_loopw [30] (fun s wr => ∃ k : Nat, k <= i ∧ s = .int .i64 k ∧ (∀ j, j < k -> twiceB fr tt i j = false) ∧ Below w2.heap.size w2 wr) (fun s _ => i - (intOf s).toNat)
     case atStart => exact ⟨0, Nat.zero_le _, rfl, fun j hj => absurd hj (Nat.not_lt_zero j), Below.refl _ _⟩
     case round =>
      obtain ⟨k, hk, rfl, hg0, hbr⟩ := hrel; have hg := zx hg0; clear hg0; have z3 := zj hbr y3; have d0 := zj hbr c0; have d1 := zj hbr c1; have hzr1 : w.heap.size + 1 < wr.heap.size := by have := hbr.size; omega
      have hzr0 : w.heap.size < wr.heap.size := by omega
      have hbl2 : b < wr.heap.size := by omega
      clear y3 c0 c1; by_cases hlt : k < i
      . have hk1 := zj hbr (Hc2.out k (by omega)).1; have hk2 := zj hbr (Hc2.out k (by omega)).2; by_cases q1 : (fr k == fr i) = true
        . go_wp2; go_ret; exact ⟨ret_int (cartM_twice E1.out E2.out hlt (by unfold twiceB; simp [q1]) hg.out).symm, hB.out.trans ((hbr.alloc hbr.size _).mono hB.out.size)⟩
        . have q1' : (fr k == fr i) = false := by simpa using q1
          by_cases q2 : (tt k == tt i) = true
          . go_wp2; go_ret; exact ⟨ret_int (cartM_twice E1.out E2.out hlt (by unfold twiceB; simp [q2]) hg.out).symm, hB.out.trans ((hbr.alloc hbr.size _).mono hB.out.size)⟩
          . have q2' : (tt k == tt i) = false := by simpa using q2
            go_wp2; go_roundw; case rel => exact ⟨k + 1, by omega, by go_num, twice_step (by unfold twiceB; rw [q1', q2']; rfl) hg.out, hbr.alloc hbr.size _⟩
            case measure => simp [intOf]; omega
      . have hd : k = i := by omega
        go_wp2; go_ret; subst hd; exact ⟨ret_int (cartM_ok E1.out E2.out hg.out).symm, hB.out.trans (hbr.mono hB.out.size)⟩
   . have e2' : freeB cs (tt i) = false := by simpa using e2
     go_wp2; go_ret; exact ⟨ret_int (cartM_place (Or.inr e2')).symm, (((((Below.refl _ _).alloc zl _).alloc (by simp) _).trans (hb1.mono (by simp; omega))).trans (hb2.mono (by omega)))⟩
 . have e1' : freeB cs (fr i) = false := by simpa using e1
   go_wp2; go_ret; exact ⟨ret_int (cartM_place (Or.inl e1')).symm, (((Below.refl _ _).alloc zl _).alloc (by simp) _).trans (hb1.mono (by simp; omega))⟩
end
section
open Go.RowKit M
theorem checkM_side {ro co bu : Int} {cs : ByteArray} {n : Nat} {fr tt : Nat -> Int} (h : sideB ro = false ∨ sideB co = false) : (1, 0) = checkM ro co cs n fr tt bu := by
 unfold checkM; rw [if_pos (by rcases h with h | h <;> simp [h])]
theorem checkM_cells {ro co bu : Int} {cs : ByteArray} {n : Nat} {fr tt : Nat -> Int} (h1 : sideB ro = true) (h2 : sideB co = true) (h : 0 <= cellsM ro co cs) : (2, cellsM ro co cs) = checkM ro co cs n fr tt bu := by
 unfold checkM; rw [if_neg (by simp [h1, h2]), if_pos h]
theorem checkM_carts {ro co bu : Int} {cs : ByteArray} {n : Nat} {fr tt : Nat -> Int} (h1 : sideB ro = true) (h2 : sideB co = true) (h : ¬ 0 <= cellsM ro co cs) (hn : n < 1 ∨ 4 < n) : (3, 0) = checkM ro co cs n fr tt bu := by
 unfold checkM; rw [if_neg (by simp [h1, h2]), if_neg h, if_pos hn]
theorem checkM_cart {ro co bu : Int} {cs : ByteArray} {n k : Nat} {fr tt : Nat -> Int} (h1 : sideB ro = true) (h2 : sideB co = true) (h : ¬ 0 <= cellsM ro co cs) (hn : ¬ n < 1) (hn' : ¬ 4 < n)
 (hk : k < n) (he : ¬ cartM cs fr tt k = 0) (hg : ∀ j, j < k -> cartM cs fr tt j = 0) : (cartM cs fr tt k, (k : Int)) = checkM ro co cs n fr tt bu := by
 have hf : firstOf (fun i => !(cartM cs fr tt i == 0)) n = k := firstOf_hit (by simpa using he) (fun j hj => by simp [hg j hj]) n hk; unfold checkM; rw [if_neg (by simp [h1, h2]), if_neg h, if_neg (by omega), hf, if_pos hk]
theorem checkM_rest {ro co bu : Int} {cs : ByteArray} {n : Nat} {fr tt : Nat -> Int} (h1 : sideB ro = true) (h2 : sideB co = true) (h : ¬ 0 <= cellsM ro co cs) (hn : ¬ n < 1) (hn' : ¬ 4 < n)
 (hg : ∀ j, j < n -> cartM cs fr tt j = 0) : checkM ro co cs n fr tt bu = if bu < 1 ∨ 20000 < bu then ((6, 0) : Int × Int) else (0, 0) := by
 have hf : firstOf (fun i => !(cartM cs fr tt i == 0)) n = n := firstOf_miss (fun j hj => by simp [hg j hj]); unfold checkM; rw [if_neg (by simp [h1, h2]), if_neg h, if_neg (by omega), hf, if_neg (by omega)]
theorem checkM_budget {ro co bu : Int} {cs : ByteArray} {n : Nat} {fr tt : Nat -> Int} (h1 : sideB ro = true) (h2 : sideB co = true) (h : ¬ 0 <= cellsM ro co cs) (hn : ¬ n < 1) (hn' : ¬ 4 < n)
 (hg : ∀ j, j < n -> cartM cs fr tt j = 0) (hb : bu < 1 ∨ 20000 < bu) : ((6, 0) : Int × Int) = checkM ro co cs n fr tt bu := by
 rw [checkM_rest h1 h2 h hn hn' hg, if_pos hb]
theorem checkM_ok {ro co bu : Int} {cs : ByteArray} {n : Nat} {fr tt : Nat -> Int} (h1 : sideB ro = true) (h2 : sideB co = true) (h : ¬ 0 <= cellsM ro co cs) (hn : ¬ n < 1) (hn' : ¬ 4 < n)
 (hg : ∀ j, j < n -> cartM cs fr tt j = 0) (hb : ¬ (bu < 1 ∨ 20000 < bu)) : ((0, 0) : Int × Int) = checkM ro co cs n fr tt bu := by
 rw [checkM_rest h1 h2 h hn hn' hg, if_neg hb]
theorem ret_pair {k : IntKind} {a c : Int} {p : Int × Int} (h : (a, c) = p) : Ending.returned (.tuple #[.int k a, .int k c]) = .returned (.tuple #[.int k p.1, .int k p.2]) := by rw [<- h]
theorem side_bd {n : Int} (h : sideB n = true) : 1 <= n ∧ n <= 6 := by unfold sideB at h; simpa using h
theorem step_all {p : Nat -> Prop} {k : Nat} (hb : p k) (hg : ∀ j, j < k -> p j) : ∀ j, j < k + 1 -> p j := by
 intro j hj; by_cases e : j = k
 . subst e; exact hb
 . exact hg j (by omega)
theorem rcheck_any (ro co bu : Int) (cs : ByteArray) (a : Option Addr) (n cap : Nat) (fr tt : Nat -> Int) (w : World) (hs : cs.size <= maxLen) (hn : n <= maxLen)
 (ha : 0 < n -> ∃ b off, a = some ⟨b, off, none⟩ ∧ CartsIn w b off n fr tt) :
 Calls Tryz.prog 30 #[.agg #[.int .i64 ro, .int .i64 co, .string cs, .slice a n cap, .int .i64 bu]] w fun e w' =>
  e = .returned (.tuple #[.int .i64 (checkM ro co cs n fr tt bu).1, .int .i64 (checkM ro co cs n fr tt bu).2]) ∧ Below w.heap.size w w' := by
 go_enter Tryz.func30, Tryz.ntmps30; go_wp2_with fail; refine (isSide_any _ _).mono ?_; rintro e w1 ⟨rfl, rfl⟩; go_wp2_with fail; refine (isSide_any _ _).mono ?_; rintro e w1 ⟨rfl, rfl⟩; by_cases s1 : sideB ro = true
 . by_cases s2 : sideB co = true
   . obtain ⟨r1, r2⟩ := side_bd s1; obtain ⟨r3, r4⟩ := side_bd s2; go_wp2_with fail; refine (cells_any _ _ _ _ _ _ hs r1 r2 r3 r4).mono ?_; rintro e w1 ⟨rfl, hb1⟩; have S1 := zx s1; have S2 := zx s2; have hB : Below w.heap.size w w1 := ((Below.refl _ _).alloc zl _).trans (hb1.mono (by simp)); obtain ⟨hc1, hf1⟩ := bcell hb1; have y0 : w1.cell? ⟨w.heap.size, 0, none⟩ = some (.int .i64 ro) := by rw [hc1 _ _ (by simp)]; go_simp
     have y1 : w1.cell? ⟨w.heap.size, 1, none⟩ = some (.int .i64 co) := by rw [hc1 _ _ (by simp)]; go_simp
     have y2 : w1.cell? ⟨w.heap.size, 2, none⟩ = some (.string cs) := by rw [hc1 _ _ (by simp)]; go_simp
     have y3 : w1.cell? ⟨w.heap.size, 3, none⟩ = some (.slice a n cap) := by rw [hc1 _ _ (by simp)]; go_simp
     have y4 : w1.cell? ⟨w.heap.size, 4, none⟩ = some (.int .i64 bu) := by rw [hc1 _ _ (by simp)]; go_simp
     have HB := zx hB; clear hc1 hf1 hb1 hB r1 r2 r3 r4; by_cases hce : 0 <= cellsM ro co cs
     . go_wp2; go_ret2; exact ⟨ret_pair (checkM_cells S1.out S2.out hce), HB.out⟩
     . by_cases hn1 : n < 1
       . go_wp2; go_ret2; exact ⟨ret_pair (checkM_carts S1.out S2.out (by omega) (Or.inl (by omega))), HB.out⟩
       . by_cases hn4 : 4 < n
         . unfold maxLen at hn; go_wp2; go_ret2; exact ⟨ret_pair (checkM_carts S1.out S2.out (by omega) (Or.inr (by omega))), HB.out⟩
         . obtain ⟨b, off, rfl, hcs⟩ := ha (by omega); have hcs1 := zx (hcs.below HB.out); go_wp2; clear hcs; go_loopw [7] (fun s wr => ∃ k : Nat, k <= n ∧ s = .int .i64 k ∧ (∀ j, j < k -> cartM cs fr tt j = 0) ∧ Below w1.heap.size w1 wr) (fun s _ => n - (intOf s).toNat)
           case atStart => exact ⟨0, Nat.zero_le _, rfl, fun j hj => absurd hj (Nat.not_lt_zero j), Below.refl _ _⟩
           case round =>
            obtain ⟨k, hk, rfl, hg0, hbr⟩ := hrel; have hg := zx hg0; clear hg0; have z0 := zj hbr y0; have z1 := zj hbr y1; have z2 := zj hbr y2; have z3 := zj hbr y3; have z4 := zj hbr y4; clear y0 y1 y2 y3 y4; by_cases hlt : k < n
            . go_wp2_with fail; refine (cart_any _ _ _ _ _ _ _ _ _ fr tt _ hs hn hlt (hcs1.out.below hbr)).mono ?_; rintro e w2 ⟨rfl, hb2⟩; by_cases he : cartM cs fr tt k = 0
              . have he' : (cartM cs fr tt k != 0) = false := by simp [he]
                have He := zx he; clear he; go_wp2; go_roundw; case rel => exact ⟨k + 1, by omega, by go_num, step_all He.out hg.out, hbr.trans (hb2.mono hbr.size)⟩
                case measure => simp [intOf]; omega
              . have he' : (cartM cs fr tt k != 0) = true := by simp [he]
                go_wp2; go_ret2; exact ⟨ret_pair (checkM_cart S1.out S2.out (by omega) (by omega) (by omega) hlt he hg.out), HB.out.trans ((hbr.trans (hb2.mono hbr.size)).mono HB.out.size)⟩
            . have hd : k = n := by omega
              by_cases hbu : bu < 1
              . go_wp2; go_ret2; subst hd; exact ⟨ret_pair (checkM_budget S1.out S2.out (by omega) (by omega) (by omega) hg.out (Or.inl (by omega))), HB.out.trans (hbr.mono HB.out.size)⟩
              . by_cases hbu2 : 20000 < bu
                . go_wp2; go_ret2; subst hd; exact ⟨ret_pair (checkM_budget S1.out S2.out (by omega) (by omega) (by omega) hg.out (Or.inr (by omega))), HB.out.trans (hbr.mono HB.out.size)⟩
                . go_wp2; go_ret2; subst hd; exact ⟨ret_pair (checkM_ok S1.out S2.out (by omega) (by omega) (by omega) hg.out (by omega)), HB.out.trans (hbr.mono HB.out.size)⟩
   . have s2' : sideB co = false := by simpa using s2
     go_wp2; go_ret2; exact ⟨ret_pair (checkM_side (Or.inr s2')), (Below.refl _ _).alloc zl _⟩
 . have s1' : sideB ro = false := by simpa using s1
   go_wp2; go_ret2; exact ⟨ret_pair (checkM_side (Or.inl s1')), (Below.refl _ _).alloc zl _⟩
def rngB (n a b : Int) : Bool := decide (a <= n) && decide (n <= b)
theorem rng_in {n a b : Int} (h1 : a <= n) (h2 : n <= b) : rngB n a b = true := by unfold rngB; simp [h1, h2]
theorem rng_out {n a b : Int} (h : ¬ (a <= n ∧ n <= b)) : rngB n a b = false := by unfold rngB; simp; omega
theorem within_rng (n a b : Int) (w : World) :
 Calls Tryz.prog 41 #[.int .i64 n, .int .i64 a, .int .i64 b] w fun e w' => e = .returned (.bool (rngB n a b)) ∧ w' = w := within_any n a b w
theorem gcheck_any (ro co bu : Int) (cs : ByteArray) (a : Option Addr) (n cap : Nat) (fr tt : Nat -> Int) (w : World) (hs : cs.size <= maxLen) (hn : n <= maxLen) (hcap : n <= cap)
 (ha : 0 < n -> ∃ b off, a = some ⟨b, off, none⟩ ∧ CartsIn w b off n fr tt) :
 Calls Tryz.prog 17 #[.agg #[.int .i64 ro, .int .i64 co, .string cs, .slice a n cap, .int .i64 bu]] w fun e w' =>
  e = .returned (.tuple #[.int .i64 (checkM ro co cs n fr tt bu).1, .int .i64 (checkM ro co cs n fr tt bu).2]) ∧ Below w.heap.size w w' := by
 go_enter Tryz.func17, Tryz.ntmps17; go_wp2_with fail; refine (within_side _ _).mono ?_; rintro e w1 ⟨rfl, rfl⟩; by_cases s1 : sideB ro = true
 . go_wp2_with fail; refine (within_side _ _).mono ?_; rintro e w1 ⟨rfl, rfl⟩; by_cases s2 : sideB co = true
   . obtain ⟨r1, r2⟩ := side_bd s1; obtain ⟨r3, r4⟩ := side_bd s2; go_wp2_with fail; refine (badCell_any _ _ _ _ _ _ hs r1 r2 r3 r4).mono ?_; rintro e w1 ⟨rfl, hb1⟩; have S1 := zx s1; have S2 := zx s2; have hB : Below w.heap.size w w1 := ((Below.refl _ _).alloc zl _).trans (hb1.mono (by simp)); obtain ⟨hc1, hf1⟩ := bcell hb1; have y0 : w1.cell? ⟨w.heap.size, 0, none⟩ = some (.int .i64 ro) := by rw [hc1 _ _ (by simp)]; go_simp
     have y1 : w1.cell? ⟨w.heap.size, 1, none⟩ = some (.int .i64 co) := by rw [hc1 _ _ (by simp)]; go_simp
     have y2 : w1.cell? ⟨w.heap.size, 2, none⟩ = some (.string cs) := by rw [hc1 _ _ (by simp)]; go_simp
     have y3 : w1.cell? ⟨w.heap.size, 3, none⟩ = some (.slice a n cap) := by rw [hc1 _ _ (by simp)]; go_simp
     have y4 : w1.cell? ⟨w.heap.size, 4, none⟩ = some (.int .i64 bu) := by rw [hc1 _ _ (by simp)]; go_simp
     have HB := zx hB; clear hc1 hf1 hb1 hB r1 r2 r3 r4; by_cases hce : 0 <= cellsM ro co cs
     . go_wp2; go_ret2; exact ⟨(ret_pair (by rw [<- checkM_cells S1.out S2.out hce]; unfold badM; rw [if_pos hce])), HB.out⟩
     . go_wp2_with fail; refine (within_rng _ _ _ _).mono ?_; rintro e w2 ⟨rfl, hw2⟩; have hw2 := hw2.symm; subst hw2; by_cases hn1 : n < 1
       . have hq := rng_out (n := (n : Int)) (a := 1) (b := 4) (by omega); go_wp2; go_ret2; exact ⟨ret_pair (checkM_carts S1.out S2.out (by omega) (Or.inl (by omega))), HB.out⟩
       . by_cases hn4 : 4 < n
         . have hq := rng_out (n := (n : Int)) (a := 1) (b := 4) (by omega); go_wp2; go_ret2; exact ⟨ret_pair (checkM_carts S1.out S2.out (by omega) (Or.inr (by omega))), HB.out⟩
         . obtain ⟨b, off, rfl, hcs⟩ := ha (by omega); have hcs1 := zx (hcs.below HB.out); have hq := rng_in (n := (n : Int)) (a := 1) (b := 4) (by omega) (by omega); go_wp2; clear hcs hq; go_loopw [33] (fun s wr => ∃ k : Nat, k <= n ∧ s = .int .i64 k ∧ (∀ j, j < k -> cartM cs fr tt j = 0) ∧ Below w1.heap.size w1 wr) (fun s _ => n - (intOf s).toNat)
           case atStart => exact ⟨0, Nat.zero_le _, rfl, fun j hj => absurd hj (Nat.not_lt_zero j), Below.refl _ _⟩
           case round =>
            obtain ⟨k, hk, rfl, hg0, hbr⟩ := hrel; have hg := zx hg0; clear hg0; have z0 := zj hbr y0; have z1 := zj hbr y1; have z2 := zj hbr y2; have z3 := zj hbr y3; have z4 := zj hbr y4; clear y0 y1 y2 y3 y4; by_cases hlt : k < n
            . go_wp2_with fail; refine (checkCart_any _ _ _ _ _ _ _ _ _ fr tt _ hs hn hcap hlt (hcs1.out.below hbr)).mono ?_; rintro e w2 ⟨rfl, hb2⟩; by_cases he : cartM cs fr tt k = 0
              . have he' : (cartM cs fr tt k != 0) = false := by simp [he]
                have He := zx he; clear he; go_wp2; go_roundw; case rel => exact ⟨k + 1, by omega, by go_num, step_all He.out hg.out, hbr.trans (hb2.mono hbr.size)⟩
                case measure => simp [intOf]; omega
              . have he' : (cartM cs fr tt k != 0) = true := by simp [he]
                go_wp2; go_ret2; exact ⟨ret_pair (checkM_cart S1.out S2.out (by omega) (by omega) (by omega) hlt he hg.out), HB.out.trans ((hbr.trans (hb2.mono hbr.size)).mono HB.out.size)⟩
            . have hd : k = n := by omega
              go_wp2_with fail; refine (within_rng _ _ _ _).mono ?_; rintro e w2 ⟨rfl, hw2⟩; have hw2 := hw2.symm; subst hw2; by_cases hbu : bu < 1
              . have hq := rng_out (n := bu) (a := 1) (b := 20000) (by omega); go_wp2; go_ret2; subst hd; exact ⟨ret_pair (checkM_budget S1.out S2.out (by omega) (by omega) (by omega) hg.out (Or.inl (by omega))), HB.out.trans (hbr.mono HB.out.size)⟩
              . by_cases hbu2 : 20000 < bu
                . have hq := rng_out (n := bu) (a := 1) (b := 20000) (by omega); go_wp2; go_ret2; subst hd; exact ⟨ret_pair (checkM_budget S1.out S2.out (by omega) (by omega) (by omega) hg.out (Or.inr (by omega))), HB.out.trans (hbr.mono HB.out.size)⟩
                . have hq := rng_in (n := bu) (a := 1) (b := 20000) (by omega) (by omega); go_wp2; go_ret2; subst hd; exact ⟨ret_pair (checkM_ok S1.out S2.out (by omega) (by omega) (by omega) hg.out (by omega)), HB.out.trans (hbr.mono HB.out.size)⟩
   . have s2' : sideB co = false := by simpa using s2
     go_wp2; go_ret2; exact ⟨ret_pair (checkM_side (Or.inr s2')), (Below.refl _ _).alloc zl _⟩
 . have s1' : sideB ro = false := by simpa using s1
   go_wp2; go_ret2; exact ⟨ret_pair (checkM_side (Or.inl s1')), (Below.refl _ _).alloc zl _⟩
end
end Go.Proofs.YtnkgpinadgacgaaGreatDoor
