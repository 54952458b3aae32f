/- Uj, Ga, Gb. -/
import Derived.Test.YtnkgpinadgacgaaGreatDoorQp
set_option maxRecDepth 1000000
namespace Go.Proofs.YtnkgpinadgacgaaGreatDoor
section
open Go.RowKit Go.Shelf Go.Deep M
theorem dec_step {n : Nat} (h : ¬ n < 10) : Lib.decDigits n = Lib.decDigits (n / 10) ++ Lib.decDigits (n % 10) := by
 rw [Lib.decDigits, dif_neg h]; congr 1; rw [Lib.decDigits, dif_pos (Nat.mod_lt n (by omega))]
theorem cell_alloc_first (w : World) (x : Value) (t : TypeId) : (w.alloc (.cells #[x] t)).cell? ((⟨w.heap.size, 0, none⟩ : Addr).add 0) = some x := by
 simp [Addr.add]
theorem dec_lenn (n : Nat) : (Lib.decDigits n).length <= n + 1 := by
 induction n using Nat.strongRecOn with
 | _ n ih =>
   by_cases h : n < 10
   . rw [Lib.decDigits, dif_pos h]; simp
   . have h1 := ih (n / 10) (by omega); rw [Lib.decDigits, dif_neg h, List.length_append, List.length_singleton]; omega
theorem dec_size {n : Nat} {S : ByteArray} (h : S = ⟨(Lib.decDigits n).toArray⟩) : S.size <= n + 1 := by
 have h1 := dec_lenn n; rw [h]; show (Lib.decDigits n).toArray.size <= _; rw [List.size_toArray]; exact h1
theorem shown_any : ∀ (n : Nat) (w : World), n <= 2000000 ->
 Calls Tryz.prog 25 #[.int .i64 n] w fun e w' => e = .returned (.string ⟨(Lib.decDigits n).toArray⟩) ∧ Below w.heap.size w w' := by
 intro n; induction n using Nat.strongRecOn with
 | _ n ih =>
   intro w hn; by_cases h : n < 10
   . have e1 : decide ((n : Int) < 10) = true := by simp; omega
     clear ih; go_enter Tryz.func25, Tryz.ntmps25; have hd1 : Lib.decDigits n = [UInt8.ofNat (48 + n)] := by rw [Lib.decDigits, dif_pos h]
     have hu : ((UInt8.ofNat (48 + n)).toNat : Int) = 48 + (n : Int) := by
      rw [UInt8.toNat_ofNat']; omega
     have hcv : (convert 54 9 (.slice (some ⟨w.heap.size, 0, none⟩) 1 1)).run Tryz.prog (w.alloc (.cells #[.int .u8 (48 + (n : Int))] 5)) = .ok (.string ⟨(Lib.decDigits n).toArray⟩) (w.alloc (.cells #[.int .u8 (48 + (n : Int))] 5)) := by
      rw [hd1]; refine run_convert_bytes_back (P := Tryz.prog) _ 54 9 5 ⟨w.heap.size, 0, none⟩ 1 [UInt8.ofNat (48 + n)] Tryz.underlying54 Tryz.underlying5 Tryz.underlying9 ?_; intro j hj; have hj0 : j = 0 := by simp at hj; exact hj
      subst hj0; have e : ([UInt8.ofNat (48 + n)][0]'hj) = UInt8.ofNat (48 + n) := rfl; rw [e, hu]; exact cell_alloc_first w _ _
     clear hd1 hu; go_wp2; go_ret; exact ⟨rfl, (Below.refl _ w).alloc zl _⟩
   . have e1 : decide ((n : Int) < 10) = false := by simp; omega
     have I1 : Hid (∀ u, Calls Tryz.prog 25 #[.int .i64 ((n / 10 : Nat) : Int)] u fun e w' => e = .returned (.string ⟨(Lib.decDigits (n / 10)).toArray⟩) ∧ Below u.heap.size u w') := zx fun u => ih (n / 10) (by omega) u (by omega)
     have I2 : Hid (∀ u, Calls Tryz.prog 25 #[.int .i64 ((n % 10 : Nat) : Int)] u fun e w' => e = .returned (.string ⟨(Lib.decDigits (n % 10)).toArray⟩) ∧ Below u.heap.size u w') := zx fun u => ih (n % 10) (by omega) u (by omega)
     have hq : (n : Int).tdiv 10 = ((n / 10 : Nat) : Int) := by rw [Int.tdiv_eq_ediv_of_nonneg (by omega)]; omega
     have hr : (n : Int).tmod 10 = ((n % 10 : Nat) : Int) := by rw [Int.tmod_eq_emod_of_nonneg (by omega)]; omega
     clear ih; go_enter Tryz.func25, Tryz.ntmps25; go_wp2_with fail; refine (I1.out _).mono ?_; rintro e w1 ⟨rfl, hb1⟩; have B1 := zx hb1; clear hb1; obtain ⟨S1, hS1⟩ : ∃ S : ByteArray, Hid (S = ⟨(Lib.decDigits (n / 10)).toArray⟩) := ⟨_, zx rfl⟩
     rw [<- hS1.out]; go_wp2_with fail; refine (I2.out _).mono ?_; rintro e w2 ⟨rfl, hb2⟩; have B2 := zx hb2; clear hb2; obtain ⟨S2, hS2⟩ : ∃ S : ByteArray, Hid (S = ⟨(Lib.decDigits (n % 10)).toArray⟩) := ⟨_, zx rfl⟩
     rw [<- hS2.out]; have s1 := dec_size hS1.out; have s2 := dec_size hS2.out; have s3 : S1.size <= 2000001 := by omega
     have s4 : S2.size <= 2000001 := by omega
     go_wp2; go_ret; refine ⟨?_, B1.out.trans (B2.out.mono B1.out.size)⟩; have e : S1 ++ S2 = ⟨(Lib.decDigits n).toArray⟩ := by
      rw [hS1.out, bytes_push, hS2.out, dec_step h]
     rw [<- e]; rfl
end
namespace HM
section
variable {α : Type} {key : α → Int} {n : Nat} {it : Nat → α}
def swapIt (it : Nat -> α) (a b : Nat) : Nat -> α := fun i => if i = a then it b else if i = b then it a else it i
def Mem (n : Nat) (it : Nat -> α) (p : α) : Prop := ∃ i, i < n ∧ it i = p
theorem mem_swap {a b : Nat} (ha : a < n) (hb : b < n) {p : α} : Mem n (swapIt it a b) p ↔ Mem n it p := by
 constructor
 . rintro ⟨i, hi, h⟩; unfold swapIt at h; by_cases e : i = a
   . rw [if_pos e] at h; exact ⟨b, hb, h⟩
   . rw [if_neg e] at h; by_cases e2 : i = b
     . rw [if_pos e2] at h; exact ⟨a, ha, h⟩
     . rw [if_neg e2] at h; exact ⟨i, hi, h⟩
 . rintro ⟨i, hi, h⟩; by_cases e : i = a
   . refine ⟨b, hb, ?_⟩; unfold swapIt; by_cases e2 : b = a
     . rw [if_pos e2, e2, <- e]; exact h
     . rw [if_neg e2, if_pos rfl, <- e]; exact h
   . by_cases e2 : i = b
     . refine ⟨a, ha, ?_⟩; unfold swapIt; rw [if_pos rfl, <- e2]; exact h
     . exact ⟨i, hi, by unfold swapIt; rw [if_neg e, if_neg e2]; exact h⟩
theorem swap_l {a b : Nat} : swapIt it a b a = it b := by unfold swapIt; rw [if_pos rfl]
theorem swap_r {a b : Nat} : swapIt it a b b = it a := by
 unfold swapIt; by_cases e : b = a
 . rw [if_pos e, e]
 . rw [if_neg e, if_pos rfl]
theorem swap_o {a b i : Nat} (h1 : i ≠ a) (h2 : i ≠ b) : swapIt it a b i = it i := by unfold swapIt; rw [if_neg h1, if_neg h2]
def Ord (key : α -> Int) (n : Nat) (it : Nat -> α) : Prop := ∀ i, 0 < i -> i < n -> key (it ((i - 1) / 2)) <= key (it i)
structure Up (key : α -> Int) (n : Nat) (it : Nat -> α) (at' : Nat) : Prop where
 rest : ∀ i, 0 < i -> i < n -> i ≠ at' -> key (it ((i - 1) / 2)) <= key (it i)
 over : ∀ i, 0 < i -> i < n -> (i - 1) / 2 = at' -> 0 < at' -> key (it ((at' - 1) / 2)) <= key (it i)
structure Down (key : α -> Int) (n : Nat) (it : Nat -> α) (at' : Nat) : Prop where
 rest : ∀ i, 0 < i -> i < n -> (i - 1) / 2 ≠ at' -> key (it ((i - 1) / 2)) <= key (it i)
 over : ∀ i, 0 < i -> i < n -> (i - 1) / 2 = at' -> 0 < at' -> key (it ((at' - 1) / 2)) <= key (it i)
theorem up_done {a : Nat} (h : Up key n it a) (hs : a = 0 ∨ key (it ((a - 1) / 2)) <= key (it a)) : Ord key n it := by
 intro i h0 hi; by_cases e : i = a
 . subst e; rcases hs with e0 | e0
   . omega
   . omega
 . exact h.rest i h0 hi e
theorem up_step {a : Nat} (h : Up key n it a) (ha : 0 < a) (han : a < n) (hlt : key (it a) <= key (it ((a - 1) / 2))) : Up key n (swapIt it a ((a - 1) / 2)) ((a - 1) / 2) := by
 obtain ⟨p, hp⟩ : ∃ p, p = (a - 1) / 2 := ⟨_, rfl⟩
 rw [<- hp] at hlt ⊢; have hpa : p < a := by omega
 refine ⟨?_, ?_⟩
 . intro i h0 hi hne; by_cases e : i = a
   . subst e; rw [<- hp, swap_r, swap_l]; omega
   . rw [swap_o (it := it) e hne]; by_cases e1 : (i - 1) / 2 = a
     . rw [e1, swap_l]; have := h.over i h0 hi e1 ha; rw [<- hp] at this; exact this
     . by_cases e2 : (i - 1) / 2 = p
       . rw [e2, swap_r]; have := h.rest i h0 hi e; rw [e2] at this; omega
       . rw [swap_o e1 e2]; exact h.rest i h0 hi e
 . intro i h0 hi hpi hp0; have hq : (p - 1) / 2 ≠ a := by omega
   have hq2 : (p - 1) / 2 ≠ p := by omega
   rw [swap_o hq hq2]; have h1 := h.rest p hp0 (by omega) (by omega); by_cases e : i = a
   . subst e; rw [swap_l]; exact h1
   . rw [swap_o e (by omega)]; have := h.rest i h0 hi e; rw [hpi] at this; omega
theorem up_push (h : Ord key n it) : Up key (n + 1) it n := by
 refine ⟨fun i h0 hi hne => h i h0 (by omega), fun i h0 hi hpi hn0 => by omega⟩
theorem down_done {a : Nat} (h : Down key n it a) (hs : ∀ i, 0 < i -> i < n -> (i - 1) / 2 = a -> key (it a) <= key (it i)) : Ord key n it := by
 intro i h0 hi; by_cases e : (i - 1) / 2 = a
 . rw [e]; exact hs i h0 hi e
 . exact h.rest i h0 hi e
theorem down_step {a f : Nat} (h : Down key n it a) (hf0 : 0 < f) (hfn : f < n) (hfp : (f - 1) / 2 = a) (hlt : key (it f) <= key (it a)) (hmin : ∀ i, 0 < i -> i < n -> (i - 1) / 2 = a -> key (it f) <= key (it i)) : Down key n (swapIt it a f) f := by
 have haf : a < f := by omega
 refine ⟨?_, ?_⟩
 . intro i h0 hi hne; by_cases e : i = f
   . subst e; rw [hfp, swap_l, swap_r]; omega
   . by_cases e1 : (i - 1) / 2 = a
     . rw [e1, swap_l, swap_o (by omega) e]; exact hmin i h0 hi e1
     . rw [swap_o (i := (i - 1) / 2) e1 hne]; by_cases e2 : i = a
       . subst e2; rw [swap_l]; exact h.over f hf0 hfn hfp h0
       . rw [swap_o e2 e]; exact h.rest i h0 hi e1
 . intro i h0 hi hpi _; rw [hfp, swap_l, swap_o (by omega) (by omega)]; have := h.rest i h0 hi (by omega); rw [hpi] at this; exact this
theorem ord_first (h : Ord key n it) : ∀ i, i < n -> key (it 0) <= key (it i) := by
 intro i; induction i using Nat.strongRecOn with
 | ind i ih =>
   intro hi; by_cases e : i = 0
   . subst e; exact Int.le_refl _
   . have h1 := ih ((i - 1) / 2) (by omega) (by omega); have h2 := h i (by omega) hi; omega
def popIt (it : Nat -> α) (n : Nat) : Nat -> α := fun i => if i = 0 then it (n - 1) else it i
theorem down_pop (h : Ord key n it) : Down key (n - 1) (popIt it n) 0 := by
 refine ⟨fun i h0 hi hne => ?_, fun i _ _ _ h0 => by omega⟩; unfold popIt; rw [if_neg hne, if_neg (by omega)]; exact h i h0 (by omega)
theorem mem_pop (hn : 0 < n) {p : α} : Mem n it p ↔ Mem (n - 1) (popIt it n) p ∨ p = it 0 := by
 constructor
 . rintro ⟨i, hi, h⟩; by_cases e : i = 0
   . subst e; exact Or.inr h.symm
   . by_cases e2 : i = n - 1
     . by_cases e3 : n - 1 = 0
       . omega
       . exact Or.inl ⟨0, by omega, by unfold popIt; rw [if_pos rfl, <- e2]; exact h⟩
     . exact Or.inl ⟨i, by omega, by unfold popIt; rw [if_neg e]; exact h⟩
 . rintro (⟨i, hi, h⟩ | h)
   . unfold popIt at h; by_cases e : i = 0
     . rw [if_pos e] at h; exact ⟨n - 1, by omega, h⟩
     . rw [if_neg e] at h; exact ⟨i, by omega, h⟩
   . exact ⟨0, hn, h.symm⟩
def pushIt (it : Nat -> α) (n : Nat) (p : α) : Nat -> α := fun i => if i = n then p else it i
theorem ord_push (h : Ord key n it) (p : α) : Up key (n + 1) (pushIt it n p) n := by
 refine up_push ?_; intro i h0 hi; unfold pushIt; rw [if_neg (by omega), if_neg (by omega)]; exact h i h0 hi
theorem mem_push {p q : α} : Mem (n + 1) (pushIt it n p) q ↔ Mem n it q ∨ q = p := by
 constructor
 . rintro ⟨i, hi, h⟩; unfold pushIt at h; by_cases e : i = n
   . rw [if_pos e] at h; exact Or.inr h.symm
   . rw [if_neg e] at h; exact Or.inl ⟨i, by omega, h⟩
 . rintro (⟨i, hi, h⟩ | h)
   . exact ⟨i, by omega, by unfold pushIt; rw [if_neg (by omega)]; exact h⟩
   . exact ⟨n, by omega, by unfold pushIt; rw [if_pos rfl]; exact h.symm⟩
def riseF (lt : α -> α -> Bool) : Nat -> (Nat -> α) -> Nat -> Nat -> α
 | 0, it, _ => it
 | f + 1, it, b => if 0 < b ∧ lt (it b) (it ((b - 1) / 2)) = true then riseF lt f (swapIt it b ((b - 1) / 2)) ((b - 1) / 2) else it
def kid1 (lt : α -> α -> Bool) (n : Nat) (it : Nat -> α) (b : Nat) : Nat := if 2 * b + 1 < n ∧ lt (it (2 * b + 1)) (it b) = true then 2 * b + 1 else b
def kid2 (lt : α -> α -> Bool) (n : Nat) (it : Nat -> α) (b : Nat) : Nat := if 2 * b + 2 < n ∧ lt (it (2 * b + 2)) (it (kid1 lt n it b)) = true then 2 * b + 2 else kid1 lt n it b
def sinkF (lt : α -> α -> Bool) (n : Nat) : Nat -> (Nat -> α) -> Nat -> Nat -> α
 | 0, it, _ => it
 | f + 1, it, b => if kid2 lt n it b = b then it else sinkF lt n f (swapIt it b (kid2 lt n it b)) (kid2 lt n it b)
theorem kid1_is (lt : α -> α -> Bool) (n : Nat) (it : Nat -> α) (b : Nat) : kid1 lt n it b = b ∨ (kid1 lt n it b = 2 * b + 1 ∧ 2 * b + 1 < n) := by
 unfold kid1; by_cases e : 2 * b + 1 < n ∧ lt (it (2 * b + 1)) (it b) = true
 . rw [if_pos e]; exact .inr ⟨rfl, e.1⟩
 . rw [if_neg e]; exact .inl rfl
theorem kid2_is (lt : α -> α -> Bool) (n : Nat) (it : Nat -> α) (b : Nat) : kid2 lt n it b = b ∨ (b < kid2 lt n it b ∧ kid2 lt n it b < n ∧ (kid2 lt n it b - 1) / 2 = b) := by
 unfold kid2; by_cases e : 2 * b + 2 < n ∧ lt (it (2 * b + 2)) (it (kid1 lt n it b)) = true
 . rw [if_pos e]; exact .inr ⟨by omega, e.1, by omega⟩
 . rw [if_neg e]; rcases kid1_is lt n it b with h | ⟨h, h2⟩
   . exact .inl h
   . exact .inr ⟨by omega, by omega, by omega⟩
def kidAt (lt : α -> α -> Bool) (n : Nat) (it : Nat -> α) (b ch : Nat) : Nat := if ch <= 2 * b + 1 then b else if ch <= 2 * b + 2 then kid1 lt n it b else kid2 lt n it b
theorem kidAt_start (lt : α -> α -> Bool) (n : Nat) (it : Nat -> α) (b : Nat) : b = kidAt lt n it b (2 * b + 1) := by
 unfold kidAt; rw [if_pos (Nat.le_refl _)]
theorem kidAt_step {lt : α -> α -> Bool} {n : Nat} {it : Nat -> α} {b ch : Nat} (h1 : 2 * b + 1 <= ch) (h2 : ch <= 2 * b + 2) (h3 : ch < n) : kidAt lt n it b (ch + 1) = if lt (it ch) (it (kidAt lt n it b ch)) = true then ch else kidAt lt n it b ch := by
 have hc : ch = 2 * b + 1 ∨ ch = 2 * b + 2 := by omega
 have A1 : kidAt lt n it b (2 * b + 2) = kid1 lt n it b := by unfold kidAt; rw [if_neg (by omega), if_pos (Nat.le_refl _)]
 rcases hc with rfl | rfl
 . rw [A1, <- kidAt_start lt n it b]; unfold kid1; by_cases e : lt (it (2 * b + 1)) (it b) = true
   . rw [if_pos ⟨h3, e⟩, if_pos e]
   . rw [if_neg (fun hh => e hh.2), if_neg e]
 . have A2 : kidAt lt n it b (2 * b + 2 + 1) = kid2 lt n it b := by unfold kidAt; rw [if_neg (by omega), if_neg (by omega)]
   rw [A1, A2]; unfold kid2; by_cases e : lt (it (2 * b + 2)) (it (kid1 lt n it b)) = true
   . rw [if_pos ⟨h3, e⟩, if_pos e]
   . rw [if_neg (fun hh => e hh.2), if_neg e]
theorem kidAt_done {lt : α -> α -> Bool} {n : Nat} {it : Nat -> α} {b ch : Nat} (h1 : 2 * b + 1 <= ch) (h2 : ch <= 2 * b + 3) (h3 : ¬ ch <= 2 * b + 2 ∨ ¬ ch < n) : kidAt lt n it b ch = kid2 lt n it b := by
 unfold kidAt; by_cases e1 : ch <= 2 * b + 1
 . rw [if_pos e1]; unfold kid2 kid1; rw [if_neg (fun hh => by omega), if_neg (fun hh => by omega)]
 . rw [if_neg e1]; by_cases e2 : ch <= 2 * b + 2
   . rw [if_pos e2]; unfold kid2; rw [if_neg (fun hh => by omega)]
   . rw [if_neg e2]
theorem kidAt_lt {lt : α -> α -> Bool} {n : Nat} {it : Nat -> α} {b ch : Nat} (hb : b < n) : kidAt lt n it b ch < n := by
 unfold kidAt; by_cases e1 : ch <= 2 * b + 1
 . rw [if_pos e1]; exact hb
 . rw [if_neg e1]; have k1 := kid1_is lt n it b; have k2 := kid2_is lt n it b; by_cases e2 : ch <= 2 * b + 2
   . rw [if_pos e2]; omega
   . rw [if_neg e2]; omega
theorem riseF_ok {lt : α -> α -> Bool} (h1 : ∀ x y, lt x y = true -> key x <= key y) (h2 : ∀ x y, lt x y = false -> key y <= key x) : ∀ {f : Nat} {it : Nat -> α} {b : Nat}, b <= f -> b < n -> Up key n it b -> Ord key n (riseF lt f it b) ∧ ∀ p, Mem n (riseF lt f it b) p ↔ Mem n it p
 | 0, it, b, hf, hb, hu => ⟨up_done hu (.inl (by omega)), fun _ => Iff.rfl⟩
 | f + 1, it, b, hf, hb, hu => by
   unfold riseF; by_cases e : 0 < b ∧ lt (it b) (it ((b - 1) / 2)) = true
   . rw [if_pos e]; obtain ⟨g1, g2⟩ := riseF_ok h1 h2 (f := f) (by omega) (by omega) (up_step hu e.1 hb (h1 _ _ e.2)); exact ⟨g1, fun p => (g2 p).trans (mem_swap hb (by omega))⟩
   . rw [if_neg e]; refine ⟨up_done hu ?_, fun _ => Iff.rfl⟩; by_cases e0 : b = 0
     . exact .inl e0
     . refine .inr (h2 _ _ ?_); cases hh : lt (it b) (it ((b - 1) / 2)) with
       | false => rfl
       | true => exact absurd ⟨by omega, hh⟩ e
theorem kid2_min {lt : α -> α -> Bool} (h1 : ∀ x y, lt x y = true -> key x <= key y) (h2 : ∀ x y, lt x y = false -> key y <= key x) (it : Nat -> α) (b : Nat) : key (it (kid2 lt n it b)) <= key (it b) ∧ ∀ i, 0 < i -> i < n -> (i - 1) / 2 = b -> key (it (kid2 lt n it b)) <= key (it i) := by
 have k1 : key (it (kid1 lt n it b)) <= key (it b) ∧ (2 * b + 1 < n -> key (it (kid1 lt n it b)) <= key (it (2 * b + 1))) := by
  unfold kid1; by_cases e : 2 * b + 1 < n ∧ lt (it (2 * b + 1)) (it b) = true
  . rw [if_pos e]; exact ⟨h1 _ _ e.2, fun _ => Int.le_refl _⟩
  . rw [if_neg e]; refine ⟨Int.le_refl _, fun hn => h2 _ _ ?_⟩; cases hh : lt (it (2 * b + 1)) (it b) with
    | false => rfl
    | true => exact absurd ⟨hn, hh⟩ e
 have k2 : key (it (kid2 lt n it b)) <= key (it (kid1 lt n it b)) ∧ (2 * b + 2 < n -> key (it (kid2 lt n it b)) <= key (it (2 * b + 2))) := by
  unfold kid2; by_cases e : 2 * b + 2 < n ∧ lt (it (2 * b + 2)) (it (kid1 lt n it b)) = true
  . rw [if_pos e]; exact ⟨h1 _ _ e.2, fun _ => Int.le_refl _⟩
  . rw [if_neg e]; refine ⟨Int.le_refl _, fun hn => h2 _ _ ?_⟩; cases hh : lt (it (2 * b + 2)) (it (kid1 lt n it b)) with
    | false => rfl
    | true => exact absurd ⟨hn, hh⟩ e
 refine ⟨Int.le_trans k2.1 k1.1, fun i h0 hi hp => ?_⟩; have hc : i = 2 * b + 1 ∨ i = 2 * b + 2 := by omega
 rcases hc with rfl | rfl
 . exact Int.le_trans k2.1 (k1.2 hi)
 . exact k2.2 hi
theorem sinkF_ok {lt : α -> α -> Bool} (h1 : ∀ x y, lt x y = true -> key x <= key y) (h2 : ∀ x y, lt x y = false -> key y <= key x) : ∀ {f : Nat} {it : Nat -> α} {b : Nat}, n <= f + b -> Down key n it b -> Ord key n (sinkF lt n f it b) ∧ ∀ p, Mem n (sinkF lt n f it b) p ↔ Mem n it p
 | 0, it, b, hf, hd => ⟨down_done hd (fun i h0 hi hp => by omega), fun _ => Iff.rfl⟩
 | f + 1, it, b, hf, hd => by
   obtain ⟨m1, m2⟩ := kid2_min (n := n) h1 h2 it b; unfold sinkF; by_cases e : kid2 lt n it b = b
   . rw [if_pos e]; rw [e] at m2; exact ⟨down_done hd m2, fun _ => Iff.rfl⟩
   . rw [if_neg e]; rcases kid2_is lt n it b with h | ⟨g1, g2, g3⟩
     . exact absurd h e
     . obtain ⟨q1, q2⟩ := sinkF_ok h1 h2 (f := f) (by omega) (down_step hd (by omega) g2 g3 m1 m2); exact ⟨q1, fun p => (q2 p).trans (mem_swap (by omega) g2)⟩
section
variable {β : Type} {g : α → β}
def Inj (g : α -> β) (n : Nat) (it : Nat -> α) : Prop := ∀ i j, i < n -> j < n -> g (it i) = g (it j) -> i = j
theorem inj_swap {a b : Nat} (ha : a < n) (hb : b < n) (h : Inj g n it) : Inj g n (swapIt it a b) := by
 intro i j hi hj e; unfold swapIt at e; by_cases i1 : i = a
 . subst i1; rw [if_pos rfl] at e; by_cases j1 : j = i
   . exact j1.symm
   . rw [if_neg j1] at e; by_cases j2 : j = b
     . rw [if_pos j2] at e; have := h b i hb hi e; omega
     . rw [if_neg j2] at e; have := h b j hb hj e; omega
 . rw [if_neg i1] at e; by_cases i2 : i = b
   . rw [if_pos i2] at e; by_cases j1 : j = a
     . rw [if_pos j1] at e; have := h a b ha hb e; omega
     . rw [if_neg j1] at e; by_cases j2 : j = b
       . omega
       . rw [if_neg j2] at e; have := h a j ha hj e; omega
   . rw [if_neg i2] at e; by_cases j1 : j = a
     . rw [if_pos j1] at e; have := h i b hi hb e; omega
     . rw [if_neg j1] at e; by_cases j2 : j = b
       . rw [if_pos j2] at e; have := h i a hi ha e; omega
       . rw [if_neg j2] at e; exact h i j hi hj e
theorem riseF_inj {lt : α -> α -> Bool} : ∀ {f : Nat} {it : Nat -> α} {b : Nat}, b < n -> Inj g n it -> Inj g n (riseF lt f it b)
 | 0, _, _, _, h => h
 | f + 1, it, b, hb, h => by
   unfold riseF; by_cases e : 0 < b ∧ lt (it b) (it ((b - 1) / 2)) = true
   . rw [if_pos e]; exact riseF_inj (by omega) (inj_swap hb (by omega) h)
   . rw [if_neg e]; exact h
theorem sinkF_inj {lt : α -> α -> Bool} : ∀ {f : Nat} {it : Nat -> α} {b : Nat}, Inj g n it -> Inj g n (sinkF lt n f it b)
 | 0, _, _, h => h
 | f + 1, it, b, h => by
   unfold sinkF; by_cases e : kid2 lt n it b = b
   . rw [if_pos e]; exact h
   . rw [if_neg e]; rcases kid2_is lt n it b with h1 | ⟨g1, g2, g3⟩
     . exact absurd h1 e
     . exact sinkF_inj (inj_swap (by omega) g2 h)
theorem inj_pop (hn : 0 < n) (h : Inj g n it) : Inj g (n - 1) (popIt it n) ∧ ∀ i, i < n - 1 -> g (popIt it n i) ≠ g (it 0) := by
 constructor
 . intro i j hi hj e; unfold popIt at e; by_cases i0 : i = 0
   . rw [if_pos i0] at e; by_cases j0 : j = 0
     . omega
     . rw [if_neg j0] at e; have := h _ _ (by omega) (by omega) e; omega
   . rw [if_neg i0] at e; by_cases j0 : j = 0
     . rw [if_pos j0] at e; have := h _ _ (by omega) (by omega) e; omega
     . rw [if_neg j0] at e; exact h _ _ (by omega) (by omega) e
 . intro i hi e; unfold popIt at e; by_cases i0 : i = 0
   . rw [if_pos i0] at e; have := h _ _ (by omega) (by omega) e; omega
   . rw [if_neg i0] at e; have := h _ _ (by omega) (by omega) e; omega
theorem inj_push {p : α} (h : Inj g n it) (hp : ∀ i, i < n -> g (it i) ≠ g p) : Inj g (n + 1) (pushIt it n p) := by
 intro i j hi hj e; unfold pushIt at e; by_cases i0 : i = n
 . rw [if_pos i0] at e; by_cases j0 : j = n
   . omega
   . rw [if_neg j0] at e; exact absurd e.symm (hp j (by omega))
 . rw [if_neg i0] at e; by_cases j0 : j = n
   . rw [if_pos j0] at e; exact absurd e (hp i (by omega))
   . rw [if_neg j0] at e; exact h i j (by omega) (by omega) e
end
end
end HM
namespace BM
section
variable {α : Type} {E : α → α → Nat → Prop} {goal : α → Prop} {h : α → Nat} {s0 : α}
def Way (E : α -> α -> Nat -> Prop) : Nat -> α -> α -> Nat -> Prop
 | 0, a, b, k => a = b ∧ k = 0
 | m + 1, a, b, k => ∃ c k1 d, Way E m a c k1 ∧ E c b d ∧ k = k1 + d
structure Best (E : α -> α -> Nat -> Prop) (goal : α -> Prop) (s0 : α) (seen : α -> Option Nat) (nx : α -> α) (op hx : α -> Nat -> Prop) : Prop where
 start : seen s0 = some 0
 way : ∀ s g, seen s = some g -> ∃ m, Way E m s0 s g
 spread : ∀ s g, seen s = some g -> op s g ∨ hx s g ∨ (¬ goal s ∧ ∀ b d, E s b d -> ∃ g', seen b = some g' ∧ g' <= g + d)
 lead : ∀ s g, op s g -> ∃ g0, seen s = some g0 ∧ g0 <= g
 back : ∀ s g, seen s = some g -> g = 0 ∨ ∃ g0 d, seen (nx s) = some g0 ∧ E (nx s) s d ∧ 0 < d ∧ g0 + d <= g
 zero : ∀ s, seen s = some 0 -> s = s0
theorem best_front {seen : α -> Option Nat} {nx : α -> α} {op : α -> Nat -> Prop} (B : Best E goal s0 seen nx op (fun _ _ => False)) (hc : ∀ a b d, E a b d -> h a <= h b + d) (hg : ∀ b, goal b -> h b = 0) {m : Nat} {b : α} {K : Nat} (W : Way E m s0 b K) (hb : goal b) : ∃ s g, op s g ∧ g + h s <= K := by
 have key : ∀ m a k, Way E m s0 a k -> (∃ g, seen a = some g ∧ g <= k) ∨ ∃ s g, op s g ∧ g + h s <= k + h a := by
  intro m; induction m with
  | zero =>
    rintro a k ⟨rfl, rfl⟩; exact .inl ⟨0, B.start, Nat.le_refl _⟩
  | succ m ih =>
    rintro a k ⟨c, k1, d, hw, he, rfl⟩; have h1 := hc c a d he; rcases ih c k1 hw with ⟨g, hs, hgk⟩ | ⟨s, g, ho, hk⟩
    . rcases B.spread c g hs with ho | hf | ⟨_, hall⟩
      . exact .inr ⟨c, g, ho, by omega⟩
      . exact hf.elim
      . obtain ⟨g', h2, h3⟩ := hall a d he; exact .inl ⟨g', h2, by omega⟩
    . exact .inr ⟨s, g, ho, by omega⟩
 rcases key m b K W with ⟨g, hs, hgk⟩ | ⟨s, g, ho, hk⟩
 . rcases B.spread b g hs with ho | hf | ⟨hn, _⟩
   . exact ⟨b, g, ho, by rw [hg b hb]; omega⟩
   . exact hf.elim
   . exact absurd hb hn
 . exact ⟨s, g, ho, by rw [hg b hb] at hk; omega⟩
theorem best_key {seen : α -> Option Nat} {nx : α -> α} {op : α -> Nat -> Prop} (B : Best E goal s0 seen nx op (fun _ _ => False)) (hc : ∀ a b d, E a b d -> h a <= h b + d) : ∀ m a k, Way E m s0 a k -> (∃ g, seen a = some g ∧ g <= k) ∨ ∃ s g, op s g ∧ g + h s <= k + h a := by
 intro m; induction m with
 | zero =>
   rintro a k ⟨rfl, rfl⟩; exact .inl ⟨0, B.start, Nat.le_refl _⟩
 | succ m ih =>
   rintro a k ⟨c, k1, d, hw, he, rfl⟩; have h1 := hc c a d he; rcases ih c k1 hw with ⟨g, hs, hgk⟩ | ⟨s, g, ho, hk⟩
   . rcases B.spread c g hs with ho | hf | ⟨_, hall⟩
     . exact .inr ⟨c, g, ho, by omega⟩
     . exact hf.elim
     . obtain ⟨g', h2, h3⟩ := hall a d he; exact .inl ⟨g', h2, by omega⟩
   . exact .inr ⟨s, g, ho, by omega⟩
theorem best_least {seen : α -> Option Nat} {nx : α -> α} {op : α -> Nat -> Prop} (B : Best E goal s0 seen nx op (fun _ _ => False)) (hc : ∀ a b d, E a b d -> h a <= h b + d) {s : α} {g : Nat} (hs : seen s = some g) (hmin : ∀ s' g', op s' g' -> g + h s <= g' + h s') : ∀ m K, Way E m s0 s K -> g <= K := by
 intro m K W; rcases best_key B hc m s K W with ⟨g', h1, h2⟩ | ⟨s', g', h1, h2⟩
 . rw [hs] at h1; cases h1; exact h2
 . have := hmin s' g' h1; omega
theorem best_first {seen : α -> Option Nat} {nx : α -> α} {op : α -> Nat -> Prop} (B : Best E goal s0 seen nx op (fun _ _ => False)) (hc : ∀ a b d, E a b d -> h a <= h b + d) (hg : ∀ b, goal b -> h b = 0) {s : α} {g : Nat} (ho : op s g) (hmin : ∀ s' g', op s' g' -> g + h s <= g' + h s') :
 ∃ g0, seen s = some g0 ∧ (∃ m, Way E m s0 s g0) ∧ ∀ m b K, Way E m s0 b K -> goal b -> g0 <= K := by
 obtain ⟨g0, h0, hle⟩ := B.lead s g ho; refine ⟨g0, h0, B.way s g0 h0, fun m b K W hb => ?_⟩; obtain ⟨s', g', ho', hk⟩ := best_front B hc hg W hb; have := hmin s' g' ho'; omega
theorem best_stale {seen : α -> Option Nat} {nx : α -> α} {op op' : α -> Nat -> Prop} (B : Best E goal s0 seen nx op (fun _ _ => False)) {s1 : α} {g1 : Nat} (hop : ∀ s g, op s g -> op' s g ∨ (s = s1 ∧ g = g1)) (hop2 : ∀ s g, op' s g -> op s g) (hst : seen s1 ≠ some g1) : Best E goal s0 seen nx op' (fun _ _ => False) := by
 refine ⟨B.start, B.way, fun s g hs => ?_, fun s g ho => B.lead s g (hop2 s g ho), B.back, B.zero⟩; rcases B.spread s g hs with ho | hf | hcl
 . rcases hop s g ho with h1 | ⟨rfl, rfl⟩
   . exact .inl h1
   . exact absurd hs hst
 . exact hf.elim
 . exact .inr (.inr hcl)
theorem best_pop {seen : α -> Option Nat} {nx : α -> α} {op op' : α -> Nat -> Prop} (B : Best E goal s0 seen nx op (fun _ _ => False)) {s1 : α} {g1 : Nat} (hop : ∀ s g, op s g -> op' s g ∨ (s = s1 ∧ g = g1)) (hop2 : ∀ s g, op' s g -> op s g) : Best E goal s0 seen nx op' (fun s g => s = s1 ∧ g = g1) := by
 refine ⟨B.start, B.way, fun s g hs => ?_, fun s g ho => B.lead s g (hop2 s g ho), B.back, B.zero⟩; rcases B.spread s g hs with ho | hf | hcl
 . rcases hop s g ho with h1 | h1
   . exact .inl h1
   . exact .inr (.inl h1)
 . exact hf.elim
 . exact .inr (.inr hcl)
theorem best_done {seen : α -> Option Nat} {nx : α -> α} {op : α -> Nat -> Prop} {s1 : α} {g1 : Nat} (B : Best E goal s0 seen nx op (fun s g => s = s1 ∧ g = g1)) (hn : ¬ goal s1) (hall : ∀ b d, E s1 b d -> ∃ g', seen b = some g' ∧ g' <= g1 + d) : Best E goal s0 seen nx op (fun _ _ => False) := by
 refine ⟨B.start, B.way, fun s g hs => ?_, B.lead, B.back, B.zero⟩; rcases B.spread s g hs with ho | ⟨rfl, rfl⟩ | hcl
 . exact .inl ho
 . exact .inr (.inr ⟨hn, hall⟩)
 . exact .inr (.inr hcl)
theorem best_see {seen seen' : α -> Option Nat} {nx nx' : α -> α} {op op' : α -> Nat -> Prop} {s1 b : α} {g1 d : Nat} (B : Best E goal s0 seen nx op (fun s g => s = s1 ∧ g = g1)) (h1 : seen s1 = some g1) (he : E s1 b d) (hd : 0 < d) (hless : ∀ k, seen b = some k -> g1 + d < k)
 (hb : seen' b = some (g1 + d)) (ho : ∀ s, s ≠ b -> seen' s = seen s) (nb : nx' b = s1) (no : ∀ s, s ≠ b -> nx' s = nx s) (hop : ∀ s g, op' s g ↔ op s g ∨ (s = b ∧ g = g1 + d)) : Best E goal s0 seen' nx' op' (fun s g => s = s1 ∧ g = g1) := by
 have hb0 : s0 ≠ b := fun e => by
  have := hless 0 (e ▸ B.start); omega
 have hb1 : s1 ≠ b := fun e => by
  have := hless g1 (e ▸ h1); omega
 have low : ∀ s g, seen s = some g -> ∃ g', seen' s = some g' ∧ g' <= g := fun s g hs => by
  by_cases e : s = b
  . subst e; exact ⟨_, hb, Nat.le_of_lt (hless g hs)⟩
  . exact ⟨g, by rw [ho s e]; exact hs, Nat.le_refl _⟩
 refine ⟨by rw [ho s0 hb0]; exact B.start, fun s g hs => ?_, fun s g hs => ?_, fun s g hs => ?_, fun s g hs => ?_, fun s hs => ?_⟩
 . by_cases e : s = b
   . subst e; rw [hb] at hs; cases hs; obtain ⟨m, hm⟩ := B.way s1 g1 h1; exact ⟨m + 1, s1, g1, d, hm, he, rfl⟩
   . rw [ho s e] at hs; exact B.way s g hs
 . by_cases e : s = b
   . subst e; rw [hb] at hs; cases hs; exact .inl ((hop s _).2 (.inr ⟨rfl, rfl⟩))
   . rw [ho s e] at hs; rcases B.spread s g hs with h2 | h2 | ⟨hn, hall⟩
     . exact .inl ((hop s g).2 (.inl h2))
     . exact .inr (.inl h2)
     . refine .inr (.inr ⟨hn, fun c dd hE => ?_⟩); obtain ⟨g', h3, h4⟩ := hall c dd hE; obtain ⟨g2, h5, h6⟩ := low c g' h3; exact ⟨g2, h5, by omega⟩
 . rcases (hop s g).1 hs with h2 | ⟨rfl, rfl⟩
   . obtain ⟨g0, h3, h4⟩ := B.lead s g h2; obtain ⟨g2, h5, h6⟩ := low s g0 h3; exact ⟨g2, h5, by omega⟩
   . exact ⟨_, hb, Nat.le_refl _⟩
 . by_cases e : s = b
   . subst e; rw [hb] at hs; cases hs; refine .inr ⟨g1, d, ?_, ?_, hd, Nat.le_refl _⟩
     . rw [nb, ho s1 hb1]; exact h1
     . rw [nb]; exact he
   . rw [ho s e] at hs; rcases B.back s g hs with h2 | ⟨g0, dd, h2, h3, h4, h5⟩
     . exact .inl h2
     . obtain ⟨g2, h6, h7⟩ := low (nx s) g0 h2; exact .inr ⟨g2, dd, by rw [no s e]; exact h6, by rw [no s e]; exact h3, h4, by omega⟩
 . by_cases e : s = b
   . subst e; rw [hb] at hs; have : g1 + d = 0 := Option.some.inj hs; omega
   . rw [ho s e] at hs; exact B.zero s hs
end
end BM
end Go.Proofs.YtnkgpinadgacgaaGreatDoor
