/- Bg, Ta, Tb. -/
import Derived.Maps.OwnSet
import Derived.DeepKeys4
import Derived.Test.YtnkgpinadgacgaaGreatDoorQd
import Derived.Lib.ItoaNum
set_option maxRecDepth 1000000
namespace Go.Proofs.YtnkgpinadgacgaaGreatDoor
section
open Go.RowKit Go.Maps
theorem Tryz.laidOut0 : laidOutB Tryz.prog = true := by kernel_rfl
theorem Tryz.rowSpot : (103 : TypeId) < Tryz.prog.types.size := of_decide_eq_true (by kernel_rfl)
theorem Tryz.typesSome : ∃ m, Tryz.prog.types.size = m + 1 := by
 have h : (103 : Nat) < Tryz.prog.types.size := Tryz.rowSpot; exact ⟨Tryz.prog.types.size - 1, by omega⟩
theorem Tryz.zeroUnit (w : World) : (zeroValue 30).run Tryz.prog w = .ok (.agg #[]) w := by kernel_rfl
theorem own_map_block {w w' : World} {P : Program} {k : TypeId} {R : Value -> Option (DataW Unit × List MemPlace)} {b n : Nat} {D : DataW Unit} (h : w.ownsMap P k R b n D) (e : w'.heap[b]? = w.heap[b]?) : w'.ownsMap P k R b n D := by
 obtain ⟨es, clock, hb, r⟩ := h; exact ⟨es, clock, e.trans hb, r⟩
theorem own_map_lt {w : World} {P : Program} {k : TypeId} {R : Value -> Option (DataW Unit × List MemPlace)} {b n : Nat} {D : DataW Unit} (h : w.ownsMap P k R b n D) : b < w.heap.size := by
 obtain ⟨es, clock, hb, _⟩ := h; exact (Array.getElem?_eq_some_iff.1 hb).1
section
variable {w : World} {ops : Array Oper} {rest : List Oper} {o : Oper} {a : Act} {Q : Exit → Act → World → Prop}
end
end
section
open Go.RowKit
structure Only (S : Nat -> Prop) (w w' : World) : Prop where
 os : w'.os = w.os
 tape : w'.tape = w.tape
 output : w'.output = w.output
 size : w.heap.size <= w'.heap.size
 block : ∀ k, k < w.heap.size -> ¬ S k -> w'.heap[k]? = w.heap[k]?
theorem Only.refl (S : Nat -> Prop) (w : World) : Only S w w := ⟨rfl, rfl, rfl, zl, fun _ _ _ => rfl⟩
theorem Only.trans {S S' : Nat -> Prop} {a b c : World} (h : Only S a b) (k : Only S' b c) (hs : ∀ i, i < a.heap.size -> S' i -> S i) : Only S a c :=
 ⟨k.os.trans h.os, k.tape.trans h.tape, k.output.trans h.output, Nat.le_trans h.size k.size, fun i hi hn => (k.block i (Nat.lt_of_lt_of_le hi h.size) (fun e => hn (hs i hi e))).trans (h.block i hi hn)⟩
theorem Only.of_below {S : Nat -> Prop} {w w' : World} (h : Below w.heap.size w w') : Only S w w' := ⟨h.os, h.tape, h.output, h.size, fun k hk _ => h.block k hk⟩
theorem Only.of_grown {w w' : World} {b : Nat} (h : w.grownBy w' (some b)) : Only (fun k => k = b) w w' := ⟨h.os, h.tape, h.output, h.size, fun k hk hn => h.block k hk (fun e => hn (Option.some.inj e))⟩
theorem Only.alloc {S : Nat -> Prop} {a w : World} (h : Only S a w) (o : Obj) : Only S a (w.alloc o) :=
 h.trans (Only.of_below ((Below.refl _ _).alloc zl _) : Only (fun _ => False) w _) (fun _ _ e => e.elim)
theorem Only.setCell {S : Nat -> Prop} {a w : World} (h : Only S a w) {p : Addr} (hp : p.block < a.heap.size -> S p.block) (u : Value) : Only S a (w.setCell p u) := by
 have h2 : Only (fun k => k = p.block) w (w.setCell p u) := ⟨rfl, rfl, rfl, by simp, fun k _ hn => Below.heap_setCell w p u k hn⟩
 exact h.trans h2 (fun i hi e => by subst e; exact hp hi)
theorem Only.drew {S : Nat -> Prop} {a w : World} (h : Only S a w) : Only S a w.drew := ⟨h.os, h.tape, h.output, h.size, h.block⟩
theorem Only.drewN {S : Nat -> Prop} {a w : World} (h : Only S a w) (n : Nat) : Only S a (w.drewN n) := ⟨h.os, h.tape, h.output, h.size, h.block⟩
theorem Only.mono {S S' : Nat -> Prop} {a w : World} (h : Only S a w) (hs : ∀ i, i < a.heap.size -> S i -> S' i) : Only S' a w := ⟨h.os, h.tape, h.output, h.size, fun k hk hn => h.block k hk (fun e => hn (hs k hk e))⟩
theorem Only.below {S : Nat -> Prop} {a w : World} (h : Only S a w) {B : Nat} (hB : B <= a.heap.size) (hs : ∀ i, S i -> B <= i) : Below B a w :=
 ⟨h.os, h.tape, h.output, h.size, fun k hk => h.block k (Nat.lt_of_lt_of_le hk hB) (fun e => by have := hs k e; omega)⟩
theorem Only.cell {S : Nat -> Prop} {a w : World} (h : Only S a w) {p : Addr} (hp : p.block < a.heap.size) (hn : ¬ S p.block) : w.cell? p = a.cell? p := World.cell?_of_block (w := a) (h.block p.block hp hn)
theorem Only.frozen {S : Nat -> Prop} {a w : World} (h : Only S a w) {p : Addr} (hp : p.block < a.heap.size) (hn : ¬ S p.block) : w.frozen? p = a.frozen? p := World.frozen?_of_block (w := a) (h.block p.block hp hn)
end
namespace M
theorem anyB_false {p : Nat -> Bool} {n : Nat} : anyB p n = false ↔ ∀ i, i < n -> p i = false := by
 constructor
 . intro h i hi; cases e : p i with
   | false => rfl
   | true => rw [anyB_of e hi] at h; cases h
 . intro h; cases e : anyB p n with
   | false => rfl
   | true => obtain ⟨i, hi, hp⟩ := anyB_true e; rw [h i hi] at hp; cases hp
theorem anyB_iff {p : Nat -> Bool} {n : Nat} : anyB p n = true ↔ ∃ i, i < n ∧ p i = true :=
 ⟨anyB_true, fun ⟨_, hi, hp⟩ => anyB_of hp hi⟩
end M
section
open Go.RowKit M
theorem upto_step {p : Nat -> Bool} {k : Nat} (hb : p k = false) (hg : ∀ j, j < k -> p j = false) : ∀ j, j < k + 1 -> p j = false := by
 intro j hj; by_cases e : j = k
 . subst e; exact hb
 . exact hg j (by omega)
end
section
namespace TX
open Go.Lib
def isDig (b : UInt8) : Bool := decide (48 <= b.toNat) && decide (b.toNat <= 57)
def isCell (b : UInt8) : Bool := decide (b.toNat = 46) || decide (b.toNat = 35)
def NoDig (l : List UInt8) : Prop := ∀ b r, l = b :: r -> isDig b = false
def more : Nat -> Nat -> List UInt8 -> List UInt8 × Nat
 | 0, n, l => (l, n)
 | _ + 1, n, [] => ([], n)
 | k + 1, n, b :: r => if isDig b then more k (10 * n + (b.toNat - 48)) r else (b :: r, n)
def number : List UInt8 -> List UInt8 × Option Nat
 | [] => ([], none)
 | b :: r => if isDig b then (if b.toNat = 48 then (r, some 0) else ((more 4 (b.toNat - 48) r).1, some (more 4 (b.toNat - 48) r).2)) else (b :: r, none)
theorem number_cons (b : UInt8) (r : List UInt8) : number (b :: r) = if isDig b then (if b.toNat = 48 then (r, some 0) else ((more 4 (b.toNat - 48) r).1, some (more 4 (b.toNat - 48) r).2)) else (b :: r, none) := rfl
def take (c : UInt8) : List UInt8 -> List UInt8 × Bool
 | [] => ([], false)
 | b :: r => if b = c then (r, true) else (b :: r, false)
def takes : List UInt8 -> List UInt8 -> List UInt8 × Bool
 | [], l => (l, true)
 | c :: cs, l => if (take c l).2 then takes cs (take c l).1 else ((take c l).1, false)
def stepD (n : Nat) (b : UInt8) : Nat := 10 * n + (b.toNat - 48)
theorem isDig_of {d : Nat} (h : d < 10) : isDig (UInt8.ofNat (48 + d)) = true ∧ (UInt8.ofNat (48 + d)).toNat = 48 + d := by
 have e : (UInt8.ofNat (48 + d)).toNat = 48 + d := by rw [UInt8.toNat_ofNat']; omega
 refine ⟨?_, e⟩; unfold isDig; rw [e]; simp
 omega
theorem isDig_lo {b : UInt8} (h : isDig b = true) : 48 <= b.toNat ∧ b.toNat <= 57 := by
 unfold isDig at h; simpa using h
theorem ofNat_back {b : UInt8} (h : isDig b = true) : UInt8.ofNat (48 + (b.toNat - 48)) = b := by
 have := isDig_lo h; rw [show 48 + (b.toNat - 48) = b.toNat by omega]; exact UInt8.ofNat_toNat
theorem dec_snoc {n d : Nat} (hn : 1 <= n) (hd : d < 10) : decDigits (10 * n + d) = decDigits n ++ [UInt8.ofNat (48 + d)] := by
 rw [decDigits, dif_neg (by omega), show (10 * n + d) / 10 = n by omega, show (10 * n + d) % 10 = d by omega]
theorem dec_fold : ∀ (ds : List UInt8) (n : Nat), 1 <= n -> (∀ b ∈ ds, isDig b = true) -> decDigits (ds.foldl stepD n) = decDigits n ++ ds
 | [], n, _, _ => by simp
 | b :: ds, n, hn, hd => by
   have hb := hd b (by simp); have h1 := isDig_lo hb; rw [List.foldl_cons, dec_fold ds _ (by unfold stepD; omega) (fun x hx => hd x (by simp [hx]))]; unfold stepD; rw [dec_snoc hn (by omega), ofNat_back hb]; simp
theorem fold_ge : ∀ (ds : List UInt8) (n : Nat), n <= ds.foldl stepD n
 | [], n => Nat.le_refl n
 | b :: ds, n => Nat.le_trans (by unfold stepD; omega) (fold_ge ds (stepD n b))
theorem dec_parts (n : Nat) (hn : 1 <= n) : ∃ (d : Nat) (ds : List UInt8), 1 <= d ∧ d <= 9 ∧ decDigits n = UInt8.ofNat (48 + d) :: ds ∧ (∀ b ∈ ds, isDig b = true) ∧ ds.foldl stepD d = n := by
 induction n using Nat.strongRecOn with
 | _ n ih =>
   by_cases h : n < 10
   . exact ⟨n, [], hn, by omega, by rw [decDigits, dif_pos h], by simp, rfl⟩
   . obtain ⟨d, ds, h1, h2, h3, h4, h5⟩ := ih (n / 10) (by omega) (by omega); have hm := isDig_of (d := n % 10) (by omega); refine ⟨d, ds ++ [UInt8.ofNat (48 + n % 10)], h1, h2, ?_, ?_, ?_⟩
     . rw [decDigits, dif_neg h, h3]; rfl
     . intro b hb; rcases List.mem_append.1 hb with hb | hb
       . exact h4 b hb
       . rw [List.mem_singleton.1 hb]; exact hm.1
     . rw [List.foldl_append, h5]; show stepD (n / 10) _ = n; unfold stepD; rw [hm.2]; omega
theorem more_form : ∀ (k n : Nat) (l : List UInt8), ∃ ds, l = ds ++ (more k n l).1 ∧ ds.length <= k ∧ (∀ b ∈ ds, isDig b = true) ∧ (more k n l).2 = ds.foldl stepD n ∧ (ds.length < k -> NoDig (more k n l).1)
 | 0, n, l => ⟨[], rfl, Nat.le_refl _, by simp, rfl, fun h => absurd h (Nat.lt_irrefl _)⟩
 | k + 1, n, [] => ⟨[], rfl, Nat.zero_le _, by simp, rfl, fun _ b r h => by cases h⟩
 | k + 1, n, b :: r => by
   by_cases hb : isDig b = true
   . obtain ⟨ds, h1, h2, h3, h4, h5⟩ := more_form k (10 * n + (b.toNat - 48)) r; have e : more (k + 1) n (b :: r) = more k (10 * n + (b.toNat - 48)) r := by
      show (if isDig b then _ else _) = _; rw [if_pos hb]
     rw [e]; refine ⟨b :: ds, by rw [List.cons_append, <- h1], by simpa using h2, ?_, h4, fun h => h5 (by simpa using h)⟩; intro x hx; rcases List.mem_cons.1 hx with rfl | hx
     . exact hb
     . exact h3 x hx
   . have e : more (k + 1) n (b :: r) = (b :: r, n) := by
      show (if isDig b then _ else _) = _; rw [if_neg hb]
     rw [e]; exact ⟨[], rfl, Nat.zero_le _, by simp, rfl, fun _ x t h => by cases h; simpa using hb⟩
theorem dec_len5 {n : Nat} (h : n <= 99999) : (decDigits n).length <= 5 := by
 rw [decDigits_length]; rcases Nat.lt_or_ge (nDigits n) 6 with h6 | h6
 . omega
 . exfalso; have h1 : ∀ (k m : Nat), k + 1 <= nDigits m -> 1 <= k -> 10 ^ k <= m := by
    intro k; induction k with
    | zero => intro m _ h; omega
    | succ k ih =>
      intro m hm _; by_cases hs : m < 10
      . rw [nDigits_small hs] at hm; omega
      . rw [nDigits_big hs] at hm; by_cases hk : k = 0
        . subst hk; simp; omega
        . have := ih (m / 10) (by omega) (by omega); rw [Nat.pow_succ]; omega
   have := h1 5 n (by omega) (by omega); omega
theorem number_form {l r : List UInt8} {n : Nat} (h : number l = (r, some n)) : l = decDigits n ++ r ∧ n <= 99999 := by
 cases l with
 | nil => cases h
 | cons b t =>
   rw [number_cons] at h; by_cases hb : isDig b = true
   . rw [if_pos hb] at h; by_cases h0 : b.toNat = 48
     . rw [if_pos h0] at h; cases h; refine ⟨?_, by omega⟩; rw [decDigits_one (by omega)]; have := ofNat_back hb; rw [h0] at this; rw [<- this]; rfl
     . rw [if_neg h0] at h; obtain ⟨ds, h1, h2, h3, h4, _⟩ := more_form 4 (b.toNat - 48) t; simp only [Prod.mk.injEq, Option.some.injEq] at h; rw [h.1] at h1; rw [h.2] at h4; have hlo := isDig_lo hb; have hd := dec_fold ds (b.toNat - 48) (by omega) h3; rw [<- h4, decDigits_one (show b.toNat - 48 < 10 by omega), ofNat_back hb] at hd; refine ⟨by rw [hd, h1]; rfl, ?_⟩; have hb5 : ∀ (ds : List UInt8) (m : Nat), (∀ b ∈ ds, isDig b = true) -> ds.foldl stepD m <= (m + 1) * 10 ^ ds.length - 1 := by
        intro ds; induction ds with
        | nil => intro m _; simp
        | cons x xs ih =>
          intro m hx; have hxl := isDig_lo (hx x (by simp)); refine Nat.le_trans (ih (stepD m x) (fun y hy => hx y (by simp [hy]))) ?_; have hle : stepD m x + 1 <= 10 * (m + 1) := by unfold stepD; omega
          have := Nat.mul_le_mul_right (10 ^ xs.length) hle; rw [List.length_cons, Nat.pow_succ]; have e : (m + 1) * (10 ^ xs.length * 10) = 10 * (m + 1) * 10 ^ xs.length := by
           rw [Nat.mul_comm (10 ^ xs.length) 10, <- Nat.mul_assoc, Nat.mul_comm (m + 1) 10]
          omega
       have h6 := hb5 ds (b.toNat - 48) h3; rw [<- h4] at h6; have h7 : 10 ^ ds.length <= 10 ^ 4 := Nat.pow_le_pow_right (by omega) h2; have h8 : (b.toNat - 48 + 1) * 10 ^ ds.length <= 10 * 10 ^ 4 := Nat.mul_le_mul (by omega) h7; omega
   . rw [if_neg hb] at h; cases h
end TX
end
section
namespace TX
open Go.Lib
def headB : List UInt8 := [121, 97, 114, 100, 32]
def sep : List Nat -> List UInt8
 | [] => []
 | [n] => decDigits n
 | n :: m :: r => decDigits n ++ 32 :: sep (m :: r)
def lineT (ns : List Nat) : List UInt8 := sep ns ++ [10]
def rowsT (rows : List (List UInt8)) : List UInt8 := rows.flatMap (· ++ [10])
def chunk (C R : Nat) (cs : List UInt8) : List (List UInt8) := (List.range R).map fun r => (cs.drop (r * C)).take C
def cartT (C : Nat) (c : Int × Int) : List UInt8 := lineT [c.1.toNat / C, c.1.toNat % C, c.2.toNat / C, c.2.toNat % C]
def cartsT (C : Nat) (cs : List (Int × Int)) : List UInt8 := cs.flatMap (cartT C)
def writeT (R C : Nat) (cs : List UInt8) (carts : List (Int × Int)) (U : Nat) : List UInt8 := headB ++ (lineT [U] ++ (rowsT (chunk C R cs) ++ cartsT C carts))
def andP {α β : Type} (p : List UInt8 × Option α) (f : α -> List UInt8 -> List UInt8 × Option β) : List UInt8 × Option β :=
 match p.2 with
 | none => (p.1, none)
 | some a => f a p.1
def okP {α : Type} (p : List UInt8 × Bool) (f : List UInt8 -> List UInt8 × Option α) : List UInt8 × Option α := if p.2 then f p.1 else (p.1, none)
def budgetP (l : List UInt8) : List UInt8 × Option Nat := okP (takes headB l) fun l1 => andP (number l1) fun n l2 => okP (take 10 l2) fun l3 => (l3, some n)
def cellsP : Nat -> List UInt8 -> List UInt8 × List UInt8
 | 0, l => ([], l)
 | _ + 1, [] => ([], [])
 | k + 1, b :: r => if isCell b then (b :: (cellsP k r).1, (cellsP k r).2) else ([], b :: r)
def beforeCell : List UInt8 -> Bool
 | [] => false
 | b :: _ => isCell b
def moreRows (C : Nat) : Nat -> List UInt8 -> List UInt8 -> Nat -> List UInt8 × Option (List UInt8 × Nat)
 | 0, l, acc, n => (l, some (acc, n))
 | f + 1, l, acc, n => if beforeCell l then (if (cellsP C l).1.length < C then ((cellsP C l).2, none) else okP (take 10 (cellsP C l).2) fun l1 => moreRows C f l1 (acc ++ (cellsP C l).1) (n + 1)) else (l, some (acc, n))
def rowsP (l : List UInt8) : List UInt8 × Option (List UInt8 × Nat × Nat) :=
 if (cellsP l.length l).1 = [] then ((cellsP l.length l).2, none) else
  okP (take 10 (cellsP l.length l).2) fun l1 => andP (moreRows (cellsP l.length l).1.length (l1.length + 1) l1 (cellsP l.length l).1 1) fun a l2 => (l2, some (a.1, a.2, (cellsP l.length l).1.length))
def atF (R C a b : Nat) : Int := if a < R ∧ b < C then ((a * C + b : Nat) : Int) else -1
def cartP (R C : Nat) (l : List UInt8) : List UInt8 × Option (Int × Int) :=
 andP (number l) fun a l => okP (take 32 l) fun l => andP (number l) fun b l => okP (take 32 l) fun l => andP (number l) fun c l => okP (take 32 l) fun l => andP (number l) fun d l => okP (take 10 l) fun l => (l, some (atF R C a b, atF R C c d))
def cartsP (R C : Nat) : Nat -> List UInt8 -> List (Int × Int) -> List UInt8 × Option (List (Int × Int))
 | 0, l, acc => (l, some acc)
 | f + 1, l, acc => if acc ≠ [] ∧ l = [] then (l, some acc) else andP (cartP R C l) fun c l1 => cartsP R C f l1 (acc ++ [c])
structure Told where
 R : Nat
 C : Nat
 cs : List UInt8
 carts : List (Int × Int)
 U : Nat
def readT (l : List UInt8) : List UInt8 × Option Told :=
 andP (budgetP l) fun u l1 => andP (rowsP l1) fun q l2 => andP (cartsP q.2.1 q.2.2 (l2.length + 1) l2 []) fun cs l3 => (l3, some ⟨q.2.1, q.2.2, q.1, cs, u⟩)
theorem andP_some {α β : Type} {p : List UInt8 × Option α} {f : α -> List UInt8 -> List UInt8 × Option β} {r : List UInt8} {b : β} (h : andP p f = (r, some b)) : ∃ a l, p = (l, some a) ∧ f a l = (r, some b) := by
 obtain ⟨l, o⟩ := p; cases o with
 | none => cases h
 | some a => exact ⟨a, l, rfl, h⟩
theorem okP_some {α : Type} {p : List UInt8 × Bool} {f : List UInt8 -> List UInt8 × Option α} {r : List UInt8} {b : α} (h : okP p f = (r, some b)) : ∃ l, p = (l, true) ∧ f l = (r, some b) := by
 obtain ⟨l, o⟩ := p; cases o with
 | false => cases h
 | true => exact ⟨l, rfl, h⟩
theorem andP_mk {α β : Type} (l : List UInt8) (a : α) (f : α -> List UInt8 -> List UInt8 × Option β) : andP (l, some a) f = f a l := rfl
theorem okP_mk {α : Type} (l : List UInt8) (f : List UInt8 -> List UInt8 × Option α) : okP (l, true) f = f l := rfl
theorem take_yes (c : UInt8) (r : List UInt8) : take c (c :: r) = (r, true) := by
 show (if c = c then _ else _) = _; rw [if_pos rfl]
theorem take_form {c : UInt8} {l r : List UInt8} (h : take c l = (r, true)) : l = c :: r := by
 cases l with
 | nil => cases h
 | cons b t =>
   have h' : (if b = c then (t, true) else (b :: t, false)) = (r, true) := h; by_cases hb : b = c
   . rw [if_pos hb] at h'; cases h'
     rw [hb]
   . rw [if_neg hb] at h'; cases h'
theorem takes_form : ∀ {cs l r : List UInt8}, takes cs l = (r, true) -> l = cs ++ r
 | [], l, r, h => by cases h; rfl
 | c :: cs, l, r, h => by
   have h' : (if (take c l).2 then takes cs (take c l).1 else ((take c l).1, false)) = (r, true) := h; by_cases ht : (take c l).2 = true
   . rw [if_pos ht] at h'; have h1 : take c l = ((take c l).1, true) := Prod.ext rfl ht; have h2 := takes_form h'; rw [take_form h1, h2]; rfl
   . rw [if_neg ht] at h'; cases h'
theorem cellsP_run : ∀ (k : Nat) (ds r : List UInt8), ds.length <= k -> (∀ b ∈ ds, isCell b = true) -> (ds.length = k ∨ beforeCell r = false) -> cellsP k (ds ++ r) = (ds, r)
 | 0, ds, r, hk, _, _ => by
   obtain rfl : ds = [] := List.length_eq_zero_iff.1 (by omega); rfl
 | k + 1, [], r, _, _, hr => by
   cases r with
   | nil => rfl
   | cons b t =>
     have h : isCell b = false := by
      rcases hr with hr | hr
      . simp at hr
      . exact hr
     show (if isCell b then _ else _) = _; rw [if_neg (by rw [h]; decide)]
 | k + 1, b :: ds, r, hk, hd, hr => by
   show (if isCell b then (b :: (cellsP k (ds ++ r)).1, (cellsP k (ds ++ r)).2) else _) = _; rw [if_pos (hd b (by simp)), cellsP_run k ds r (by simpa using hk) (fun x hx => hd x (by simp [hx])) (by simpa using hr)]
theorem cellsP_form : ∀ (k : Nat) (l : List UInt8), l = (cellsP k l).1 ++ (cellsP k l).2 ∧ (cellsP k l).1.length <= k ∧ (∀ b ∈ (cellsP k l).1, isCell b = true) ∧ ((cellsP k l).1.length < k -> beforeCell (cellsP k l).2 = false)
 | 0, l => ⟨rfl, Nat.le_refl _, by simp [cellsP], fun h => absurd h (Nat.lt_irrefl _)⟩
 | k + 1, [] => ⟨rfl, Nat.zero_le _, by simp [cellsP], fun _ => rfl⟩
 | k + 1, b :: r => by
   by_cases hb : isCell b = true
   . have e : cellsP (k + 1) (b :: r) = (b :: (cellsP k r).1, (cellsP k r).2) := by
      show (if isCell b then _ else _) = _; rw [if_pos hb]
     obtain ⟨h1, h2, h3, h4⟩ := cellsP_form k r; rw [e]; refine ⟨by rw [List.cons_append, <- h1], by simpa using h2, fun x hx => ?_, fun h => h4 (by simpa using h)⟩; rcases List.mem_cons.1 hx with rfl | hx
     . exact hb
     . exact h3 x hx
   . have e : cellsP (k + 1) (b :: r) = ([], b :: r) := by
      show (if isCell b then _ else _) = _; rw [if_neg hb]
     rw [e]; exact ⟨rfl, Nat.zero_le _, by simp, fun _ => by simpa [beforeCell] using hb⟩
def RowC (C : Nat) (row : List UInt8) : Prop := row.length = C ∧ ∀ b ∈ row, isCell b = true
theorem rowsT_cons (row : List UInt8) (rows : List (List UInt8)) : rowsT (row :: rows) = row ++ 10 :: rowsT rows := by
 simp [rowsT]
theorem rows_form (C : Nat) : ∀ (f : Nat) (l acc : List UInt8) (n : Nat) {r cs : List UInt8} {n' : Nat}, moreRows C f l acc n = (r, some (cs, n')) ->
 ∃ rows, l = rowsT rows ++ r ∧ (∀ row ∈ rows, RowC C row) ∧ cs = acc ++ rows.flatten ∧ n' = n + rows.length
 | 0, l, acc, n, r, cs, n', h => by
   cases h; exact ⟨[], rfl, by simp, by simp, rfl⟩
 | f + 1, l, acc, n, r, cs, n', h => by
   have h' : (if beforeCell l then (if (cellsP C l).1.length < C then ((cellsP C l).2, none) else okP (take 10 (cellsP C l).2) fun l1 => moreRows C f l1 (acc ++ (cellsP C l).1) (n + 1)) else (l, some (acc, n))) = (r, some (cs, n')) := h; by_cases hb : beforeCell l = true
   . rw [if_pos hb] at h'; obtain ⟨c1, c2, c3, _⟩ := cellsP_form C l; by_cases hl : (cellsP C l).1.length < C
     . rw [if_pos hl] at h'; cases h'
     . rw [if_neg hl] at h'; obtain ⟨l1, ht, h2⟩ := okP_some h'; obtain ⟨rows, e1, e2, e3, e4⟩ := rows_form C f l1 _ _ h2; have h3 := take_form ht; refine ⟨(cellsP C l).1 :: rows, ?_, ?_, ?_, ?_⟩
       . rw [rowsT_cons, List.append_assoc, List.cons_append, <- e1, <- h3, <- c1]
       . intro row hrow; rcases List.mem_cons.1 hrow with rfl | hrow
         . exact ⟨by omega, c3⟩
         . exact e2 row hrow
       . rw [e3]; simp
       . rw [e4]; simp; omega
   . rw [if_neg hb] at h'; cases h'
     exact ⟨[], rfl, by simp, by simp, rfl⟩
theorem line4_form {R C : Nat} {l r : List UInt8} {v : Int × Int} (h : cartP R C l = (r, some v)) : ∃ a b c d, l = lineT [a, b, c, d] ++ r ∧ v = (atF R C a b, atF R C c d) := by
 unfold cartP at h; obtain ⟨a, l1, h1, h⟩ := andP_some h; obtain ⟨l2, h2, h⟩ := okP_some h; obtain ⟨b, l3, h3, h⟩ := andP_some h; obtain ⟨l4, h4, h⟩ := okP_some h; obtain ⟨c, l5, h5, h⟩ := andP_some h; obtain ⟨l6, h6, h⟩ := okP_some h; obtain ⟨d, l7, h7, h⟩ := andP_some h; obtain ⟨l8, h8, h⟩ := okP_some h; cases h; refine ⟨a, b, c, d, ?_, rfl⟩; rw [(number_form h1).1, take_form h2, (number_form h3).1, take_form h4, (number_form h5).1, take_form h6, (number_form h7).1, take_form h8]; simp [lineT, sep]
theorem at_form {R C a b : Nat} (h : 0 <= atF R C a b) : (atF R C a b).toNat / C = a ∧ (atF R C a b).toNat % C = b ∧ (atF R C a b).toNat < R * C := by
 unfold atF at h ⊢; by_cases hq : a < R ∧ b < C
 . rw [if_pos hq]; obtain ⟨ha, hb⟩ := hq; have e : (((a * C + b : Nat) : Int)).toNat = a * C + b := Int.toNat_natCast _; rw [e]; refine ⟨?_, ?_, ?_⟩
   . rw [Nat.mul_comm, Nat.mul_add_div (by omega), Nat.div_eq_of_lt hb, Nat.add_zero]
   . rw [Nat.mul_comm, Nat.mul_add_mod, Nat.mod_eq_of_lt hb]
   . have := Nat.mul_le_mul_right C (show a + 1 <= R from ha); rw [Nat.succ_mul] at this; omega
 . rw [if_neg hq] at h; omega
theorem carts_form (R C : Nat) : ∀ (f : Nat) (l : List UInt8) (acc : List (Int × Int)) {r : List UInt8} {acc' : List (Int × Int)}, l.length < f -> cartsP R C f l acc = (r, some acc') ->
 r = [] ∧ acc' ≠ [] ∧ ∃ cs, acc' = acc ++ cs ∧ (∀ c ∈ cs, c.1 < ((R * C : Nat) : Int) ∧ c.2 < ((R * C : Nat) : Int)) ∧ ((∀ c ∈ cs, 0 <= c.1 ∧ 0 <= c.2) -> l = cartsT C cs)
 | 0, _, _, _, _, hf, _ => by omega
 | f + 1, l, acc, r, acc', hf, h => by
   have h' : (if acc ≠ [] ∧ l = [] then (l, some acc) else andP (cartP R C l) fun c l1 => cartsP R C f l1 (acc ++ [c])) = (r, some acc') := h; by_cases hd : acc ≠ [] ∧ l = []
   . rw [if_pos hd] at h'; cases h'
     exact ⟨hd.2, hd.1, [], by simp, by simp, fun _ => hd.2⟩
   . rw [if_neg hd] at h'; obtain ⟨v, l1, h1, h2⟩ := andP_some h'; obtain ⟨a, b, c, d, e1, e2⟩ := line4_form h1; have hlen : l1.length < f := by
      have : 1 <= (lineT [a, b, c, d]).length := by simp [lineT]
      rw [e1, List.length_append] at hf; omega
     obtain ⟨hr, hne, cs, e3, e4, e5⟩ := carts_form R C f l1 _ hlen h2; have hat : ∀ x y, atF R C x y < ((R * C : Nat) : Int) ∨ atF R C x y < 0 := fun x y => by
      by_cases h0 : 0 <= atF R C x y
      . have := (at_form h0).2.2; left
        omega
      . right; omega
     refine ⟨hr, hne, v :: cs, by rw [e3]; simp, ?_, ?_⟩
     . intro x hx; rcases List.mem_cons.1 hx with rfl | hx
       . have n0 : (0 : Int) <= ((R * C : Nat) : Int) := by omega
         rw [e2]; exact ⟨(hat a b).elim id (fun h => by omega), (hat c d).elim id (fun h => by omega)⟩
       . exact e4 x hx
     . intro hall; have hv := hall v (by simp); rw [e2] at hv; obtain ⟨p1, p2, _⟩ := at_form hv.1; obtain ⟨p3, p4, _⟩ := at_form hv.2; rw [e1, e5 (fun x hx => hall x (by simp [hx]))]; show _ = cartT C v ++ cartsT C cs; rw [e2]; show _ = lineT [_, _, _, _] ++ _; rw [p1, p2, p3, p4]
theorem chunk_of (C : Nat) : ∀ (rows : List (List UInt8)), (∀ row ∈ rows, row.length = C) -> chunk C rows.length rows.flatten = rows
 | [], _ => rfl
 | row :: rows, h => by
   have h1 := h row (by simp); have e : chunk C (row :: rows).length (row :: rows).flatten = row :: chunk C rows.length rows.flatten := by
    unfold chunk; rw [List.length_cons, List.range_succ_eq_map, List.map_cons, List.map_map, List.flatten_cons]; congr 1
    . simp only [Nat.zero_mul, List.drop_zero]; rw [<- h1]; exact List.take_left
    . refine List.map_congr_left fun r _ => ?_
      show ((row ++ rows.flatten).drop ((r + 1) * C)).take C = _; rw [Nat.succ_mul, Nat.add_comm, <- List.drop_drop, show (row ++ rows.flatten).drop C = rows.flatten by rw [<- h1]; exact List.drop_left]
   rw [e, chunk_of C rows fun x hx => h x (by simp [hx])]
theorem write_read {l r : List UInt8} {t : Told} (h : readT l = (r, some t)) : r = [] ∧ 1 <= t.R ∧ 1 <= t.C ∧ t.cs.length = t.R * t.C ∧ (∀ b ∈ t.cs, isCell b = true) ∧ t.carts ≠ [] ∧ t.U <= 99999 ∧
 ((∀ c ∈ t.carts, 0 <= c.1 ∧ 0 <= c.2) -> l = writeT t.R t.C t.cs t.carts t.U) := by
 unfold readT at h; obtain ⟨u, l1, h1, h⟩ := andP_some h; obtain ⟨q, l2, h2, h⟩ := andP_some h; obtain ⟨cs, l3, h3, h⟩ := andP_some h; cases h; unfold budgetP at h1; obtain ⟨k1, b1, h1⟩ := okP_some h1; obtain ⟨n, k2, b2, h1⟩ := andP_some h1; obtain ⟨k3, b3, h1⟩ := okP_some h1; cases h1; unfold rowsP at h2; obtain ⟨c1, c2, c3, _⟩ := cellsP_form l1.length l1; by_cases he : (cellsP l1.length l1).1 = []
 . rw [if_pos he] at h2; cases h2
 . rw [if_neg he] at h2; obtain ⟨m1, d1, h2⟩ := okP_some h2; obtain ⟨a, m2, d2, h2⟩ := andP_some h2; obtain ⟨acs, an⟩ := a; cases h2; obtain ⟨rows, f1, f2, f3, f4⟩ := rows_form _ _ _ _ _ d2; obtain ⟨g1, g2, cs', g3, g4, g5⟩ := carts_form _ _ _ _ _ (Nat.lt_succ_self _) h3; have g3' : cs = cs' := by simpa using g3
   subst g3'; generalize hrow : (cellsP l1.length l1).1 = row at *; have hrl : 1 <= row.length := by
    cases row with
    | nil => exact absurd rfl he
    | cons _ _ => simp
   have hall : ∀ x ∈ row :: rows, RowC row.length x := by
    intro x hx; rcases List.mem_cons.1 hx with rfl | hx
    . exact ⟨rfl, c3⟩
    . exact f2 x hx
   have hcs : acs = (row :: rows).flatten := by rw [f3]; rfl
   have hn : an = (row :: rows).length := by rw [f4]; simp; omega
   have hch := chunk_of row.length (row :: rows) (fun x hx => (hall x hx).1); refine ⟨g1, by show 1 <= an; rw [hn]; simp, hrl, ?_, ?_, g2, (number_form b2).2, fun hpos => ?_⟩
   . show acs.length = an * row.length; have hsum : ∀ (l : List (List UInt8)), (∀ x ∈ l, RowC row.length x) -> l.flatten.length = l.length * row.length := by
      intro l; induction l with
      | nil => intro _; simp
      | cons x xs ih =>
        intro hx; rw [List.flatten_cons, List.length_append, ih (fun y hy => hx y (by simp [hy])), (hx x (by simp)).1, List.length_cons, Nat.succ_mul]; omega
     rw [hcs, hn]; exact hsum _ hall
   . intro b hb; have hb' : b ∈ (row :: rows).flatten := by rw [<- hcs]; exact hb
     obtain ⟨x, hx, hbx⟩ := List.mem_flatten.1 hb'; exact (hall x hx).2 b hbx
   . show l = writeT an row.length acs cs u; have hl2 := g5 hpos; unfold writeT; rw [hcs, hn, hch, rowsT_cons, takes_form b1, (number_form b2).1, take_form b3, c1, take_form d1, f1, <- hl2]; simp [lineT, sep]
end TX
end
end Go.Proofs.YtnkgpinadgacgaaGreatDoor
