/- Bb, Bc. -/
import Derived.Deep.OwnRows
import Derived.Laws.CopyOwn
import Derived.Test.YtnkgpinadgacgaaGreatDoorQb
set_option maxRecDepth 1000000
set_option maxHeartbeats 400000
namespace Go.Proofs.YtnkgpinadgacgaaGreatDoor
section
open Go.RowKit
theorem wpList_make_all {P : Program} (w : World) {ops : Array Oper} {rest : List Oper} {o : Oper} {a : Act} {Q : Exit -> Act -> World -> Prop}
 (hg : o.guard = none) (l c : Operand) (t : TypeId) (hop : o.op = Op.makeSlice t l c)
 (e : TypeId) (z : Value) (size bytes : Nat) (h1 : P.underlying t = some (.slice e)) (hinfo : (P.info? e).map (fun i => (i.zero, i.size, i.bytes)) = some (some z, size, bytes))
 (kl kc : IntKind) (L C : Int) (n : Nat) (hl : a.eval l = .int kl L) (hc : a.eval c = .int kc C) (hL : L = (n : Int)) (hC : C = (n : Int)) (b2 : bytes * n <= 281474976710656) (b3 : n <= 9223372036854775807)
 (hK : wpList P ops Q rest (a.put o.dst (.slice (some ⟨w.heap.size, 0, none⟩) n n)) (w.alloc (.cells (madeCells z.cells (n * size)) e))) :
 wpList P ops Q (o :: rest) a w := by
 obtain ⟨i, h2, h3, h4, h5⟩ := info_parts hinfo; refine wpList_plain hg fun K hK' => ?_
 have hb' : (i.bytes : Int) * (n : Int) <= 281474976710656 := by
  have h : ((i.bytes * n : Nat) : Int) <= 281474976710656 := by rw [h5]; omega
  rwa [Int.natCast_mul] at h
 have hrun := run_make (P := P) w t e i z h1 h2 h3 kl kc n n (by omega) (Int.le_refl _) hb' (by omega); simp only [Int.toNat_natCast, h4] at hrun; subst hL; subst hC; unfold Oper.wp; simp [execOp, hop, hl, hc, hrun, Result.andThen]
 exact hK' _ _ hK
theorem rowIs_made {w : World} (zs : Array Value) (n : Nat) (t : TypeId) (f : Nat -> Value) (h : ∀ i, i < n -> zs[i % zs.size]! = f i) : (w.alloc (.cells (madeCells zs n) t)).rowIs w.heap.size t n f := by
 have := World.rowIs_alloc w (madeCells zs n) t f (fun i hi => by rw [size_madeCells] at hi; simp [madeCells, hi, h i hi]); rwa [size_madeCells] at this
theorem run_copy_rowS {P : Program} (w : World) (dT sT ty elem : TypeId) (sz g o dLen dCap : Nat) (a : Addr) (sLen sCap : Nat) (cur : Array Value) (t : TypeId) (cs : List Value)
 (hu : P.underlying dT = some (.slice elem)) (hs : (P.info? elem).map (·.size) = some sz)
 (hg : w.heap[g]? = some (.cells cur t (0, 0))) (hn : cs.length = Nat.min sLen dLen * sz)
 (hsrc : ∀ j v, cs[j]? = some v -> w.cell? (a.add j) = some v) (hfit : o + cs.length <= cur.size) (h1 : ∀ v ∈ cs, v.oneCell' = true) :
 (Builtin.copy_ #[dT, sT] ty #[.slice (some ⟨g, o, none⟩) dLen dCap, .slice (some a) sLen sCap]).run P w =
  .ok (goInt (Nat.min sLen dLen)) (w.setRow g (cur.toList.take o ++ cs ++ cur.toList.drop (o + cs.length)).toArray) := by
 have hl := run_loadCells_list (P := P) w a cs hsrc; have hst := run_storeCells_at P g o t cs 0 cur w hg (by simpa using hfit) h1; cases hq : P.info? elem with
 | none => simp [hq] at hs
 | some i =>
   have hi : i.size = sz := by simpa [hq] using hs
   rw [hn] at hl; simp [Builtin.copy_, run_underlying hu, Builtin.lenOf, Builtin.firstCells, sizeOf, typeInfo, hq, hi, hl, hst]
theorem run_copy_noneS {P : Program} (w : World) (dT sT ty elem : TypeId) (sz : Nat) (d : Addr) (sp : Option Addr) (dLen dCap sLen sCap : Nat)
 (hu : P.underlying dT = some (.slice elem)) (hs : (P.info? elem).map (·.size) = some sz) (hm : Nat.min sLen dLen * sz = 0) :
 (Builtin.copy_ #[dT, sT] ty #[.slice (some d) dLen dCap, .slice sp sLen sCap]).run P w = .ok (goInt (Nat.min sLen dLen)) w := by
 cases hq : P.info? elem with
 | none => simp [hq] at hs
 | some i =>
   have hi : i.size = sz := by simpa [hq] using hs
   cases sp with
   | none => simp [Builtin.copy_, run_underlying hu, Builtin.lenOf, Builtin.firstCells, sizeOf, typeInfo, hq, storeCells]
   | some b => simp [Builtin.copy_, run_underlying hu, Builtin.lenOf, Builtin.firstCells, sizeOf, typeInfo, hq, hi, hm, storeCells, loadCells, loadCellsFrom]
theorem wpList_copy_rowsS {P : Program} {w : World} {ops : Array Oper} {rest : List Oper} {o : Oper} {a : Act} {Q : Exit -> Act -> World -> Prop} (hgd : o.guard = none) (d s : Operand) (dT sT : TypeId)
 (ho : o.op = .call { callee := .builtin .copy, args := #[d, s], argTypes := #[dT, sT] }) (elem : TypeId) (hu : P.underlying dT = some (.slice elem)) (sz : Nat) (hsz : (P.info? elem).map (·.size) = some sz)
 (g dLen dCap : Nat) (sp : Option Addr) (sLen sCap : Nat) (hd : a.eval d = .slice (some ⟨g, 0, none⟩) dLen dCap) (hs : a.eval s = .slice sp sLen sCap)
 (t : TypeId) (N : Nat) (f : Nat -> Value) (hg : w.rowIs g t N f) (m : Nat) (hm : Nat.min sLen dLen * sz = m) (hmN : m <= N) (S : Nat -> Value) (hS1 : ∀ j, (S j).oneCell' = true)
 (hsrc : 0 < m -> ∃ b off, sp = some ⟨b, off, none⟩ ∧ ∀ j, j < m -> w.cell? ⟨b, off + j, none⟩ = some (S j))
 (h : ∀ w', w'.rowIs g t N (fun j => if j < m then S j else f j) -> Below g w w' -> w'.heap.size = w.heap.size -> wpList P ops Q rest (a.put o.dst (goInt (Nat.min sLen dLen))) w') :
 wpList P ops Q (o :: rest) a w := by
 refine wpList_plain hgd fun K hK => ?_
 by_cases h0 : m = 0
 . have hrun := run_copy_noneS (P := P) w dT sT o.type elem sz ⟨g, 0, none⟩ sp dLen dCap sLen sCap hu hsz (hm.trans h0); unfold Oper.wp; simp [execOp, ho, resolve, invoke, builtin, hd, hs, hrun, Result.andThen]
   exact hK _ _ (h w (hg.congr fun i _ => by rw [if_neg (by omega)]) (Below.refl _ _) rfl)
 . obtain ⟨b, off, rfl, hcell⟩ := hsrc (by omega); obtain ⟨cur, hcur, hcn, hcf⟩ := hg; have hlen : ((List.range m).map S).length = m := by simp
   have hsrc' : ∀ j v, ((List.range m).map S)[j]? = some v -> w.cell? ((⟨b, off, none⟩ : Addr).add j) = some v := by
    intro j v hj; have hjm : j < m := by have := (List.getElem?_eq_some_iff.1 hj).1; simpa using this
    have e : (⟨b, off, none⟩ : Addr).add j = ⟨b, off + j, none⟩ := by
     unfold Addr.add; split <;> simp_all
    rw [e, hcell j hjm]; simpa [hjm] using hj
   have hrun := run_copy_rowS (P := P) w dT sT o.type elem sz g 0 dLen dCap ⟨b, off, none⟩ sLen sCap cur t ((List.range m).map S) hu hsz hcur (by rw [hlen]; exact hm.symm) hsrc' (by rw [hlen, hcn]; omega)
    (by intro v hv; obtain ⟨j, _, rfl⟩ := List.mem_map.1 hv; exact hS1 j)
   unfold Oper.wp; simp only [execOp, ho, resolve, invoke, builtin]; simp [hd, hs, hrun, Result.andThen]
   refine hK _ _ (h _ ⟨_, setRow_heap w g _ _ t _ hcur, ?_, ?_⟩ (below_setRow (Below.refl _ _) zl _) (by simp [World.setRow]))
   . simp [hcn]; omega
   . intro i hi; by_cases hlt : i < m
     . simp [hlt, List.getElem?_append]
     . have h2 := hcf i hi; simp [hlt, List.getElem?_append, List.getElem?_drop]
       rw [show m + (i - m) = i by omega]; exact h2
end
section
open Go.RowKit M
end
section
open Go.RowKit M
theorem rowIs_below {w w' : World} {g : Nat} {t : TypeId} {N : Nat} {f : Nat -> Value} (h : w.rowIs g t N f) (hb : Below w.heap.size w w') : w'.rowIs g t N f := h.of_block (hb.block _ h.lt)
theorem opt_below {w w' : World} {a : Option Addr} {n : Nat} {fr tt : Nat -> Int} (ha : 0 < n -> ∃ b off, a = some ⟨b, off, none⟩ ∧ CartsIn w b off n fr tt) (hb : Below w.heap.size w w') :
 0 < n -> ∃ b off, a = some ⟨b, off, none⟩ ∧ CartsIn w' b off n fr tt := by
 intro h; obtain ⟨b, off, hab, hc⟩ := ha h; exact ⟨b, off, hab, hc.below hb⟩
end
namespace M
def cnt (p : Nat -> Bool) : Nat -> Nat
 | 0 => 0
 | n + 1 => cnt p n + if p n then 1 else 0
theorem cnt_le (p : Nat -> Bool) (n : Nat) : cnt p n <= n := by
 induction n with
 | zero => exact zl
 | succ n ih => simp only [cnt]; split <;> omega
theorem cnt_full {p : Nat -> Bool} {n : Nat} (h : n <= cnt p n) : ∀ i, i < n -> p i = true := by
 induction n with
 | zero => intro i hi; omega
 | succ n ih =>
   have h1 := cnt_le p n; simp only [cnt] at h; have hp : p n = true := by
    by_cases e : p n = true
    . exact e
    . rw [if_neg e] at h; omega
   rw [if_pos hp] at h; intro i hi; by_cases e : i = n
   . subst e; exact hp
   . exact ih (by omega) i (by omega)
theorem cnt_mono {p q : Nat -> Bool} {n : Nat} (h : ∀ i, i < n -> p i = true -> q i = true) : cnt p n <= cnt q n := by
 induction n with
 | zero => exact zl
 | succ n ih =>
   have := ih (fun i hi => h i (by omega)); simp only [cnt]; by_cases e : p n = true
   . rw [if_pos e, if_pos (h n (by omega) e)]; omega
   . rw [if_neg e]; omega
theorem cnt_lt {p q : Nat -> Bool} {n x : Nat} (h : ∀ i, i < n -> p i = true -> q i = true) (hx : x < n) (hq : q x = true) (hp : p x = false) : cnt p n + 1 <= cnt q n := by
 induction n with
 | zero => omega
 | succ n ih =>
   simp only [cnt]; by_cases e : x = n
   . subst e; have := cnt_mono (n := x) (fun i hi => h i (by omega)); rw [if_pos hq, hp]; simp; omega
   . have := ih (fun i hi => h i (by omega)) (by omega); by_cases e2 : p n = true
     . rw [if_pos e2, if_pos (h n (by omega) e2)]; omega
     . rw [if_neg e2]; omega
theorem cnt_flip {p q : Nat -> Bool} {n x : Nat} (hx : x < n) (hp : p x = true) (hq : q x = false) (h : ∀ i, i ≠ x -> p i = q i) : cnt q n + 1 = cnt p n := by
 induction n with
 | zero => omega
 | succ n ih =>
   simp only [cnt]; by_cases e : x = n
   . subst e; have e1 : ∀ m, m <= x -> cnt p m = cnt q m := by
      intro m; induction m with
      | zero => intro _; rfl
      | succ m im => intro hm; simp only [cnt]; rw [im (by omega), h m (by omega)]
     rw [hp, hq, e1 x zl]; simp
   . have := ih (by omega); rw [h n (fun hh => e hh.symm)]; omega
structure IsFar (N : Nat) (adj : Nat -> Nat -> Bool) (c : Nat) (d : Nat -> Int) : Prop where
 zero : d c = 0
 low : ∀ a, a < N -> -1 <= d a
 src : ∀ a, a < N -> d a = 0 -> a = c
 pred : ∀ a, a < N -> ∀ k : Nat, d a = (k : Int) + 1 -> ∃ b, b < N ∧ adj b a = true ∧ d b = k
 next : ∀ a b, a < N -> b < N -> adj b a = true -> 0 <= d b -> 0 <= d a ∧ d a <= d b + 1
theorem IsFar.le {N : Nat} {adj : Nat -> Nat -> Bool} {c : Nat} {d d' : Nat -> Int} (h : IsFar N adj c d) (h' : IsFar N adj c d') : ∀ (k : Nat) (a : Nat), a < N -> d a = k -> 0 <= d' a ∧ d' a <= k
 | 0, a, ha, hk => by
   have := h.src a ha (by simpa using hk); subst this; rw [h'.zero]; simp
 | k + 1, a, ha, hk => by
   obtain ⟨b, hb, hab, hdb⟩ := h.pred a ha k (by rw [hk]; simp); obtain ⟨g1, g2⟩ := IsFar.le h h' k b hb hdb; obtain ⟨g3, g4⟩ := h'.next a b ha hb hab g1; exact ⟨g3, by rw [Int.natCast_add]; simp; omega⟩
theorem IsFar.unique {N : Nat} {adj : Nat -> Nat -> Bool} {c : Nat} {d d' : Nat -> Int} (h : IsFar N adj c d) (h' : IsFar N adj c d') (a : Nat) (ha : a < N) : d a = d' a := by
 have l := h.low a ha; have l' := h'.low a ha; by_cases e : 0 <= d a
 . obtain ⟨k, hk⟩ := Int.eq_ofNat_of_zero_le e; obtain ⟨g1, g2⟩ := IsFar.le h h' k a ha hk; obtain ⟨k', hk'⟩ := Int.eq_ofNat_of_zero_le g1; obtain ⟨g3, g4⟩ := IsFar.le h' h k' a ha hk'; omega
 . by_cases e' : 0 <= d' a
   . obtain ⟨k', hk'⟩ := Int.eq_ofNat_of_zero_le e'; obtain ⟨g3, g4⟩ := IsFar.le h' h k' a ha hk'; omega
   . omega
def anyB (p : Nat -> Bool) : Nat -> Bool
 | 0 => false
 | n + 1 => anyB p n || p n
theorem anyB_true {p : Nat -> Bool} : ∀ {n : Nat}, anyB p n = true -> ∃ i, i < n ∧ p i = true
 | n + 1, h => by
   simp only [anyB, Bool.or_eq_true] at h; rcases h with h | h
   . obtain ⟨i, hi, hp⟩ := anyB_true h; exact ⟨i, by omega, hp⟩
   . exact ⟨n, by omega, h⟩
theorem anyB_of {p : Nat -> Bool} {i : Nat} (hp : p i = true) : ∀ {n : Nat}, i < n -> anyB p n = true
 | n + 1, h => by
   simp only [anyB, Bool.or_eq_true]; by_cases e : i = n
   . subst e; exact Or.inr hp
   . exact Or.inl (anyB_of hp (by omega))
def stp (adj : Nat -> Nat -> Bool) (o : Nat -> Int) (s : Int) (a B : Nat) : Int :=
 if 0 <= o a then o a else if anyB (fun b => adj b a && o b == s - 1) B then s else -1
def orow (N : Nat) (adj : Nat -> Nat -> Bool) (c : Nat) : Nat -> Nat -> Int
 | 0, x => if x = c then 0 else -1
 | k + 1, x => stp adj (orow N adj c k) (k + 1) x N
structure Part (N : Nat) (adj : Nat -> Nat -> Bool) (c k : Nat) (d : Nat -> Int) : Prop where
 zero : d c = 0
 low : ∀ a, a < N -> -1 <= d a
 high : ∀ a, a < N -> d a <= k
 src : ∀ a, a < N -> d a = 0 -> a = c
 pred : ∀ a, a < N -> ∀ k : Nat, d a = (k : Int) + 1 -> ∃ b, b < N ∧ adj b a = true ∧ d b = k
 next : ∀ a b, a < N -> b < N -> adj b a = true -> 0 <= d b -> d b < k -> 0 <= d a ∧ d a <= d b + 1
theorem part_zero (N : Nat) (adj : Nat -> Nat -> Bool) (c : Nat) : Part N adj c 0 (orow N adj c 0) where
 zero := by simp [orow]
 low := fun a _ => by simp only [orow]; split <;> omega
 high := fun a _ => by simp only [orow]; split <;> simp
 src := fun a _ h => by
  simp only [orow] at h; by_cases e : a = c
  . exact e
  . rw [if_neg e] at h; omega
 pred := fun a _ k h => by
  simp only [orow] at h; split at h <;> omega
 next := fun a b _ _ _ h0 h1 => by simp at h1; omega
theorem stp_old {adj : Nat -> Nat -> Bool} {o : Nat -> Int} {s : Int} {a B : Nat} (h : 0 <= o a) : stp adj o s a B = o a := by unfold stp; rw [if_pos h]
theorem part_step {N : Nat} {adj : Nat -> Nat -> Bool} {c k : Nat} (hc : c < N) (h : Part N adj c k (orow N adj c k)) : Part N adj c (k + 1) (orow N adj c (k + 1)) := by
 have hcase : ∀ a, a < N -> (0 <= orow N adj c k a ∧ orow N adj c (k + 1) a = orow N adj c k a) ∨
  (orow N adj c k a = -1 ∧ ((orow N adj c (k + 1) a = (k : Int) + 1 ∧ ∃ b, b < N ∧ adj b a = true ∧ orow N adj c k b = k) ∨ (orow N adj c (k + 1) a = -1 ∧ ∀ b, b < N -> adj b a = true -> ¬ orow N adj c k b = k))) := by
  intro a ha; have hl := h.low a ha; by_cases e : 0 <= orow N adj c k a
  . exact Or.inl ⟨e, stp_old e⟩
  . refine Or.inr ⟨by omega, ?_⟩; have e1 : orow N adj c (k + 1) a = if anyB (fun b => adj b a && orow N adj c k b == (k : Int) + 1 - 1) N then (k : Int) + 1 else -1 := by
     show stp adj (orow N adj c k) (k + 1) a N = _; unfold stp; rw [if_neg e]
    by_cases e2 : anyB (fun b => adj b a && orow N adj c k b == (k : Int) + 1 - 1) N = true
    . rw [if_pos e2] at e1; obtain ⟨b, hb, hp⟩ := anyB_true e2; simp only [Bool.and_eq_true, beq_iff_eq] at hp; exact Or.inl ⟨e1, b, hb, hp.1, by omega⟩
    . rw [if_neg e2] at e1; refine Or.inr ⟨e1, fun b hb hab heq => e2 ?_⟩; exact anyB_of (i := b) (by simp [hab, heq]) hb
 have kep : ∀ a, a < N -> ∀ v : Int, v < (k : Int) + 1 -> 0 <= v -> (orow N adj c (k + 1) a = v ↔ orow N adj c k a = v) := by
  intro a ha v hv h0; rcases hcase a ha with ⟨h1, h2⟩ | ⟨h1, ⟨h2, _⟩ | ⟨h2, _⟩⟩ <;> rw [h2] <;> constructor <;> intro h3 <;> omega
 refine ⟨?_, ?_, ?_, ?_, ?_, ?_⟩
 . exact (kep c hc 0 (by omega) (Int.le_refl 0)).2 h.zero
 . intro a ha; rcases hcase a ha with ⟨h1, h2⟩ | ⟨h1, ⟨h2, _⟩ | ⟨h2, _⟩⟩ <;> rw [h2] <;> omega
 . intro a ha; have := h.high a ha; rcases hcase a ha with ⟨h1, h2⟩ | ⟨h1, ⟨h2, _⟩ | ⟨h2, _⟩⟩ <;> rw [h2] <;> rw [Int.natCast_add] <;> simp <;> omega
 . intro a ha hz; exact h.src a ha ((kep a ha 0 (by omega) (Int.le_refl 0)).1 hz)
 . intro a ha j hj; have hh := h.high a ha; rcases hcase a ha with ⟨h1, h2⟩ | ⟨h1, ⟨h2, b, hb, hab, hob⟩ | ⟨h2, _⟩⟩
   . obtain ⟨b, hb, hab, hd⟩ := h.pred a ha j (by omega); exact ⟨b, hb, hab, (kep b hb j (by omega) (by omega)).2 hd⟩
   . exact ⟨b, hb, hab, (kep b hb j (by omega) (by omega)).2 (by omega)⟩
   . omega
 . intro a b ha hb hab h0 h1; have h1' : orow N adj c (k + 1) b < (k : Int) + 1 := by rw [Int.natCast_add] at h1; simpa using h1
   obtain ⟨v, hv⟩ : ∃ v, orow N adj c (k + 1) b = v := ⟨_, rfl⟩
   have hob := (kep b hb v (by omega) (by omega)).1 hv; by_cases hbk : v < k
   . obtain ⟨g1, g2⟩ := h.next a b ha hb hab (by omega) (by omega); rcases hcase a ha with ⟨h3, h4⟩ | ⟨h3, _⟩
     . omega
     . omega
   . rcases hcase a ha with ⟨h3, h4⟩ | ⟨h3, ⟨h4, _⟩ | ⟨h4, h5⟩⟩
     . have := h.high a ha; omega
     . omega
     . exact absurd (by omega) (h5 b hb hab)
theorem part_all {N : Nat} {adj : Nat -> Nat -> Bool} {c : Nat} (hc : c < N) : ∀ k, Part N adj c k (orow N adj c k)
 | 0 => part_zero N adj c
 | k + 1 => part_step hc (part_all hc k)
theorem part_cnt {N : Nat} {adj : Nat -> Nat -> Bool} {c k : Nat} {d : Nat -> Int} (h : Part N adj c k d) : ∀ (j a : Nat), a < N -> d a = j -> j + 1 <= cnt (fun x => decide (0 <= d x ∧ d x <= j)) N
 | 0, a, ha, hd => by
   have := cnt_lt (p := fun _ => false) (q := fun x => decide (0 <= d x ∧ d x <= (0 : Nat))) (n := N) (x := a) (fun _ _ h => by cases h) ha (by simp [hd]) rfl; omega
 | j + 1, a, ha, hd => by
   obtain ⟨b, hb, _, hdb⟩ := h.pred a ha j (by rw [hd]; simp); have ih := part_cnt h j b hb hdb; have := cnt_lt (p := fun x => decide (0 <= d x ∧ d x <= j)) (q := fun x => decide (0 <= d x ∧ d x <= ((j + 1 : Nat) : Int))) (n := N) (x := a)
    (fun i _ hp => by simp only [decide_eq_true_eq] at hp ⊢; omega) ha (by simp only [decide_eq_true_eq]; omega) (by simp only [decide_eq_false_iff_not]; omega)
   omega
theorem orow_isFar {N : Nat} {adj : Nat -> Nat -> Bool} {c : Nat} (hc : c < N) : IsFar N adj c (orow N adj c (N - 1)) := by
 have h := part_all (adj := adj) hc (N - 1); refine ⟨h.zero, h.low, h.src, h.pred, fun a b ha hb hab h0 => ?_⟩; by_cases e : orow N adj c (N - 1) b < ((N - 1 : Nat) : Int)
 . exact h.next a b ha hb hab h0 e
 . have hbv : orow N adj c (N - 1) b = ((N - 1 : Nat) : Int) := by have := h.high b hb; omega
   have hcn := part_cnt h (N - 1) b hb hbv; have hcn' : N <= cnt (fun x => decide (0 <= orow N adj c (N - 1) x ∧ orow N adj c (N - 1) x <= ((N - 1 : Nat) : Int))) N := by omega
   have hfull := cnt_full hcn' a ha; simp only [decide_eq_true_eq] at hfull; omega
end M
namespace M
structure Bfs (N : Nat) (adj : Nat -> Nat -> Bool) (c : Nat) (st : Nat -> Int) (q : List Nat) (i : Nat) : Prop where
 inN : ∀ j, j < q.length -> q.getD j 0 < N
 len : q.length + cnt (fun x => decide (st x < 0)) N = N
 zero : st c = 0
 low : ∀ x, x < N -> -1 <= st x
 src : ∀ x, x < N -> st x = 0 -> x = c
 pred : ∀ a, a < N -> ∀ k : Nat, st a = (k : Int) + 1 -> ∃ b, b < N ∧ adj b a = true ∧ st b = k
 mem : ∀ x, x < N -> 0 <= st x -> ∃ j, j < q.length ∧ q.getD j 0 = x
 told : ∀ j, j < q.length -> 0 <= st (q.getD j 0)
 mono : ∀ j k, j <= k -> k < q.length -> st (q.getD j 0) <= st (q.getD k 0)
 near : i < q.length -> ∀ j, j < q.length -> st (q.getD j 0) <= st (q.getD i 0) + 1
 le : ∀ j, j < q.length -> st (q.getD j 0) <= j
 past : ∀ j, j < i -> j < q.length -> ∀ a, a < N -> adj (q.getD j 0) a = true -> 0 <= st a ∧ st a <= st (q.getD j 0) + 1
theorem Bfs.lenN {N : Nat} {adj : Nat -> Nat -> Bool} {c : Nat} {st : Nat -> Int} {q : List Nat} {i : Nat} (h : Bfs N adj c st q i) : q.length <= N := by
 have := h.len; omega
theorem bfs_start {N : Nat} {adj : Nat -> Nat -> Bool} {c : Nat} (hc : c < N) : Bfs N adj c (fun x => if x = c then 0 else -1) [c] 0 := by
 have hcnt : cnt (fun x => decide ((if x = c then (0 : Int) else -1) < 0)) N + 1 = cnt (fun _ => true) N := by
  refine cnt_flip hc rfl (by simp) fun i hi => ?_
  simp [hi]
 have hall : ∀ n, cnt (fun _ => true) n = n := by
  intro n; induction n with
  | zero => rfl
  | succ n ih => simp [cnt, ih]
 refine ⟨?_, ?_, ?_, ?_, ?_, ?_, ?_, ?_, ?_, ?_, ?_, ?_⟩
 . intro j hj; have : j = 0 := by simp at hj; omega
   subst this; simpa using hc
 . rw [hall N] at hcnt; simp only [List.length_cons, List.length_nil]; omega
 . simp
 . intro x _; show -1 <= (if x = c then (0 : Int) else -1); split <;> omega
 . intro x _ hx; by_cases e : x = c
   . exact e
   . simp only [if_neg e] at hx; omega
 . intro a _ k hk; have hk' : (if a = c then (0 : Int) else -1) = (k : Int) + 1 := hk; split at hk' <;> omega
 . intro x _ hx; by_cases e : x = c
   . exact ⟨0, by simp, by simp [e]⟩
   . simp only [if_neg e] at hx; omega
 . intro j hj; have : j = 0 := by simp at hj; omega
   subst this; simp
 . intro j k hjk hk; have : k = 0 := by simp at hk; omega
   subst this; have : j = 0 := by omega
   subst this; simp
 . intro _ j hj; have : j = 0 := by simp at hj; omega
   subst this; simp
 . intro j hj; have : j = 0 := by simp at hj; omega
   subst this; simp
 . intro j hj; omega
def upd (st : Nat -> Int) (x : Nat) (v : Int) (y : Nat) : Int := if y = x then v else st y
theorem getD_old {q : List Nat} {x j : Nat} (hj : j < q.length) : (q ++ [x]).getD j 0 = q.getD j 0 := by
 simp [List.getD, List.getElem?_append_left hj]
theorem getD_new {q : List Nat} {x : Nat} : (q ++ [x]).getD q.length 0 = x := by
 simp [List.getD]
theorem bfs_push {N : Nat} {adj : Nat -> Nat -> Bool} {c : Nat} {st : Nat -> Int} {q : List Nat} {i x : Nat} (h : Bfs N adj c st q i) (hi : i < q.length) (hx : x < N) (hn : st x = -1) (ha : adj (q.getD i 0) x = true) :
 Bfs N adj c (upd st x (st (q.getD i 0) + 1)) (q ++ [x]) i := by
 have hqi := h.told i hi; have hne : ∀ y, 0 <= st y -> y ≠ x := fun y hy e => by subst e; omega
 have hold : ∀ y, 0 <= st y -> upd st x (st (q.getD i 0) + 1) y = st y := fun y hy => by unfold upd; rw [if_neg (hne y hy)]
 have hnew : upd st x (st (q.getD i 0) + 1) x = st (q.getD i 0) + 1 := by unfold upd; rw [if_pos rfl]
 have hcase : ∀ j, j < (q ++ [x]).length -> (j < q.length ∧ (q ++ [x]).getD j 0 = q.getD j 0 ∧ upd st x (st (q.getD i 0) + 1) ((q ++ [x]).getD j 0) = st (q.getD j 0)) ∨
  (j = q.length ∧ (q ++ [x]).getD j 0 = x ∧ upd st x (st (q.getD i 0) + 1) ((q ++ [x]).getD j 0) = st (q.getD i 0) + 1) := by
  intro j hj; rw [List.length_append] at hj; simp only [List.length_cons, List.length_nil] at hj; by_cases e : j < q.length
  . refine Or.inl ⟨e, getD_old e, ?_⟩; rw [getD_old e]; exact hold _ (h.told j e)
  . have e2 : j = q.length := by omega
    subst e2; refine Or.inr ⟨rfl, getD_new, ?_⟩; rw [getD_new]; exact hnew
 have hsmall : ∀ a (v : Int), upd st x (st (q.getD i 0) + 1) a = v -> a ≠ x -> st a = v := fun a v hv e => by unfold upd at hv; rw [if_neg e] at hv; exact hv
 refine ⟨?_, ?_, ?_, ?_, ?_, ?_, ?_, ?_, ?_, ?_, ?_, ?_⟩
 . intro j hj; rcases hcase j hj with ⟨e, e1, _⟩ | ⟨_, e1, _⟩ <;> rw [e1]
   . exact h.inN j e
   . exact hx
 . have := cnt_flip (p := fun y => decide (st y < 0)) (q := fun y => decide (upd st x (st (q.getD i 0) + 1) y < 0)) hx (by simp [hn]) (by simp only [hnew, decide_eq_false_iff_not]; omega)
    (fun j hj => by unfold upd; rw [if_neg hj])
   have hl := h.len; rw [List.length_append]; simp only [List.length_cons, List.length_nil]; omega
 . rw [hold c (by rw [h.zero]; omega)]; exact h.zero
 . intro y hy; unfold upd; split
   . omega
   . exact h.low y hy
 . intro y hy hz; by_cases e : y = x
   . subst e; rw [hnew] at hz; omega
   . exact h.src y hy (hsmall y 0 hz e)
 . intro a haN k hk; by_cases e : a = x
   . subst e; rw [hnew] at hk; exact ⟨q.getD i 0, h.inN i hi, ha, by rw [hold _ hqi]; omega⟩
   . obtain ⟨b, hb, hab, hd⟩ := h.pred a haN k (hsmall a _ hk e); exact ⟨b, hb, hab, by rw [hold b (by omega)]; exact hd⟩
 . intro y hy hy0; by_cases e : y = x
   . subst e; exact ⟨q.length, by simp, getD_new⟩
   . obtain ⟨j, hj, hjy⟩ := h.mem y hy (by unfold upd at hy0; rw [if_neg e] at hy0; exact hy0); exact ⟨j, by simp; omega, by rw [getD_old hj]; exact hjy⟩
 . intro j hj; rcases hcase j hj with ⟨e, _, e2⟩ | ⟨_, _, e2⟩ <;> rw [e2]
   . exact h.told j e
   . omega
 . intro j k hjk hk; rcases hcase k hk with ⟨e, _, e2⟩ | ⟨e, _, e2⟩
   . rcases hcase j (by omega) with ⟨f, _, f2⟩ | ⟨f, _, f2⟩
     . rw [e2, f2]; exact h.mono j k hjk e
     . omega
   . rcases hcase j (by omega) with ⟨f, _, f2⟩ | ⟨f, _, f2⟩
     . rw [e2, f2]; exact h.near hi j f
     . rw [e2, f2]; omega
 . intro _ j hj; have ei : upd st x (st (q.getD i 0) + 1) ((q ++ [x]).getD i 0) = st (q.getD i 0) := by rw [getD_old hi]; exact hold _ hqi
   rw [ei]; rcases hcase j hj with ⟨e, _, e2⟩ | ⟨_, _, e2⟩ <;> rw [e2]
   . exact h.near hi j e
   . omega
 . intro j hj; rcases hcase j hj with ⟨e, _, e2⟩ | ⟨e, _, e2⟩ <;> rw [e2]
   . exact h.le j e
   . have := h.le i hi; omega
 . intro j hj hjl a haN haj; have e : j < q.length := by omega
   rw [getD_old e] at haj ⊢; obtain ⟨g1, g2⟩ := h.past j hj e a haN haj; rw [hold a g1, hold _ (h.told j e)]; exact ⟨g1, g2⟩
theorem bfs_next {N : Nat} {adj : Nat -> Nat -> Bool} {c : Nat} {st : Nat -> Int} {q : List Nat} {i : Nat} (h : Bfs N adj c st q i) (hi : i < q.length)
 (hd : ∀ a, a < N -> adj (q.getD i 0) a = true -> 0 <= st a ∧ st a <= st (q.getD i 0) + 1) : Bfs N adj c st q (i + 1) := by
 refine ⟨h.inN, h.len, h.zero, h.low, h.src, h.pred, h.mem, h.told, h.mono, ?_, h.le, ?_⟩
 . intro hl j hj; have := h.near hi j hj; have := h.mono i (i + 1) (by omega) hl; omega
 . intro j hj hjl a haN haj; by_cases e : j = i
   . subst e; exact hd a haN haj
   . exact h.past j (by omega) hjl a haN haj
theorem bfs_isFar {N : Nat} {adj : Nat -> Nat -> Bool} {c : Nat} {st : Nat -> Int} {q : List Nat} {i : Nat} (h : Bfs N adj c st q i) (hi : ¬ i < q.length) : IsFar N adj c st := by
 refine ⟨h.zero, h.low, h.src, h.pred, fun a b ha hb hab h0 => ?_⟩; obtain ⟨j, hj, hjb⟩ := h.mem b hb h0; subst hjb; exact h.past j (by omega) hj a ha hab
theorem bfs_told {N : Nat} {adj : Nat -> Nat -> Bool} {c : Nat} {st : Nat -> Int} {q : List Nat} {i x : Nat} (h : Bfs N adj c st q i) (hi : i < q.length) (hx : x < N) (h0 : 0 <= st x) : st x <= st (q.getD i 0) + 1 := by
 obtain ⟨j, hj, hjx⟩ := h.mem x hx h0; subst hjx; exact h.near hi j hj
end M
namespace M
def nearM (co a b : Int) : Bool := decide ((a / co - b / co) * (a / co - b / co) + (a % co - b % co) * (a % co - b % co) <= 1)
def mayM (co : Int) (cs : ByteArray) (a b : Int) : Bool := freeB cs b && (decide (0 <= a) && (decide (a < cs.size) && nearM co a b))
theorem divmod_bd {a co : Int} (h0 : 0 <= a) (h1 : a <= 36) (h2 : 1 <= co) (h3 : co <= 6) : 0 <= a / co ∧ a / co <= 36 ∧ 0 <= a % co ∧ a % co <= 5 := by
 have e : co = 1 ∨ co = 2 ∨ co = 3 ∨ co = 4 ∨ co = 5 ∨ co = 6 := by omega
 rcases e with e | e | e | e | e | e <;> subst e <;> omega
theorem sq_bd {r : Int} (h : -36 <= r) (h' : r <= 36) : 0 <= r * r ∧ r * r <= 1296 := by
 have h1 : r.natAbs <= 36 := by omega
 have h2 : r * r = ((r.natAbs * r.natAbs : Nat) : Int) := by rw [Int.natCast_mul, Int.natAbs_mul_self' r]
 rw [h2]; have h3 := Nat.mul_le_mul h1 h1; omega
theorem sq_small {r : Int} (h : r * r <= 1) : -1 <= r ∧ r <= 1 := by
 have h2 : r * r = ((r.natAbs * r.natAbs : Nat) : Int) := by rw [Int.natCast_mul, Int.natAbs_mul_self' r]
 rw [h2] at h; by_cases e : 2 <= r.natAbs
 . have h3 := Nat.mul_le_mul e e; omega
 . omega
theorem sq_pos {r : Int} (h : r ≠ 0) : 1 <= r * r := by
 have h2 : r * r = ((r.natAbs * r.natAbs : Nat) : Int) := by rw [Int.natCast_mul, Int.natAbs_mul_self' r]
 rw [h2]; have h3 := Nat.mul_le_mul (show 1 <= r.natAbs by omega) (show 1 <= r.natAbs by omega); omega
theorem sum_sq {r c : Int} : r * r + c * c <= 1 ↔ (r = 0 ∧ -1 <= c ∧ c <= 1) ∨ (c = 0 ∧ -1 <= r ∧ r <= 1) := by
 constructor
 . intro h; by_cases hr : r = 0
   . subst hr; have := sq_small (r := c) (by omega); exact Or.inl ⟨rfl, this⟩
   . have h1 := sq_pos hr; by_cases hc : c = 0
     . subst hc; have := sq_small (r := r) (by omega); exact Or.inr ⟨rfl, this⟩
     . have h2 := sq_pos hc; omega
 . rintro (⟨h, h1, h2⟩ | ⟨h, h1, h2⟩)
   . subst h; have e : c = -1 ∨ c = 0 ∨ c = 1 := by omega
     rcases e with e | e | e <;> subst e <;> decide
   . subst h; have e : r = -1 ∨ r = 0 ∨ r = 1 := by omega
     rcases e with e | e | e <;> subst e <;> decide
theorem near_iff {co a b : Int} : nearM co a b = true ↔ (a / co = b / co ∧ -1 <= a % co - b % co ∧ a % co - b % co <= 1) ∨ (a % co = b % co ∧ -1 <= a / co - b / co ∧ a / co - b / co <= 1) := by
 unfold nearM; rw [decide_eq_true_eq, sum_sq]; constructor <;> rintro (⟨h, h1, h2⟩ | ⟨h, h1, h2⟩)
 . exact Or.inl ⟨by omega, h1, h2⟩
 . exact Or.inr ⟨by omega, h1, h2⟩
 . exact Or.inl ⟨by omega, h1, h2⟩
 . exact Or.inr ⟨by omega, h1, h2⟩
theorem near_comm (co a b : Int) : nearM co a b = nearM co b a := by
 rw [Bool.eq_iff_iff, near_iff, near_iff]; constructor <;> rintro (⟨h, h1, h2⟩ | ⟨h, h1, h2⟩)
 . exact Or.inl ⟨by omega, by omega, by omega⟩
 . exact Or.inr ⟨by omega, by omega, by omega⟩
 . exact Or.inl ⟨by omega, by omega, by omega⟩
 . exact Or.inr ⟨by omega, by omega, by omega⟩
end M
section
open Go.RowKit M
theorem near_any (ro co bu a b : Int) (cs : ByteArray) (ca : Value) (w : World) (h1 : 1 <= co) (h2 : co <= 6) (ha0 : 0 <= a) (ha1 : a <= 36) (hb0 : 0 <= b) (hb1 : b <= 36) :
 Calls Tryz.prog 99 #[.agg #[.int .i64 ro, .int .i64 co, .string cs, ca, .int .i64 bu], .int .i64 a, .int .i64 b] w fun e w' => e = .returned (.bool (nearM co a b)) ∧ Below w.heap.size w w' := by
 obtain ⟨p1, p2, p3, p4⟩ := divmod_bd ha0 ha1 h1 h2; obtain ⟨q1, q2, q3, q4⟩ := divmod_bd hb0 hb1 h1 h2; obtain ⟨s1, s2⟩ := sq_bd (r := a / co - b / co) (by omega) (by omega); obtain ⟨t1, t2⟩ := sq_bd (r := a % co - b % co) (by omega) (by omega); have hco : (co == 0) = false := by simp; omega
 go_enter Tryz.func99, Tryz.ntmps99; go_wp2; go_quiet (fail); go_wp2; go_quiet (fail); go_wp2; go_ret; exact ⟨ret_bool rfl, below_drewN ((Below.refl _ _).alloc zl _) _⟩
theorem mayM_in {co a b : Int} {cs : ByteArray} (hf : freeB cs b = true) (h0 : 0 <= a) (h1 : a < cs.size) : mayM co cs a b = nearM co a b := by
 unfold mayM; simp [hf, h0, h1]
theorem mayM_out {co a b : Int} {cs : ByteArray} (h : freeB cs b = false ∨ ¬ (0 <= a ∧ a < cs.size)) : mayM co cs a b = false := by
 unfold mayM; rcases h with h | h
 . simp [h]
 . by_cases h0 : 0 <= a
   . have h1 : ¬ a < cs.size := fun hh => h ⟨h0, hh⟩
     simp [h1]
   . simp [h0]
theorem may_any (ro co bu a b : Int) (cs : ByteArray) (ca : Value) (w : World) (hs : cs.size <= 36) (h1 : 1 <= co) (h2 : co <= 6) (hb0 : 0 <= b) (hb1 : b <= 36) :
 Calls Tryz.prog 86 #[.agg #[.int .i64 ro, .int .i64 co, .string cs, ca, .int .i64 bu], .int .i64 a, .int .i64 b] w fun e w' => e = .returned (.bool (mayM co cs a b)) ∧ Below w.heap.size w w' := by
 have hsm : cs.size <= maxLen := by unfold maxLen; omega
 go_enter Tryz.func86, Tryz.ntmps86; go_wp2_with fail; refine (rfree_any _ _ _ _ _ _ _ hsm).mono ?_; rintro e w1 ⟨rfl, hb⟩; obtain ⟨hc1, hf1⟩ := bcell hb; have hB := zx (((Below.refl _ w).alloc zl _).trans (hb.mono (by simp)) : Below w.heap.size w w1); have hz1 : w.heap.size < w1.heap.size := by have := hb.size; simp at this; omega
 clear hb hsm; by_cases e1 : freeB cs b = true
 . by_cases e2 : 0 <= a
   . by_cases e3 : a < cs.size
     . go_wp2_with fail; refine (near_any _ _ _ _ _ _ _ _ h1 h2 e2 (by omega) hb0 hb1).mono ?_; rintro e w2 ⟨rfl, hb2⟩; go_wp2; go_ret; exact ⟨ret_bool (mayM_in e1 e2 e3).symm, hB.out.trans (hb2.mono (by omega))⟩
     . go_wp2; go_ret; exact ⟨ret_bool (mayM_out (Or.inr (by omega))).symm, hB.out⟩
   . go_wp2; go_ret; exact ⟨ret_bool (mayM_out (Or.inr (by omega))).symm, hB.out⟩
 . have e1' : freeB cs b = false := by simpa using e1
   go_wp2; go_ret; exact ⟨ret_bool (mayM_out (Or.inl e1')).symm, hB.out⟩
end
section
open Go.RowKit M
theorem Tryz.infoInt : (Tryz.prog.info? 3).map (fun i => (i.zero, i.size, i.bytes)) = some (some (.int .i64 0), 1, 8) := by kernel_rfl
theorem checkM_good {ro co bu : Int} {cs : ByteArray} {n : Nat} {fr tt : Nat -> Int} (h : (checkM ro co cs n fr tt bu).1 = 0) : sideB ro = true ∧ sideB co = true ∧ (cs.size : Int) = ro * co := by
 unfold checkM at h; by_cases h1 : (sideB ro && sideB co) = false
 . rw [if_pos h1] at h; simp at h
 . rw [if_neg h1] at h; by_cases h2 : 0 <= cellsM ro co cs
   . rw [if_pos h2] at h; simp at h
   . have h3 : sideB ro = true ∧ sideB co = true := by simpa using h1
     refine ⟨h3.1, h3.2, ?_⟩; by_cases h4 : (cs.size : Int) = ro * co
     . exact h4
     . rw [cellsM_size h4] at h2; omega
def intV (f : Nat -> Int) (i : Nat) : Value := .int .i64 (f i)
def fillF (k : Nat) (i : Nat) : Int := if i < k then -1 else 0
def adjM (co : Int) (cs : ByteArray) (b a : Nat) : Bool := mayM co cs b a
theorem row_zero (N : Nat) (w : World) (t : TypeId) (k : Nat) (hk : k = w.heap.size) : (w.alloc (.cells (madeCells #[.int .i64 0] N) t)).rowIs k t N (intV (fillF 0)) := by
 subst hk; refine rowIs_made _ _ _ _ fun i _ => ?_
 simp [Nat.mod_one, intV, fillF]
theorem row_store {w : World} {g N : Nat} {t : TypeId} {f f' : Nat -> Int} (h : w.rowIs g t N (intV f)) (i : Nat) (v : Int) (he : ∀ j, j < N -> (if j = i then v else f j) = f' j) : (w.setCell ⟨g, i, none⟩ (.int .i64 v)).rowIs g t N (intV f') := by
 refine (h.set i _).congr fun j hj => ?_
 unfold intV; rw [<- he j hj]; split <;> rfl
end
end Go.Proofs.YtnkgpinadgacgaaGreatDoor
