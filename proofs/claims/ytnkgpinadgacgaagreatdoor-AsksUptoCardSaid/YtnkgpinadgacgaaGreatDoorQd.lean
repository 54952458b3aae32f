/- Bd. -/
import Derived.Test.YtnkgpinadgacgaaGreatDoorQc
import Derived.ArgAppend
import Derived.Deep.RegionHeld3
import Derived.Deep.RegionLaw
import Derived.Deep.DeepCutAuto
import Derived.RegionTactic
set_option maxRecDepth 1000000
set_option maxHeartbeats 1000000
namespace Go.Proofs.YtnkgpinadgacgaaGreatDoor
section
open Go.RowKit
theorem own_lt {w : World} {base n : Nat} {e : TypeId} {g cap : Nat} {xs : List Value} (h : w.ownsRow base e 1 (.slice (some ⟨g, 0, none⟩) n cap) n xs) : base <= g ∧ g < w.heap.size := h.lt g rfl
theorem own_block {w : World} {base n : Nat} {e : TypeId} {g cap : Nat} {xs : List Value} (h : w.ownsRow base e 1 (.slice (some ⟨g, 0, none⟩) n cap) n xs) :
 ∃ cur, w.heap[g]? = some (.cells cur e (0, 0)) ∧ n <= cap ∧ cap <= maxLen ∧ cur.size = cap ∧ cur.toList.take n = xs := by
 rcases h.2 with ⟨h0, _⟩ | ⟨g', cap', cur, hv, _, hh, hn, hc, hs, ht⟩
 . cases h0
 . cases hv; exact ⟨cur, hh, hn, hc, by simpa using hs, by simpa using ht⟩
theorem own_cell {w : World} {base n : Nat} {e : TypeId} {g cap : Nat} {xs : List Value} (h : w.ownsRow base e 1 (.slice (some ⟨g, 0, none⟩) n cap) n xs) {j : Nat} (hj : j < n) : w.cell? ⟨g, j, none⟩ = xs[j]? := by
 obtain ⟨cur, hh, hn, _, hs, ht⟩ := own_block h; have h1 : w.cell? ⟨g, j, none⟩ = cur[j]? := by simp [World.cell?, hh]
 rw [h1, <- ht, List.getElem?_take, if_pos hj, Array.getElem?_toList]
theorem own_frozen {w : World} {base n : Nat} {e : TypeId} {g cap : Nat} {xs : List Value} (h : w.ownsRow base e 1 (.slice (some ⟨g, 0, none⟩) n cap) n xs) (j : Nat) : w.frozen? ⟨g, j, none⟩ = false := by
 obtain ⟨cur, hh, _⟩ := own_block h; simp [World.frozen?, hh]
theorem own_cap {w : World} {base n : Nat} {e : TypeId} {g cap : Nat} {xs : List Value} (h : w.ownsRow base e 1 (.slice (some ⟨g, 0, none⟩) n cap) n xs) : n <= cap := by
 obtain ⟨_, _, hn, _⟩ := own_block h; exact hn
theorem own_block_keep {w w' : World} {base n : Nat} {e : TypeId} {v : Value} {xs : List Value} (h : w.ownsRow base e 1 v n xs) (hk : ∀ g, base <= g -> g < w.heap.size -> v.ownBlock = some g -> w'.heap[g]? = w.heap[g]?) : w'.ownsRow base e 1 v n xs := by
 refine ⟨h.1, ?_⟩; rcases h.2 with h0 | ⟨g, cap, cur, hv, hg, hh, r⟩
 . exact .inl h0
 . refine .inr ⟨g, cap, cur, hv, hg, ?_, r⟩; rw [hk g hg (h.lt g (by rw [hv]; rfl)).2 (by rw [hv]; rfl)]; exact hh
theorem own_below {w w' : World} {base n : Nat} {e : TypeId} {v : Value} {xs : List Value} (h : w.ownsRow base e 1 v n xs) (hb : Below w.heap.size w w') : w'.ownsRow base e 1 v n xs :=
 own_block_keep h fun g _ hg _ => hb.block g hg
theorem own_base {w : World} {base base' n : Nat} {e : TypeId} {v : Value} {xs : List Value} (h : w.ownsRow base e 1 v n xs) (hb : base' <= base) : w.ownsRow base' e 1 v n xs :=
 ⟨h.1, h.2.elim Or.inl (fun ⟨g, cap, cur, hv, hg, r⟩ => Or.inr ⟨g, cap, cur, hv, Nat.le_trans hb hg, r⟩)⟩
theorem own_nil (w : World) (base : Nat) (e : TypeId) : w.ownsRow base e 1 (.slice none 0 0) 0 [] := ⟨rfl, .inl ⟨rfl, rfl⟩⟩
theorem own_built (w : World) (e : TypeId) (u : Value) (k : Nat) (hk : k = w.heap.size) : (w.alloc (.cells #[u] e)).ownsRow k e 1 (.slice (some ⟨k, 0, none⟩) 1 1) 1 [u] := by
 subst hk; refine ⟨rfl, .inr ⟨w.heap.size, 1, #[u], rfl, zl, ?_, zl, by decide, rfl, rfl⟩⟩; show (w.heap.push _)[w.heap.size]? = _; simp
theorem wpList_push {P : Program} {w : World} {ops : Array Oper} {rest : List Oper} {o : Oper} {a : Act} {Q : Exit -> Act -> World -> Prop} (hgd : o.guard = none) (s x : Operand) (t : TypeId)
 (ho : o.op = .call { callee := .builtin .append, args := #[s, x], argTypes := #[t, t] })
 (base : Nat) (e : TypeId) (z : Value) (bytes : Nat) (ht : P.underlying t = some (.slice e)) (hinfo : (P.info? e).map (fun i => (i.zero, i.size, i.bytes)) = some (some z, 1, bytes)) (hzs : z.cells.size = 1)
 (v : Value) (n : Nat) (xs : List Value) (hs : a.eval s = v) (hown : w.ownsRow base e 1 v n xs)
 (ad : Addr) (c : Nat) (u : Value) (hx : a.eval x = .slice (some ad) 1 c) (hu : w.cell? ad = some u) (h1 : u.oneCell' = true)
 (h63 : n + 1 <= maxLen) (hbytes : (n + 1) * bytes <= 140737488355328) (hbase : base <= w.heap.size)
 (h : ∀ g cap w', w'.ownsRow base e 1 (.slice (some ⟨g, 0, none⟩) (n + 1) cap) (n + 1) (xs ++ [u]) -> w.grownBy w' v.ownBlock -> wpList P ops Q rest (a.put o.dst (.slice (some ⟨g, 0, none⟩) (n + 1) cap)) w') :
 wpList P ops Q (o :: rest) a w := by
 obtain ⟨i, h2, h3, h4, h5⟩ := info_parts hinfo; refine wpList_append_own w hgd s x t ho base e i z 1 bytes ht h2 h3 h4 h5 hzs (by omega) v n xs hs hown ad 1 c [u] hx rfl ?_ ?_ h63 hbytes hbase ?_
 . intro j v' hj; match j, hj with
   | 0, hj =>
     simp at hj; subst hj; simpa [Addr.add] using hu
 . intro v' hv'; simp at hv'; subst hv'; exact h1
 . intro v' w' hown' hgr _; rcases hown'.2 with ⟨_, h0⟩ | ⟨g, cap, cur, hv, r⟩
   . omega
   . subst hv; exact h g cap w' hown' hgr
theorem grown_below {w w' : World} {base : Nat} {e : TypeId} {n : Nat} {v : Value} {xs : List Value} (hown : w.ownsRow base e 1 v n xs) (hg : w.grownBy w' v.ownBlock) (hbase : base <= w.heap.size) : Below base w w' :=
 (Below.refl base w).grown hg hbase (fun k hk => (hown.lt k hk).1)
theorem wpList_push_full {P : Program} {w : World} {ops : Array Oper} {rest : List Oper} {o : Oper} {a : Act} {Q : Exit -> Act -> World -> Prop} (hgd : o.guard = none) (s x : Operand) (t : TypeId)
 (ho : o.op = .call { callee := .builtin .append, args := #[s, x], argTypes := #[t, t] })
 (e : TypeId) (z : Value) (bytes : Nat) (ht : P.underlying t = some (.slice e)) (hinfo : (P.info? e).map (fun i => (i.zero, i.size, i.bytes)) = some (some z, 1, bytes)) (hzs : z.cells.size = 1)
 (ao : Option Addr) (n : Nat) (xs : List Value) (hs : a.eval s = .slice ao n n) (hnone : ao = none -> n = 0 ∧ n = 0) (hlo : xs.length = n) (holds : ∀ b, ao = some b -> ∀ j u, xs[j]? = some u -> w.cell? (b.add j) = some u)
 (ad : Addr) (c : Nat) (u : Value) (hx : a.eval x = .slice (some ad) 1 c) (hu : w.cell? ad = some u) (h1 : u.oneCell' = true)
 (h63 : n + 1 <= maxLen) (hbytes : (n + 1) * bytes <= 140737488355328)
 (h : ∀ g cap w', w'.ownsRow w.heap.size e 1 (.slice (some ⟨g, 0, none⟩) (n + 1) cap) (n + 1) (xs ++ [u]) -> Below w.heap.size w w' -> wpList P ops Q rest (a.put o.dst (.slice (some ⟨g, 0, none⟩) (n + 1) cap)) w') :
 wpList P ops Q (o :: rest) a w := by
 obtain ⟨i, h2, h3, h4, h5⟩ := info_parts hinfo; refine wpList_append_grows w hgd s x t ho e i z 1 bytes ht h2 h3 h4 h5 hzs (by omega) ao n n xs hs hnone (by rw [hlo, Nat.mul_one]) holds ad 1 c [u] hx rfl ?_ ?_ (by omega) h63 hbytes ?_
 . intro j v' hj; match j, hj with
   | 0, hj =>
     simp at hj; subst hj; simpa [Addr.add] using hu
 . intro v' hv'; simp at hv'; subst hv'; exact h1
 . intro v' w' hown' hgr; rcases hown'.2 with ⟨_, h0⟩ | ⟨g, cap, cur, hv, r⟩
   . omega
   . subst hv; exact h g cap w' hown' ((Below.refl _ w).grown hgr zl (fun k hk => by cases hk))
theorem wpList_push2 {P : Program} {w : World} {ops : Array Oper} {rest : List Oper} {o : Oper} {a : Act} {Q : Exit -> Act -> World -> Prop} (hgd : o.guard = none) (s x : Operand) (t : TypeId)
 (ho : o.op = .call { callee := .builtin .append, args := #[s, x], argTypes := #[t, t] })
 (base : Nat) (e : TypeId) (z : Value) (bytes : Nat) (ht : P.underlying t = some (.slice e)) (hinfo : (P.info? e).map (fun i => (i.zero, i.size, i.bytes)) = some (some z, 1, bytes)) (hzs : z.cells.size = 1)
 (gq n cap : Nat) (xs : List Value) (hs : a.eval s = .slice (some ⟨gq, 0, none⟩) n cap) (hown : w.ownsRow base e 1 (.slice (some ⟨gq, 0, none⟩) n cap) n xs)
 (ad : Addr) (c : Nat) (u : Value) (hx : a.eval x = .slice (some ad) 1 c) (hu : w.cell? ad = some u) (h1 : u.oneCell' = true)
 (h63 : n + 1 <= maxLen) (hbytes : (n + 1) * bytes <= 140737488355328) (hbase : base <= w.heap.size)
 (h : ∀ g cap' w', w'.ownsRow base e 1 (.slice (some ⟨g, 0, none⟩) (n + 1) cap') (n + 1) (xs ++ [u]) -> w.grownBy w' (some gq) -> (g = gq ∨ w.heap.size <= g) -> wpList P ops Q rest (a.put o.dst (.slice (some ⟨g, 0, none⟩) (n + 1) cap')) w') :
 wpList P ops Q (o :: rest) a w := by
 by_cases hroom : n + 1 <= cap
 . obtain ⟨i, h2, h3, h4, h5⟩ := info_parts hinfo; refine wpList_append_fits_any w hgd s x t ho base e i 1 ht h2 h4 gq n cap xs hs hown (some ad) 1 c [u] hx rfl (fun hh => by cases hh) ?_ ?_ hroom ?_
   . intro ad' had j v' hj; cases had; match j, hj with
     | 0, hj =>
       simp at hj; subst hj; simpa [Addr.add] using hu
   . intro v' hv'; simp at hv'; subst hv'; exact h1
   . intro w' hown' hgr; exact h gq cap w' hown' hgr (Or.inl rfl)
 . have hnc : cap = n := by have := own_cap hown; omega
   subst hnc; refine wpList_push_full hgd s x t ho e z bytes ht hinfo hzs (some ⟨gq, 0, none⟩) cap xs hs (fun hh => by cases hh) (by have := hown.1; simpa using this) ?_ ad c u hx hu h1 h63 hbytes ?_
   . intro b hb j v' hj; cases hb; have hjl : j < cap := by
      have h1 := (List.getElem?_eq_some_iff.1 hj).1; have h2 := hown.1; omega
     have e1 : (⟨gq, 0, none⟩ : Addr).add j = ⟨gq, j, none⟩ := by unfold Addr.add; split <;> simp_all
     rw [e1, own_cell hown hjl]; exact hj
   . intro g cap' w' hown' hb; exact h g cap' w' (own_base hown' hbase) ⟨hb.os, hb.tape, hb.output, hb.size, fun k hk _ => hb.block k hk⟩ (Or.inr (own_lt hown').1)
end
section
open Go.RowKit M
def SidesIn (w : World) : Prop :=
 w.cell? ⟨1, 0, none⟩ = some (.int .i64 (-1)) ∧ w.cell? ⟨1, 1, none⟩ = some (.int .i64 0) ∧ w.cell? ⟨1, 2, none⟩ = some (.int .i64 1) ∧ w.cell? ⟨1, 3, none⟩ = some (.int .i64 0) ∧
 w.cell? ⟨1, 4, none⟩ = some (.int .i64 0) ∧ w.cell? ⟨1, 5, none⟩ = some (.int .i64 (-1)) ∧ w.cell? ⟨1, 6, none⟩ = some (.int .i64 0) ∧ w.cell? ⟨1, 7, none⟩ = some (.int .i64 1)
theorem SidesIn.below {w w' : World} (h : SidesIn w) (hb : Below w.heap.size w w') : SidesIn w' := by
 obtain ⟨h0, h1, h2, h3, h4, h5, h6, h7⟩ := h; exact ⟨zj hb h0, zj hb h1, zj hb h2, zj hb h3, zj hb h4, zj hb h5, zj hb h6, zj hb h7⟩
def ints (L : List Int) : List Value := L.map (Value.int .i64)
def drow (j : Nat) : Int := if j = 0 then -1 else if j = 1 then 1 else 0
def dcol (j : Nat) : Int := if j = 2 then -1 else if j = 3 then 1 else 0
def atM (ro co r k : Int) : Int := if rngB r 0 (ro - 1) && rngB k 0 (co - 1) then r * co + k else -1
def nbAt (ro co c : Int) : Nat -> List Int
 | 0 => []
 | j + 1 => nbAt ro co c j ++ (if rngB (c / co + drow j) 0 (ro - 1) && rngB (c % co + dcol j) 0 (co - 1) then [(c / co + drow j) * co + (c % co + dcol j)] else [])
theorem rng_bd {n a b : Int} (h : rngB n a b = true) : a <= n ∧ n <= b := by unfold rngB at h; simpa using h
theorem atM_is {ro co r k : Int} (h3 : 0 <= co) : atM ro co r k = -1 ∧ (rngB r 0 (ro - 1) && rngB k 0 (co - 1)) = false ∨ 0 <= atM ro co r k ∧ atM ro co r k = r * co + k ∧ (rngB r 0 (ro - 1) && rngB k 0 (co - 1)) = true := by
 unfold atM; by_cases e : (rngB r 0 (ro - 1) && rngB k 0 (co - 1)) = true
 . rw [if_pos e]; rw [Bool.and_eq_true] at e; have h1 := rng_bd e.1; have h2 := rng_bd e.2; have h4 := Int.mul_nonneg h1.1 h3; exact Or.inr ⟨by omega, rfl, by rw [e.1, e.2]; rfl⟩
 . rw [if_neg e]; exact Or.inl ⟨rfl, by simpa using e⟩
theorem nb_none {ro co c r k : Int} {j : Nat} (h : (rngB r 0 (ro - 1) && rngB k 0 (co - 1)) = false) (hr : c / co + drow j = r) (hk : c % co + dcol j = k) : nbAt ro co c (j + 1) = nbAt ro co c j := by
 simp only [nbAt, hr, hk, h]; simp
theorem nb_some {ro co c r k z : Int} {j : Nat} (h : (rngB r 0 (ro - 1) && rngB k 0 (co - 1)) = true) (hr : c / co + drow j = r) (hk : c % co + dcol j = k) (hz : z = r * co + k) : nbAt ro co c (j + 1) = nbAt ro co c j ++ [z] := by
 simp only [nbAt, hr, hk, h, hz]; simp
theorem gat_any (ro co bu r k : Int) (cs : ByteArray) (ca : Value) (w : World) (h1 : 1 <= ro) (h2 : ro <= 1000000000000000) (h3 : 1 <= co) (h4 : co <= 1000000000000000) (hp : ro * co <= 1000000000000000) :
 Calls Tryz.prog 91 #[.agg #[.int .i64 ro, .int .i64 co, .string cs, ca, .int .i64 bu], .int .i64 r, .int .i64 k] w fun e w' => e = .returned (.int .i64 (atM ro co r k)) ∧ Below w.heap.size w w' := by
 have B0 : Hid (∀ o, Below w.heap.size w (w.alloc o)) := fun o => (Below.refl _ w).alloc zl o
 go_enter Tryz.func91, Tryz.ntmps91; go_wp2_with fail; have HB := B0.out (Obj.cells #[Value.int .i64 ro, .int .i64 co, .string cs, ca, .int .i64 bu] 34); have HB := zx HB; have y0 : ∀ o, (w.alloc (.cells #[.int .i64 ro, .int .i64 co, .string cs, ca, .int .i64 bu] 34)).cell? ⟨w.heap.size, o, none⟩ = #[Value.int .i64 ro, .int .i64 co, .string cs, ca, .int .i64 bu][o]? := by
  intro o; go_simp
 have Y0 := zx y0; have x0 := y0 0; have x1 := y0 1; simp only [zA, zB, zC] at x0 x1; clear y0; generalize (w.alloc (.cells #[.int .i64 ro, .int .i64 co, .string cs, ca, .int .i64 bu] 34)) = w1 at *; refine (within_rng _ _ _ _).mono ?_; rintro e w2 ⟨rfl, hw2⟩; have hw2 := hw2.symm; subst hw2; by_cases g1 : rngB r 0 (ro - 1) = true
 . have G1 := zx g1; rw [g1]; go_wp2_with fail; refine (within_rng _ _ _ _).mono ?_; rintro e w2 ⟨rfl, hw2⟩; have hw2 := hw2.symm; subst hw2; by_cases g2 : rngB k 0 (co - 1) = true
   . have b1 := rng_bd g1; have b2 := rng_bd g2; have b3 : 0 <= r * co := Int.mul_nonneg b1.1 (by omega); have b4 : r * co <= (ro - 1) * co := Int.mul_le_mul_of_nonneg_right b1.2 (by omega); have b5 : (ro - 1) * co = ro * co - co := by rw [Int.sub_mul, Int.one_mul]
     have R : Hid (atM ro co r k = r * co + k) := by unfold Hid atM; rw [g1, g2]; rfl
     rw [g2]; clear g1; go_wp2; go_ret; exact ⟨ret_int R.out.symm, HB.out⟩
   . have g2 : rngB k 0 (co - 1) = false := by simpa using g2
     have R : Hid (atM ro co r k = -1) := by unfold Hid atM; rw [g2]; simp
     rw [g2]; clear g1; go_wp2; go_ret; exact ⟨ret_int R.out.symm, HB.out⟩
 . have g1 : rngB r 0 (ro - 1) = false := by simpa using g1
   have R : Hid (atM ro co r k = -1) := by unfold Hid atM; rw [g1]; rfl
   rw [g1]; go_wp2; go_ret; exact ⟨ret_int R.out.symm, HB.out⟩
theorem nbAt_len (ro co c : Int) : ∀ j, (nbAt ro co c j).length <= j
 | 0 => Nat.le_refl 0
 | j + 1 => by
   have := nbAt_len ro co c j; simp only [nbAt, List.length_append]; split <;> simp <;> omega
def sidesV : Array Value := #[.int .i64 (-1), .int .i64 0, .int .i64 1, .int .i64 0, .int .i64 0, .int .i64 (-1), .int .i64 0, .int .i64 1]
theorem side_at0 (w : World) : (Instr.index 184 (.agg sidesV) (.int .i64 0)).run Tryz.prog w = .ok (.agg #[.int .i64 (-1), .int .i64 0]) w := by kernel_rfl
theorem side_at1 (w : World) : (Instr.index 184 (.agg sidesV) (.int .i64 1)).run Tryz.prog w = .ok (.agg #[.int .i64 1, .int .i64 0]) w := by kernel_rfl
theorem side_at2 (w : World) : (Instr.index 184 (.agg sidesV) (.int .i64 2)).run Tryz.prog w = .ok (.agg #[.int .i64 0, .int .i64 (-1)]) w := by kernel_rfl
theorem side_at3 (w : World) : (Instr.index 184 (.agg sidesV) (.int .i64 3)).run Tryz.prog w = .ok (.agg #[.int .i64 0, .int .i64 1]) w := by kernel_rfl
theorem neighbours_any (ro co bu : Int) (cs : ByteArray) (ca : Value) (c : Nat) (w : World) (hsd : SidesIn w) (r1 : 1 <= ro) (r2 : ro <= 6) (r3 : 1 <= co) (r4 : co <= 6) (hc : c <= 36) :
 Calls Tryz.prog 105 #[.agg #[.int .i64 ro, .int .i64 co, .string cs, ca, .int .i64 bu], .int .i64 c] w fun e w' =>
  ∃ v, e = .returned v ∧ w'.ownsRow w.heap.size 3 1 v (nbAt ro co c 4).length (ints (nbAt ro co c 4)) ∧ Below w.heap.size w w' := by
 obtain ⟨s0, s1, s2, s3, s4, s5, s6, s7⟩ := hsd; have hz : 1 < w.heap.size := World.block_lt_of_cell? _ _ s0; obtain ⟨q1, q2, q3, q4⟩ := divmod_bd (a := c) (by omega) (by omega) r3 r4; have hco : (co == 0) = false := by simp; omega
 have i0 := side_at0; have i1 := side_at1; have i2 := side_at2; have i3 := side_at3; unfold sidesV at i0 i1 i2 i3; go_enter Tryz.func105, Tryz.ntmps105; go_wp2; have hB0 : Hid (Below w.heap.size w (w.alloc (.cells #[.int .i64 ro, .int .i64 co, .string cs, ca, .int .i64 bu] 34))) := (Below.refl _ w).alloc zl _; have y0 : ∀ o, (w.alloc (.cells #[.int .i64 ro, .int .i64 co, .string cs, ca, .int .i64 bu] 34)).cell? ⟨w.heap.size, o, none⟩ = #[Value.int .i64 ro, .int .i64 co, .string cs, ca, .int .i64 bu][o]? := by
  intro o; go_simp
 have hz0 : (w.alloc (.cells #[.int .i64 ro, .int .i64 co, .string cs, ca, .int .i64 bu] 34)).heap.size = w.heap.size + 1 := by simp
 clear s0 s1 s2 s3 s4 s5 s6 s7 hz; generalize w.alloc (.cells #[.int .i64 ro, .int .i64 co, .string cs, ca, .int .i64 bu] 34) = w1 at *; go_loopw [5, 10] (fun v s wr => ∃ j : Nat, j <= 4 ∧ s = .int .i64 j ∧ wr.ownsRow (w.heap.size + 1) 3 1 v (nbAt ro co c j).length (ints (nbAt ro co c j)) ∧ Below (w.heap.size + 1) w1 wr) (fun _ s _ => 4 - (intOf s).toNat)
 case atStart => exact ⟨0, by omega, rfl, own_nil _ _ _, Below.refl _ _⟩
 case round =>
  obtain ⟨j, hj, rfl, hown, hbr⟩ := hrel; have hlen := nbAt_len ro co c j; have hzr : w.heap.size < wr.heap.size := by have := hbr.size; omega
  have y1 : ∀ o, wr.cell? ⟨w.heap.size, o, none⟩ = #[Value.int .i64 ro, .int .i64 co, .string cs, ca, .int .i64 bu][o]? := fun o => (hbr.cell (p := ⟨w.heap.size, o, none⟩) (by show w.heap.size < _; omega)).trans (y0 o)
  have HO := zx hown; have HB := zx hbr; clear hown hbr y0; by_cases hlt : j < 4
  . have HMU : Hid (ro * co <= 1000000000000000) := by
     have := (mul_bd r1 r2 r3 r4).2; unfold Hid; omega
    have e4 : j = 0 ∨ j = 1 ∨ j = 2 ∨ j = 3 := by omega
    rcases e4 with rfl | rfl | rfl | rfl
    . clear i1 i2 i3; have YA : Hid (∀ o, (wr.alloc (.cells #[.int .i64 (-1), .int .i64 0] 183)).cell? ⟨w.heap.size, o, none⟩ = #[Value.int .i64 ro, .int .i64 co, .string cs, ca, .int .i64 bu][o]?) := fun o => (((Below.refl wr.heap.size wr).alloc zl _).cell (p := ⟨w.heap.size, o, none⟩) hzr).trans (y1 o)
      have SA : Hid (∀ o, (wr.alloc (.cells #[.int .i64 (-1), .int .i64 0] 183)).cell? ⟨wr.heap.size, o, none⟩ = #[Value.int .i64 (-1), .int .i64 0][o]?) := by intro o; go_simp
      have HBA : Hid (Below wr.heap.size wr (wr.alloc (.cells #[.int .i64 (-1), .int .i64 0] 183))) := (Below.refl wr.heap.size wr).alloc zl _; have hza : (wr.alloc (.cells #[.int .i64 (-1), .int .i64 0] 183)).heap.size = wr.heap.size + 1 := by simp
      go_upto_region 5 with fail; generalize (wr.alloc (.cells #[.int .i64 (-1), .int .i64 0] 183)) = wa at *; have y0 := YA.out 0; have y1 := YA.out 1; have y2 := YA.out 2; have y3 := YA.out 3; have y4 := YA.out 4; have s0 := SA.out 0; have s1 := SA.out 1; simp only [zA, zB, zC] at y0 y1 y2 y3 y4 s0 s1; have n1 : w.heap.size < wa.heap.size := by omega
      have n2 : wr.heap.size < wa.heap.size := by omega
      have v0 : ¬ co = 0 := by omega
      obtain ⟨R0, hR0⟩ : ∃ R0, R0 = (c : Int) / co := ⟨_, rfl⟩
      obtain ⟨K0, hK0⟩ : ∃ K0, K0 = (c : Int) % co := ⟨_, rfl⟩
      obtain ⟨r, hr⟩ : ∃ r, r = R0 + (-1) := ⟨_, rfl⟩
      obtain ⟨k, hk⟩ : ∃ k, k = K0 := ⟨_, rfl⟩
      rw [<- hk] at hK0; have v3 : (c : Int).tdiv co = R0 := by rw [hR0]; exact Int.tdiv_eq_ediv_of_nonneg (by omega)
      have v4 : (c : Int).tmod co = k := by rw [hK0]; exact Int.tmod_eq_emod_of_nonneg (by omega)
      rw [<- hR0] at q1 q2; rw [<- hK0] at q3 q4; have v5 : IntKind.i64.wrap R0 = R0 := by rw [IntKind.wrap_i64]; omega
      have v6 : IntKind.i64.wrap k = k := by rw [IntKind.wrap_i64]; omega
      have v1 : IntKind.i64.wrap (R0 + (-1)) = r := by rw [IntKind.wrap_i64]; omega
      have v2 : k = k := rfl; have HRR : Hid ((c : Int) / co + drow 0 = r) := by unfold Hid; rw [hr, hR0]; simp [drow]
      have HKK : Hid ((c : Int) % co + dcol 0 = k) := by unfold Hid; rw [hK0]; simp [dcol]
      clear hR0 hK0 hr hk; go_region_held3 (fun w' => w'.cell? ⟨w.heap.size, 0, none⟩ = some (.int .i64 ro) ∧ w'.cell? ⟨w.heap.size, 1, none⟩ = some (.int .i64 co) ∧ w'.cell? ⟨w.heap.size, 2, none⟩ = some (.string cs) ∧ w'.cell? ⟨w.heap.size, 3, none⟩ = some ca ∧ w'.cell? ⟨w.heap.size, 4, none⟩ = some (.int .i64 bu) ∧ w'.cell? ⟨wr.heap.size, 0, none⟩ = some (.int .i64 (-1)) ∧ w'.cell? ⟨wr.heap.size, 1, none⟩ = some (.int .i64 0)) (go_keep)
       (first
        | (go_at_call 91; refine (gat_any ro co bu r k cs ca _ r1 (by omega) r3 (by omega) HMU.out).mono ?_; rintro e w4 ⟨rfl, hb4⟩; have q0 : w4.cell? ⟨w.heap.size, 0, none⟩ = some (.int .i64 ro) := (hb4.cell (p := ⟨w.heap.size, 0, none⟩) n1).trans y0; have q1 : w4.cell? ⟨w.heap.size, 1, none⟩ = some (.int .i64 co) := (hb4.cell (p := ⟨w.heap.size, 1, none⟩) n1).trans y1; have q2 : w4.cell? ⟨w.heap.size, 2, none⟩ = some (.string cs) := (hb4.cell (p := ⟨w.heap.size, 2, none⟩) n1).trans y2; have q3 : w4.cell? ⟨w.heap.size, 3, none⟩ = some ca := (hb4.cell (p := ⟨w.heap.size, 3, none⟩) n1).trans y3; have q4 : w4.cell? ⟨w.heap.size, 4, none⟩ = some (.int .i64 bu) := (hb4.cell (p := ⟨w.heap.size, 4, none⟩) n1).trans y4; have q5 : w4.cell? ⟨wr.heap.size, 0, none⟩ = some (.int .i64 (-1)) := (hb4.cell (p := ⟨wr.heap.size, 0, none⟩) n2).trans s0; have q6 : w4.cell? ⟨wr.heap.size, 1, none⟩ = some (.int .i64 0) := (hb4.cell (p := ⟨wr.heap.size, 1, none⟩) n2).trans s1))
      have HB4 := zx (HBA.out.trans ((Below.refl wa.heap.size wa).drew.trans (by exact hb4) |>.mono (by omega))); have HO4 : Hid (w4.ownsRow (w.heap.size + 1) 3 1 u5 (nbAt ro co c 0).length (ints (nbAt ro co c 0))) := own_below HO.out HB4.out; have HBW := zx (HB.out.trans (HB4.out.mono (by omega))); have hz4 := HB4.out.size; obtain ⟨z, hz⟩ : ∃ z, z = atM ro co r k := ⟨_, rfl⟩
      have ZI := atM_is (ro := ro) (co := co) (r := r) (k := k) (by omega); rw [<- hz] at ZI; rw [<- hz]; clear hz hb4 q0 q1 q2 q3 q4 q5 q6 y0 y1 y2 y3 y4 s0 s1 v0 v1 v2 v3 v4 v5 v6; rcases ZI with ⟨z0, zb⟩ | ⟨z0, z1, zb⟩
      . subst z0; have e3 := nb_none zb (c := c) (j := 0) HRR.out HKK.out; go_wp2; go_roundw; case rel => exact ⟨0 + 1, by omega, by go_num, by rw [e3]; exact HO4.out, HBW.out⟩
        case measure => simp [intOf]
      . have e3 := nb_some zb (c := c) (j := 0) HRR.out HKK.out z1; have zn : (z != -1) = true := by simp; omega
        clear z1; go_wp2_with (refine wpList_push rfl _ _ 23 rfl (w.heap.size + 1) 3 _ _ Tryz.underlying23 Tryz.infoInt rfl _ _ _ rfl (by exact own_below HO4.out ((Below.refl _ _).alloc zl _)) _ _ (.int .i64 z) rfl (by go_simp) rfl (by unfold maxLen; omega) (by omega) (by simp; omega) ?_)
        intro g cap w5 ho5 hg5; have hb5 := grown_below (own_below HO4.out ((Below.refl _ _).alloc zl _)) hg5 (by simp; omega); go_wp2; go_roundw; case rel => exact ⟨0 + 1, by omega, by go_num, by rw [e3]; simpa [ints] using ho5, HBW.out.trans (((Below.refl _ _).alloc (by omega) _).trans hb5)⟩
        case measure => simp [intOf]
    . clear i0 i2 i3; have YA : Hid (∀ o, (wr.alloc (.cells #[.int .i64 1, .int .i64 0] 183)).cell? ⟨w.heap.size, o, none⟩ = #[Value.int .i64 ro, .int .i64 co, .string cs, ca, .int .i64 bu][o]?) := fun o => (((Below.refl wr.heap.size wr).alloc zl _).cell (p := ⟨w.heap.size, o, none⟩) hzr).trans (y1 o)
      have SA : Hid (∀ o, (wr.alloc (.cells #[.int .i64 1, .int .i64 0] 183)).cell? ⟨wr.heap.size, o, none⟩ = #[Value.int .i64 1, .int .i64 0][o]?) := by intro o; go_simp
      have HBA : Hid (Below wr.heap.size wr (wr.alloc (.cells #[.int .i64 1, .int .i64 0] 183))) := (Below.refl wr.heap.size wr).alloc zl _; have hza : (wr.alloc (.cells #[.int .i64 1, .int .i64 0] 183)).heap.size = wr.heap.size + 1 := by simp
      go_upto_region 5 with fail; generalize (wr.alloc (.cells #[.int .i64 1, .int .i64 0] 183)) = wa at *; have y0 := YA.out 0; have y1 := YA.out 1; have y2 := YA.out 2; have y3 := YA.out 3; have y4 := YA.out 4; have s0 := SA.out 0; have s1 := SA.out 1; simp only [zA, zB, zC] at y0 y1 y2 y3 y4 s0 s1; have n1 : w.heap.size < wa.heap.size := by omega
      have n2 : wr.heap.size < wa.heap.size := by omega
      have v0 : ¬ co = 0 := by omega
      obtain ⟨R0, hR0⟩ : ∃ R0, R0 = (c : Int) / co := ⟨_, rfl⟩
      obtain ⟨K0, hK0⟩ : ∃ K0, K0 = (c : Int) % co := ⟨_, rfl⟩
      obtain ⟨r, hr⟩ : ∃ r, r = R0 + 1 := ⟨_, rfl⟩
      obtain ⟨k, hk⟩ : ∃ k, k = K0 := ⟨_, rfl⟩
      rw [<- hk] at hK0; have v3 : (c : Int).tdiv co = R0 := by rw [hR0]; exact Int.tdiv_eq_ediv_of_nonneg (by omega)
      have v4 : (c : Int).tmod co = k := by rw [hK0]; exact Int.tmod_eq_emod_of_nonneg (by omega)
      rw [<- hR0] at q1 q2; rw [<- hK0] at q3 q4; have v5 : IntKind.i64.wrap R0 = R0 := by rw [IntKind.wrap_i64]; omega
      have v6 : IntKind.i64.wrap k = k := by rw [IntKind.wrap_i64]; omega
      have v1 : IntKind.i64.wrap (R0 + 1) = r := by rw [IntKind.wrap_i64]; omega
      have v2 : k = k := rfl; have HRR : Hid ((c : Int) / co + drow 1 = r) := by unfold Hid; rw [hr, hR0]; simp [drow]
      have HKK : Hid ((c : Int) % co + dcol 1 = k) := by unfold Hid; rw [hK0]; simp [dcol]
      clear hR0 hK0 hr hk; go_region_held3 (fun w' => w'.cell? ⟨w.heap.size, 0, none⟩ = some (.int .i64 ro) ∧ w'.cell? ⟨w.heap.size, 1, none⟩ = some (.int .i64 co) ∧ w'.cell? ⟨w.heap.size, 2, none⟩ = some (.string cs) ∧ w'.cell? ⟨w.heap.size, 3, none⟩ = some ca ∧ w'.cell? ⟨w.heap.size, 4, none⟩ = some (.int .i64 bu) ∧ w'.cell? ⟨wr.heap.size, 0, none⟩ = some (.int .i64 1) ∧ w'.cell? ⟨wr.heap.size, 1, none⟩ = some (.int .i64 0)) (go_keep)
       (first
        | (go_at_call 91; refine (gat_any ro co bu r k cs ca _ r1 (by omega) r3 (by omega) HMU.out).mono ?_; rintro e w4 ⟨rfl, hb4⟩; have q0 : w4.cell? ⟨w.heap.size, 0, none⟩ = some (.int .i64 ro) := (hb4.cell (p := ⟨w.heap.size, 0, none⟩) n1).trans y0; have q1 : w4.cell? ⟨w.heap.size, 1, none⟩ = some (.int .i64 co) := (hb4.cell (p := ⟨w.heap.size, 1, none⟩) n1).trans y1; have q2 : w4.cell? ⟨w.heap.size, 2, none⟩ = some (.string cs) := (hb4.cell (p := ⟨w.heap.size, 2, none⟩) n1).trans y2; have q3 : w4.cell? ⟨w.heap.size, 3, none⟩ = some ca := (hb4.cell (p := ⟨w.heap.size, 3, none⟩) n1).trans y3; have q4 : w4.cell? ⟨w.heap.size, 4, none⟩ = some (.int .i64 bu) := (hb4.cell (p := ⟨w.heap.size, 4, none⟩) n1).trans y4; have q5 : w4.cell? ⟨wr.heap.size, 0, none⟩ = some (.int .i64 1) := (hb4.cell (p := ⟨wr.heap.size, 0, none⟩) n2).trans s0; have q6 : w4.cell? ⟨wr.heap.size, 1, none⟩ = some (.int .i64 0) := (hb4.cell (p := ⟨wr.heap.size, 1, none⟩) n2).trans s1))
      have HB4 := zx (HBA.out.trans ((Below.refl wa.heap.size wa).drew.trans (by exact hb4) |>.mono (by omega))); have HO4 : Hid (w4.ownsRow (w.heap.size + 1) 3 1 u5 (nbAt ro co c 1).length (ints (nbAt ro co c 1))) := own_below HO.out HB4.out; have HBW := zx (HB.out.trans (HB4.out.mono (by omega))); have hz4 := HB4.out.size; obtain ⟨z, hz⟩ : ∃ z, z = atM ro co r k := ⟨_, rfl⟩
      have ZI := atM_is (ro := ro) (co := co) (r := r) (k := k) (by omega); rw [<- hz] at ZI; rw [<- hz]; clear hz hb4 q0 q1 q2 q3 q4 q5 q6 y0 y1 y2 y3 y4 s0 s1 v0 v1 v2 v3 v4 v5 v6; rcases ZI with ⟨z0, zb⟩ | ⟨z0, z1, zb⟩
      . subst z0; have e3 := nb_none zb (c := c) (j := 1) HRR.out HKK.out; go_wp2; go_roundw; case rel => exact ⟨1 + 1, by omega, by go_num, by rw [e3]; exact HO4.out, HBW.out⟩
        case measure => simp [intOf]
      . have e3 := nb_some zb (c := c) (j := 1) HRR.out HKK.out z1; have zn : (z != -1) = true := by simp; omega
        clear z1; go_wp2_with (refine wpList_push rfl _ _ 23 rfl (w.heap.size + 1) 3 _ _ Tryz.underlying23 Tryz.infoInt rfl _ _ _ rfl (by exact own_below HO4.out ((Below.refl _ _).alloc zl _)) _ _ (.int .i64 z) rfl (by go_simp) rfl (by unfold maxLen; omega) (by omega) (by simp; omega) ?_)
        intro g cap w5 ho5 hg5; have hb5 := grown_below (own_below HO4.out ((Below.refl _ _).alloc zl _)) hg5 (by simp; omega); go_wp2; go_roundw; case rel => exact ⟨1 + 1, by omega, by go_num, by rw [e3]; simpa [ints] using ho5, HBW.out.trans (((Below.refl _ _).alloc (by omega) _).trans hb5)⟩
        case measure => simp [intOf]
    . clear i0 i1 i3; have YA : Hid (∀ o, (wr.alloc (.cells #[.int .i64 0, .int .i64 (-1)] 183)).cell? ⟨w.heap.size, o, none⟩ = #[Value.int .i64 ro, .int .i64 co, .string cs, ca, .int .i64 bu][o]?) := fun o => (((Below.refl wr.heap.size wr).alloc zl _).cell (p := ⟨w.heap.size, o, none⟩) hzr).trans (y1 o)
      have SA : Hid (∀ o, (wr.alloc (.cells #[.int .i64 0, .int .i64 (-1)] 183)).cell? ⟨wr.heap.size, o, none⟩ = #[Value.int .i64 0, .int .i64 (-1)][o]?) := by intro o; go_simp
      have HBA : Hid (Below wr.heap.size wr (wr.alloc (.cells #[.int .i64 0, .int .i64 (-1)] 183))) := (Below.refl wr.heap.size wr).alloc zl _; have hza : (wr.alloc (.cells #[.int .i64 0, .int .i64 (-1)] 183)).heap.size = wr.heap.size + 1 := by simp
      go_upto_region 5 with fail; generalize (wr.alloc (.cells #[.int .i64 0, .int .i64 (-1)] 183)) = wa at *; have y0 := YA.out 0; have y1 := YA.out 1; have y2 := YA.out 2; have y3 := YA.out 3; have y4 := YA.out 4; have s0 := SA.out 0; have s1 := SA.out 1; simp only [zA, zB, zC] at y0 y1 y2 y3 y4 s0 s1; have n1 : w.heap.size < wa.heap.size := by omega
      have n2 : wr.heap.size < wa.heap.size := by omega
      have v0 : ¬ co = 0 := by omega
      obtain ⟨R0, hR0⟩ : ∃ R0, R0 = (c : Int) / co := ⟨_, rfl⟩
      obtain ⟨K0, hK0⟩ : ∃ K0, K0 = (c : Int) % co := ⟨_, rfl⟩
      obtain ⟨r, hr⟩ : ∃ r, r = R0 := ⟨_, rfl⟩
      rw [<- hr] at hR0; obtain ⟨k, hk⟩ : ∃ k, k = K0 + (-1) := ⟨_, rfl⟩
      have v3 : (c : Int).tdiv co = r := by rw [hR0]; exact Int.tdiv_eq_ediv_of_nonneg (by omega)
      have v4 : (c : Int).tmod co = K0 := by rw [hK0]; exact Int.tmod_eq_emod_of_nonneg (by omega)
      rw [<- hR0] at q1 q2; rw [<- hK0] at q3 q4; have v5 : IntKind.i64.wrap r = r := by rw [IntKind.wrap_i64]; omega
      have v6 : IntKind.i64.wrap K0 = K0 := by rw [IntKind.wrap_i64]; omega
      have v1 : r = r := rfl; have v2 : IntKind.i64.wrap (K0 + (-1)) = k := by rw [IntKind.wrap_i64]; omega
      have HRR : Hid ((c : Int) / co + drow 2 = r) := by unfold Hid; rw [hR0]; simp [drow]
      have HKK : Hid ((c : Int) % co + dcol 2 = k) := by unfold Hid; rw [hk, hK0]; simp [dcol]
      clear hR0 hK0 hr hk; go_region_held3 (fun w' => w'.cell? ⟨w.heap.size, 0, none⟩ = some (.int .i64 ro) ∧ w'.cell? ⟨w.heap.size, 1, none⟩ = some (.int .i64 co) ∧ w'.cell? ⟨w.heap.size, 2, none⟩ = some (.string cs) ∧ w'.cell? ⟨w.heap.size, 3, none⟩ = some ca ∧ w'.cell? ⟨w.heap.size, 4, none⟩ = some (.int .i64 bu) ∧ w'.cell? ⟨wr.heap.size, 0, none⟩ = some (.int .i64 0) ∧ w'.cell? ⟨wr.heap.size, 1, none⟩ = some (.int .i64 (-1))) (go_keep)
       (first
        | (go_at_call 91; refine (gat_any ro co bu r k cs ca _ r1 (by omega) r3 (by omega) HMU.out).mono ?_; rintro e w4 ⟨rfl, hb4⟩; have q0 : w4.cell? ⟨w.heap.size, 0, none⟩ = some (.int .i64 ro) := (hb4.cell (p := ⟨w.heap.size, 0, none⟩) n1).trans y0; have q1 : w4.cell? ⟨w.heap.size, 1, none⟩ = some (.int .i64 co) := (hb4.cell (p := ⟨w.heap.size, 1, none⟩) n1).trans y1; have q2 : w4.cell? ⟨w.heap.size, 2, none⟩ = some (.string cs) := (hb4.cell (p := ⟨w.heap.size, 2, none⟩) n1).trans y2; have q3 : w4.cell? ⟨w.heap.size, 3, none⟩ = some ca := (hb4.cell (p := ⟨w.heap.size, 3, none⟩) n1).trans y3; have q4 : w4.cell? ⟨w.heap.size, 4, none⟩ = some (.int .i64 bu) := (hb4.cell (p := ⟨w.heap.size, 4, none⟩) n1).trans y4; have q5 : w4.cell? ⟨wr.heap.size, 0, none⟩ = some (.int .i64 0) := (hb4.cell (p := ⟨wr.heap.size, 0, none⟩) n2).trans s0; have q6 : w4.cell? ⟨wr.heap.size, 1, none⟩ = some (.int .i64 (-1)) := (hb4.cell (p := ⟨wr.heap.size, 1, none⟩) n2).trans s1))
      have HB4 := zx (HBA.out.trans ((Below.refl wa.heap.size wa).drew.trans (by exact hb4) |>.mono (by omega))); have HO4 : Hid (w4.ownsRow (w.heap.size + 1) 3 1 u5 (nbAt ro co c 2).length (ints (nbAt ro co c 2))) := own_below HO.out HB4.out; have HBW := zx (HB.out.trans (HB4.out.mono (by omega))); have hz4 := HB4.out.size; obtain ⟨z, hz⟩ : ∃ z, z = atM ro co r k := ⟨_, rfl⟩
      have ZI := atM_is (ro := ro) (co := co) (r := r) (k := k) (by omega); rw [<- hz] at ZI; rw [<- hz]; clear hz hb4 q0 q1 q2 q3 q4 q5 q6 y0 y1 y2 y3 y4 s0 s1 v0 v1 v2 v3 v4 v5 v6; rcases ZI with ⟨z0, zb⟩ | ⟨z0, z1, zb⟩
      . subst z0; have e3 := nb_none zb (c := c) (j := 2) HRR.out HKK.out; go_wp2; go_roundw; case rel => exact ⟨2 + 1, by omega, by go_num, by rw [e3]; exact HO4.out, HBW.out⟩
        case measure => simp [intOf]
      . have e3 := nb_some zb (c := c) (j := 2) HRR.out HKK.out z1; have zn : (z != -1) = true := by simp; omega
        clear z1; go_wp2_with (refine wpList_push rfl _ _ 23 rfl (w.heap.size + 1) 3 _ _ Tryz.underlying23 Tryz.infoInt rfl _ _ _ rfl (by exact own_below HO4.out ((Below.refl _ _).alloc zl _)) _ _ (.int .i64 z) rfl (by go_simp) rfl (by unfold maxLen; omega) (by omega) (by simp; omega) ?_)
        intro g cap w5 ho5 hg5; have hb5 := grown_below (own_below HO4.out ((Below.refl _ _).alloc zl _)) hg5 (by simp; omega); go_wp2; go_roundw; case rel => exact ⟨2 + 1, by omega, by go_num, by rw [e3]; simpa [ints] using ho5, HBW.out.trans (((Below.refl _ _).alloc (by omega) _).trans hb5)⟩
        case measure => simp [intOf]
    . clear i0 i1 i2; have YA : Hid (∀ o, (wr.alloc (.cells #[.int .i64 0, .int .i64 1] 183)).cell? ⟨w.heap.size, o, none⟩ = #[Value.int .i64 ro, .int .i64 co, .string cs, ca, .int .i64 bu][o]?) := fun o => (((Below.refl wr.heap.size wr).alloc zl _).cell (p := ⟨w.heap.size, o, none⟩) hzr).trans (y1 o)
      have SA : Hid (∀ o, (wr.alloc (.cells #[.int .i64 0, .int .i64 1] 183)).cell? ⟨wr.heap.size, o, none⟩ = #[Value.int .i64 0, .int .i64 1][o]?) := by intro o; go_simp
      have HBA : Hid (Below wr.heap.size wr (wr.alloc (.cells #[.int .i64 0, .int .i64 1] 183))) := (Below.refl wr.heap.size wr).alloc zl _; have hza : (wr.alloc (.cells #[.int .i64 0, .int .i64 1] 183)).heap.size = wr.heap.size + 1 := by simp
      go_upto_region 5 with fail; generalize (wr.alloc (.cells #[.int .i64 0, .int .i64 1] 183)) = wa at *; have y0 := YA.out 0; have y1 := YA.out 1; have y2 := YA.out 2; have y3 := YA.out 3; have y4 := YA.out 4; have s0 := SA.out 0; have s1 := SA.out 1; simp only [zA, zB, zC] at y0 y1 y2 y3 y4 s0 s1; have n1 : w.heap.size < wa.heap.size := by omega
      have n2 : wr.heap.size < wa.heap.size := by omega
      have v0 : ¬ co = 0 := by omega
      obtain ⟨R0, hR0⟩ : ∃ R0, R0 = (c : Int) / co := ⟨_, rfl⟩
      obtain ⟨K0, hK0⟩ : ∃ K0, K0 = (c : Int) % co := ⟨_, rfl⟩
      obtain ⟨r, hr⟩ : ∃ r, r = R0 := ⟨_, rfl⟩
      rw [<- hr] at hR0; obtain ⟨k, hk⟩ : ∃ k, k = K0 + 1 := ⟨_, rfl⟩
      have v3 : (c : Int).tdiv co = r := by rw [hR0]; exact Int.tdiv_eq_ediv_of_nonneg (by omega)
      have v4 : (c : Int).tmod co = K0 := by rw [hK0]; exact Int.tmod_eq_emod_of_nonneg (by omega)
      rw [<- hR0] at q1 q2; rw [<- hK0] at q3 q4; have v5 : IntKind.i64.wrap r = r := by rw [IntKind.wrap_i64]; omega
      have v6 : IntKind.i64.wrap K0 = K0 := by rw [IntKind.wrap_i64]; omega
      have v1 : r = r := rfl; have v2 : IntKind.i64.wrap (K0 + 1) = k := by rw [IntKind.wrap_i64]; omega
      have HRR : Hid ((c : Int) / co + drow 3 = r) := by unfold Hid; rw [hR0]; simp [drow]
      have HKK : Hid ((c : Int) % co + dcol 3 = k) := by unfold Hid; rw [hk, hK0]; simp [dcol]
      clear hR0 hK0 hr hk; go_region_held3 (fun w' => w'.cell? ⟨w.heap.size, 0, none⟩ = some (.int .i64 ro) ∧ w'.cell? ⟨w.heap.size, 1, none⟩ = some (.int .i64 co) ∧ w'.cell? ⟨w.heap.size, 2, none⟩ = some (.string cs) ∧ w'.cell? ⟨w.heap.size, 3, none⟩ = some ca ∧ w'.cell? ⟨w.heap.size, 4, none⟩ = some (.int .i64 bu) ∧ w'.cell? ⟨wr.heap.size, 0, none⟩ = some (.int .i64 0) ∧ w'.cell? ⟨wr.heap.size, 1, none⟩ = some (.int .i64 1)) (go_keep)
       (first
        | (go_at_call 91; refine (gat_any ro co bu r k cs ca _ r1 (by omega) r3 (by omega) HMU.out).mono ?_; rintro e w4 ⟨rfl, hb4⟩; have q0 : w4.cell? ⟨w.heap.size, 0, none⟩ = some (.int .i64 ro) := (hb4.cell (p := ⟨w.heap.size, 0, none⟩) n1).trans y0; have q1 : w4.cell? ⟨w.heap.size, 1, none⟩ = some (.int .i64 co) := (hb4.cell (p := ⟨w.heap.size, 1, none⟩) n1).trans y1; have q2 : w4.cell? ⟨w.heap.size, 2, none⟩ = some (.string cs) := (hb4.cell (p := ⟨w.heap.size, 2, none⟩) n1).trans y2; have q3 : w4.cell? ⟨w.heap.size, 3, none⟩ = some ca := (hb4.cell (p := ⟨w.heap.size, 3, none⟩) n1).trans y3; have q4 : w4.cell? ⟨w.heap.size, 4, none⟩ = some (.int .i64 bu) := (hb4.cell (p := ⟨w.heap.size, 4, none⟩) n1).trans y4; have q5 : w4.cell? ⟨wr.heap.size, 0, none⟩ = some (.int .i64 0) := (hb4.cell (p := ⟨wr.heap.size, 0, none⟩) n2).trans s0; have q6 : w4.cell? ⟨wr.heap.size, 1, none⟩ = some (.int .i64 1) := (hb4.cell (p := ⟨wr.heap.size, 1, none⟩) n2).trans s1))
      have HB4 := zx (HBA.out.trans ((Below.refl wa.heap.size wa).drew.trans (by exact hb4) |>.mono (by omega))); have HO4 : Hid (w4.ownsRow (w.heap.size + 1) 3 1 u5 (nbAt ro co c 3).length (ints (nbAt ro co c 3))) := own_below HO.out HB4.out; have HBW := zx (HB.out.trans (HB4.out.mono (by omega))); have hz4 := HB4.out.size; obtain ⟨z, hz⟩ : ∃ z, z = atM ro co r k := ⟨_, rfl⟩
      have ZI := atM_is (ro := ro) (co := co) (r := r) (k := k) (by omega); rw [<- hz] at ZI; rw [<- hz]; clear hz hb4 q0 q1 q2 q3 q4 q5 q6 y0 y1 y2 y3 y4 s0 s1 v0 v1 v2 v3 v4 v5 v6; rcases ZI with ⟨z0, zb⟩ | ⟨z0, z1, zb⟩
      . subst z0; have e3 := nb_none zb (c := c) (j := 3) HRR.out HKK.out; go_wp2; go_roundw; case rel => exact ⟨3 + 1, by omega, by go_num, by rw [e3]; exact HO4.out, HBW.out⟩
        case measure => simp [intOf]
      . have e3 := nb_some zb (c := c) (j := 3) HRR.out HKK.out z1; have zn : (z != -1) = true := by simp; omega
        clear z1; go_wp2_with (refine wpList_push rfl _ _ 23 rfl (w.heap.size + 1) 3 _ _ Tryz.underlying23 Tryz.infoInt rfl _ _ _ rfl (by exact own_below HO4.out ((Below.refl _ _).alloc zl _)) _ _ (.int .i64 z) rfl (by go_simp) rfl (by unfold maxLen; omega) (by omega) (by simp; omega) ?_)
        intro g cap w5 ho5 hg5; have hb5 := grown_below (own_below HO4.out ((Below.refl _ _).alloc zl _)) hg5 (by simp; omega); go_wp2; go_roundw; case rel => exact ⟨3 + 1, by omega, by go_num, by rw [e3]; simpa [ints] using ho5, HBW.out.trans (((Below.refl _ _).alloc (by omega) _).trans hb5)⟩
        case measure => simp [intOf]
  . have hd : j = 4 := by omega
    subst hd; go_wp2; go_ret; exact ⟨u5, rfl, own_base HO.out (by omega), hB0.out.trans (HB.out.mono (by omega))⟩
end
section
open M
theorem nbAt_mem {ro co c z : Int} : ∀ {j : Nat}, z ∈ nbAt ro co c j ↔ ∃ i, i < j ∧ rngB (c / co + drow i) 0 (ro - 1) = true ∧ rngB (c % co + dcol i) 0 (co - 1) = true ∧ z = (c / co + drow i) * co + (c % co + dcol i)
 | 0 => by simp [nbAt]
 | j + 1 => by
   simp only [nbAt, List.mem_append]; rw [nbAt_mem (j := j)]; constructor
   . rintro (⟨i, hi, h⟩ | h)
     . exact ⟨i, by omega, h⟩
     . by_cases e : (rngB (c / co + drow j) 0 (ro - 1) && rngB (c % co + dcol j) 0 (co - 1)) = true
       . rw [if_pos e] at h; simp only [Bool.and_eq_true] at e; exact ⟨j, by omega, e.1, e.2, by simpa using h⟩
       . rw [if_neg e] at h; cases h
   . rintro ⟨i, hi, h1, h2, h3⟩; by_cases e : i = j
     . subst e; exact Or.inr (by rw [if_pos (by simp [h1, h2])]; simp [h3])
     . exact Or.inl ⟨i, by omega, h1, h2, h3⟩
theorem divmod_of {co r k : Int} (h1 : 1 <= co) (h2 : co <= 6) (hk0 : 0 <= k) (hk1 : k <= co - 1) : (r * co + k) / co = r ∧ (r * co + k) % co = k := by
 have e : co = 1 ∨ co = 2 ∨ co = 3 ∨ co = 4 ∨ co = 5 ∨ co = 6 := by omega
 rcases e with e | e | e | e | e | e <;> subst e <;> omega
theorem row_lt {co ro a : Int} (h1 : 1 <= co) (h2 : co <= 6) (h0 : 0 <= a) (h3 : a < ro * co) : 0 <= a / co ∧ a / co <= ro - 1 ∧ 0 <= a % co ∧ a % co <= co - 1 ∧ a = (a / co) * co + a % co := by
 have e : co = 1 ∨ co = 2 ∨ co = 3 ∨ co = 4 ∨ co = 5 ∨ co = 6 := by omega
 rcases e with e | e | e | e | e | e <;> subst e <;> omega
theorem nb_near {ro co c z : Int} (h1 : 1 <= co) (h2 : co <= 6) (h : z ∈ nbAt ro co c 4) : nearM co c z = true := by
 obtain ⟨i, hi, hr, hk, rfl⟩ := nbAt_mem.1 h; obtain ⟨k0, k1⟩ := rng_bd hk; obtain ⟨d1, d2⟩ := divmod_of (r := c / co + drow i) h1 h2 k0 k1; rw [near_iff, d1, d2]; have e : i = 0 ∨ i = 1 ∨ i = 2 ∨ i = 3 := by omega
 rcases e with e | e | e | e <;> subst e <;> simp [drow, dcol] <;> omega
theorem nb_all {ro co c a : Int} (h1 : 1 <= co) (h2 : co <= 6) (hc0 : 0 <= c) (hc : c < ro * co) (h0 : 0 <= a) (h3 : a < ro * co) (hn : nearM co c a = true) (hne : a ≠ c) : a ∈ nbAt ro co c 4 := by
 obtain ⟨p1, p2, p3, p4, p5⟩ := row_lt h1 h2 h0 h3; obtain ⟨q1, q2, q3, q4, q5⟩ := row_lt h1 h2 hc0 hc; rw [nbAt_mem]; rw [near_iff] at hn; have go : ∀ i : Nat, i < 4 -> c / co + drow i = a / co -> c % co + dcol i = a % co -> ∃ i, i < 4 ∧ rngB (c / co + drow i) 0 (ro - 1) = true ∧ rngB (c % co + dcol i) 0 (co - 1) = true ∧ a = (c / co + drow i) * co + (c % co + dcol i) := by
  intro i hi e1 e2; exact ⟨i, hi, by rw [e1]; exact rng_in p1 p2, by rw [e2]; exact rng_in p3 p4, by rw [e1, e2]; exact p5⟩
 rcases hn with ⟨e1, e2, e3⟩ | ⟨e1, e2, e3⟩
 . have e4 : c % co - a % co = -1 ∨ c % co - a % co = 0 ∨ c % co - a % co = 1 := by omega
   rcases e4 with e4 | e4 | e4
   . exact go 3 (by omega) (by simp [drow]; omega) (by simp [dcol]; omega)
   . exact absurd (by rw [p5, q5, e1, show c % co = a % co by omega]) hne
   . exact go 2 (by omega) (by simp [drow]; omega) (by simp [dcol]; omega)
 . have e4 : c / co - a / co = -1 ∨ c / co - a / co = 0 ∨ c / co - a / co = 1 := by omega
   rcases e4 with e4 | e4 | e4
   . exact go 1 (by omega) (by simp [drow]; omega) (by simp [dcol]; omega)
   . exact absurd (by rw [p5, q5, e1, show c / co = a / co by omega]) hne
   . exact go 0 (by omega) (by simp [drow]; omega) (by simp [dcol]; omega)
theorem mem_at {L : List Int} {z : Int} (h : z ∈ L) : ∃ m, m < L.length ∧ L.getD m 0 = z := by
 obtain ⟨m, hm, he⟩ := List.mem_iff_getElem.1 h; exact ⟨m, hm, by simp [List.getD, hm, he]⟩
theorem at_mem {L : List Int} {m : Nat} (h : m < L.length) : L.getD m 0 ∈ L := by
 simp [List.getD, h]
theorem ints_at' {L : List Int} {m : Nat} (h : m < L.length) : (ints L)[m]? = some (.int .i64 (L.getD m 0)) := by
 simp [ints, List.getD, h]
def qi (q : List Nat) : List Int := q.map fun (x : Nat) => (x : Int)
theorem qi_at {q : List Nat} {m : Nat} (h : m < q.length) : (ints (qi q))[m]? = some (.int .i64 (q.getD m 0 : Nat)) := by
 simp [ints, qi, List.getD, h]
theorem qi_push (q : List Nat) (x : Nat) : ints (qi q) ++ [.int .i64 x] = ints (qi (q ++ [x])) := by simp [ints, qi]
end
section
open Go.RowKit M
def mvL (ro co : Int) (cs : ByteArray) (c : Int) : List Int := c :: (nbAt ro co c 4).filter (freeB cs)
def mvAt (ro co : Int) (cs : ByteArray) (c : Int) (m : Nat) : List Int := c :: ((nbAt ro co c 4).take m).filter (freeB cs)
theorem mvAt_in {ro co : Int} {cs : ByteArray} {c z : Int} {m : Nat} (hm : m < (nbAt ro co c 4).length) (hz : (nbAt ro co c 4).getD m 0 = z) (hf : freeB cs z = true) : mvAt ro co cs c (m + 1) = mvAt ro co cs c m ++ [z] := by
 have e : (nbAt ro co c 4)[m] = z := by rw [<- hz]; simp [List.getD, hm]
 unfold mvAt; rw [List.take_succ_eq_append_getElem hm, List.filter_append, e]; simp [hf]
theorem mvAt_out {ro co : Int} {cs : ByteArray} {c z : Int} {m : Nat} (hm : m < (nbAt ro co c 4).length) (hz : (nbAt ro co c 4).getD m 0 = z) (hf : freeB cs z = false) : mvAt ro co cs c (m + 1) = mvAt ro co cs c m := by
 have e : (nbAt ro co c 4)[m] = z := by rw [<- hz]; simp [List.getD, hm]
 unfold mvAt; rw [List.take_succ_eq_append_getElem hm, List.filter_append, e]; simp [hf]
theorem mvAt_all {ro co : Int} {cs : ByteArray} {c : Int} {m : Nat} (hm : ¬ m < (nbAt ro co c 4).length) : mvAt ro co cs c m = mvL ro co cs c := by
 unfold mvAt mvL; rw [List.take_of_length_le (by omega)]
theorem mvAt_len {ro co : Int} {cs : ByteArray} {c : Int} {m : Nat} : (mvAt ro co cs c m).length <= 5 := by
 have h1 := nbAt_len ro co c 4; have h2 := List.length_filter_le (freeB cs) ((nbAt ro co c 4).take m); have h3 := List.length_take_le m (nbAt ro co c 4); have h4 : ((nbAt ro co c 4).take m).length <= (nbAt ro co c 4).length := by rw [List.length_take]; omega
 unfold mvAt; simp; omega
theorem mvL_len {ro co : Int} {cs : ByteArray} {c : Int} : (mvL ro co cs c).length <= 5 ∧ 1 <= (mvL ro co cs c).length := by
 refine ⟨?_, by simp [mvL]⟩; have h1 := nbAt_len ro co c 4; have h2 := List.length_filter_le (freeB cs) (nbAt ro co c 4); unfold mvL; simp; omega
theorem mvL_free {ro co : Int} {cs : ByteArray} {c z : Int} (hc : freeB cs c = true) (h : z ∈ mvL ro co cs c) : freeB cs z = true := by
 unfold mvL at h; rcases List.mem_cons.1 h with e | e
 . rw [e]; exact hc
 . exact (List.mem_filter.1 e).2
theorem near_self (co c : Int) : nearM co c c = true := by
 rw [near_iff]; omega
theorem mvL_near {ro co : Int} {cs : ByteArray} {c z : Int} (h1 : 1 <= co) (h2 : co <= 6) (h : z ∈ mvL ro co cs c) : nearM co c z = true := by
 unfold mvL at h; rcases List.mem_cons.1 h with e | e
 . rw [e]; exact near_self co c
 . exact nb_near h1 h2 (List.mem_filter.1 e).1
theorem mvL_all {ro co : Int} {cs : ByteArray} {c z : Int} (h1 : 1 <= co) (h2 : co <= 6) (hsz : (cs.size : Int) = ro * co) (hc0 : 0 <= c) (hc : c < cs.size) (hf : freeB cs z = true) (hn : nearM co c z = true) : z ∈ mvL ro co cs c := by
 unfold mvL; by_cases e : z = c
 . rw [e]; exact List.mem_cons_self
 . refine List.mem_cons_of_mem _ (List.mem_filter.2 ⟨?_, hf⟩); have hz : 0 <= z ∧ z < cs.size := by
    by_cases e : 0 <= z ∧ z < cs.size
    . exact e
    . rw [freeB_out e] at hf; cases hf
   exact nb_all h1 h2 hc0 (by omega) hz.1 (by omega) hn e
theorem moves_any (ro co bu : Int) (cs : ByteArray) (ca : Value) (c : Nat) (w : World) (hsd : SidesIn w) (r1 : 1 <= ro) (r2 : ro <= 6) (r3 : 1 <= co) (r4 : co <= 6) (hc : c <= 36) (hs : cs.size <= 36) :
 Calls Tryz.prog 94 #[.agg #[.int .i64 ro, .int .i64 co, .string cs, ca, .int .i64 bu], .int .i64 c] w fun e w' =>
  ∃ g cap, e = .returned (.slice (some ⟨g, 0, none⟩) (mvL ro co cs c).length cap) ∧ w.heap.size <= g ∧ w'.ownsRow w.heap.size 3 1 (.slice (some ⟨g, 0, none⟩) (mvL ro co cs c).length cap) (mvL ro co cs c).length (ints (mvL ro co cs c)) ∧ Below w.heap.size w w' := by
 have Hsd := zx hsd; have hpos : 1 < w.heap.size := World.block_lt_of_cell? _ _ hsd.1; clear hsd; go_enter Tryz.func94, Tryz.ntmps94; go_wp2_with fail; have hB2 : Hid (Below w.heap.size w ((w.alloc (.cells #[.int .i64 ro, .int .i64 co, .string cs, ca, .int .i64 bu] 34)).alloc (.cells #[.int .i64 c] 3))) := ((Below.refl _ w).alloc zl _).alloc (by simp) _
 have y2 : ∀ o, ((w.alloc (.cells #[.int .i64 ro, .int .i64 co, .string cs, ca, .int .i64 bu] 34)).alloc (.cells #[.int .i64 c] 3)).cell? ⟨w.heap.size, o, none⟩ = #[Value.int .i64 ro, .int .i64 co, .string cs, ca, .int .i64 bu][o]? := by
  intro o; go_simp
 have HQ2 : Hid (((w.alloc (.cells #[.int .i64 ro, .int .i64 co, .string cs, ca, .int .i64 bu] 34)).alloc (.cells #[.int .i64 c] 3)).ownsRow (w.heap.size + 1) 3 1 (.slice (some ⟨w.heap.size + 1, 0, none⟩) (mvAt ro co cs c 0).length 1) (mvAt ro co cs c 0).length (ints (mvAt ro co cs c 0))) :=
  own_base (own_built (w.alloc (.cells #[.int .i64 ro, .int .i64 co, .string cs, ca, .int .i64 bu] 34)) 3 (.int .i64 c) (w.heap.size + 1) (by simp)) (by omega)
 have hz2 : ((w.alloc (.cells #[.int .i64 ro, .int .i64 co, .string cs, ca, .int .i64 bu] 34)).alloc (.cells #[.int .i64 c] 3)).heap.size = w.heap.size + 2 := by simp
 generalize (w.alloc (.cells #[.int .i64 ro, .int .i64 co, .string cs, ca, .int .i64 bu] 34)).alloc (.cells #[.int .i64 c] 3) = w2 at *; refine (neighbours_any _ _ _ _ _ c _ (by exact Hsd.out.below hB2.out) r1 r2 r3 r4 (by omega)).mono ?_; rintro e w5 ⟨nv, rfl, hno, hb5⟩; obtain ⟨L, hL⟩ : ∃ L, L = nbAt ro co c 4 := ⟨_, rfl⟩
 have hLn := nbAt_len ro co c 4; rw [<- hL] at hno hLn; have HL := zx hL; clear hL; obtain ⟨an, capn, rfl, hcn⟩ : ∃ an capn, nv = .slice an L.length capn ∧ (0 < L.length -> ∃ gn, an = some ⟨gn, 0, none⟩ ∧ w2.heap.size <= gn) := by
  rcases hno.2 with ⟨e1, e2⟩ | ⟨gn, cap', cur, e1, e2, _⟩
  . exact ⟨none, 0, by rw [e1, e2], fun h0 => by omega⟩
  . exact ⟨_, cap', e1, fun _ => ⟨gn, rfl, e2⟩⟩
 have HNV := zx hno; have HCN := zx hcn; have HQ5 := zx (own_below HQ2.out hb5); have HB5 : Hid (Below (w.heap.size + 1) w2 w5) := hb5.mono (by omega); have hz5 := hb5.size; have y5 : ∀ o, w5.cell? ⟨w.heap.size, o, none⟩ = #[Value.int .i64 ro, .int .i64 co, .string cs, ca, .int .i64 bu][o]? := fun o => (hb5.cell (p := ⟨w.heap.size, o, none⟩) (by show w.heap.size < _; omega)).trans (y2 o)
 clear hno hcn hb5 y2; go_wp2; go_loopw [5, 14] (fun v s wr => ∃ (m gq cap : Nat), v = .slice (some ⟨gq, 0, none⟩) (mvAt ro co cs c m).length cap ∧ s = .int .i64 m ∧ m <= L.length ∧
  wr.ownsRow (w.heap.size + 1) 3 1 (.slice (some ⟨gq, 0, none⟩) (mvAt ro co cs c m).length cap) (mvAt ro co cs c m).length (ints (mvAt ro co cs c m)) ∧
  wr.ownsRow w2.heap.size 3 1 (.slice an L.length capn) L.length (ints L) ∧ (∀ gn, an = some ⟨gn, 0, none⟩ -> gq ≠ gn) ∧ Below (w.heap.size + 1) w2 wr) (fun _ s _ => L.length - (intOf s).toNat)
 case atStart =>
  refine ⟨0, w.heap.size + 1, 1, rfl, rfl, Nat.zero_le _, HQ5.out, HNV.out, fun gn hgn => ?_, HB5.out⟩; have h1 := HNV.out.lt gn (by rw [hgn]; rfl); omega
 case round =>
  obtain ⟨wi, rfl⟩ : ∃ x, x = wr := ⟨_, rfl⟩
  obtain ⟨m, gq, cap, rfl, rfl, hm, hown, hnv, hne, hbi⟩ := hrel; have HQ := zx hown; have HN := zx hnv; have HE := zx hne; have yi : ∀ o, wi.cell? ⟨w.heap.size, o, none⟩ = #[Value.int .i64 ro, .int .i64 co, .string cs, ca, .int .i64 bu][o]? := fun o => (hbi.cell (p := ⟨w.heap.size, o, none⟩) (by show w.heap.size < _; omega)).trans ((HB5.out.cell (p := ⟨w.heap.size, o, none⟩) (by show w.heap.size < _; omega)).symm.trans (y5 o))
  have HBI := zx hbi; have hzi := hbi.size; have hml := mvAt_len (ro := ro) (co := co) (cs := cs) (c := c) (m := m); clear hown hnv hne hbi y5; by_cases hltm : m < L.length
  . obtain ⟨gn, rfl, hgn⟩ := HCN.out (by omega); have hx := own_cell HN.out hltm; rw [ints_at' hltm] at hx; obtain ⟨z, hz⟩ : ∃ z, z = L.getD m 0 := ⟨_, rfl⟩
    rw [<- hz] at hx; have HZ := zx hz; clear hz; go_wp2_with fail; refine (gfree_any _ _ _ _ _ _ _ (by unfold maxLen; omega)).mono ?_; rintro e w6 ⟨rfl, hb6⟩; have HQ6 := zx (own_below HQ.out hb6); have HN6 := zx (own_below HN.out hb6); have HB6 := zx (HBI.out.trans (hb6.mono (by omega))); have hz6 := hb6.size; clear hx yi hb6; by_cases f1 : freeB cs z = true
    . have e7 := mvAt_in (by rw [<- HL.out]; exact hltm) (by rw [<- HL.out]; exact HZ.out.symm) f1 (ro := ro) (co := co) (c := c); have hgq6 := zx (own_lt HQ6.out); have hgn6 := zx (HN6.out.lt gn rfl); have E7 := zx e7; clear e7
      go_wp2_with (at_builtin; go_must (refine wpList_push2 rfl _ _ 23 rfl (w.heap.size + 1) 3 _ _ Tryz.underlying23 Tryz.infoInt rfl gq (mvAt ro co cs c m).length cap (ints (mvAt ro co cs c m)) rfl (by exact own_below HQ6.out ((Below.refl _ _).alloc zl _)) _ _ (.int .i64 z) rfl (by go_simp) rfl (by unfold maxLen; omega) (by omega) (by have := hgq6.out; simp; omega) ?_))
      intro g2 cap2 w8 ho8 hg8 hor; have HO8 := zx ho8; have HG8 := zx hg8; have HOR := zx hor; clear ho8 hg8 hor; go_wp2; go_roundw; case rel =>
       have hq6 := hgq6.out; have hn6 := hgn6.out; have hne6 := HE.out gn rfl; refine ⟨m + 1, g2, cap2, by rw [E7.out]; simp, by go_num, by omega, ?_, ?_, ?_, ?_⟩
       . have := HO8.out; rw [E7.out]; simpa [ints] using this
       . exact own_block_keep HN6.out fun k hk1 hk2 hk3 => by
          have : gn = k := by simpa [Value.ownBlock] using hk3
          subst this; rw [HG8.out.block gn (by simp; omega) (by simp; omega)]; exact Below.heap_alloc _ _ _ (by omega)
       . intro gn' hgn'; cases hgn'
         rcases HOR.out with e | e
         . rw [e]; exact hne6
         . omega
       . exact HB6.out.trans (((Below.refl _ _).alloc (by omega) _).grown HG8.out (by simp; omega) (fun k hk => by cases hk; omega))
      case measure => simp [intOf]; omega
    . have f1' : freeB cs z = false := by simpa using f1
      have e7 := mvAt_out (by rw [<- HL.out]; exact hltm) (by rw [<- HL.out]; exact HZ.out.symm) f1' (ro := ro) (co := co) (c := c); have E7 := zx e7; clear f1 e7; go_wp2; go_roundw; case rel => exact ⟨m + 1, gq, cap, by rw [E7.out], by go_num, by omega, by rw [E7.out]; exact HQ6.out, HN6.out, HE.out, HB6.out⟩
      case measure => simp [intOf]; omega
  . have e7 := mvAt_all (ro := ro) (co := co) (cs := cs) (c := c) (m := m) (by rw [<- HL.out]; exact hltm); have E7 := zx e7; clear e7; go_wp2; go_ret; refine ⟨gq, cap, by rw [<- E7.out]; rfl, ?_, by rw [<- E7.out]; exact own_base HQ.out (by omega), hB2.out.trans (HBI.out.mono (by omega))⟩; have := (own_lt HQ.out).1; omega
end
section
open Go.RowKit M
def Seen (cs : ByteArray) (L : List Int) (st : Nat -> Int) (h m : Nat) : Prop :=
 ∀ j, j < m -> j < L.length -> ∀ a : Nat, L.getD j 0 = a -> freeB cs a = true -> 0 <= st a ∧ st a <= st h + 1
theorem bfs_free {co : Int} {cs : ByteArray} {c : Nat} {st : Nat -> Int} {q : List Nat} {i : Nat} (h : Bfs cs.size (adjM co cs) c st q i) (hc : freeB cs c = true) {x : Nat} (hx : x < cs.size) (h0 : 0 <= st x) : freeB cs x = true := by
 by_cases e : st x = 0
 . rw [h.src x hx e]; exact hc
 . obtain ⟨k, hk⟩ := Int.eq_ofNat_of_zero_le (show 0 <= st x - 1 by omega); obtain ⟨b, _, hb, _⟩ := h.pred x hx k (by omega); by_cases e2 : freeB cs x = true
   . exact e2
   . rw [show adjM co cs b x = false from mayM_out (Or.inl (by simpa using e2))] at hb; cases hb
theorem gfar_any (ro co bu : Int) (cs : ByteArray) (ca : Value) (c : Nat) (w : World) (hsd : SidesIn w) (r1 : 1 <= ro) (r2 : ro <= 6) (r3 : 1 <= co) (r4 : co <= 6) (hsz : (cs.size : Int) = ro * co) (hfr : freeB cs c = true) :
 Calls Tryz.prog 77 #[.agg #[.int .i64 ro, .int .i64 co, .string cs, ca, .int .i64 bu], .int .i64 c] w fun e w' =>
  ∃ (g : Nat) (st : Nat -> Int), e = .returned (.slice (some ⟨g, 0, none⟩) cs.size cs.size) ∧ w.heap.size <= g ∧ IsFar cs.size (adjM co cs) c st ∧ w'.rowIs g 3 cs.size (intV st) ∧ Below w.heap.size w w' := by
 obtain ⟨hp1, hp2⟩ := mul_bd r1 r2 r3 r4; have hN1 : 1 <= cs.size := by omega
 have hN2 : cs.size <= 36 := by omega
 have hcN : c < cs.size := by
  by_cases e : c < cs.size
  . exact e
  . rw [freeB_out (by omega)] at hfr; cases hfr
 have Hsz := zx hsz; have Hsd := zx hsd; have hpos : 1 < w.heap.size := World.block_lt_of_cell? _ _ hsd.1; clear hsz hp1 hp2 hsd; go_enter Tryz.func77, Tryz.ntmps77; go_wp2_with (at_make; go_must (refine wpList_make_all _ rfl _ _ 23 rfl 3 _ _ _ Tryz.underlying23 Tryz.infoInt _ _ _ _ cs.size rfl rfl rfl rfl (by omega) (by omega) ?_))
 have hrow0 := zx (row_zero cs.size (w.alloc (.cells #[.int .i64 ro, .int .i64 co, .string cs, ca, .int .i64 bu] 34)) 3 (w.heap.size + 1) (by simp)); have hB3 : Hid (Below w.heap.size w ((w.alloc (.cells #[.int .i64 ro, .int .i64 co, .string cs, ca, .int .i64 bu] 34)).alloc (.cells (madeCells #[Value.int .i64 0] cs.size) 3))) := ((Below.refl _ w).alloc zl _).alloc (by simp) _
 have y3 : ∀ o, ((w.alloc (.cells #[.int .i64 ro, .int .i64 co, .string cs, ca, .int .i64 bu] 34)).alloc (.cells (madeCells #[Value.int .i64 0] cs.size) 3)).cell? ⟨w.heap.size, o, none⟩ = #[Value.int .i64 ro, .int .i64 co, .string cs, ca, .int .i64 bu][o]? := by
  intro o; go_simp
 generalize (w.alloc (.cells #[.int .i64 ro, .int .i64 co, .string cs, ca, .int .i64 bu] 34)).alloc (.cells (madeCells #[Value.int .i64 0] cs.size) 3) = w3 at *; obtain ⟨g, hg⟩ : ∃ g, g = w.heap.size + 1 := ⟨_, rfl⟩
 rw [<- hg] at hrow0 ⊢; have hg0 : w.heap.size < g := by omega
 have Hg := zx hg; clear hg; go_loopw [18] (fun s wr => ∃ k : Nat, k <= cs.size ∧ s = .int .i64 k ∧ wr.rowIs g 3 cs.size (intV (fillF k)) ∧ Below g w3 wr) (fun s _ => cs.size - (intOf s).toNat)
 case atStart => exact ⟨0, Nat.zero_le _, rfl, hrow0.out, Below.refl _ _⟩
 case round =>
  obtain ⟨k, hk, rfl, hrw, hbr⟩ := hrel; have HW := zx hrw; have hsz := hrw.lt; by_cases hlt : k < cs.size
  . have x1 := hrw.cell (i := k) hlt; have x3 := hrw.frozen; clear hrw; go_wp2; go_roundw; case rel => exact ⟨k + 1, by omega, by go_num, row_store HW.out k (-1) (fun j _ => by unfold fillF; by_cases e : j = k <;> simp [e] <;> split <;> split <;> omega), hbr.setCell (by simp) _⟩
    case measure => simp [intOf]; omega
  . have hd : k = cs.size := by omega
    have x1 := hrw.cell (i := c) hcN; have x3 := hrw.frozen; have HW2 : Hid ((wr.setCell ⟨g, c, none⟩ (.int .i64 0)).rowIs g 3 cs.size (intV (fun x => if x = c then 0 else -1))) :=
     row_store HW.out c 0 (fun j hj => by unfold fillF; by_cases e : j = c <;> simp [e]; omega)
    clear hrw hd; go_wp2; have HR4 : Hid (((wr.setCell ⟨g, c, none⟩ (Value.int .i64 0)).alloc (.cells #[.int .i64 c] 3)).rowIs g 3 cs.size (intV (fun x => if x = c then 0 else -1))) := HW2.out.alloc _; have HQ4 : Hid (((wr.setCell ⟨g, c, none⟩ (Value.int .i64 0)).alloc (.cells #[.int .i64 c] 3)).ownsRow (g + 1) 3 1 (.slice (some ⟨wr.heap.size, 0, none⟩) [c].length 1) [c].length (ints (qi [c]))) :=
     own_base (own_built (wr.setCell ⟨g, c, none⟩ (Value.int .i64 0)) 3 (.int .i64 c) wr.heap.size (by simp)) (by omega)
    have HB4 : Hid (Below g w3 ((wr.setCell ⟨g, c, none⟩ (Value.int .i64 0)).alloc (.cells #[.int .i64 c] 3))) := (hbr.setCell (by simp) _).alloc (by simp; omega) _; clear x1 x3 hbr HW HW2 hrow0; generalize (wr.setCell ⟨g, c, none⟩ (Value.int .i64 0)).alloc (.cells #[.int .i64 c] 3) = w4 at *; generalize wr.heap.size = gq0 at *; go_loopw [7, 8] (fun v s wr => ∃ (st : Nat -> Int) (q : List Nat) (i gq cap : Nat), v = .slice (some ⟨gq, 0, none⟩) q.length cap ∧ s = .int .i64 i ∧ i <= q.length ∧ Bfs cs.size (adjM co cs) c st q i ∧
     wr.rowIs g 3 cs.size (intV st) ∧ wr.ownsRow (g + 1) 3 1 (.slice (some ⟨gq, 0, none⟩) q.length cap) q.length (ints (qi q)) ∧ Below g w3 wr) (fun _ s _ => cs.size - (intOf s).toNat)
    case atStart => exact ⟨_, [c], 0, gq0, 1, rfl, rfl, by simp, bfs_start hcN, HR4.out, HQ4.out, HB4.out⟩
    case round =>
     obtain ⟨wo, rfl⟩ : ∃ x, x = wr := ⟨_, rfl⟩
     obtain ⟨st, q, i, gq, cap, rfl, rfl, hiq, hbfs, hrow, hown, hbr⟩ := hrel; have hqN := hbfs.lenN; have HF := zx hbfs; have HR := zx hrow; have HQ := zx hown; have hzg : g < wo.heap.size := hrow.lt; have yo : ∀ o, wo.cell? ⟨w.heap.size, o, none⟩ = #[Value.int .i64 ro, .int .i64 co, .string cs, ca, .int .i64 bu][o]? := fun o => (hbr.cell (p := ⟨w.heap.size, o, none⟩) hg0).trans (y3 o)
     have HB := zx hbr; have Y3 := zx y3; clear hbfs hrow hown hbr y3 HR4 HQ4 HB4; by_cases hlt : i < q.length
     . have hx := own_cell HQ.out hlt; rw [qi_at hlt] at hx; have hhN := HF.out.inN i hlt; obtain ⟨hr, hh⟩ : ∃ hr, hr = q.getD i 0 := ⟨_, rfl⟩
       rw [<- hh] at hx hhN; have Hh := zx hh; clear hh; have hsdo : Hid (SidesIn wo) := Hsd.out.below (by exact (hB3.out.trans (HB.out.mono (by omega)))); go_wp2_with fail; refine (moves_any _ _ _ _ _ hr _ (by exact hsdo.out) r1 r2 r3 r4 (by omega) hN2).mono ?_; rintro e w5 ⟨gn0, capn, rfl, hgn0, hno, hb5⟩; obtain ⟨L, hL⟩ : ∃ L, L = mvL ro co cs hr := ⟨_, rfl⟩
       have hLn := (mvL_len (ro := ro) (co := co) (cs := cs) (c := (hr : Int))).1; rw [<- hL] at hno hLn; have HL := zx hL; clear hL; rw [<- HL.out]; obtain ⟨an, han⟩ : ∃ an, an = some (⟨gn0, 0, none⟩ : Addr) := ⟨_, rfl⟩
       rw [<- han] at hno ⊢; have hcn : 0 < L.length -> ∃ gn, an = some ⟨gn, 0, none⟩ ∧ wo.heap.size <= gn := fun _ => ⟨gn0, han, hgn0⟩
       have hfh := zx (bfs_free HF.out hfr hhN (by rw [Hh.out]; exact HF.out.told i hlt)); clear han hgn0; have HNV := zx hno; have HCN := zx hcn; have HR5 := zx (rowIs_below HR.out hb5); have HQ5 := zx (own_below HQ.out hb5); have HB5 := zx (HB.out.trans (hb5.mono (by omega))); have hgq := zx (own_lt HQ.out).2; clear hno hcn hb5 hx; go_wp2
       go_loopw [7, 44] (fun v s wr => ∃ (st' : Nat -> Int) (q' : List Nat) (m gq' cap' : Nat), v = .slice (some ⟨gq', 0, none⟩) q'.length cap' ∧ s = .int .i64 m ∧ m <= L.length ∧ Bfs cs.size (adjM co cs) c st' q' i ∧ i < q'.length ∧ q'.getD i 0 = hr ∧
        Seen cs L st' hr m ∧ wr.rowIs g 3 cs.size (intV st') ∧ wr.ownsRow (g + 1) 3 1 (.slice (some ⟨gq', 0, none⟩) q'.length cap') q'.length (ints (qi q')) ∧
        wr.ownsRow wo.heap.size 3 1 (.slice an L.length capn) L.length (ints L) ∧ (∀ gn, an = some ⟨gn, 0, none⟩ -> gq' ≠ gn) ∧ Below g w3 wr) (fun _ s _ => L.length - (intOf s).toNat)
       case atStart =>
        refine ⟨st, q, 0, gq, cap, rfl, rfl, Nat.zero_le _, HF.out, hlt, Hh.out.symm, fun j hj => by omega, HR5.out, HQ5.out, HNV.out, fun gn hgn => ?_, HB5.out⟩; have h1 := HNV.out.lt gn (by rw [hgn]; rfl); have h2 := hgq.out; omega
       case round =>
        obtain ⟨wi, rfl⟩ : ∃ x, x = wr := ⟨_, rfl⟩
        obtain ⟨st', q', m, gq', cap', rfl, rfl, hm, hbf, hiq', hqh, hseen, hrow, hown, hnv, hne, hbi⟩ := hrel; have HF' := zx hbf; have HS' := zx hseen; have HR' := zx hrow; have HQ' := zx hown; have HN' := zx hnv; have HE' := zx hne; have HH' := zx hqh; have yi : ∀ o, wi.cell? ⟨w.heap.size, o, none⟩ = #[Value.int .i64 ro, .int .i64 co, .string cs, ca, .int .i64 bu][o]? := fun o => (hbi.cell (p := ⟨w.heap.size, o, none⟩) hg0).trans (Y3.out o)
        have HBI := zx hbi; have hzgi : g < wi.heap.size := hrow.lt; clear hbf hseen hrow hown hnv hne hqh hbi yo; by_cases hltm : m < L.length
        . obtain ⟨gn, rfl, hgn⟩ := HCN.out (by omega); have hx := own_cell HN'.out hltm; rw [ints_at' hltm] at hx; obtain ⟨z, hz⟩ : ∃ z, z = L.getD m 0 := ⟨_, rfl⟩
          rw [<- hz] at hx; have HZ := zx hz; clear hz; obtain ⟨w6, rfl⟩ : ∃ x, x = wi := ⟨_, rfl⟩
          have HR6 := zx HR'.out; have HQ6 := zx HQ'.out; have HN6 := zx HN'.out; have HB6 := zx HBI.out; clear yi; have f1 : freeB cs z = true := mvL_free hfh.out (by rw [<- HL.out, HZ.out]; exact at_mem hltm)
          . have hz01 : 0 <= z ∧ z < cs.size := by
             by_cases e : 0 <= z ∧ z < cs.size
             . exact e
             . rw [freeB_out e] at f1; cases f1
            obtain ⟨x, rfl⟩ := Int.eq_ofNat_of_zero_le hz01.1; have hxN : x < cs.size := by omega
            have hlow := HF'.out.low x hxN; have htold := HF'.out.told i hiq'; have hle := HF'.out.le i hiq'; rw [HH'.out] at htold hle; have hnear : adjM co cs hr x = true := by
             unfold adjM; rw [mayM_in f1 (by omega) (by omega)]; exact mvL_near r3 r4 (by rw [<- HL.out, HZ.out]; exact at_mem hltm)
            have HNE := zx hnear; have F1 := zx f1; clear hz01 hnear; by_cases f2 : st' x = -1
            . have f2' : (st' x == -1) = true := by simp [f2]
              have F2 := zx f2; have cx := HR6.out.cell hxN; have ch := HR6.out.cell hhN; have cf := HR6.out.frozen; rw [show intV st' x = Value.int .i64 (st' x) from rfl] at cx; rw [show intV st' hr = Value.int .i64 (st' hr) from rfl] at ch; clear f2; have hgq6 := zx (own_lt HQ6.out); have hgn6 := zx (HN6.out.lt gn rfl); have hl6 := HF'.out.lenN; have HQ7 : Hid ((w6.setCell ⟨g, x, none⟩ (.int .i64 (st' hr + 1))).ownsRow (g + 1) 3 1 (.slice (some ⟨gq', 0, none⟩) q'.length cap') q'.length (ints (qi q'))) :=
               own_block_keep HQ6.out fun k hk _ _ => Below.heap_setCell _ _ _ _ (by show k ≠ g; omega)
              have HN7 : Hid ((w6.setCell ⟨g, x, none⟩ (.int .i64 (st' hr + 1))).ownsRow wo.heap.size 3 1 (.slice (some ⟨gn, 0, none⟩) L.length capn) L.length (ints L)) :=
               own_block_keep HN6.out fun k hk _ _ => Below.heap_setCell _ _ _ _ (by show k ≠ g; omega)
              have HR7 : Hid ((w6.setCell ⟨g, x, none⟩ (.int .i64 (st' hr + 1))).rowIs g 3 cs.size (intV (upd st' x (st' hr + 1)))) :=
               row_store HR6.out x (st' hr + 1) (fun j _ => rfl)
              have HB7 : Hid (Below g w3 (w6.setCell ⟨g, x, none⟩ (.int .i64 (st' hr + 1)))) := HB6.out.setCell zl _; go_wp2_with (at_builtin; go_must (refine wpList_push2 rfl _ _ 23 rfl (g + 1) 3 _ _ Tryz.underlying23 Tryz.infoInt rfl gq' q'.length cap' (ints (qi q')) rfl (by exact own_below HQ7.out ((Below.refl _ _).alloc zl _)) _ _ (.int .i64 x) rfl (by go_simp) rfl (by unfold maxLen; omega) (by omega) (by have := hgq6.out; simp; omega) ?_))
              intro g2 cap2 w8 ho8 hg8 hor; have hsz7 : (w6.setCell ⟨g, x, none⟩ (Value.int .i64 (st' hr + 1))).heap.size = w6.heap.size := by simp
              have HS8 : Hid (∀ k, k ≠ gq' -> k < w6.heap.size -> w8.heap[k]? = (w6.setCell ⟨g, x, none⟩ (Value.int .i64 (st' hr + 1))).heap[k]?) := by
               intro k hk hkl; rw [hg8.block k (by simp; omega) (by simpa using hk)]; exact Below.heap_alloc _ _ _ (by simp; omega)
              have hO8 := zx ho8; have hS8 := zx hg8.size; have hG8 := zx hg8; have hOR := zx hor; clear cx ch cf hx ho8 hg8 hor; go_wp2; go_roundw; case rel =>
               have hq6 := hgq6.out; have hn6 := hgn6.out; have hne6 := HE'.out gn rfl; have hg6 : g < w6.heap.size := HR6.out.lt; refine ⟨upd st' x (st' hr + 1), q' ++ [x], m + 1, g2, cap2, by simp, by go_num, by omega, ?_, by simp; omega, ?_, ?_, ?_, ?_, ?_, ?_, ?_⟩
               . have := bfs_push HF'.out hiq' hxN F2.out (by rw [HH'.out]; exact HNE.out); rw [HH'.out] at this; exact this
               . rw [getD_old hiq']; exact HH'.out
               . intro j hj hjl a0 ha0 hf0; have hhx : upd st' x (st' hr + 1) hr = st' hr := by unfold upd; rw [if_neg (by intro e; rw [e] at htold; have := F2.out; omega)]
                 rw [hhx]; by_cases e : j = m
                 . subst e; rw [<- HZ.out] at ha0; have e2 : x = a0 := by omega
                   subst e2; have : upd st' x (st' hr + 1) x = st' hr + 1 := by unfold upd; rw [if_pos rfl]
                   rw [this]; omega
                 . obtain ⟨g1, g2'⟩ := HS'.out j (by omega) hjl a0 ha0 hf0; have : upd st' x (st' hr + 1) a0 = st' a0 := by unfold upd; rw [if_neg (by intro e2; rw [e2] at g1; have := F2.out; omega)]
                   rw [this]; exact ⟨g1, g2'⟩
               . exact HR7.out.of_block (HS8.out g (by omega) hg6)
               . have := hO8.out; rw [qi_push] at this; simpa using this
               . exact own_block_keep HN7.out fun k _ hk2 hk3 => by
                  have : gn = k := by simpa [Value.ownBlock] using hk3
                  subst this; exact HS8.out gn (fun e => hne6 e.symm) (by rw [hsz7] at hk2; exact hk2)
               . intro gn' hgn'; cases hgn'
                 rcases hOR.out with e | e
                 . rw [e]; exact hne6
                 . omega
               . exact HB7.out.trans (((Below.refl g _).alloc (by rw [hsz7]; omega) _).grown hG8.out (by simp; omega) (fun k hk => by cases hk; omega))
              case measure => simp [intOf]; omega
            . have f2' : (st' x == -1) = false := by simpa using f2
              have F2 : Hid (0 <= st' x) := by show 0 <= st' x; omega
              have cx := HR6.out.cell hxN; rw [show intV st' x = Value.int .i64 (st' x) from rfl] at cx; clear f2; go_wp2; go_roundw; case rel =>
               refine ⟨st', q', m + 1, gq', cap', rfl, by go_num, by omega, HF'.out, hiq', HH'.out, fun j hj hjl a0 ha0 hf0 => ?_, HR6.out, HQ6.out, HN6.out, HE'.out, HB6.out⟩; by_cases e : j = m
               . subst e; rw [<- HZ.out] at ha0; have e2 : x = a0 := by omega
                 subst e2; have := bfs_told HF'.out hiq' hxN F2.out; rw [HH'.out] at this; exact ⟨F2.out, this⟩
               . exact HS'.out j (by omega) hjl a0 ha0 hf0
              case measure => simp [intOf]; omega
        . have hd : Hid (m = L.length) := by show m = L.length; omega
          go_wp2; go_roundw; case rel =>
           refine ⟨st', q', i + 1, gq', cap', rfl, by go_num, by omega, bfs_next HF'.out hiq' (fun a0 ha0 hadj => ?_), HR'.out, HQ'.out, HBI.out⟩; rw [HH'.out] at hadj ⊢; have htold := HF'.out.told i hiq'; rw [HH'.out] at htold; have hfa : freeB cs a0 = true := by
            by_cases e2 : freeB cs a0 = true
            . exact e2
            . rw [show adjM co cs hr a0 = false from mayM_out (Or.inl (by simpa using e2))] at hadj; cases hadj
           have hna : nearM co hr a0 = true := by
            have := mayM_in (co := co) hfa (show (0 : Int) <= hr by omega) (show (hr : Int) < cs.size by omega); rw [<- this]; exact hadj
           have hmem := mvL_all (ro := ro) r3 r4 Hsz.out (show (0 : Int) <= hr by omega) (by omega) hfa hna; rw [<- HL.out] at hmem; obtain ⟨j, hj, hja⟩ := mem_at hmem; exact HS'.out j (by rw [hd.out]; exact hj) hj a0 hja hfa
          case measure => simp [intOf]; omega
     . go_wp2; go_ret; exact ⟨g, st, rfl, by omega, bfs_isFar HF.out hlt, HR.out, hB3.out.trans (HB.out.mono (by omega))⟩
end
section
open Go.RowKit M
theorem far_lt {N : Nat} {adj : Nat -> Nat -> Bool} {c : Nat} {d : Nat -> Int} (hc : c < N) (h : IsFar N adj c d) {a : Nat} (ha : a < N) : d a <= N - 1 := by
 rw [IsFar.unique h (orow_isFar hc) a ha]; have := (part_all (adj := adj) hc (N - 1)).high a ha; omega
end
end Go.Proofs.YtnkgpinadgacgaaGreatDoor
