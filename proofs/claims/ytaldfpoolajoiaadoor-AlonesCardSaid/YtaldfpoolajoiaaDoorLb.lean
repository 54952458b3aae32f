/- Laws on lists of one-cell elements that the call itself made: a push, its cells, what keeps it. -/
import Derived.Test.YtaldfpoolajoiaaDoorLa
import Derived.ArgAppend
import Derived.WalkSmall
namespace Go.Proofs.YtaldfpoolajoiaaDoor
open Go.RowKit

theorem own_lt {w : World} {base n : Nat} {e : TypeId} {g cap : Nat} {xs : List Value} (h : w.ownsRow base e 1 (.slice (some ⟨g, 0, none⟩) n cap) n xs) : base ≤ g ∧ g < w.heap.size := h.lt g rfl

theorem own_block {w : World} {base n : Nat} {e : TypeId} {g cap : Nat} {xs : List Value} (h : w.ownsRow base e 1 (.slice (some ⟨g, 0, none⟩) n cap) n xs) :
    ∃ cur, w.heap[g]? = some (.cells cur e (0, 0)) ∧ n ≤ cap ∧ cap ≤ maxLen ∧ cur.size = cap ∧ cur.toList.take n = xs := by
  rcases h.2 with ⟨h0, _⟩ | ⟨g', cap', cur, hv, _, hh, hn, hc, hs, ht⟩
  · cases h0
  · cases hv
    exact ⟨cur, hh, hn, hc, by simpa using hs, by simpa using ht⟩

theorem own_cell {w : World} {base n : Nat} {e : TypeId} {g cap : Nat} {xs : List Value} (h : w.ownsRow base e 1 (.slice (some ⟨g, 0, none⟩) n cap) n xs) {j : Nat} (hj : j < n) : w.cell? ⟨g, j, none⟩ = xs[j]? := by
  obtain ⟨cur, hh, hn, _, hs, ht⟩ := own_block h
  have h1 : w.cell? ⟨g, j, none⟩ = cur[j]? := by simp [World.cell?, hh]
  rw [h1, ← ht, List.getElem?_take, if_pos hj, Array.getElem?_toList]

theorem own_frozen {w : World} {base n : Nat} {e : TypeId} {g cap : Nat} {xs : List Value} (h : w.ownsRow base e 1 (.slice (some ⟨g, 0, none⟩) n cap) n xs) (j : Nat) : w.frozen? ⟨g, j, none⟩ = false := by
  obtain ⟨cur, hh, _⟩ := own_block h
  simp [World.frozen?, hh]

theorem own_cap {w : World} {base n : Nat} {e : TypeId} {g cap : Nat} {xs : List Value} (h : w.ownsRow base e 1 (.slice (some ⟨g, 0, none⟩) n cap) n xs) : n ≤ cap := by
  obtain ⟨_, _, hn, _⟩ := own_block h; exact hn

/-- The list reads on as it did where its block does. -/
theorem own_block_keep {w w' : World} {base n : Nat} {e : TypeId} {v : Value} {xs : List Value} (h : w.ownsRow base e 1 v n xs) (hk : ∀ g, base ≤ g → g < w.heap.size → v.ownBlock = some g → w'.heap[g]? = w.heap[g]?) : w'.ownsRow base e 1 v n xs := by
  refine ⟨h.1, ?_⟩
  rcases h.2 with h0 | ⟨g, cap, cur, hv, hg, hh, r⟩
  · exact .inl h0
  · refine .inr ⟨g, cap, cur, hv, hg, ?_, r⟩
    rw [hk g hg (h.lt g (by rw [hv]; rfl)).2 (by rw [hv]; rfl)]; exact hh

theorem own_below {w w' : World} {base n : Nat} {e : TypeId} {v : Value} {xs : List Value} (h : w.ownsRow base e 1 v n xs) (hb : Below w.heap.size w w') : w'.ownsRow base e 1 v n xs :=
  own_block_keep h fun g _ hg _ => hb.block g hg

theorem own_base {w : World} {base base' n : Nat} {e : TypeId} {v : Value} {xs : List Value} (h : w.ownsRow base e 1 v n xs) (hb : base' ≤ base) : w.ownsRow base' e 1 v n xs :=
  ⟨h.1, h.2.elim Or.inl (fun ⟨g, cap, cur, hv, hg, r⟩ => Or.inr ⟨g, cap, cur, hv, Nat.le_trans hb hg, r⟩)⟩

theorem own_nil (w : World) (base : Nat) (e : TypeId) : w.ownsRow base e 1 (.slice none 0 0) 0 [] := ⟨rfl, .inl ⟨rfl, rfl⟩⟩

/-- A list that has just been laid by its elements. -/
theorem own_built (w : World) (e : TypeId) (u : Value) (k : Nat) (hk : k = w.heap.size) : (w.alloc (.cells #[u] e)).ownsRow k e 1 (.slice (some ⟨k, 0, none⟩) 1 1) 1 [u] := by
  subst hk
  refine ⟨rfl, .inr ⟨w.heap.size, 1, #[u], rfl, Nat.le_refl _, ?_, Nat.le_refl _, by decide, rfl, rfl⟩⟩
  show (w.heap.push _)[w.heap.size]? = _
  simp

theorem wpList_push {P : Program} {w : World} {ops : Array Oper} {rest : List Oper} {o : Oper} {a : Act} {Q : Exit → Act → World → Prop} (hgd : o.guard = none) (s x : Operand) (t : TypeId)
    (ho : o.op = .call { callee := .builtin .append, args := #[s, x], argTypes := #[t, t] })
    (base : Nat) (e : TypeId) (z : Value) (bytes : Nat) (ht : P.underlying t = some (.slice e)) (hinfo : (P.info? e).map (fun i => (i.zero, i.size, i.bytes)) = some (some z, 1, bytes)) (hzs : z.cells.size = 1)
    (v : Value) (n : Nat) (xs : List Value) (hs : a.eval s = v) (hown : w.ownsRow base e 1 v n xs)
    (ad : Addr) (c : Nat) (u : Value) (hx : a.eval x = .slice (some ad) 1 c) (hu : w.cell? ad = some u) (h1 : u.oneCell' = true)
    (h63 : n + 1 ≤ maxLen) (hbytes : (n + 1) * bytes ≤ 140737488355328) (hbase : base ≤ w.heap.size)
    (h : ∀ g cap w', w'.ownsRow base e 1 (.slice (some ⟨g, 0, none⟩) (n + 1) cap) (n + 1) (xs ++ [u]) → w.grownBy w' v.ownBlock → wpList P ops Q rest (a.put o.dst (.slice (some ⟨g, 0, none⟩) (n + 1) cap)) w') :
    wpList P ops Q (o :: rest) a w := by
  obtain ⟨i, h2, h3, h4, h5⟩ := info_parts hinfo
  refine wpList_append_own w hgd s x t ho base e i z 1 bytes ht h2 h3 h4 h5 hzs (by omega) v n xs hs hown ad 1 c [u] hx rfl ?_ ?_ h63 hbytes hbase ?_
  · intro j v' hj
    match j, hj with
    | 0, hj =>
      simp at hj; subst hj
      simpa [Addr.add] using hu
  · intro v' hv'
    simp at hv'; subst hv'; exact h1
  · intro v' w' hown' hgr _
    rcases hown'.2 with ⟨_, h0⟩ | ⟨g, cap, cur, hv, r⟩
    · omega
    · subst hv
      exact h g cap w' hown' hgr

theorem grown_below {w w' : World} {base : Nat} {e : TypeId} {n : Nat} {v : Value} {xs : List Value} (hown : w.ownsRow base e 1 v n xs) (hg : w.grownBy w' v.ownBlock) (hbase : base ≤ w.heap.size) : Below base w w' :=
  (Below.refl base w).grown hg hbase (fun k hk => (hown.lt k hk).1)

/-- A push onto a list without room: a new block. -/
theorem wpList_push_full {P : Program} {w : World} {ops : Array Oper} {rest : List Oper} {o : Oper} {a : Act} {Q : Exit → Act → World → Prop} (hgd : o.guard = none) (s x : Operand) (t : TypeId)
    (ho : o.op = .call { callee := .builtin .append, args := #[s, x], argTypes := #[t, t] })
    (e : TypeId) (z : Value) (bytes : Nat) (ht : P.underlying t = some (.slice e)) (hinfo : (P.info? e).map (fun i => (i.zero, i.size, i.bytes)) = some (some z, 1, bytes)) (hzs : z.cells.size = 1)
    (ao : Option Addr) (n : Nat) (xs : List Value) (hs : a.eval s = .slice ao n n) (hnone : ao = none → n = 0 ∧ n = 0) (hlo : xs.length = n) (holds : ∀ b, ao = some b → ∀ j u, xs[j]? = some u → w.cell? (b.add j) = some u)
    (ad : Addr) (c : Nat) (u : Value) (hx : a.eval x = .slice (some ad) 1 c) (hu : w.cell? ad = some u) (h1 : u.oneCell' = true)
    (h63 : n + 1 ≤ maxLen) (hbytes : (n + 1) * bytes ≤ 140737488355328)
    (h : ∀ g cap w', w'.ownsRow w.heap.size e 1 (.slice (some ⟨g, 0, none⟩) (n + 1) cap) (n + 1) (xs ++ [u]) → Below w.heap.size w w' → wpList P ops Q rest (a.put o.dst (.slice (some ⟨g, 0, none⟩) (n + 1) cap)) w') :
    wpList P ops Q (o :: rest) a w := by
  obtain ⟨i, h2, h3, h4, h5⟩ := info_parts hinfo
  refine wpList_append_grows w hgd s x t ho e i z 1 bytes ht h2 h3 h4 h5 hzs (by omega) ao n n xs hs hnone (by rw [hlo, Nat.mul_one]) holds ad 1 c [u] hx rfl ?_ ?_ (by omega) h63 hbytes ?_
  · intro j v' hj
    match j, hj with
    | 0, hj =>
      simp at hj; subst hj
      simpa [Addr.add] using hu
  · intro v' hv'
    simp at hv'; subst hv'; exact h1
  · intro v' w' hown' hgr
    rcases hown'.2 with ⟨_, h0⟩ | ⟨g, cap, cur, hv, r⟩
    · omega
    · subst hv
      exact h g cap w' hown' ((Below.refl _ w).grown hgr (Nat.le_refl _) (fun k hk => by cases hk))

/-- A push onto a list that has an element: the same block, or a new one. -/
theorem wpList_push2 {P : Program} {w : World} {ops : Array Oper} {rest : List Oper} {o : Oper} {a : Act} {Q : Exit → Act → World → Prop} (hgd : o.guard = none) (s x : Operand) (t : TypeId)
    (ho : o.op = .call { callee := .builtin .append, args := #[s, x], argTypes := #[t, t] })
    (base : Nat) (e : TypeId) (z : Value) (bytes : Nat) (ht : P.underlying t = some (.slice e)) (hinfo : (P.info? e).map (fun i => (i.zero, i.size, i.bytes)) = some (some z, 1, bytes)) (hzs : z.cells.size = 1)
    (gq n cap : Nat) (xs : List Value) (hs : a.eval s = .slice (some ⟨gq, 0, none⟩) n cap) (hown : w.ownsRow base e 1 (.slice (some ⟨gq, 0, none⟩) n cap) n xs)
    (ad : Addr) (c : Nat) (u : Value) (hx : a.eval x = .slice (some ad) 1 c) (hu : w.cell? ad = some u) (h1 : u.oneCell' = true)
    (h63 : n + 1 ≤ maxLen) (hbytes : (n + 1) * bytes ≤ 140737488355328) (hbase : base ≤ w.heap.size)
    (h : ∀ g cap' w', w'.ownsRow base e 1 (.slice (some ⟨g, 0, none⟩) (n + 1) cap') (n + 1) (xs ++ [u]) → w.grownBy w' (some gq) → (g = gq ∨ w.heap.size ≤ g) → wpList P ops Q rest (a.put o.dst (.slice (some ⟨g, 0, none⟩) (n + 1) cap')) w') :
    wpList P ops Q (o :: rest) a w := by
  by_cases hroom : n + 1 ≤ cap
  · obtain ⟨i, h2, h3, h4, h5⟩ := info_parts hinfo
    refine wpList_append_fits_any w hgd s x t ho base e i 1 ht h2 h4 gq n cap xs hs hown (some ad) 1 c [u] hx rfl (fun hh => by cases hh) ?_ ?_ hroom ?_
    · intro ad' had j v' hj
      cases had
      match j, hj with
      | 0, hj =>
        simp at hj; subst hj
        simpa [Addr.add] using hu
    · intro v' hv'
      simp at hv'; subst hv'; exact h1
    · intro w' hown' hgr
      exact h gq cap w' hown' hgr (Or.inl rfl)
  · have hnc : cap = n := by have := own_cap hown; omega
    subst hnc
    refine wpList_push_full hgd s x t ho e z bytes ht hinfo hzs (some ⟨gq, 0, none⟩) cap xs hs (fun hh => by cases hh) (by have := hown.1; simpa using this) ?_ ad c u hx hu h1 h63 hbytes ?_
    · intro b hb j v' hj
      cases hb
      have hjl : j < cap := by
        have h1 := (List.getElem?_eq_some_iff.1 hj).1
        have h2 := hown.1
        omega
      have e1 : (⟨gq, 0, none⟩ : Addr).add j = ⟨gq, j, none⟩ := by unfold Addr.add; split <;> simp_all
      rw [e1, own_cell hown hjl]; exact hj
    · intro g cap' w' hown' hb
      exact h g cap' w' (own_base hown' hbase) ⟨hb.os, hb.tape, hb.output, hb.size, fun k hk _ => hb.block k hk⟩ (Or.inr (own_lt hown').1)

end Go.Proofs.YtaldfpoolajoiaaDoor
