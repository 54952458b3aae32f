/- A text's lines and a line's numbers, as plain functions over bytes; the form of a text that the reader takes. Nothing of the program. -/
import Derived.Test.YtnkgpinadgacgaaDoorUa
namespace Go.Proofs.YtnkgpinadgacgaaDoor
namespace TX
open Go.Lib

/-! ### The numbers of a line -/

def numF' (acc : List Nat) (b : UInt8) : List Nat := if b = 32 then acc ++ [0] else acc.set (acc.length - 1) (10 * acc.getD (acc.length - 1) 0 + (b.toNat - 48))

theorem numF_dig (acc : List Nat) (v : Nat) {b : UInt8} (h : isDig b = true) : numF' (acc ++ [v]) b = acc ++ [stepD v b] := by
  unfold numF'
  rw [if_neg (dig_not10 h).2]
  have e1 : (acc ++ [v]).length - 1 = acc.length := by simp
  rw [e1, List.getD_eq_getElem?_getD, List.getElem?_append_right (Nat.le_refl _), Nat.sub_self]
  rw [List.set_append_right _ _ (Nat.le_refl _), Nat.sub_self]
  rfl

theorem numF_sp (acc : List Nat) : numF' acc 32 = acc ++ [0] := if_pos rfl

theorem digs_fold : ∀ (ds : List UInt8) (acc : List Nat) (v : Nat), (∀ b ∈ ds, isDig b = true) → ds.foldl numF' (acc ++ [v]) = acc ++ [ds.foldl stepD v]
  | [], _, _, _ => rfl
  | b :: ds, acc, v, h => by
    rw [List.foldl_cons, List.foldl_cons, numF_dig acc v (h b (by simp))]
    exact digs_fold ds acc _ fun x hx => h x (by simp [hx])

theorem dec_digs (n : Nat) : (∀ b ∈ decDigits n, isDig b = true) ∧ (decDigits n).foldl stepD 0 = n := by
  by_cases hn : n = 0
  · subst hn
    rw [decDigits_one (by omega)]
    exact ⟨fun b hb => by rw [List.mem_singleton.1 hb]; exact (isDig_of (d := 0) (by omega)).1, by rfl⟩
  · obtain ⟨d, ds, h1, h2, h3, h4, h5⟩ := dec_parts n (by omega)
    have hd := isDig_of (d := d) (by omega)
    rw [h3]
    refine ⟨fun b hb => ?_, ?_⟩
    · rcases List.mem_cons.1 hb with rfl | hb
      · exact hd.1
      · exact h4 b hb
    · rw [List.foldl_cons]
      have e : stepD 0 (UInt8.ofNat (48 + d)) = d := by
        unfold stepD
        rw [hd.2]
        omega
      rw [e, h5]

theorem prefix_le (ds : List UInt8) (v k : Nat) : (ds.take k).foldl stepD v ≤ ds.foldl stepD v := by
  have h := fold_ge (ds.drop k) ((ds.take k).foldl stepD v)
  rw [← List.foldl_append, List.take_append_drop] at h
  exact h

theorem dec_prefix (n k : Nat) (acc : List Nat) : ∀ x ∈ ((decDigits n).take k).foldl numF' (acc ++ [0]), x ∈ acc ∨ x ≤ n := by
  intro x hx
  obtain ⟨h1, h2⟩ := dec_digs n
  rw [digs_fold _ acc 0 (fun b hb => h1 b (List.mem_of_mem_take hb))] at hx
  rcases List.mem_append.1 hx with hx | hx
  · exact .inl hx
  · rw [List.mem_singleton.1 hx]
    have := prefix_le (decDigits n) 0 k
    rw [h2] at this
    exact .inr this

theorem sep_fold : ∀ (ns : List Nat) (acc : List Nat), ns ≠ [] → (sep ns).foldl numF' (acc ++ [0]) = acc ++ ns
  | [], _, h => absurd rfl h
  | [n], acc, _ => by
    show (decDigits n).foldl numF' (acc ++ [0]) = _
    rw [digs_fold _ acc 0 (dec_digs n).1, (dec_digs n).2]
  | n :: m :: r, acc, _ => by
    show (decDigits n ++ 32 :: sep (m :: r)).foldl numF' (acc ++ [0]) = _
    rw [List.foldl_append, digs_fold _ acc 0 (dec_digs n).1, (dec_digs n).2, List.foldl_cons, numF_sp, sep_fold (m :: r) (acc ++ [n]) (by simp)]
    simp

theorem sep_prefix {M : Nat} : ∀ (ns : List Nat) (acc : List Nat) (k : Nat), (∀ n ∈ ns, n ≤ M) → ∀ x ∈ ((sep ns).take k).foldl numF' (acc ++ [0]), x ∈ acc ∨ x ≤ M
  | [], acc, k, _, x, hx => by
    rw [show sep [] = [] from rfl, List.take_nil] at hx
    rcases List.mem_append.1 hx with h | h
    · exact .inl h
    · rw [List.mem_singleton.1 h]; exact .inr (Nat.zero_le _)
  | [n], acc, k, h, x, hx => (dec_prefix n k acc x hx).elim .inl fun h' => .inr (Nat.le_trans h' (h n (by simp)))
  | n :: m :: r, acc, k, h, x, hx => by
    have e : sep (n :: m :: r) = decDigits n ++ 32 :: sep (m :: r) := rfl
    rw [e, List.take_append] at hx
    by_cases hk : k ≤ (decDigits n).length
    · rw [show k - (decDigits n).length = 0 by omega, List.take_zero, List.append_nil] at hx
      exact (dec_prefix n k acc x hx).elim .inl fun h' => .inr (Nat.le_trans h' (h n (by simp)))
    · obtain ⟨j, hj⟩ : ∃ j, k - (decDigits n).length = j + 1 := ⟨k - (decDigits n).length - 1, by omega⟩
      rw [hj, List.take_of_length_le (by omega), List.take_succ_cons, List.foldl_append, digs_fold _ acc 0 (dec_digs n).1, (dec_digs n).2, List.foldl_cons, numF_sp] at hx
      rcases sep_prefix (m :: r) (acc ++ [n]) j (fun y hy => h y (by simp [hy])) x hx with h' | h'
      · rcases List.mem_append.1 h' with h' | h'
        · exact .inl h'
        · rw [List.mem_singleton.1 h']; exact .inr (h n (by simp))
      · exact .inr h'

theorem sep_bytes : ∀ (ns : List Nat), ∀ b ∈ sep ns, b = 32 ∨ isDig b = true
  | [], b, h => by cases h
  | [n], b, h => .inr ((dec_digs n).1 b h)
  | n :: m :: r, b, h => by
    rcases List.mem_append.1 (show b ∈ decDigits n ++ 32 :: sep (m :: r) from h) with h | h
    · exact .inr ((dec_digs n).1 b h)
    · rcases List.mem_cons.1 h with h | h
      · exact .inl h
      · exact sep_bytes (m :: r) b h

/-! ### The lines of a text -/

def splitF (st : List (List UInt8) × List UInt8) (b : UInt8) : List (List UInt8) × List UInt8 := if b = 10 then (st.1 ++ [st.2], []) else (st.1, st.2 ++ [b])

/-- A text of whole lines. -/
def linesT (ls : List (List UInt8)) : List UInt8 := ls.flatMap (· ++ [10])

theorem split_line : ∀ (l : List UInt8) (L : List (List UInt8)) (cur : List UInt8), (∀ b ∈ l, b ≠ 10) → l.foldl splitF (L, cur) = (L, cur ++ l)
  | [], L, cur, _ => by simp
  | b :: l, L, cur, h => by
    rw [List.foldl_cons]
    have e : splitF (L, cur) b = (L, cur ++ [b]) := if_neg (h b (by simp))
    rw [e, split_line l L _ fun x hx => h x (by simp [hx])]
    simp

theorem split_lines : ∀ (ls : List (List UInt8)) (L : List (List UInt8)), (∀ l ∈ ls, ∀ b ∈ l, b ≠ 10) → (linesT ls).foldl splitF (L, []) = (L ++ ls, [])
  | [], L, _ => by simp [linesT]
  | l :: ls, L, h => by
    have e : linesT (l :: ls) = l ++ (10 :: linesT ls) := by simp [linesT]
    rw [e, List.foldl_append, split_line l L [] (h l (by simp)), List.foldl_cons]
    have e2 : splitF (L, [] ++ l) 10 = (L ++ [l], []) := if_pos rfl
    rw [e2, split_lines ls (L ++ [l]) fun x hx => h x (by simp [hx])]
    simp

/-! ### The form of a text -/

/-- Four numbers. -/
abbrev Quad := Nat × Nat × Nat × Nat

def quadL (q : Quad) : List Nat := [q.1, q.2.1, q.2.2.1, q.2.2.2]
def quadC (R C : Nat) (q : Quad) : Int × Int := (atF R C q.1 q.2.1, atF R C q.2.2.1 q.2.2.2)
def SmallQ (q : Quad) : Prop := ∀ n ∈ quadL q, n ≤ 99999

theorem cart_form {R C : Nat} {l r : List UInt8} {v : Int × Int} (h : cartP R C l = (r, some v)) : ∃ q : Quad, SmallQ q ∧ l = sep (quadL q) ++ 10 :: r ∧ v = quadC R C q := by
  unfold cartP at h
  obtain ⟨a, l1, h1, h⟩ := andP_some h
  obtain ⟨l2, h2, h⟩ := okP_some h
  obtain ⟨b, l3, h3, h⟩ := andP_some h
  obtain ⟨l4, h4, h⟩ := okP_some h
  obtain ⟨c, l5, h5, h⟩ := andP_some h
  obtain ⟨l6, h6, h⟩ := okP_some h
  obtain ⟨d, l7, h7, h⟩ := andP_some h
  obtain ⟨l8, h8, h⟩ := okP_some h
  cases h
  have n1 := number_form h1
  have n3 := number_form h3
  have n5 := number_form h5
  have n7 := number_form h7
  refine ⟨(a, b, c, d), ?_, ?_, rfl⟩
  · intro n hn
    simp only [quadL, List.mem_cons, List.not_mem_nil, or_false] at hn
    rcases hn with rfl | rfl | rfl | rfl
    · exact n1.2
    · exact n3.2
    · exact n5.2
    · exact n7.2
  · rw [n1.1, take_form h2, n3.1, take_form h4, n5.1, take_form h6, n7.1, take_form h8]
    simp [quadL, sep]

theorem carts_quads (R C : Nat) : ∀ (f : Nat) (l : List UInt8) (acc : List (Int × Int)) {r : List UInt8} {acc' : List (Int × Int)}, l.length < f → cartsP R C f l acc = (r, some acc') →
    acc' ≠ [] ∧ ∃ qs : List Quad, (∀ q ∈ qs, SmallQ q) ∧ l = linesT (qs.map fun q => sep (quadL q)) ∧ acc' = acc ++ qs.map (quadC R C)
  | 0, _, _, _, _, hf, _ => by omega
  | f + 1, l, acc, r, acc', hf, h => by
    have h' : (if acc ≠ [] ∧ l = [] then (l, some acc) else andP (cartP R C l) fun c l1 => cartsP R C f l1 (acc ++ [c])) = (r, some acc') := h
    by_cases hd : acc ≠ [] ∧ l = []
    · rw [if_pos hd] at h'
      cases h'
      exact ⟨hd.1, [], by simp, by rw [hd.2]; rfl, by simp⟩
    · rw [if_neg hd] at h'
      obtain ⟨v, l1, h1, h2⟩ := andP_some h'
      obtain ⟨q, e0, e1, e2⟩ := cart_form h1
      have hlen := cart_less h1
      obtain ⟨hne, qs, g0, g1, g2⟩ := carts_quads R C f l1 _ (by omega) h2
      refine ⟨hne, q :: qs, ?_, ?_, ?_⟩
      · intro x hx
        rcases List.mem_cons.1 hx with rfl | hx
        · exact e0
        · exact g0 x hx
      · rw [e1, g1]
        simp [linesT]
      · rw [g2, e2]
        simp

theorem rows_read {l r cs : List UInt8} {n C : Nat} (h : rowsP l = (r, some (cs, n, C))) : ∃ rows : List (List UInt8), rows ≠ [] ∧ 1 ≤ C ∧ (∀ row ∈ rows, RowC C row) ∧ l = linesT rows ++ r ∧ cs = rows.flatten ∧ n = rows.length := by
  unfold rowsP at h
  obtain ⟨c1, _, c3, _⟩ := cellsP_form l.length l
  by_cases hn : (cellsP l.length l).1 = []
  · rw [if_pos hn] at h; cases h
  · rw [if_neg hn] at h
    have hpos : 0 < (cellsP l.length l).1.length := List.length_pos_iff.2 hn
    obtain ⟨l1, h1, h⟩ := okP_some h
    obtain ⟨a, l2, h2, h⟩ := andP_some h
    obtain ⟨cs', n'⟩ := a
    cases h
    obtain ⟨rows, g1, g2, g3, g4⟩ := rows_form _ _ _ _ _ h2
    refine ⟨(cellsP l.length l).1 :: rows, by simp, hpos, ?_, ?_, ?_, ?_⟩
    · intro row hrow
      rcases List.mem_cons.1 hrow with rfl | hrow
      · exact ⟨rfl, c3⟩
      · exact g2 row hrow
    · have e : linesT ((cellsP l.length l).1 :: rows) = (cellsP l.length l).1 ++ 10 :: rowsT rows := by simp [linesT, rowsT]
      rw [e, List.append_assoc, List.cons_append, ← g1, ← take_form h1, ← c1]
    · rw [g3]; simp
    · rw [g4]; simp; omega

/-- A text, in its lines. -/
theorem text_form {l r : List UInt8} {t : Told} (h : readT l = (r, some t)) : ∃ (rows : List (List UInt8)) (qs : List Quad), t.U ≤ 99999 ∧ rows ≠ [] ∧ 1 ≤ t.C ∧ (∀ row ∈ rows, RowC t.C row) ∧ qs ≠ [] ∧ (∀ q ∈ qs, SmallQ q) ∧
    l = linesT ((headB ++ decDigits t.U) :: (rows ++ qs.map fun q => sep (quadL q))) ∧ t.R = rows.length ∧ t.cs = rows.flatten ∧ t.carts = qs.map (quadC t.R t.C) := by
  unfold readT at h
  obtain ⟨u, l1, h1, h⟩ := andP_some h
  obtain ⟨q, l2, h2, h⟩ := andP_some h
  obtain ⟨cs, l3, h3, h⟩ := andP_some h
  cases h
  obtain ⟨c, n, C⟩ := q
  obtain ⟨rows, g1, g2, g3, g4, g5, g6⟩ := rows_read h2
  obtain ⟨hne, qs, k1, k2, k3⟩ := carts_quads n C _ _ _ (Nat.lt_succ_self _) h3
  unfold budgetP at h1
  obtain ⟨m1, m2, h1⟩ := okP_some h1
  obtain ⟨u', m3, m4, h1⟩ := andP_some h1
  obtain ⟨m5, m6, h1⟩ := okP_some h1
  cases h1
  have hu := number_form m4
  refine ⟨rows, qs, hu.2, g1, g2, g3, ?_, k1, ?_, g6, g5, by rw [k3]; rfl⟩
  · rintro rfl
    exact hne (by rw [k3]; rfl)
  · rw [takes_form m2, hu.1, take_form m6, g4, k2]
    simp [linesT]

end TX
end Go.Proofs.YtnkgpinadgacgaaDoor
