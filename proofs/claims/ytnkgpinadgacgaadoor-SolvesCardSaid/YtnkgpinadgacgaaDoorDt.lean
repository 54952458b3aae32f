/- Lists of lists of numbers that a call makes. -/
import Derived.Test.YtnkgpinadgacgaaDoorQj
import Derived.Test.YtnkgpinadgacgaaDoorQn
namespace Go.Proofs.YtnkgpinadgacgaaDoor
open Go.RowKit M
/-- A list of lists of numbers that the call made. -/
def OwnQ (w : World) (base : Nat) (v : Value) (Ls : List (List Nat)) : Prop :=
  ∃ A : List Value, A.length = Ls.length ∧ w.ownsRow base 26 1 v Ls.length A ∧ (∀ t, t < Ls.length → RowQ w (A.getD t (.bool false)) (Ls.getD t [])) ∧ (∀ g t, v.ownBlock = some g → t < Ls.length → (A.getD t (.bool false)).ownBlock ≠ some g) ∧ (∀ t h, t < Ls.length → (A.getD t (.bool false)).ownBlock = some h → base ≤ h)

theorem OwnQ.nil (w : World) (base : Nat) : OwnQ w base (.slice none 0 0) [] := ⟨[], rfl, ⟨rfl, .inl ⟨rfl, rfl⟩⟩, fun _ h => by simp at h, fun _ _ _ h => by simp at h, fun _ _ h => by simp at h⟩

theorem OwnQ.below {w w' : World} {base : Nat} {v : Value} {Ls : List (List Nat)} (h : OwnQ w base v Ls) (hb : Below w.heap.size w w') : OwnQ w' base v Ls := by
  obtain ⟨A, h1, h2, h3, h4, h5⟩ := h
  exact ⟨A, h1, own_later h2 hb, fun t ht => (h3 t ht).below hb, h4, h5⟩

theorem OwnQ.le {w : World} {base base' : Nat} {v : Value} {Ls : List (List Nat)} (h : OwnQ w base v Ls) (hb : base' ≤ base) : OwnQ w base' v Ls := by
  obtain ⟨A, h1, h2, h3, h4, h5⟩ := h
  exact ⟨A, h1, own_le h2 hb, h3, h4, fun t k ht hk => Nat.le_trans hb (h5 t k ht hk)⟩

theorem OwnQ.lt {w : World} {base : Nat} {v : Value} {Ls : List (List Nat)} (h : OwnQ w base v Ls) : ∀ g, v.ownBlock = some g → base ≤ g ∧ g < w.heap.size := by
  obtain ⟨A, h1, h2, h3, h4, h5⟩ := h
  exact fun g hg => h2.lt g hg

theorem OwnQ.form {w : World} {base : Nat} {v : Value} {Ls : List (List Nat)} (h : OwnQ w base v Ls) : ∃ a cap, v = .slice a Ls.length cap ∧ (0 < Ls.length → ∃ g, a = some ⟨g, 0, none⟩) ∧ Ls.length ≤ cap := by
  obtain ⟨A, h1, h2, h3, h4, h5⟩ := h
  exact own_form h2

theorem OwnQ.cell {w : World} {base g n cap : Nat} {Ls : List (List Nat)} (h : OwnQ w base (.slice (some ⟨g, 0, none⟩) n cap) Ls) {t : Nat} (ht : t < Ls.length) : ∃ a c, w.cell? ⟨g, t, none⟩ = some (.slice a (Ls.getD t []).length c) ∧ RowQ w (.slice a (Ls.getD t []).length c) (Ls.getD t []) ∧ ∀ h, (Value.slice a (Ls.getD t []).length c).ownBlock = some h → base ≤ h := by
  obtain ⟨a0, cap2, hv, _, _⟩ := h.form
  obtain ⟨A, h1, h2, h3, h4, h6⟩ := h
  have e : n = Ls.length := by cases hv; rfl
  subst e
  have h5 := h3 t ht
  obtain ⟨a, c, hs, _⟩ := h5.form
  rw [hs] at h5
  refine ⟨a, c, ?_, h5, fun k hk => h6 t k ht (by rw [hs]; exact hk)⟩
  rw [own_cell h2 ht, ← hs, List.getD_eq_getElem?_getD, List.getElem?_eq_getElem (by omega)]; rfl

set_option maxRecDepth 100000 in
theorem wpList_pushQ {w0 : World} {ops : Array Oper} {rest : List Oper} {o : Oper} {a : Act} {Q : Exit → Act → World → Prop} (hgd : o.guard = none) (s x : Operand)
    (ho : o.op = .call { callee := .builtin .append, args := #[s, x], argTypes := #[35, 35] })
    (base : Nat) (v : Value) (Ls : List (List Nat)) (y : Value) (q : List Nat) (hs : a.eval s = v) (hown : OwnQ w0 base v Ls) (hbase : base ≤ w0.heap.size) (hy : RowQ w0 y q) (hd : ∀ g, v.ownBlock = some g → y.ownBlock ≠ some g) (hlo : ∀ g, y.ownBlock = some g → base ≤ g) (c : Nat)
    (hx : a.eval x = .slice (some ⟨w0.heap.size, 0, none⟩) 1 c) (hL : Ls.length ≤ 100000000)
    (h : ∀ g cap w', OwnQ w' base (.slice (some ⟨g, 0, none⟩) (Ls ++ [q]).length cap) (Ls ++ [q]) → Only (fun k => v.ownBlock = some k) w0 w' → (v.ownBlock = some g ∨ w0.heap.size ≤ g) → wpList Tryd.prog ops Q rest (a.put o.dst (.slice (some ⟨g, 0, none⟩) (Ls ++ [q]).length cap)) w') :
    wpList Tryd.prog ops Q (o :: rest) a (w0.alloc (.cells #[y] 26)) := by
  obtain ⟨i0, hi0, hi1, hi2, hi3⟩ := info_parts Tryd.infoSl
  obtain ⟨A, h1, h2, h3, h4, h5⟩ := hown
  obtain ⟨ya, yc, hyv, _⟩ := hy.form
  have hown1 := own_keep (w' := w0.alloc (.cells #[y] 26)) h2 (fun g _ hg _ => Below.heap_alloc _ _ _ hg)
  have hown2 := h2
  refine wpList_append_lies _ hgd s x _ ho base 26 i0 _ 1 24 Tryd.underlying35 hi0 hi1 hi2 hi3 rfl (by omega) v Ls.length A hs hown1 _ 1 c [y] hx rfl (fun j u hj => ?_) (fun u hu => ?_) (by omega) (by unfold maxLen; omega) (by omega) (by simp; omega) (w0.heap.size + 1) (by simp) ?_
  · match j, hj with
    | 0, hj => simp at hj; subst hj; simp [Addr.add]
    | j + 1, hj => simp at hj
  · simp at hu; subst hu; rw [hyv]; rfl
  · intro g cap w' ho9 hg9 hl9 _
    have e1 : (Ls ++ [q]).length = Ls.length + 1 := by simp
    rw [e1] at h
    have hon : Only (fun k => v.ownBlock = some k) w0 w' := ⟨hg9.os, hg9.tape, hg9.output, Nat.le_trans (by simp) hg9.size, fun k hk hn => by
      rw [hg9.block k (by simp; omega) (fun e => hn e.symm)]
      exact Below.heap_alloc _ _ _ hk⟩
    have hat : v.ownBlock = some g ∨ w0.heap.size ≤ g := hl9.imp id (fun e => by omega)
    refine h g cap w' ⟨A ++ [y], by simp [h1], by rw [e1]; exact ho9, fun t ht => ?_, fun g' t hg' ht => ?_, fun t k ht hk => ?_⟩ hon hat
    · by_cases htl : t < Ls.length
      · rw [getD_snoc_old (by omega), getD_snoc_old htl]
        exact (h3 t htl).only hon (fun b hb hv => h4 b t hv htl hb)
      · have e : t = Ls.length := by rw [List.length_append] at ht; simp at ht; omega
        rw [getD_snoc_new (by omega), getD_snoc_new e]
        exact hy.only hon (fun b hb hv => hd b hv hb)
    · have eg : g = g' := Option.some.inj hg'
      subst eg
      by_cases htl : t < Ls.length
      · rw [getD_snoc_old (by omega)]
        rcases hat with hh | hh
        · exact h4 g t hh htl
        · intro hb
          have := (h3 t htl).lt g hb
          omega
      · have e : t = Ls.length := by rw [List.length_append] at ht; simp at ht; omega
        rw [getD_snoc_new (by omega)]
        rcases hat with hh | hh
        · exact hd g hh
        · intro hb
          have := hy.lt g hb
          omega
    · by_cases htl : t < Ls.length
      · rw [getD_snoc_old (by omega)] at hk
        exact h5 t k htl hk
      · have e : t = Ls.length := by rw [List.length_append] at ht; simp at ht; omega
        rw [getD_snoc_new (by omega)] at hk
        exact hlo k hk

theorem own_oneQ (w : World) (k : Nat) (hk : k = w.heap.size) : OwnQ (w.alloc (.cells #[.slice none 0 0] 26)) k (.slice (some ⟨k, 0, none⟩) 1 1) [[]] := by
  subst hk
  refine ⟨[.slice none 0 0], rfl, ⟨rfl, .inr ⟨w.heap.size, 1, #[.slice none 0 0], rfl, Nat.le_refl _, ?_, Nat.le_refl _, by unfold maxLen; omega, rfl, rfl⟩⟩, fun t ht => ?_, fun g t hg ht => ?_, fun t k ht => ?_⟩
  · show (w.heap.push _)[w.heap.size]? = _
    simp
  · have e : t = 0 := by simp at ht; omega
    subst e
    exact ⟨⟨none, 0, rfl, fun h => by simp at h⟩, fun h hh => by cases hh⟩
  · have e : t = 0 := by simp at ht; omega
    subst e
    intro hb; cases hb
  · have e : t = 0 := by simp at ht; omega
    subst e
    intro hb; cases hb

end Go.Proofs.YtnkgpinadgacgaaDoor
