/- Lists of numbers, some below zero, that a call makes. -/
import Derived.Test.YtgdkchdcbfgijaaDoorDp
namespace Go.Proofs.YtgdkchdcbfgijaaDoor
open Go.RowKit M

/-- A list of numbers that the call made. -/
def OwnZ (w : World) (base : Nat) (v : Value) (L : List Int) : Prop := w.ownsRow base 3 1 v L.length (ints L)

theorem OwnZ.nil (w : World) (base : Nat) : OwnZ w base (.slice none 0 0) [] := ⟨rfl, .inl ⟨rfl, rfl⟩⟩
theorem OwnZ.below {w w' : World} {base : Nat} {v : Value} {L : List Int} (h : OwnZ w base v L) (hb : Below w.heap.size w w') : OwnZ w' base v L := own_later h hb
theorem OwnZ.le {w : World} {base base' : Nat} {v : Value} {L : List Int} (h : OwnZ w base v L) (hb : base' ≤ base) : OwnZ w base' v L := own_le h hb
theorem OwnZ.form {w : World} {base : Nat} {v : Value} {L : List Int} (h : OwnZ w base v L) : ∃ a cap, v = .slice a L.length cap ∧ (0 < L.length → ∃ g, a = some ⟨g, 0, none⟩) ∧ L.length ≤ cap := own_form h
theorem OwnZ.cell {w : World} {base g n cap : Nat} {L : List Int} (h : OwnZ w base (.slice (some ⟨g, 0, none⟩) n cap) L) {i : Nat} (hi : i < L.length) : w.cell? ⟨g, i, none⟩ = some (.int .i64 (L.getD i 0)) := by
  obtain ⟨a, cap2, hv, _, _⟩ := h.form
  have e : n = L.length := by cases hv; rfl
  subst e
  rw [own_cell h hi]
  simp [ints, List.getD, hi]

set_option maxRecDepth 100000 in
theorem wpList_pushZ {w0 : World} {ops : Array Oper} {rest : List Oper} {o : Oper} {a : Act} {Q : Exit → Act → World → Prop} (hgd : o.guard = none) (s x : Operand)
    (ho : o.op = .call { callee := .builtin .append, args := #[s, x], argTypes := #[26, 26] })
    (base : Nat) (v : Value) (L : List Int) (y : Int) (hs : a.eval s = v) (hown : OwnZ w0 base v L) (hbase : base ≤ w0.heap.size) (c : Nat)
    (hx : a.eval x = .slice (some ⟨w0.heap.size, 0, none⟩) 1 c) (hL : L.length ≤ 100000000)
    (h : ∀ g cap w', OwnZ w' base (.slice (some ⟨g, 0, none⟩) (L ++ [y]).length cap) (L ++ [y]) → Only (fun k => v.ownBlock = some k) w0 w' → (v.ownBlock = some g ∨ w0.heap.size ≤ g) → wpList Tryd.prog ops Q rest (a.put o.dst (.slice (some ⟨g, 0, none⟩) (L ++ [y]).length cap)) w') :
    wpList Tryd.prog ops Q (o :: rest) a (w0.alloc (.cells #[.int .i64 y] 3)) := by
  obtain ⟨i0, hi0, hi1, hi2, hi3⟩ := info_parts Tryd.infoInt2
  have hown1 := own_keep (w' := w0.alloc (.cells #[.int .i64 y] 3)) hown (fun g _ hg _ => Below.heap_alloc _ _ _ hg)
  refine wpList_append_lies _ hgd s x _ ho base 3 i0 _ 1 8 Tryd.underlying26 hi0 hi1 hi2 hi3 rfl (by omega) v L.length (ints L) hs hown1 _ 1 c [.int .i64 y] hx rfl (fun j u hj => ?_) (fun u hu => ?_) (by omega) (by unfold maxLen; omega) (by omega) (by simp; omega) (w0.heap.size + 1) (by simp) ?_
  · match j, hj with
    | 0, hj => simp at hj; subst hj; simp [Addr.add]
    | j + 1, hj => simp at hj
  · simp at hu; subst hu; rfl
  · intro g cap w' ho9 hg9 hl9 _
    have e1 : (L ++ [y]).length = L.length + 1 := by simp
    rw [e1] at h
    refine h g cap w' ?_ (⟨hg9.os, hg9.tape, hg9.output, Nat.le_trans (by simp) hg9.size, fun k hk hn => ?_⟩) (hl9.imp id (fun e => by omega))
    · unfold OwnZ
      rw [show ints (L ++ [y]) = ints L ++ [.int .i64 y] by simp [ints], e1]; exact ho9
    · rw [hg9.block k (by simp; omega) (fun e => hn e.symm)]
      exact Below.heap_alloc _ _ _ hk

/-- For each cell below k its number among the free ones, or -1. -/
def ranksTo (f : Nat → Bool) (k : Nat) : List Int := (List.range k).map fun c => if f c then ((rankOf f c : Nat) : Int) else -1

theorem ranksTo_next (f : Nat → Bool) (k : Nat) : ranksTo f (k + 1) = ranksTo f k ++ [if f k then ((rankOf f k : Nat) : Int) else -1] := by
  unfold ranksTo
  rw [List.range_succ, List.map_append]; rfl

theorem ranksTo_at {f : Nat → Bool} {k c : Nat} (h : c < k) : (ranksTo f k).getD c 0 = if f c then ((rankOf f c : Nat) : Int) else -1 := by
  unfold ranksTo
  rw [List.getD_eq_getElem?_getD, List.getElem?_map, List.getElem?_range h]; rfl

theorem ranksTo_len (f : Nat → Bool) (k : Nat) : (ranksTo f k).length = k := by simp [ranksTo]

end Go.Proofs.YtgdkchdcbfgijaaDoor
