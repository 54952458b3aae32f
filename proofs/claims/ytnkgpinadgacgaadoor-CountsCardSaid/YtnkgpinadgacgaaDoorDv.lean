/- Which numbers were come to, as a row of bools and as a list: plain facts for the document's Positions. -/
import Derived.Test.YtnkgpinadgacgaaDoorDz
import Derived.Test.YtnkgpinadgacgaaDoorDs
import Derived.Test.YtnkgpinadgacgaaDoorDu
import Derived.Test.YtnkgpinadgacgaaDoorDi
import Derived.Test.YtnkgpinadgacgaaDoorBh
namespace Go.Proofs.YtnkgpinadgacgaaDoor
open Go.RowKit M

/-- Was a number come to? -/
def seenB (cs : ByteArray) (L : List (List Nat)) (n : Nat) : Bool := L.any fun q => numOf (frB cs) cs.size q == n

/-- The numbers of positions. -/
def nums (cs : ByteArray) (L : List (List Nat)) : List Nat := L.map (numOf (frB cs) cs.size)

theorem nums_len (cs : ByteArray) (L : List (List Nat)) : (nums cs L).length = L.length := by simp [nums]
theorem nums_snoc (cs : ByteArray) (L : List (List Nat)) (q : List Nat) : nums cs (L ++ [q]) = nums cs L ++ [numOf (frB cs) cs.size q] := by simp [nums]
theorem nums_at {cs : ByteArray} {L : List (List Nat)} {i : Nat} (h : i < L.length) : (nums cs L).getD i 0 = numOf (frB cs) cs.size (L.getD i []) := by
  unfold nums
  rw [List.getD_eq_getElem?_getD, List.getElem?_map, List.getD_eq_getElem?_getD, List.getElem?_eq_getElem h]; rfl

theorem seenB_nil (cs : ByteArray) (n : Nat) : seenB cs [] n = false := rfl

theorem seenB_snoc (cs : ByteArray) (L : List (List Nat)) (q : List Nat) (n : Nat) : seenB cs (L ++ [q]) n = if n = numOf (frB cs) cs.size q then true else seenB cs L n := by
  unfold seenB
  rw [List.any_append]
  by_cases e : n = numOf (frB cs) cs.size q
  · rw [if_pos e]; simp [e]
  · rw [if_neg e]
    have e2 : ¬ (numOf (frB cs) cs.size q = n) := fun h => e h.symm
    simp [e2]

theorem good_mem {cs : ByteArray} {m : Nat} {q : List Nat} (h : Good cs m q) : ∀ c, c ∈ q → c < cs.size ∧ frB cs c = true := by
  intro c hc
  obtain ⟨k, hk, rfl⟩ := List.mem_iff_getElem.1 hc
  have h2 := h.2 k (by rw [← h.1]; exact hk)
  rw [List.getD_eq_getElem?_getD, List.getElem?_eq_getElem hk] at h2
  exact h2

theorem good_lt {cs : ByteArray} {m : Nat} {q : List Nat} (h : Good cs m q) : numOf (frB cs) cs.size q < (frees (frB cs) cs.size).length ^ m := by
  have h2 := numOf_lt (good_mem h)
  rw [h.1] at h2; exact h2

theorem seenB_iff {cs : ByteArray} {m : Nat} {L : List (List Nat)} {q : List Nat} (hL : ∀ x, x ∈ L → Good cs m x) (hq : Good cs m q) : seenB cs L (numOf (frB cs) cs.size q) = decide (q ∈ L) := by
  rw [Bool.eq_iff_iff, decide_eq_true_eq]
  unfold seenB
  rw [List.any_eq_true]
  constructor
  · rintro ⟨x, hx, e⟩
    have e2 : numOf (frB cs) cs.size x = numOf (frB cs) cs.size q := by simpa using e
    rw [← numOf_inj (by rw [(hL x hx).1, hq.1]) (good_mem (hL x hx)) (good_mem hq) e2]; exact hx
  · exact fun h => ⟨q, h, by simp⟩

/-- What comes behind a position of free cells is one. -/
theorem good_step {co : Int} {cs : ByteArray} {m : Nat} {p q : List Nat} (hq : stepR co cs m p q) : Good cs m q := by
  obtain ⟨h1, h2⟩ := growL_mem.1 hq
  refine ⟨h1, fun k hk => ?_⟩
  obtain ⟨h3, h4⟩ := mayN_mem.1 (h2 k hk).1
  refine ⟨h3, ?_⟩
  unfold mayM at h4
  simp only [Bool.and_eq_true] at h4
  exact h4.1

theorem own_oneN (w : World) (n k : Nat) (hk : k = w.heap.size) : OwnN (w.alloc (.cells #[.int .i64 (n : Int)] 3)) k (.slice (some ⟨k, 0, none⟩) 1 1) [n] := by
  subst hk
  refine ⟨rfl, .inr ⟨w.heap.size, 1, #[.int .i64 (n : Int)], rfl, Nat.le_refl _, ?_, Nat.le_refl _, by unfold maxLen; omega, rfl, rfl⟩⟩
  show (w.heap.push _)[w.heap.size]? = _
  simp

/-- What the document's Positions answers. -/
def posR (ro co bu : Int) (cs : ByteArray) (m : Nat) (fr tt : Nat → Int) (x y z : Value) : Prop :=
  ((checkM ro co cs m fr tt bu).1 ≠ 0 ∧ x = .int .i64 0 ∧ y = .bool false ∧ z = .int .i64 (checkM ro co cs m fr tt bu).1) ∨
  ((checkM ro co cs m fr tt bu).1 = 0 ∧ ∃ (n : Nat) (d : Bool), M.Told (stepR co cs m) (cellsOf fr m) (cellsOf tt m) bu n d ∧
    ((bu < n ∧ x = .int .i64 0 ∧ y = .bool false ∧ z = .int .i64 10) ∨ (¬ bu < n ∧ x = .int .i64 n ∧ y = .bool d ∧ z = .int .i64 0)))

theorem rank_pos {cs : ByteArray} {m : Nat} {q : List Nat} (hm : 1 ≤ m) (h : Good cs m q) : 0 < (frees (frB cs) cs.size).length := by
  have h2 := h.2 0 hm
  exact Nat.lt_of_le_of_lt (Nat.zero_le _) (rank_at (f := frB cs) h2.2 h2.1).1

theorem good_cellsOf {cs : ByteArray} {m : Nat} {f : Nat → Int} (h : ∀ k, k < m → freeB cs (f k) = true) : Good cs m (cellsOf f m) := by
  refine ⟨cellsOf_len _ _, fun k hk => ?_⟩
  obtain ⟨n, e1, e2⟩ := free_nat (h k hk)
  have h3 := h k hk
  rw [cellsOf_at hk, e1]
  rw [e1] at h3
  exact ⟨by simpa using e2, by simpa using h3⟩

end Go.Proofs.YtnkgpinadgacgaaDoor
