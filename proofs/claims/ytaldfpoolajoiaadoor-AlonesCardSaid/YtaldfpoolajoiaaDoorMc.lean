/- Plain facts on a queue's search: what holds while it runs, and that its table is the table of distances when the queue is through. No program is named here. -/
import Derived.Test.YtaldfpoolajoiaaDoorMb
namespace Go.Proofs.YtaldfpoolajoiaaDoor.M

/-- What holds of the table st and the queue q, whose cells below i are done. -/
structure Bfs (N : Nat) (adj : Nat → Nat → Bool) (c : Nat) (st : Nat → Int) (q : List Nat) (i : Nat) : Prop where
  inN : ∀ j, j < q.length → q.getD j 0 < N
  len : q.length + cnt (fun x => decide (st x < 0)) N = N
  zero : st c = 0
  low : ∀ x, x < N → -1 ≤ st x
  src : ∀ x, x < N → st x = 0 → x = c
  pred : ∀ a, a < N → ∀ k : Nat, st a = (k : Int) + 1 → ∃ b, b < N ∧ adj b a = true ∧ st b = k
  mem : ∀ x, x < N → 0 ≤ st x → ∃ j, j < q.length ∧ q.getD j 0 = x
  told : ∀ j, j < q.length → 0 ≤ st (q.getD j 0)
  mono : ∀ j k, j ≤ k → k < q.length → st (q.getD j 0) ≤ st (q.getD k 0)
  near : i < q.length → ∀ j, j < q.length → st (q.getD j 0) ≤ st (q.getD i 0) + 1
  le : ∀ j, j < q.length → st (q.getD j 0) ≤ j
  past : ∀ j, j < i → j < q.length → ∀ a, a < N → adj (q.getD j 0) a = true → 0 ≤ st a ∧ st a ≤ st (q.getD j 0) + 1

theorem Bfs.lenN {N : Nat} {adj : Nat → Nat → Bool} {c : Nat} {st : Nat → Int} {q : List Nat} {i : Nat} (h : Bfs N adj c st q i) : q.length ≤ N := by
  have := h.len; omega

theorem bfs_start {N : Nat} {adj : Nat → Nat → Bool} {c : Nat} (hc : c < N) : Bfs N adj c (fun x => if x = c then 0 else -1) [c] 0 := by
  have hcnt : cnt (fun x => decide ((if x = c then (0 : Int) else -1) < 0)) N + 1 = cnt (fun _ => true) N := by
    refine cnt_flip hc rfl (by simp) fun i hi => ?_
    simp [hi]
  have hall : ∀ n, cnt (fun _ => true) n = n := by
    intro n
    induction n with
    | zero => rfl
    | succ n ih => simp [cnt, ih]
  refine ⟨?_, ?_, ?_, ?_, ?_, ?_, ?_, ?_, ?_, ?_, ?_, ?_⟩
  · intro j hj
    have : j = 0 := by simp at hj; omega
    subst this; simpa using hc
  · rw [hall N] at hcnt
    simp only [List.length_cons, List.length_nil]; omega
  · simp
  · intro x _; show -1 ≤ (if x = c then (0 : Int) else -1); split <;> omega
  · intro x _ hx
    by_cases e : x = c
    · exact e
    · simp only [if_neg e] at hx; omega
  · intro a _ k hk
    have hk' : (if a = c then (0 : Int) else -1) = (k : Int) + 1 := hk
    split at hk' <;> omega
  · intro x _ hx
    by_cases e : x = c
    · exact ⟨0, by simp, by simp [e]⟩
    · simp only [if_neg e] at hx; omega
  · intro j hj
    have : j = 0 := by simp at hj; omega
    subst this; simp
  · intro j k hjk hk
    have : k = 0 := by simp at hk; omega
    subst this
    have : j = 0 := by omega
    subst this; simp
  · intro _ j hj
    have : j = 0 := by simp at hj; omega
    subst this; simp
  · intro j hj
    have : j = 0 := by simp at hj; omega
    subst this; simp
  · intro j hj; omega

def upd (st : Nat → Int) (x : Nat) (v : Int) (y : Nat) : Int := if y = x then v else st y

theorem getD_old {q : List Nat} {x j : Nat} (hj : j < q.length) : (q ++ [x]).getD j 0 = q.getD j 0 := by
  simp [List.getD, List.getElem?_append_left hj]

theorem getD_new {q : List Nat} {x : Nat} : (q ++ [x]).getD q.length 0 = x := by
  simp [List.getD]

/-- A cell that is not told yet and lies beside the queue's i-th comes behind. -/
theorem bfs_push {N : Nat} {adj : Nat → Nat → Bool} {c : Nat} {st : Nat → Int} {q : List Nat} {i x : Nat} (h : Bfs N adj c st q i) (hi : i < q.length) (hx : x < N) (hn : st x = -1) (ha : adj (q.getD i 0) x = true) :
    Bfs N adj c (upd st x (st (q.getD i 0) + 1)) (q ++ [x]) i := by
  have hqi := h.told i hi
  have hne : ∀ y, 0 ≤ st y → y ≠ x := fun y hy e => by subst e; omega
  have hold : ∀ y, 0 ≤ st y → upd st x (st (q.getD i 0) + 1) y = st y := fun y hy => by unfold upd; rw [if_neg (hne y hy)]
  have hnew : upd st x (st (q.getD i 0) + 1) x = st (q.getD i 0) + 1 := by unfold upd; rw [if_pos rfl]
  have hcase : ∀ j, j < (q ++ [x]).length → (j < q.length ∧ (q ++ [x]).getD j 0 = q.getD j 0 ∧ upd st x (st (q.getD i 0) + 1) ((q ++ [x]).getD j 0) = st (q.getD j 0)) ∨
      (j = q.length ∧ (q ++ [x]).getD j 0 = x ∧ upd st x (st (q.getD i 0) + 1) ((q ++ [x]).getD j 0) = st (q.getD i 0) + 1) := by
    intro j hj
    rw [List.length_append] at hj
    simp only [List.length_cons, List.length_nil] at hj
    by_cases e : j < q.length
    · refine Or.inl ⟨e, getD_old e, ?_⟩
      rw [getD_old e]; exact hold _ (h.told j e)
    · have e2 : j = q.length := by omega
      subst e2
      refine Or.inr ⟨rfl, getD_new, ?_⟩
      rw [getD_new]; exact hnew
  have hsmall : ∀ a (v : Int), upd st x (st (q.getD i 0) + 1) a = v → a ≠ x → st a = v := fun a v hv e => by unfold upd at hv; rw [if_neg e] at hv; exact hv
  refine ⟨?_, ?_, ?_, ?_, ?_, ?_, ?_, ?_, ?_, ?_, ?_, ?_⟩
  · intro j hj
    rcases hcase j hj with ⟨e, e1, _⟩ | ⟨_, e1, _⟩ <;> rw [e1]
    · exact h.inN j e
    · exact hx
  · have := cnt_flip (p := fun y => decide (st y < 0)) (q := fun y => decide (upd st x (st (q.getD i 0) + 1) y < 0)) hx (by simp [hn]) (by simp only [hnew, decide_eq_false_iff_not]; omega)
      (fun j hj => by unfold upd; rw [if_neg hj])
    have hl := h.len
    rw [List.length_append]
    simp only [List.length_cons, List.length_nil]
    omega
  · rw [hold c (by rw [h.zero]; omega)]; exact h.zero
  · intro y hy
    unfold upd
    split
    · omega
    · exact h.low y hy
  · intro y hy hz
    by_cases e : y = x
    · subst e; rw [hnew] at hz; omega
    · exact h.src y hy (hsmall y 0 hz e)
  · intro a haN k hk
    by_cases e : a = x
    · subst e
      rw [hnew] at hk
      exact ⟨q.getD i 0, h.inN i hi, ha, by rw [hold _ hqi]; omega⟩
    · obtain ⟨b, hb, hab, hd⟩ := h.pred a haN k (hsmall a _ hk e)
      exact ⟨b, hb, hab, by rw [hold b (by omega)]; exact hd⟩
  · intro y hy hy0
    by_cases e : y = x
    · subst e; exact ⟨q.length, by simp, getD_new⟩
    · obtain ⟨j, hj, hjy⟩ := h.mem y hy (by unfold upd at hy0; rw [if_neg e] at hy0; exact hy0)
      exact ⟨j, by simp; omega, by rw [getD_old hj]; exact hjy⟩
  · intro j hj
    rcases hcase j hj with ⟨e, _, e2⟩ | ⟨_, _, e2⟩ <;> rw [e2]
    · exact h.told j e
    · omega
  · intro j k hjk hk
    rcases hcase k hk with ⟨e, _, e2⟩ | ⟨e, _, e2⟩
    · rcases hcase j (by omega) with ⟨f, _, f2⟩ | ⟨f, _, f2⟩
      · rw [e2, f2]; exact h.mono j k hjk e
      · omega
    · rcases hcase j (by omega) with ⟨f, _, f2⟩ | ⟨f, _, f2⟩
      · rw [e2, f2]; exact h.near hi j f
      · rw [e2, f2]; omega
  · intro _ j hj
    have ei : upd st x (st (q.getD i 0) + 1) ((q ++ [x]).getD i 0) = st (q.getD i 0) := by rw [getD_old hi]; exact hold _ hqi
    rw [ei]
    rcases hcase j hj with ⟨e, _, e2⟩ | ⟨_, _, e2⟩ <;> rw [e2]
    · exact h.near hi j e
    · omega
  · intro j hj
    rcases hcase j hj with ⟨e, _, e2⟩ | ⟨e, _, e2⟩ <;> rw [e2]
    · exact h.le j e
    · have := h.le i hi
      omega
  · intro j hj hjl a haN haj
    have e : j < q.length := by omega
    rw [getD_old e] at haj ⊢
    obtain ⟨g1, g2⟩ := h.past j hj e a haN haj
    rw [hold a g1, hold _ (h.told j e)]
    exact ⟨g1, g2⟩

/-- The i-th cell is done. -/
theorem bfs_next {N : Nat} {adj : Nat → Nat → Bool} {c : Nat} {st : Nat → Int} {q : List Nat} {i : Nat} (h : Bfs N adj c st q i) (hi : i < q.length)
    (hd : ∀ a, a < N → adj (q.getD i 0) a = true → 0 ≤ st a ∧ st a ≤ st (q.getD i 0) + 1) : Bfs N adj c st q (i + 1) := by
  refine ⟨h.inN, h.len, h.zero, h.low, h.src, h.pred, h.mem, h.told, h.mono, ?_, h.le, ?_⟩
  · intro hl j hj
    have := h.near hi j hj
    have := h.mono i (i + 1) (by omega) hl
    omega
  · intro j hj hjl a haN haj
    by_cases e : j = i
    · subst e; exact hd a haN haj
    · exact h.past j (by omega) hjl a haN haj

/-- The queue is through. -/
theorem bfs_isFar {N : Nat} {adj : Nat → Nat → Bool} {c : Nat} {st : Nat → Int} {q : List Nat} {i : Nat} (h : Bfs N adj c st q i) (hi : ¬ i < q.length) : IsFar N adj c st := by
  refine ⟨h.zero, h.low, h.src, h.pred, fun a b ha hb hab h0 => ?_⟩
  obtain ⟨j, hj, hjb⟩ := h.mem b hb h0
  subst hjb
  exact h.past j (by omega) hj a ha hab

/-- A cell that is told already lies within one. -/
theorem bfs_told {N : Nat} {adj : Nat → Nat → Bool} {c : Nat} {st : Nat → Int} {q : List Nat} {i x : Nat} (h : Bfs N adj c st q i) (hi : i < q.length) (hx : x < N) (h0 : 0 ≤ st x) : st x ≤ st (q.getD i 0) + 1 := by
  obtain ⟨j, hj, hjx⟩ := h.mem x hx h0
  subst hjx
  exact h.near hi j hj

end Go.Proofs.YtaldfpoolajoiaaDoor.M
