/- Plain facts on neighbours and distances both ways; how great a distance may be. -/
import Derived.Test.YtaldfpoolajoiaaDoorWk
namespace Go.Proofs.YtaldfpoolajoiaaDoor
open Go.RowKit M

theorem adj_comm {co : Int} {cs : ByteArray} {a b : Nat} (hf : freeB cs a = true) (h : adjM co cs b a = true) (hb : freeB cs b = true) : adjM co cs a b = true := by
  unfold adjM at *
  have ha : (a : Int) < cs.size := by
    by_cases e : (a : Int) < cs.size
    · exact e
    · rw [freeB_out (by omega)] at hf; cases hf
  have hb' : (b : Int) < cs.size := by
    by_cases e : (b : Int) < cs.size
    · exact e
    · rw [freeB_out (by omega)] at hb; cases hb
  rw [mayM_in hf (by omega) hb'] at h
  rw [mayM_in hb (by omega) ha, near_comm]; exact h

theorem adj_free {co : Int} {cs : ByteArray} {a b : Nat} (h : adjM co cs b a = true) : freeB cs a = true := by
  by_cases e : freeB cs a = true
  · exact e
  · rw [show adjM co cs b a = false from mayM_out (Or.inl (by simpa using e))] at h; cases h

/-- Only free cells are told. -/
theorem far_free {co : Int} {cs : ByteArray} {c : Nat} {d : Nat → Int} (h : IsFar cs.size (adjM co cs) c d) (hc : freeB cs c = true) {a : Nat} (ha : a < cs.size) (h0 : 0 ≤ d a) : freeB cs a = true := by
  obtain ⟨k, hk⟩ := Int.eq_ofNat_of_zero_le h0
  cases k with
  | zero => rw [h.src a ha (by simpa using hk)]; exact hc
  | succ k =>
    obtain ⟨b, _, hab, _⟩ := h.pred a ha k (by rw [hk]; simp)
    exact adj_free hab

/-- As far as from a cell, so far to it. -/
theorem far_back {co : Int} {cs : ByteArray} {a b : Nat} {d f : Nat → Int} (h : IsFar cs.size (adjM co cs) a d) (h' : IsFar cs.size (adjM co cs) b f) (ha : freeB cs a = true) (haN : a < cs.size) : ∀ (k : Nat) (x : Nat), x < cs.size → d x = k → 0 ≤ f x → 0 ≤ f a ∧ f a ≤ f x + k
  | 0, x, hx, hk, h0 => by
    rw [h.src x hx (by simpa using hk)] at h0 ⊢
    exact ⟨h0, by simp⟩
  | k + 1, x, hx, hk, h0 => by
    obtain ⟨y, hy, hyx, hdy⟩ := h.pred x hx k (by rw [hk]; simp)
    have fx := adj_free hyx
    have fy := far_free h ha hy (by omega)
    obtain ⟨g1, g2⟩ := h'.next y x hy hx (adj_comm fx hyx fy) h0
    obtain ⟨g3, g4⟩ := far_back h h' ha haN k y hy hdy g1
    exact ⟨g3, by rw [Int.natCast_add]; simp; omega⟩

theorem far_sym {co : Int} {cs : ByteArray} {a b : Nat} {d f : Nat → Int} (h : IsFar cs.size (adjM co cs) a d) (h' : IsFar cs.size (adjM co cs) b f) (ha : freeB cs a = true) (hb : freeB cs b = true) (haN : a < cs.size) (hbN : b < cs.size) : d b = f a := by
  have l := h.low b hbN
  have l' := h'.low a haN
  have z := h.zero
  have z' := h'.zero
  have one : 0 ≤ d b → 0 ≤ f a ∧ f a ≤ d b := fun e => by
    obtain ⟨k, hk⟩ := Int.eq_ofNat_of_zero_le e
    obtain ⟨g1, g2⟩ := far_back h h' ha haN k b hbN hk (by omega)
    exact ⟨g1, by omega⟩
  have two : 0 ≤ f a → 0 ≤ d b ∧ d b ≤ f a := fun e => by
    obtain ⟨k, hk⟩ := Int.eq_ofNat_of_zero_le e
    obtain ⟨g1, g2⟩ := far_back h' h hb hbN k a haN hk (by omega)
    exact ⟨g1, by omega⟩
  by_cases e : 0 ≤ d b
  · obtain ⟨g1, g2⟩ := one e
    obtain ⟨g3, g4⟩ := two g1
    omega
  · by_cases e' : 0 ≤ f a
    · obtain ⟨g3, g4⟩ := two e'; omega
    · omega

/-- Walls are not told. -/
theorem far_wall {co : Int} {cs : ByteArray} {c : Nat} {d : Nat → Int} (h : IsFar cs.size (adjM co cs) c d) (hc : freeB cs c = true) {a : Nat} (ha : a < cs.size) (hf : freeB cs a = false) : d a = -1 := by
  have l := h.low a ha
  by_cases e : 0 ≤ d a
  · rw [far_free h hc ha e] at hf; cases hf
  · omega

/-- No distance is as great as the number of cells. -/
theorem far_lt {N : Nat} {adj : Nat → Nat → Bool} {c : Nat} {d : Nat → Int} (hc : c < N) (h : IsFar N adj c d) {a : Nat} (ha : a < N) : d a ≤ N - 1 := by
  rw [IsFar.unique h (orow_isFar hc) a ha]
  have := (part_all (adj := adj) hc (N - 1)).high a ha
  omega

end Go.Proofs.YtaldfpoolajoiaaDoor
