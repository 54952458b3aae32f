/- Walk of Steps, where shaped gives a good yard: the law answers true. -/
import Derived.Test.YtcfcfohipbjbfaaDoorXb
namespace Go.Proofs.YtcfcfohipbjbfaaDoor
open Go.RowKit M

/-- What shaped gives. -/
def Shapes : Prop := ∀ (rr rc rb : Int) (s : ByteArray) (a : Option Addr) (n cap : Nat) (x : Nat → Int) (w : World), s.size ≤ maxLen → n ≤ 17592186044415 →
    (Lit.int .i64 rr).wf = true → (Lit.int .i64 rc).wf = true → (Lit.int .i64 rb).wf = true →
    ((∀ i, i < n → (Lit.int .i64 (x i)).wf = true) ∧ (0 < n → ∃ b off, a = some ⟨b, off, none⟩ ∧ ∀ i, i < n → w.cell? ⟨b, off + i, none⟩ = some (.int .i64 (x i)))) →
    Calls Tryd.prog 12 #[.agg #[.int .i64 rr, .int .i64 rc, .string s, .slice a n cap, .int .i64 rb]] w fun e w' =>
      ∃ (R C U m cc g : Nat) (cs : ByteArray) (fr to : Nat → Int), e = .returned (.agg #[.int .i64 (R : Int), .int .i64 (C : Int), .string cs, .slice (some ⟨g, 0, none⟩) m cc, .int .i64 (U : Int)]) ∧
        1 ≤ m ∧ m ≤ 4 ∧ m ≤ cc ∧ CartsIn w' g 0 m fr to ∧ checkM R C cs m fr to U = (0, 0) ∧ freeB cs 0 = true ∧ cs.size ≤ 36 ∧ Below w.heap.size w w'

theorem adj_comm {co : Int} {cs : ByteArray} {a b : Nat} (hf : freeB cs a = true) (h : adjM co cs b a = true) (hb : freeB cs b = true) : adjM co cs a b = true := by
  unfold adjM at *
  have ha : (a : Int) < cs.size := by
    by_cases e : (a : Int) < cs.size
    · exact e
    · rw [freeB_out (by omega)] at hf; cases hf
  have hb' : (b : Int) < cs.size := by
    by_cases e : (b : Int) < cs.size
    · exact e
    · rw [freeB_out (by omega)] at hb; cases hb
  rw [mayM_in hf (by omega) hb'] at h
  rw [mayM_in hb (by omega) ha, near_comm]; exact h

theorem adj_free {co : Int} {cs : ByteArray} {a b : Nat} (h : adjM co cs b a = true) : freeB cs a = true := by
  by_cases e : freeB cs a = true
  · exact e
  · rw [show adjM co cs b a = false from mayM_out (Or.inl (by simpa using e))] at h; cases h

/-- Only free cells are told. -/
theorem far_free {co : Int} {cs : ByteArray} {c : Nat} {d : Nat → Int} (h : IsFar cs.size (adjM co cs) c d) (hc : freeB cs c = true) {a : Nat} (ha : a < cs.size) (h0 : 0 ≤ d a) : freeB cs a = true := by
  obtain ⟨k, hk⟩ := Int.eq_ofNat_of_zero_le h0
  cases k with
  | zero => rw [h.src a ha (by simpa using hk)]; exact hc
  | succ k =>
    obtain ⟨b, _, hab, _⟩ := h.pred a ha k (by rw [hk]; simp)
    exact adj_free hab

/-- As far as from a cell, so far to it. -/
theorem far_back {co : Int} {cs : ByteArray} {a b : Nat} {d f : Nat → Int} (h : IsFar cs.size (adjM co cs) a d) (h' : IsFar cs.size (adjM co cs) b f) (ha : freeB cs a = true) (haN : a < cs.size) : ∀ (k : Nat) (x : Nat), x < cs.size → d x = k → 0 ≤ f x → 0 ≤ f a ∧ f a ≤ f x + k
  | 0, x, hx, hk, h0 => by
    rw [h.src x hx (by simpa using hk)] at h0 ⊢
    exact ⟨h0, by simp⟩
  | k + 1, x, hx, hk, h0 => by
    obtain ⟨y, hy, hyx, hdy⟩ := h.pred x hx k (by rw [hk]; simp)
    have fx := adj_free hyx
    have fy := far_free h ha hy (by omega)
    obtain ⟨g1, g2⟩ := h'.next y x hy hx (adj_comm fx hyx fy) h0
    obtain ⟨g3, g4⟩ := far_back h h' ha haN k y hy hdy g1
    exact ⟨g3, by rw [Int.natCast_add]; simp; omega⟩

theorem far_sym {co : Int} {cs : ByteArray} {a b : Nat} {d f : Nat → Int} (h : IsFar cs.size (adjM co cs) a d) (h' : IsFar cs.size (adjM co cs) b f) (ha : freeB cs a = true) (hb : freeB cs b = true) (haN : a < cs.size) (hbN : b < cs.size) : d b = f a := by
  have l := h.low b hbN
  have l' := h'.low a haN
  have z := h.zero
  have z' := h'.zero
  have one : 0 ≤ d b → 0 ≤ f a ∧ f a ≤ d b := fun e => by
    obtain ⟨k, hk⟩ := Int.eq_ofNat_of_zero_le e
    obtain ⟨g1, g2⟩ := far_back h h' ha haN k b hbN hk (by omega)
    exact ⟨g1, by omega⟩
  have two : 0 ≤ f a → 0 ≤ d b ∧ d b ≤ f a := fun e => by
    obtain ⟨k, hk⟩ := Int.eq_ofNat_of_zero_le e
    obtain ⟨g1, g2⟩ := far_back h' h hb hbN k a haN hk (by omega)
    exact ⟨g1, by omega⟩
  by_cases e : 0 ≤ d b
  · obtain ⟨g1, g2⟩ := one e
    obtain ⟨g3, g4⟩ := two g1
    omega
  · by_cases e' : 0 ≤ f a
    · obtain ⟨g3, g4⟩ := two e'; omega
    · omega

/-- Walls are not told. -/
theorem far_wall {co : Int} {cs : ByteArray} {c : Nat} {d : Nat → Int} (h : IsFar cs.size (adjM co cs) c d) (hc : freeB cs c = true) {a : Nat} (ha : a < cs.size) (hf : freeB cs a = false) : d a = -1 := by
  have l := h.low a ha
  by_cases e : 0 ≤ d a
  · rw [far_free h hc ha e] at hf; cases hf
  · omega

/-- Between two neighbours: both are told or neither, and the distance differs by one at the most. -/
theorem far_step {co : Int} {cs : ByteArray} {c : Nat} {d : Nat → Int} (h : IsFar cs.size (adjM co cs) c d) {a b : Nat} (ha : a < cs.size) (hb : b < cs.size) (hfa : freeB cs a = true) (hk : kmay co cs a b = true) :
    (decide (d b < 0) = decide (d a < 0)) ∧ d b ≤ d a + 1 := by
  unfold kmay at hk
  simp only [Bool.and_eq_true] at hk
  have ab : adjM co cs a b = true := by unfold adjM; rw [mayM_in hk.1 (by omega) (by omega)]; exact hk.2
  have ba : adjM co cs b a = true := by unfold adjM; rw [mayM_in hfa (by omega) (by omega), near_comm]; exact hk.2
  have la := h.low a ha
  have lb := h.low b hb
  by_cases e : 0 ≤ d a
  · obtain ⟨g1, g2⟩ := h.next b a hb ha ab e
    exact ⟨by simp; omega, g2⟩
  · by_cases e' : 0 ≤ d b
    · obtain ⟨g1, g2⟩ := h.next a b ha hb ba e'; omega
    · exact ⟨by simp; omega, by omega⟩

/-- What is farther than 0 has a neighbour that is nearer by one. -/
theorem far_near {co : Int} {cs : ByteArray} {c : Nat} {d : Nat → Int} (h : IsFar cs.size (adjM co cs) c d) (hc : freeB cs c = true) {a : Nat} (ha : a < cs.size) (hfa : freeB cs a = true) (h1 : 1 ≤ d a) : ∃ b, b < cs.size ∧ kmay co cs a b = true ∧ d b = d a - 1 := by
  obtain ⟨k, hk⟩ : ∃ k : Nat, d a = (k : Int) + 1 := by
    obtain ⟨k, hk⟩ := Int.eq_ofNat_of_zero_le (show 0 ≤ d a - 1 by omega)
    exact ⟨k, by omega⟩
  obtain ⟨b, hb, hba, hdb⟩ := h.pred a ha k hk
  have fb := far_free h hc hb (by omega)
  refine ⟨b, hb, ?_, by omega⟩
  unfold kmay adjM at *
  rw [fb]
  rw [mayM_in hfa (by omega) (by omega), near_comm] at hba
  simpa using hba

end Go.Proofs.YtcfcfohipbjbfaaDoor
