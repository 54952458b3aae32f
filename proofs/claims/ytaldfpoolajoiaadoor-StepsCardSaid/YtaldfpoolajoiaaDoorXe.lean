/- Walk of Steps, where shaped gives a good yard: the law answers true. -/
import Derived.Test.YtaldfpoolajoiaaDoorXb
import Derived.Test.YtaldfpoolajoiaaDoorXg
namespace Go.Proofs.YtaldfpoolajoiaaDoor
open Go.RowKit M

/-- What shaped gives. -/
def Shapes : Prop := ∀ (rr rc rb : Int) (s : ByteArray) (a : Option Addr) (n cap : Nat) (x : Nat → Int) (w : World), s.size ≤ maxLen → n ≤ 17592186044415 →
    (Lit.int .i64 rr).wf = true → (Lit.int .i64 rc).wf = true → (Lit.int .i64 rb).wf = true →
    ((∀ i, i < n → (Lit.int .i64 (x i)).wf = true) ∧ (0 < n → ∃ b off, a = some ⟨b, off, none⟩ ∧ ∀ i, i < n → w.cell? ⟨b, off + i, none⟩ = some (.int .i64 (x i)))) →
    Calls Tryd.prog 25 #[.agg #[.int .i64 rr, .int .i64 rc, .string s, .slice a n cap, .int .i64 rb]] w fun e w' =>
      ∃ (R C U m cc g : Nat) (cs : ByteArray) (fr to : Nat → Int), e = .returned (.agg #[.int .i64 (R : Int), .int .i64 (C : Int), .string cs, .slice (some ⟨g, 0, none⟩) m cc, .int .i64 (U : Int)]) ∧
        1 ≤ m ∧ m ≤ 4 ∧ m ≤ cc ∧ CartsIn w' g 0 m fr to ∧ checkM R C cs m fr to U = (0, 0) ∧ freeB cs 0 = true ∧ cs.size ≤ 36 ∧ Below w.heap.size w w'

/-- Between two neighbours: both are told or neither, and the distance differs by one at the most. -/
theorem far_step {co : Int} {cs : ByteArray} {c : Nat} {d : Nat → Int} (h : IsFar cs.size (adjM co cs) c d) {a b : Nat} (ha : a < cs.size) (hb : b < cs.size) (hfa : freeB cs a = true) (hk : kmay co cs a b = true) :
    (decide (d b < 0) = decide (d a < 0)) ∧ d b ≤ d a + 1 := by
  unfold kmay at hk
  simp only [Bool.and_eq_true] at hk
  have ab : adjM co cs a b = true := by unfold adjM; rw [mayM_in hk.1 (by omega) (by omega)]; exact hk.2
  have ba : adjM co cs b a = true := by unfold adjM; rw [mayM_in hfa (by omega) (by omega), near_comm]; exact hk.2
  have la := h.low a ha
  have lb := h.low b hb
  by_cases e : 0 ≤ d a
  · obtain ⟨g1, g2⟩ := h.next b a hb ha ab e
    exact ⟨by simp; omega, g2⟩
  · by_cases e' : 0 ≤ d b
    · obtain ⟨g1, g2⟩ := h.next a b ha hb ba e'; omega
    · exact ⟨by simp; omega, by omega⟩

/-- What is farther than 0 has a neighbour that is nearer by one. -/
theorem far_near {co : Int} {cs : ByteArray} {c : Nat} {d : Nat → Int} (h : IsFar cs.size (adjM co cs) c d) (hc : freeB cs c = true) {a : Nat} (ha : a < cs.size) (hfa : freeB cs a = true) (h1 : 1 ≤ d a) : ∃ b, b < cs.size ∧ kmay co cs a b = true ∧ d b = d a - 1 := by
  obtain ⟨k, hk⟩ : ∃ k : Nat, d a = (k : Int) + 1 := by
    obtain ⟨k, hk⟩ := Int.eq_ofNat_of_zero_le (show 0 ≤ d a - 1 by omega)
    exact ⟨k, by omega⟩
  obtain ⟨b, hb, hba, hdb⟩ := h.pred a ha k hk
  have fb := far_free h hc hb (by omega)
  refine ⟨b, hb, ?_, by omega⟩
  unfold kmay adjM at *
  rw [fb]
  rw [mayM_in hfa (by omega) (by omega), near_comm] at hba
  simpa using hba

end Go.Proofs.YtaldfpoolajoiaaDoor
