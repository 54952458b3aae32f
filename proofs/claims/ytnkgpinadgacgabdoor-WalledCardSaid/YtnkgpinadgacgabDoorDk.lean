/- The program's step and the document's are one; so what is told is one. -/
import Derived.Test.YtnkgpinadgacgabDoorDh
import Derived.Test.YtnkgpinadgacgabDoorDa
namespace Go.Proofs.YtnkgpinadgacgabDoor
open Go.RowKit M
/-- The cells to which a cart may go from cell c, as the document lists them. -/
def mayN (co : Int) (cs : ByteArray) (c : Nat) : List Nat := (List.range cs.size).filter fun z => mayM co cs c z

/-- To which positions one may go, as the document lists them. -/
def stepR (co : Int) (cs : ByteArray) (m : Nat) (p q : List Nat) : Prop := q ∈ growL (mayN co cs) p m

theorem mayN_mem {co : Int} {cs : ByteArray} {c z : Nat} : z ∈ mayN co cs c ↔ z < cs.size ∧ mayM co cs c z = true := by
  unfold mayN
  rw [List.mem_filter, List.mem_range]

theorem mvN_mem {ro co : Int} {cs : ByteArray} {c z : Nat} (h1 : 1 ≤ co) (h2 : co ≤ 6) (hsz : (cs.size : Int) = ro * co) (hc : c < cs.size) (hf : freeB cs c = true) : z ∈ mvN ro co cs c ↔ z ∈ mayN co cs c := by
  rw [mayN_mem]
  unfold mayM
  constructor
  · intro h
    obtain ⟨r, hr, e⟩ := List.mem_iff_getElem.1 h
    obtain ⟨e1, e2, e3⟩ := mvN_at hf hr
    have hr2 : r < (mvL ro co cs c).length := by rw [← mvN_len]; exact hr
    have hz := List.getElem_mem hr2
    have e4 : (mvL ro co cs c)[r] = ((mvN ro co cs c)[r] : Nat) := by
      unfold ints at e1
      rw [List.getElem?_map, List.getElem?_eq_getElem hr2] at e1
      simpa using e1
    rw [e4] at hz
    rw [e] at e2 e3 hz
    refine ⟨e2, ?_⟩
    rw [e3, mvL_near h1 h2 hz]
    simp; omega
  · rintro ⟨hz, h⟩
    simp only [Bool.and_eq_true, decide_eq_true_eq] at h
    have hm := mvL_all (ro := ro) h1 h2 hsz (by omega) (by omega) h.1 h.2.2.2
    unfold mvN
    rw [List.mem_map]
    exact ⟨(z : Int), hm, by simp⟩

theorem step_iff {ro co : Int} {cs : ByteArray} {m : Nat} {p q : List Nat} (h1 : 1 ≤ co) (h2 : co ≤ 6) (hsz : (cs.size : Int) = ro * co) (hp : Good cs m p) : stepP ro co cs m p q ↔ stepR co cs m p q := by
  unfold stepP stepR
  rw [growL_mem, growL_mem]
  constructor
  · rintro ⟨hl, h⟩
    exact ⟨hl, fun k hk => ⟨(mvN_mem h1 h2 hsz (hp.2 k hk).1 (hp.2 k hk).2).1 (h k hk).1, (h k hk).2⟩⟩
  · rintro ⟨hl, h⟩
    exact ⟨hl, fun k hk => ⟨(mvN_mem h1 h2 hsz (hp.2 k hk).1 (hp.2 k hk).2).2 (h k hk).1, (h k hk).2⟩⟩

end Go.Proofs.YtnkgpinadgacgabDoor
