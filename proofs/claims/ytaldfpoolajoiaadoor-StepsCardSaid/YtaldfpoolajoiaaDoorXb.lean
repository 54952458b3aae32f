/- Walk of may, and of walls: the cells of a raw yard. -/
import Derived.Test.YtaldfpoolajoiaaDoorXa
import Derived.Laws.CopyRow
namespace Go.Proofs.YtaldfpoolajoiaaDoor
open Go.RowKit M

/-- May a cart go from a to b, as the statements without the document's answer have it? -/
def kmay (co : Int) (cs : ByteArray) (a b : Int) : Bool := freeB cs b && nearM co a b

theorem kmay_same {co a b : Int} {cs : ByteArray} (hf : freeB cs b = true) (h1 : 1 ≤ co) (h2 : co ≤ 6) (e : a / co = b / co) : kmay co cs a b = (decide (a - b ≤ 1) && decide (b - a ≤ 1)) := by
  unfold kmay
  rw [hf, Bool.true_and, Bool.eq_iff_iff, near_iff]
  simp only [Bool.and_eq_true, decide_eq_true_eq]
  have hc : co = 1 ∨ co = 2 ∨ co = 3 ∨ co = 4 ∨ co = 5 ∨ co = 6 := by omega
  rcases hc with hc | hc | hc | hc | hc | hc <;> subst hc <;> omega

theorem kmay_other {co a b : Int} {cs : ByteArray} (hf : freeB cs b = true) (h1 : 1 ≤ co) (h2 : co ≤ 6) (e : a / co ≠ b / co) : kmay co cs a b = (a == b + co || b == a + co) := by
  unfold kmay
  rw [hf, Bool.true_and, Bool.eq_iff_iff, near_iff]
  simp only [Bool.or_eq_true, beq_iff_eq]
  have hc : co = 1 ∨ co = 2 ∨ co = 3 ∨ co = 4 ∨ co = 5 ∨ co = 6 := by omega
  rcases hc with hc | hc | hc | hc | hc | hc <;> subst hc <;> omega

set_option maxRecDepth 100000 in
set_option maxHeartbeats 1000000 in
theorem kmay_any (ro co bu : Int) (a b : Nat) (cs : ByteArray) (ca : Value) (w : World) (hs : cs.size ≤ 36) (h1 : 1 ≤ co) (h2 : co ≤ 6) (ha : a < cs.size) (hb : b < cs.size) :
    Calls Tryd.prog 29 #[.agg #[.int .i64 ro, .int .i64 co, .string cs, ca, .int .i64 bu], .int .i64 a, .int .i64 b] w fun e w' => e = .returned (.bool (kmay co cs a b)) ∧ Below w.heap.size w w' := by
  obtain ⟨p1, p2, p3, p4⟩ := divmod_bd (a := (a : Int)) (by omega) (by omega) h1 h2
  obtain ⟨q1, q2, q3, q4⟩ := divmod_bd (a := (b : Int)) (by omega) (by omega) h1 h2
  have hco : (co == 0) = false := by simp; omega
  have hin := freeB_in (cs := cs) (c := (b : Int)) (by omega) (by omega)
  simp only [Int.toNat_natCast] at hin
  by_cases hf : freeB cs b = true
  · have hbb : ((cs[b].toNat : Int) != 46) = false := by rw [hin] at hf; simpa using hf
    have HF := Hid.mk hf
    clear hin hf
    by_cases e : (a : Int) / co = (b : Int) / co
    · have eb : ((a : Int) / co == (b : Int) / co) = true := by simpa using e
      have HK := Hid.mk (kmay_same (co := co) HF.out h1 h2 e)
      clear e
      by_cases f1 : (a : Int) - b ≤ 1
      · go_enter Tryd.func29, Tryd.ntmps29
        go_wp2
        go_quiet (fail)
        go_wp2
        go_ret
        exact ⟨ret_bool (by rw [HK.out]; simp; omega), below_drewN ((Below.refl _ _).alloc (Nat.le_refl _) _) _⟩
      · have f1' : decide ((a : Int) - b ≤ 1) = false := by simp; omega
        go_enter Tryd.func29, Tryd.ntmps29
        go_wp2
        go_quiet (fail)
        go_wp2
        go_ret
        exact ⟨ret_bool (by rw [HK.out]; simp; omega), below_drewN ((Below.refl _ _).alloc (Nat.le_refl _) _) _⟩
    · have eb : ((a : Int) / co == (b : Int) / co) = false := by simpa using e
      have HK := Hid.mk (kmay_other (co := co) HF.out h1 h2 e)
      clear e
      by_cases f1 : (a : Int) = b + co
      · have f1' : ((a : Int) == (b : Int) + co) = true := by simpa using f1
        clear f1
        go_enter Tryd.func29, Tryd.ntmps29
        go_wp2
        go_quiet (fail)
        go_wp2
        go_ret
        exact ⟨ret_bool (by rw [HK.out, f1']; simp), below_drewN ((Below.refl _ _).alloc (Nat.le_refl _) _) _⟩
      · have f1' : ((a : Int) == (b : Int) + co) = false := by simpa using f1
        clear f1
        go_enter Tryd.func29, Tryd.ntmps29
        go_wp2
        go_quiet (fail)
        go_wp2
        go_ret
        exact ⟨ret_bool (by rw [HK.out, f1']; simp), below_drewN ((Below.refl _ _).alloc (Nat.le_refl _) _) _⟩
  · have hbb : ((cs[b].toNat : Int) != 46) = true := by rw [hin] at hf; simpa using hf
    have HK := Hid.mk (show kmay co cs a b = false by unfold kmay; rw [show freeB cs b = false by simpa using hf]; rfl)
    clear hin hf
    go_enter Tryd.func29, Tryd.ntmps29
    go_wp2
    go_ret
    exact ⟨ret_bool HK.out.symm, (Below.refl _ _).alloc (Nat.le_refl _) _⟩

end Go.Proofs.YtaldfpoolajoiaaDoor
