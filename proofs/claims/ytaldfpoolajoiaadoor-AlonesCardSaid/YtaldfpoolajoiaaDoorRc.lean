/- Rules in memory; walks of the document's on, goes, stays. -/
import Derived.Test.YtaldfpoolajoiaaDoorRa
import Derived.Test.YtaldfpoolajoiaaDoorWi
namespace Go.Proofs.YtaldfpoolajoiaaDoor
open Go.RowKit M

/-- The rules of a list lie in memory. -/
def RulesIn (w : World) (b off n : Nat) (R : Nat → RuleM) : Prop :=
  ∀ i, i < n → w.cell? ⟨b, off + i * 4, none⟩ = some (.int .i64 (R i).kind) ∧ w.cell? ⟨b, off + i * 4 + 1, none⟩ = some (.int .i64 (R i).cell) ∧
    w.cell? ⟨b, off + i * 4 + 2, none⟩ = some (.int .i64 (R i).next) ∧ w.cell? ⟨b, off + i * 4 + 3, none⟩ = some (.int .i64 (R i).at')

def RulesAt (w : World) (a : Option Addr) (n : Nat) (R : Nat → RuleM) : Prop := 0 < n → ∃ b off, a = some ⟨b, off, none⟩ ∧ RulesIn w b off n R

theorem RulesAt.below {w w' : World} {a : Option Addr} {n : Nat} {R : Nat → RuleM} (h : RulesAt w a n R) (hb : Below w.heap.size w w') : RulesAt w' a n R := fun h0 => by
  obtain ⟨b, off, ha, hr⟩ := h h0
  refine ⟨b, off, ha, fun i hi => ?_⟩
  obtain ⟨h1, h2, h3, h4⟩ := hr i hi
  exact ⟨cell_later hb h1, cell_later hb h2, cell_later hb h3, cell_later hb h4⟩

theorem on_hit {n : Nat} {R : Nat → RuleM} {c t : Int} {k : Nat} (hk : k < n) (h : brkOn (R k) c t = true) : onM n R c t = false := by
  unfold onM; rw [anyB_of h hk]; rfl

theorem on_miss {n : Nat} {R : Nat → RuleM} {c t : Int} (h : ∀ j, j < n → brkOn (R j) c t = false) : onM n R c t = true := by
  unfold onM; rw [anyB_false.2 h]; rfl

theorem upto_step {p : Nat → Bool} {k : Nat} (hb : p k = false) (hg : ∀ j, j < k → p j = false) : ∀ j, j < k + 1 → p j = false := by
  intro j hj
  by_cases e : j = k
  · subst e; exact hb
  · exact hg j (by omega)

set_option maxHeartbeats 1000000 in
theorem on_any (a : Option Addr) (n cap : Nat) (R : Nat → RuleM) (c t : Int) (w : World) (hn : n ≤ maxLen) (ha : RulesAt w a n R) :
    Calls Tryd.prog 52 #[.slice a n cap, .int .i64 c, .int .i64 t] w fun e w' => e = .returned (.bool (onM n R c t)) ∧ Below w.heap.size w w' := by
  have HA := Hid.mk ha
  clear ha
  unfold maxLen at hn
  go_enter Tryd.func52, Tryd.ntmps52
  go_wp2
  go_loopw [7] (fun s wr => ∃ k : Nat, k ≤ n ∧ s = .int .i64 k ∧ (∀ j, j < k → brkOn (R j) c t = false) ∧ Below w.heap.size w wr) (fun s _ => n - (intOf s).toNat)
  case atStart => exact ⟨0, Nat.zero_le _, rfl, fun j hj => absurd hj (Nat.not_lt_zero j), Below.refl _ _⟩
  case round =>
    obtain ⟨k, hk, rfl, hg0, hbr⟩ := hrel
    have hg := Hid.mk hg0
    have HB := Hid.mk hbr
    clear hg0 hbr
    by_cases hlt : k < n
    · obtain ⟨b, off, rfl, hrs⟩ := HA.out (by omega)
      obtain ⟨c0, c1, c2, c3⟩ := hrs k hlt
      have c0 := cell_later HB.out c0
      have c1 := cell_later HB.out c1
      have c2 := cell_later HB.out c2
      have c3 := cell_later HB.out c3
      clear hrs
      obtain ⟨r, hr⟩ : ∃ r, r = R k := ⟨_, rfl⟩
      rw [← hr] at c0 c1 c2 c3
      obtain ⟨kd, ce, ne, ta⟩ := r
      have Hr := Hid.mk hr
      clear hr
      dsimp only at c0 c1 c2 c3
      have go : ∀ b, brkOn ⟨kd, ce, ne, ta⟩ c t = b → brkOn (R k) c t = b := fun b h => by rw [← Hr.out]; exact h
      have GO := Hid.mk go
      clear go
      have yes : brkOn ⟨kd, ce, ne, ta⟩ c t = true → onM n R c t = false := fun h => on_hit hlt (GO.out _ h)
      have YES := Hid.mk yes
      clear yes
      by_cases q1 : (ta == t) = true
      · by_cases q2 : (kd == 0) = true
        · by_cases q3 : (ce == c) = true
          · go_wp2
            go_ret
            exact ⟨ret_bool (YES.out (by unfold brkOn; simp [q1, q2, q3])).symm, HB.out.alloc (HB.out.size) _⟩
          · have q3' : (ce == c) = false := by simpa using q3
            have q4 : (kd == 2) = false := by simp at q2 ⊢; omega
            clear q3
            go_wp2
            go_roundw
            case rel => exact ⟨k + 1, by omega, by go_num, upto_step (p := fun j => brkOn (R j) c t) (GO.out _ (by unfold brkOn; simp [q3', q4])) hg.out, HB.out.alloc (HB.out.size) _⟩
            case measure => simp [intOf]; omega
        · have q2' : (kd == 0) = false := by simpa using q2
          clear q2
          by_cases q4 : (kd == 2) = true
          · by_cases q3 : (ce == c) = true
            · go_wp2
              go_roundw
              case rel => exact ⟨k + 1, by omega, by go_num, upto_step (p := fun j => brkOn (R j) c t) (GO.out _ (by unfold brkOn; simp [q2', q3])) hg.out, HB.out.alloc (HB.out.size) _⟩
              case measure => simp [intOf]; omega
            · have q3' : (ce == c) = false := by simpa using q3
              clear q3
              go_wp2
              go_ret
              exact ⟨ret_bool (YES.out (by unfold brkOn; simp [q1, q4, q3'])).symm, HB.out.alloc (HB.out.size) _⟩
          · have q4' : (kd == 2) = false := by simpa using q4
            clear q4
            go_wp2
            go_roundw
            case rel => exact ⟨k + 1, by omega, by go_num, upto_step (p := fun j => brkOn (R j) c t) (GO.out _ (by unfold brkOn; simp [q2', q4'])) hg.out, HB.out.alloc (HB.out.size) _⟩
            case measure => simp [intOf]; omega
      · have q1' : (ta == t) = false := by simpa using q1
        clear q1
        go_wp2
        go_roundw
        case rel => exact ⟨k + 1, by omega, by go_num, upto_step (p := fun j => brkOn (R j) c t) (GO.out _ (by unfold brkOn; simp [q1'])) hg.out, HB.out.alloc (HB.out.size) _⟩
        case measure => simp [intOf]; omega
    · have hd : k = n := by omega
      go_wp2
      go_ret
      subst hd
      exact ⟨ret_bool (on_miss hg.out).symm, HB.out⟩

end Go.Proofs.YtaldfpoolajoiaaDoor
