/- Walk of the program's loneFault: what is wrong with what the calls for one cart are given. -/
import Derived.Test.YtaldfpoolajoiaaDoorSa
namespace Go.Proofs.YtaldfpoolajoiaaDoor
open Go.RowKit M

def loneE (ro co bu : Int) (cs : ByteArray) (m : Nat) (fr to : Nat → Int) (k : Int) (n : Nat) (R : Nat → RuleM) (cost : Int) : Int :=
  if (checkM ro co cs m fr to bu).1 = 0 then (if 0 ≤ k ∧ k < m ∧ 0 ≤ cost ∧ cost ≤ 60 then (if rulesB cs.size n R = true then 0 else 8) else 7) else (checkM ro co cs m fr to bu).1

theorem loneE_given {ro co bu : Int} {cs : ByteArray} {m : Nat} {fr to : Nat → Int} {k : Int} {n : Nat} {R : Nat → RuleM} {cost : Int} (h0 : 0 ≤ cost) (h1 : cost ≤ 60) : loneE ro co bu cs m fr to k n R cost = givenE ro co bu cs m fr to k n R := by
  unfold loneE givenE
  have e : (0 ≤ k ∧ k < (m : Int) ∧ 0 ≤ cost ∧ cost ≤ 60) = (0 ≤ k ∧ k < (m : Int)) := propext ⟨fun h => ⟨h.1, h.2.1⟩, fun h => ⟨h.1, h.2, h0, h1⟩⟩
  simp only [e]

set_option maxHeartbeats 1000000 in
theorem loneFault_any (ro co bu : Int) (cs : ByteArray) (a : Option Addr) (m cap : Nat) (fr to : Nat → Int) (k cost : Int) (ar : Option Addr) (n capr : Nat) (R : Nat → RuleM) (w : World) (hs : cs.size ≤ maxLen) (hm : m ≤ maxLen) (hcap : m ≤ cap) (hn : n ≤ maxLen)
    (ha : 0 < m → ∃ b off, a = some ⟨b, off, none⟩ ∧ CartsIn w b off m fr to) (har : RulesAt w ar n R) :
    Calls Tryd.prog 46 #[.agg #[.int .i64 ro, .int .i64 co, .string cs, .slice a m cap, .int .i64 bu], .int .i64 k, .slice ar n capr, .int .i64 cost] w fun e w' =>
      e = .returned (.int .i64 (loneE ro co bu cs m fr to k n R cost)) ∧ Below w.heap.size w w' := by
  have HA := Hid.mk har
  have HC := Hid.mk ha
  have hmm := hm
  clear har ha
  unfold maxLen at hm
  have HB0 : Hid (Below w.heap.size w (w.alloc (Obj.cells #[Value.int IntKind.i64 ro, Value.int IntKind.i64 co, Value.string cs, .slice a m cap, Value.int IntKind.i64 bu] 24))) := (Below.refl _ w).alloc (Nat.le_refl _) _
  go_enter Tryd.func46, Tryd.ntmps46
  go_wp2_with fail
  have y0 : ∀ o, (w.alloc (Obj.cells #[Value.int IntKind.i64 ro, Value.int IntKind.i64 co, Value.string cs, .slice a m cap, Value.int IntKind.i64 bu] 24)).cell? ⟨w.heap.size, o, none⟩ = #[Value.int .i64 ro, .int .i64 co, .string cs, .slice a m cap, .int .i64 bu][o]? := by
    intro o; go_simp
  have hz0 : w.heap.size < (w.alloc (Obj.cells #[Value.int IntKind.i64 ro, Value.int IntKind.i64 co, Value.string cs, .slice a m cap, Value.int IntKind.i64 bu] 24)).heap.size := by simp
  generalize w.alloc (Obj.cells #[Value.int IntKind.i64 ro, Value.int IntKind.i64 co, Value.string cs, .slice a m cap, Value.int IntKind.i64 bu] 24) = w1 at *
  refine (fault_any _ _ _ _ _ _ _ fr to _ hs hmm hcap (by exact opt_below HC.out HB0.out)).mono ?_
  rintro e w2 ⟨rfl, hb2⟩
  have HB2 : Hid (Below w.heap.size w w2) := HB0.out.trans (hb2.mono (by omega))
  have y2 : ∀ o, w2.cell? ⟨w.heap.size, o, none⟩ = #[Value.int .i64 ro, .int .i64 co, .string cs, .slice a m cap, .int .i64 bu][o]? := fun o => (hb2.cell (p := ⟨w.heap.size, o, none⟩) hz0).trans (y0 o)
  have hz2 : w.heap.size < w2.heap.size := by have := hb2.size; omega
  clear y0 hb2
  by_cases hck : (checkM ro co cs m fr to bu).1 = 0
  · have hck' : ((checkM ro co cs m fr to bu).1 != 0) = false := by rw [hck]; rfl
    have HCK := Hid.mk hck
    clear hck
    by_cases k1 : k < 0
    · go_wp2
      go_ret
      exact ⟨ret_int (by unfold loneE; rw [if_pos HCK.out, if_neg (by omega)]), HB2.out⟩
    · by_cases k2 : (m : Int) ≤ k
      · go_wp2
        go_ret
        exact ⟨ret_int (by unfold loneE; rw [if_pos HCK.out, if_neg (by omega)]), HB2.out⟩
      · by_cases k3 : cost < 0
        · go_wp2
          go_ret
          exact ⟨ret_int (by unfold loneE; rw [if_pos HCK.out, if_neg (by omega)]), HB2.out⟩
        · by_cases k4 : 60 < cost
          · go_wp2
            go_ret
            exact ⟨ret_int (by unfold loneE; rw [if_pos HCK.out, if_neg (by omega)]), HB2.out⟩
          · go_wp2_with fail
            refine (good_any _ _ _ _ _ _ _ _ R _ hn (HA.out.below (by exact HB2.out))).mono ?_
            rintro e w3 ⟨rfl, hb3⟩
            have HB3 : Hid (Below w.heap.size w w3) := HB2.out.trans (hb3.mono (by omega))
            clear hb3
            obtain ⟨g, hg⟩ : ∃ g, g = rulesB cs.size n R := ⟨_, rfl⟩
            rw [← hg]
            have HG := Hid.mk hg
            clear hg
            cases g
            · go_wp2
              go_ret
              exact ⟨ret_int (by unfold loneE; rw [if_pos HCK.out, if_pos (by omega), ← HG.out]; rfl), HB3.out⟩
            · go_wp2
              go_ret
              exact ⟨ret_int (by unfold loneE; rw [if_pos HCK.out, if_pos (by omega), ← HG.out]; rfl), HB3.out⟩
  · have hck' : ((checkM ro co cs m fr to bu).1 != 0) = true := by simpa using hck
    have HCK := Hid.mk hck
    clear hck
    go_wp2
    go_ret
    exact ⟨ret_int (by unfold loneE; rw [if_neg HCK.out]), HB2.out⟩

end Go.Proofs.YtaldfpoolajoiaaDoor
