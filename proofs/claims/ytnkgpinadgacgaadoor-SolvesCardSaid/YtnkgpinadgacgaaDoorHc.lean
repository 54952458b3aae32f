/- Plain facts: what the document's search keeps, as numbers: a position's number and which carts have come to stay, bit by bit. -/
import Derived.Test.YtnkgpinadgacgaaDoorQt
import Derived.Test.YtnkgpinadgacgaaDoorHb
import Derived.Test.YtnkgpinadgacgaaDoorQp
namespace Go.Proofs.YtnkgpinadgacgaaDoor
open M SM BM
/-- Which carts have come to stay, as a number: bit i is cart i. -/
def maskU : List Bool → Nat
  | [] => 0
  | b :: u => (if b then 1 else 0) + 2 * maskU u

theorem maskU_lt : ∀ u : List Bool, maskU u < 2 ^ u.length
  | [] => by decide
  | b :: u => by
    have h := maskU_lt u
    simp only [maskU, List.length_cons, Nat.pow_succ]
    cases b <;> simp <;> omega

theorem maskU_inj : ∀ {u v : List Bool}, u.length = v.length → maskU u = maskU v → u = v
  | [], [], _, _ => rfl
  | [], _ :: _, h, _ => by simp at h
  | _ :: _, [], h, _ => by simp at h
  | b :: u, c :: v, h, e => by
    simp only [List.length_cons, Nat.add_right_cancel_iff] at h
    simp only [maskU] at e
    have e2 : b = c ∧ maskU u = maskU v := by
      cases b <;> cases c <;> simp at e ⊢ <;> omega
    rw [e2.1, maskU_inj h e2.2]

theorem maskU_all : ∀ {u : List Bool}, maskU u = 2 ^ u.length - 1 ↔ u = List.replicate u.length true
  | [] => by simp [maskU]
  | b :: u => by
    have h := maskU_lt u
    have ih := maskU_all (u := u)
    simp only [maskU, List.length_cons, Nat.pow_succ, List.replicate_succ, List.cons.injEq]
    rw [← ih]
    have h0 : 0 < 2 ^ u.length := Nat.pow_pos (by decide)
    cases b <;> simp <;> omega

theorem maskU_set : ∀ {u : List Bool} {i : Nat}, i < u.length → u.getD i false = false → maskU (u.set i true) = maskU u + 2 ^ i
  | [], i, h, _ => by simp at h
  | b :: u, 0, _, h => by
    have h : b = false := h
    subst h
    simp [maskU]; omega
  | b :: u, i + 1, h, h2 => by
    have h3 := maskU_set (u := u) (i := i) (by simpa using h) (by simpa using h2)
    simp only [List.set_cons_succ, maskU, h3, Nat.pow_succ]
    omega

theorem maskU_bit : ∀ {u : List Bool} {i : Nat}, i < u.length → maskU u / 2 ^ i % 2 = if u.getD i false then 1 else 0
  | [], i, h => by simp at h
  | b :: u, 0, _ => by
    simp only [maskU, Nat.pow_zero, Nat.div_one]
    cases b <;> simp <;> omega
  | b :: u, i + 1, h => by
    have h3 := maskU_bit (u := u) (i := i) (by simpa using h)
    have e : maskU (b :: u) / 2 ^ (i + 1) = maskU u / 2 ^ i := by
      rw [Nat.pow_succ, Nat.mul_comm, ← Nat.div_div_eq_div_mul]
      congr 1
      simp only [maskU]
      cases b <;> simp <;> omega
    rw [e, h3]
    rfl

/-- A state of the document's search as a number. -/
def encS (cs : ByteArray) (m : Nat) (a : St) : Nat := numOf (frB cs) cs.size a.1 * 2 ^ m + maskU a.2

/-- The states there are. -/
def GoodS (cs : ByteArray) (m : Nat) (a : St) : Prop := Good cs m a.1 ∧ a.2.length = m

section
variable {co : Int} {cs : ByteArray} {m : Nat} {tt : List Nat}
theorem enc_mod {a : St} (h : a.2.length = m) : encS cs m a % 2 ^ m = maskU a.2 ∧ encS cs m a / 2 ^ m = numOf (frB cs) cs.size a.1 := by
  have h1 := maskU_lt a.2
  rw [h] at h1
  unfold encS
  have h0 : 0 < 2 ^ m := Nat.pow_pos (by decide)
  refine ⟨?_, ?_⟩
  · rw [Nat.add_comm, Nat.add_mul_mod_self_right, Nat.mod_eq_of_lt h1]
  · rw [Nat.add_comm, Nat.add_mul_div_right _ _ h0, Nat.div_eq_of_lt h1, Nat.zero_add]

theorem enc_inj {a b : St} (ha : GoodS cs m a) (hb : GoodS cs m b) (h : encS cs m a = encS cs m b) : a = b := by
  obtain ⟨h1, h2⟩ := enc_mod (cs := cs) ha.2
  obtain ⟨h3, h4⟩ := enc_mod (cs := cs) hb.2
  rw [h] at h1 h2
  have e1 : a.1 = b.1 := numOf_inj (ha.1.1.trans hb.1.1.symm) (good_mem ha.1) (good_mem hb.1) (h2.symm.trans h4)
  have e2 : a.2 = b.2 := maskU_inj (ha.2.trans hb.2.symm) (h1.symm.trans h3)
  exact Prod.ext e1 e2

theorem enc_lt {a : St} (ha : GoodS cs m a) : encS cs m a < (frees (frB cs) cs.size).length ^ m * 2 ^ m := by
  have h1 := maskU_lt a.2
  rw [ha.2] at h1
  have h2 := good_lt ha.1
  unfold encS
  have h3 : (numOf (frB cs) cs.size a.1 + 1) * 2 ^ m ≤ (frees (frB cs) cs.size).length ^ m * 2 ^ m := Nat.mul_le_mul h2 (Nat.le_refl _)
  rw [Nat.add_mul, Nat.one_mul] at h3
  omega

/-- A step of the document's search, as numbers. -/
def RN (co : Int) (cs : ByteArray) (m : Nat) (tt : List Nat) (x y d : Nat) : Prop := ∃ a b, GoodS cs m a ∧ x = encS cs m a ∧ y = encS cs m b ∧ RS (fun p => growL (mayN co cs) p m) m tt a b d

theorem rs_good {a b : St} {d : Nat} (ha : GoodS cs m a) (h : RS (fun p => growL (mayN co cs) p m) m tt a b d) : GoodS cs m b := by
  rcases h with ⟨h1, h2, _, _⟩ | ⟨h1, _, i, _, _, _, h3⟩
  · exact ⟨good_step (co := co) h2, by rw [h1]; exact ha.2⟩
  · exact ⟨by rw [h1]; exact ha.1, by rw [h3, List.length_set]; exact ha.2⟩

theorem wayN_of : ∀ {n : Nat} {a z : St} {K : Nat}, GoodS cs m a → BM.Way (RS (fun p => growL (mayN co cs) p m) m tt) n a z K → GoodS cs m z ∧ BM.Way (RN co cs m tt) n (encS cs m a) (encS cs m z) K
  | 0, a, z, K, ha, W => by
    obtain ⟨e1, e2⟩ := W
    subst e1 e2
    exact ⟨ha, rfl, rfl⟩
  | n + 1, a, z, K, ha, W => by
    obtain ⟨c, k1, d, W1, h, e⟩ := W
    obtain ⟨h1, h2⟩ := wayN_of ha W1
    exact ⟨rs_good h1 h, encS cs m c, k1, d, h2, ⟨c, z, h1, rfl, rfl, h⟩, e⟩

theorem wayN_to : ∀ {n : Nat} {a : St} {y K : Nat}, GoodS cs m a → BM.Way (RN co cs m tt) n (encS cs m a) y K → ∃ z, GoodS cs m z ∧ y = encS cs m z ∧ BM.Way (RS (fun p => growL (mayN co cs) p m) m tt) n a z K
  | 0, a, y, K, ha, W => by
    obtain ⟨e1, e2⟩ := W
    exact ⟨a, ha, e1.symm, rfl, e2⟩
  | n + 1, a, y, K, ha, W => by
    obtain ⟨c, k1, d, W1, ⟨a1, b, h1, h2, h3, h4⟩, e⟩ := W
    obtain ⟨z, g1, g2, g3⟩ := wayN_to ha W1
    have e1 : z = a1 := enc_inj g1 h1 (g2.symm.trans h2)
    subst e1
    exact ⟨b, rs_good h1 h4, h3, z, k1, d, g3, h4, e⟩

/-- What is come to by one step, as numbers. -/
def fromL (co : Int) (cs : ByteArray) (m : Nat) (a : St) : List Nat := (growX (mayX co cs (fun i => a.2.getD i false) a.1) a.1 m).map fun q => encS cs m (q, a.2)

/-- What is come to where one more cart comes to stay, as numbers: the first k carts. -/
def stayL (cs : ByteArray) (m : Nat) (tt : List Nat) (a : St) (k : Nat) : List Nat := ((List.range k).filter fun i => !a.2.getD i false && a.1.getD i 0 == tt.getD i 0).map fun i => encS cs m a + 2 ^ i

theorem rn_iff {a : St} (ha : GoodS cs m a) (y d : Nat) : RN co cs m tt (encS cs m a) y d ↔ (d = m - cntU a.2 ∧ y ∈ fromL co cs m a) ∨ (d = 0 ∧ y ∈ stayL cs m tt a m) := by
  constructor
  · rintro ⟨a1, b, h1, h2, rfl, h4⟩
    have e := enc_inj ha h1 h2
    subst e
    rcases h4 with ⟨g1, g2, g3, g4⟩ | ⟨g1, g2, i, g3, g4, g5, g6⟩
    · refine .inl ⟨g4, List.mem_map.2 ⟨b.1, growX_is.2 ⟨g2, g3⟩, by rw [← g1]⟩⟩
    · refine .inr ⟨g2, List.mem_map.2 ⟨i, List.mem_filter.2 ⟨List.mem_range.2 g3, by rw [g4, g5]; simp⟩, ?_⟩⟩
      show encS cs m a + 2 ^ i = encS cs m b
      unfold encS
      rw [g1, g6, maskU_set (by rw [ha.2]; exact g3) g4, Nat.add_assoc]
  · rintro (⟨rfl, h⟩ | ⟨rfl, h⟩)
    · obtain ⟨q, hq, rfl⟩ := List.mem_map.1 h
      obtain ⟨h1, h2⟩ := growX_is.1 hq
      exact ⟨a, (q, a.2), ha, rfl, rfl, .inl ⟨rfl, h1, h2, rfl⟩⟩
    · obtain ⟨i, hi, rfl⟩ := List.mem_map.1 h
      obtain ⟨h1, h2⟩ := List.mem_filter.1 hi
      have h1 := List.mem_range.1 h1
      simp only [Bool.and_eq_true, Bool.not_eq_true', beq_iff_eq] at h2
      refine ⟨a, (a.1, a.2.set i true), ha, rfl, ?_, .inr ⟨rfl, rfl, i, h1, h2.1, h2.2, rfl⟩⟩
      unfold encS
      rw [maskU_set (by rw [ha.2]; exact h1) h2.1, Nat.add_assoc]

theorem fromL_good {a : St} (ha : GoodS cs m a) {y : Nat} (h : y ∈ fromL co cs m a) : ∃ b, GoodS cs m b ∧ y = encS cs m b := by
  obtain ⟨q, hq, rfl⟩ := List.mem_map.1 h
  exact ⟨(q, a.2), ⟨good_step (co := co) (growX_is.1 hq).1, ha.2⟩, rfl⟩

theorem stayL_good {a : St} (ha : GoodS cs m a) {y : Nat} (h : y ∈ stayL cs m tt a m) : ∃ b, GoodS cs m b ∧ y = encS cs m b := by
  obtain ⟨a1, b, h1, h2, h3, h4⟩ := (rn_iff (co := (1 : Int)) ha y 0).2 (.inr ⟨rfl, h⟩)
  exact ⟨b, rs_good h1 h4, h3⟩

theorem stayL_le (a : St) (k : Nat) : (stayL cs m tt a k).length ≤ k := by
  unfold stayL
  rw [List.length_map]
  exact Nat.le_trans (List.length_filter_le _ _) (by simp)

theorem stayL_next (a : St) (k : Nat) : stayL cs m tt a (k + 1) = stayL cs m tt a k ++ (if (!a.2.getD k false && a.1.getD k 0 == tt.getD k 0) = true then [encS cs m a + 2 ^ k] else []) := by
  unfold stayL
  rw [List.range_succ, List.filter_append, List.map_append]
  congr 1
  by_cases h : (!a.2.getD k false && a.1.getD k 0 == tt.getD k 0) = true
  · rw [if_pos h, List.filter_cons, List.filter_nil]
    simp only [h, if_pos, List.map_cons, List.map_nil]
  · rw [if_neg h, List.filter_cons, List.filter_nil]
    simp only [h]; rfl

end
end Go.Proofs.YtnkgpinadgacgaaDoor
