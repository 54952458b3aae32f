/- The program's layers and the document's are the same. -/
import Derived.Test.YtnkgpinadgacgaaDoorEn
namespace Go.Proofs.YtnkgpinadgacgaaDoor
open Go.RowKit M

section
variable {co : Int} {cs : ByteArray} {n : Nat} {R : Nat → RuleM} {f c T : Nat}

theorem ext_goes {a b t : Nat} : goesM co cs (n + 1) (extR n R c T) a b t = (goesM co cs n R a b t && !(a == c && b == c && t + 1 == T)) := by
  unfold goesM
  rw [ext_on, ext_ways]
  have e : (((a : Nat) : Int) == (c : Int) && ((b : Nat) : Int) == (c : Int) && ((t : Nat) : Int) == (T : Int) - 1) = (a == c && b == c && t + 1 == T) := by
    rw [Bool.eq_iff_iff]
    simp only [Bool.and_eq_true, beq_iff_eq]
    omega
  rw [e]
  cases adjM co cs a b <;> cases onM n R b (t + 1 : Nat) <;> cases noWayM n R a b t <;> cases (a == c && b == c && t + 1 == T) <;> rfl

theorem ext_reach : ∀ {t : Nat}, t < T → ∀ b, reachM co cs (n + 1) (extR n R c T) f t b = reachM co cs n R f t b
  | 0, _, b => by
    show (b == f && onM (n + 1) (extR n R c T) b 0) = (b == f && onM n R b 0)
    rw [ext_on]
  | t + 1, h, b => by
    show anyB _ cs.size = anyB _ cs.size
    refine anyB_congr fun a _ => ?_
    rw [ext_reach (by omega) a, ext_goes]
    have e : (t + 1 == T) = false := by simp; omega
    rw [e]
    simp

theorem ext_reach_le : ∀ {t b : Nat}, reachM co cs (n + 1) (extR n R c T) f t b = true → reachM co cs n R f t b = true
  | 0, b, h => by
    have h : (b == f && onM (n + 1) (extR n R c T) b 0) = true := h
    rw [ext_on] at h; exact h
  | t + 1, b, h => by
    have h : anyB (fun a => reachM co cs (n + 1) (extR n R c T) f t a && goesM co cs (n + 1) (extR n R c T) a b t) cs.size = true := h
    show anyB (fun a => reachM co cs n R f t a && goesM co cs n R a b t) cs.size = true
    rw [anyB_iff] at h ⊢
    obtain ⟨a, ha, h2⟩ := h
    rw [Bool.and_eq_true] at h2
    rw [ext_goes, Bool.and_eq_true] at h2
    exact ⟨a, ha, by rw [Bool.and_eq_true]; exact ⟨ext_reach_le h2.1, h2.2.1⟩⟩

/-- Where the program's search backwards is, j instants ahead of the end. -/
def kp (co : Int) (cs : ByteArray) (n : Nat) (R : Nat → RuleM) (f c T j : Nat) : Nat → Bool :=
  keepJ cs.size T c (fun t => reachM co cs (n + 1) (extR n R c T) f t) (fun a b t => goesM co cs (n + 1) (extR n R c T) a b t) j

theorem kp_zero {z : Nat} : kp co cs n R f c T 0 z = (reachM co cs (n + 1) (extR n R c T) f T z && z == c) := rfl
theorem kp_next {j z : Nat} : kp co cs n R f c T (j + 1) z = (reachM co cs (n + 1) (extR n R c T) f (T - (j + 1)) z && anyB (fun y => kp co cs n R f c T j y && goesM co cs (n + 1) (extR n R c T) z y (T - (j + 1))) cs.size) := rfl

theorem bk_next {j a : Nat} (hj : j < T) : bkM co cs n R c T (j + 1) a = anyB (fun b => bkM co cs n R c T j b && goesM co cs n R a b (T - (j + 1)) && !(decide (j = 0) && a == b)) cs.size := by
  show anyB (behP co cs n R (bkM co cs n R c T j) (((T - j : Nat) : Int) - 1) (decide (j = 0)) a) cs.size = _
  refine anyB_congr fun b _ => ?_
  unfold behP
  rw [show (((T - j : Nat) : Int) - 1) = ((T - (j + 1) : Nat) : Int) by omega, goesI_nat]

/-- Where the program is, the document is. -/
theorem kp_bk (hst : staysM co cs n R c T = true) : ∀ {j z : Nat}, j ≤ T → kp co cs n R f c T j z = true → bkM co cs n R c T j z = true ∧ reachM co cs n R f (T - j) z = true
  | 0, z, _, h => by
    rw [kp_zero, Bool.and_eq_true] at h
    refine ⟨?_, ext_reach_le h.1⟩
    show (z == c && staysM co cs n R c T) = true
    rw [hst, h.2]; rfl
  | j + 1, z, hj, h => by
    rw [kp_next, Bool.and_eq_true] at h
    refine ⟨?_, ext_reach_le h.1⟩
    rw [bk_next (by omega), anyB_iff]
    have h2 := h.2
    rw [anyB_iff] at h2
    obtain ⟨y, hy, h3⟩ := h2
    rw [Bool.and_eq_true, ext_goes, Bool.and_eq_true] at h3
    obtain ⟨h4, h5, h6⟩ := h3
    refine ⟨y, hy, ?_⟩
    rw [(kp_bk hst (by omega) h4).1, h5]
    by_cases e : j = 0
    · subst e
      rw [kp_zero, Bool.and_eq_true] at h4
      have hyc : y = c := by simpa using h4.2
      subst hyc
      by_cases e2 : z = y
      · exfalso
        subst e2
        have e3 : (T - (0 + 1) + 1 == T) = true := by simp; omega
        rw [e3] at h6
        simp at h6
      · simp [e2]
    · simp [e]

theorem kp_some : ∀ {j z : Nat}, kp co cs n R f c T (j + 1) z = true → ∃ y, y < cs.size ∧ kp co cs n R f c T j y = true := by
  intro j z h
  rw [kp_next, Bool.and_eq_true] at h
  have h2 := h.2
  rw [anyB_iff] at h2
  obtain ⟨y, hy, h3⟩ := h2
  rw [Bool.and_eq_true] at h3
  exact ⟨y, hy, h3.1⟩

/-- Where the document is, the program is: ahead of the end. -/
theorem bk_kp : ∀ {j z : Nat}, 1 ≤ j → j ≤ T → z < cs.size → bkM co cs n R c T j z = true → reachM co cs n R f (T - j) z = true → kp co cs n R f c T j z = true
  | j + 1, z, _, hj, hz, hb, hr => by
    rw [bk_next (by omega), anyB_iff] at hb
    obtain ⟨y, hy, h⟩ := hb
    rw [Bool.and_eq_true, Bool.and_eq_true] at h
    obtain ⟨⟨h1, h2⟩, h3⟩ := h
    have hr' : reachM co cs (n + 1) (extR n R c T) f (T - (j + 1)) z = true := by rw [ext_reach (by omega)]; exact hr
    have hry : reachM co cs n R f (T - j) y = true := by
      rw [show T - j = T - (j + 1) + 1 by omega]
      show anyB (fun a => reachM co cs n R f (T - (j + 1)) a && goesM co cs n R a y (T - (j + 1))) cs.size = true
      rw [anyB_iff]
      exact ⟨z, hz, by rw [hr, h2]; rfl⟩
    rw [kp_next, hr', Bool.true_and, anyB_iff]
    refine ⟨y, hy, ?_⟩
    by_cases e : j = 0
    · subst e
      have hyc : y = c := by
        have h4 : (y == c && staysM co cs n R c T) = true := h1
        rw [Bool.and_eq_true] at h4
        simpa using h4.1
      subst hyc
      have hzy : (z == y) = false := by
        simp at h3
        simpa using h3
      have hg : goesM co cs (n + 1) (extR n R y T) z y (T - (0 + 1)) = true := by
        rw [ext_goes, h2, hzy]; rfl
      have hry' : reachM co cs (n + 1) (extR n R y T) f T y = true := by
        have eT : T = T - (0 + 1) + 1 := by omega
        have h5 : reachM co cs (n + 1) (extR n R y T) f (T - (0 + 1) + 1) y = true := by
          show anyB (fun a => reachM co cs (n + 1) (extR n R y T) f (T - (0 + 1)) a && goesM co cs (n + 1) (extR n R y T) a y (T - (0 + 1))) cs.size = true
          rw [anyB_iff]
          exact ⟨z, hz, by rw [hr', hg]; rfl⟩
        rw [← eT] at h5
        exact h5
      rw [kp_zero, hry', hg]
      simp
    · have hg : goesM co cs (n + 1) (extR n R c T) z y (T - (j + 1)) = true := by
        rw [ext_goes, h2]
        have e2 : (T - (j + 1) + 1 == T) = false := by simp; omega
        rw [e2]; simp
      rw [bk_kp (by omega) (by omega) hy h1 hry, hg]; rfl

theorem outTo_mem {t x : Nat} : x ∈ outTo co cs n R f c T t cs.size ↔ x < cs.size ∧ bkM co cs n R c T (T - t) x = true ∧ reachM co cs n R f t x = true := by
  unfold outTo
  rw [List.mem_filter, List.mem_range, Bool.and_eq_true]

theorem out_some {t : Nat} (h : outTo co cs n R f c T t cs.size ≠ []) : ∃ x, x < cs.size ∧ bkM co cs n R c T (T - t) x = true ∧ reachM co cs n R f t x = true := by
  cases e : outTo co cs n R f c T t cs.size with
  | nil => exact absurd e h
  | cons x l => exact ⟨x, outTo_mem.1 (by rw [e]; simp)⟩

theorem lay_out (hff : freeB cs f = true) (hN : cs.size ≤ 36) (hst : staysM co cs n R c T = true) (hful : ∀ t, t ≤ T → outTo co cs n R f c T t cs.size ≠ []) {t : Nat} (ht : t ≤ T) : cellsL (layM co cs n R f c T t) = outTo co cs n R f c T t cs.size := by
  have key : ∀ z, kp co cs n R f c T (T - t) z = (bkM co cs n R c T (T - t) z && reachM co cs n R f t z) := by
    intro z
    rw [Bool.eq_iff_iff, Bool.and_eq_true]
    constructor
    · intro h
      have h2 := kp_bk hst (by omega) h
      rw [show T - (T - t) = t by omega] at h2
      exact h2
    · rintro ⟨h1, h2⟩
      have hz : z < cs.size := free_lt (reach_in hff h2)
      by_cases e : t = T
      · subst e
        rw [Nat.sub_self] at h1 ⊢
        have h3 : (z == c && staysM co cs n R c t) = true := h1
        rw [Bool.and_eq_true] at h3
        have hzc : z = c := by simpa using h3.1
        subst hzc
        rw [kp_zero]
        have hr : reachM co cs (n + 1) (extR n R z t) f t z = true := by
          cases t with
          | zero =>
            show (z == f && onM (n + 1) (extR n R z 0) z 0) = true
            rw [ext_on]; exact h2
          | succ t =>
            obtain ⟨x, hx, hb, hrx⟩ := out_some (hful t (by omega))
            rw [show t + 1 - t = 0 + 1 by omega] at hb
            have hk := bk_kp (f := f) (Nat.le_refl _) (by omega) hx hb (by rw [show t + 1 - (0 + 1) = t by omega]; exact hrx)
            obtain ⟨y, hy, hk0⟩ := kp_some hk
            rw [kp_zero, Bool.and_eq_true] at hk0
            have hyz : y = z := by simpa using hk0.2
            subst hyz
            exact hk0.1
        rw [hr]; simp
      · exact bk_kp (by omega) (by omega) hz h1 (by rw [show T - (T - t) = t by omega]; exact h2)
  have e1 : layM co cs n R f c T t = kp co cs n R f c T (T - t) := rfl
  rw [e1]
  unfold cellsL outTo
  have e2 : List.range 36 = List.range cs.size ++ (List.range (36 - cs.size)).map (fun i => cs.size + i) := by
    rw [← List.range_add, show cs.size + (36 - cs.size) = 36 by omega]
  rw [e2, List.filter_append]
  have e3 : ((List.range (36 - cs.size)).map (fun i => cs.size + i)).filter (kp co cs n R f c T (T - t)) = [] := by
    rw [List.filter_eq_nil_iff]
    intro x hx h
    obtain ⟨i, hi, rfl⟩ := List.mem_map.1 hx
    rw [key, Bool.and_eq_true] at h
    have := free_lt (reach_in hff h.2)
    omega
  rw [e3, List.append_nil]
  exact List.filter_congr fun x _ => key x

theorem lay_full (hr : rulesB cs.size n R = true) (hff : freeB cs f = true) (hc : freeB cs c = true) (hN : cs.size ≤ 36) (hful : ∀ t, t ≤ T → outTo co cs n R f c T t cs.size ≠ []) : layO co cs n R f c T = some ((List.range (T + 1)).map fun t => outTo co cs n R f c T t cs.size) := by
  obtain ⟨x, hx, hb, hrx⟩ := out_some (hful T (Nat.le_refl _))
  rw [Nat.sub_self] at hb
  have hb : (x == c && staysM co cs n R c T) = true := hb
  rw [Bool.and_eq_true] at hb
  have hxc : x = c := by simpa using hb.1
  subst hxc
  have hS := ((hit_goal (f := f) hr hc).1 (by unfold hitM; rw [hrx, hb.2]; rfl)).2
  unfold layO
  rw [if_pos ⟨hS, fun h => hful 0 (Nat.zero_le _) (by rw [← lay_out hff hN hb.2 hful (Nat.zero_le _)]; exact List.length_eq_zero_iff.1 h)⟩]
  congr 1
  refine List.map_congr_left fun t ht => ?_
  rw [List.mem_range] at ht
  exact lay_out hff hN hb.2 hful (by omega)

theorem lay_none (hr : rulesB cs.size n R = true) (hff : freeB cs f = true) (hc : freeB cs c = true) (hno : ∃ t, t ≤ T ∧ outTo co cs n R f c T t cs.size = []) : layO co cs n R f c T = none := by
  unfold layO
  by_cases h : settledM c R n ≤ (T : Int) ∧ (cellsL (layM co cs n R f c T 0)).length ≠ 0
  · exfalso
    obtain ⟨hS, hl⟩ := h
    have hz : ∃ z, kp co cs n R f c T T z = true := by
      cases e : cellsL (layM co cs n R f c T 0) with
      | nil => rw [e] at hl; exact absurd rfl hl
      | cons z l => exact ⟨z, (cellsL_mem.1 (show z ∈ cellsL (layM co cs n R f c T 0) by rw [e]; simp)).2⟩
    have all : ∀ d, d ≤ T → ∃ z, kp co cs n R f c T (T - d) z = true := by
      intro d
      induction d with
      | zero => intro _; exact hz
      | succ d ih =>
        intro hd
        obtain ⟨z, h⟩ := ih (by omega)
        rw [show T - d = T - (d + 1) + 1 by omega] at h
        obtain ⟨y, _, hy⟩ := kp_some h
        exact ⟨y, hy⟩
    obtain ⟨y, hy⟩ := all T (Nat.le_refl _)
    rw [Nat.sub_self, kp_zero, Bool.and_eq_true] at hy
    have hyc : y = c := by simpa using hy.2
    subst hyc
    have hry := ext_reach_le hy.1
    have hst : staysM co cs n R y T = true := by
      have h := (hit_goal (f := f) hr hc).2 ⟨hry, hS⟩
      unfold hitM at h
      rw [Bool.and_eq_true] at h
      exact h.2
    obtain ⟨t, ht, he⟩ := hno
    obtain ⟨z, hz2⟩ := all t ht
    have h2 := kp_bk hst (by omega) hz2
    rw [show T - (T - t) = t by omega] at h2
    have hm : z ∈ outTo co cs n R f y T t cs.size := outTo_mem.2 ⟨free_lt (reach_in hff h2.2), h2⟩
    rw [he] at hm
    cases hm
  · rw [if_neg h]
end

end Go.Proofs.YtnkgpinadgacgaaDoor
