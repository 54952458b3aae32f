/- Plain facts on rules: when a cart may be on a cell, when it may go; where it can have come; when it may stay for ever. No program is named here. -/
import Derived.Test.YtaldfpoolajoiaaDoorXg
namespace Go.Proofs.YtaldfpoolajoiaaDoor.M

/-- A rule. -/
structure RuleM where
  kind : Int
  cell : Int
  next : Int
  at' : Int

/-- The rule forbids to be on a cell at an instant. -/
def brkOn (r : RuleM) (c t : Int) : Bool := r.at' == t && (r.kind == 0 && r.cell == c || r.kind == 2 && !(r.cell == c))

/-- The rule forbids to go from a to b at an instant. -/
def brkGo (r : RuleM) (a b t : Int) : Bool := r.kind == 1 && r.at' == t && r.cell == a && r.next == b

/-- The rules let a cart be on a cell at an instant. -/
def onM (n : Nat) (R : Nat → RuleM) (c t : Int) : Bool := !anyB (fun i => brkOn (R i) c t) n

def noWayM (n : Nat) (R : Nat → RuleM) (a b t : Int) : Bool := anyB (fun i => brkGo (R i) a b t) n

/-- The yard and the rules let a cart go from a to b at an instant, and be there. -/
def goesM (co : Int) (cs : ByteArray) (n : Nat) (R : Nat → RuleM) (a b : Nat) (t : Nat) : Bool :=
  adjM co cs a b && onM n R b (t + 1 : Nat) && !noWayM n R a b t

/-- The rules let a cart that is on a cell at an instant stay there for ever. -/
def staysM (co : Int) (cs : ByteArray) (n : Nat) (R : Nat → RuleM) (c : Nat) (t : Nat) : Bool := !anyB (fun j => !goesM co cs n R c c (t + j)) (61 - t)

/-- Where the cart can be at an instant. -/
def reachM (co : Int) (cs : ByteArray) (n : Nat) (R : Nat → RuleM) (fr : Nat) : Nat → Nat → Bool
  | 0, c => c == fr && onM n R c 0
  | t + 1, c => anyB (fun a => reachM co cs n R fr t a && goesM co cs n R a c t) cs.size

/-- The cart can have come to stay. -/
def hitM (co : Int) (cs : ByteArray) (n : Nat) (R : Nat → RuleM) (fr to : Nat) (t : Nat) : Bool := reachM co cs n R fr t to && staysM co cs n R to t

theorem anyB_false {p : Nat → Bool} {n : Nat} : anyB p n = false ↔ ∀ i, i < n → p i = false := by
  constructor
  · intro h i hi
    cases e : p i with
    | false => rfl
    | true => rw [anyB_of e hi] at h; cases h
  · intro h
    cases e : anyB p n with
    | false => rfl
    | true => obtain ⟨i, hi, hp⟩ := anyB_true e; rw [h i hi] at hp; cases hp

theorem anyB_iff {p : Nat → Bool} {n : Nat} : anyB p n = true ↔ ∃ i, i < n ∧ p i = true :=
  ⟨anyB_true, fun ⟨_, hi, hp⟩ => anyB_of hp hi⟩

/-- Each rule is such as there may be. -/
def ruleB (N : Nat) (r : RuleM) : Bool := decide (0 ≤ r.kind) && decide (r.kind ≤ 2) && decide (0 ≤ r.cell) && decide (r.cell < N) && decide (0 ≤ r.at') && decide (r.at' ≤ 60)

def rulesB (N n : Nat) (R : Nat → RuleM) : Bool := decide (n ≤ 40) && !anyB (fun i => !ruleB N (R i)) n

theorem rulesB_at {N n : Nat} {R : Nat → RuleM} (h : rulesB N n R = true) {i : Nat} (hi : i < n) : 0 ≤ (R i).kind ∧ (R i).kind ≤ 2 ∧ 0 ≤ (R i).cell ∧ (R i).cell < N ∧ 0 ≤ (R i).at' ∧ (R i).at' ≤ 60 := by
  unfold rulesB at h
  simp only [Bool.and_eq_true, decide_eq_true_eq, Bool.not_eq_true'] at h
  have := anyB_false.1 h.2 i hi
  simp only [Bool.not_eq_false'] at this
  unfold ruleB at this
  simp only [Bool.and_eq_true, decide_eq_true_eq] at this
  omega

theorem rulesB_len {N n : Nat} {R : Nat → RuleM} (h : rulesB N n R = true) : n ≤ 40 := by
  unfold rulesB at h
  simp only [Bool.and_eq_true, decide_eq_true_eq] at h
  exact h.1

/-- Behind the last instant no rule says anything. -/
theorem on_late {N n : Nat} {R : Nat → RuleM} (h : rulesB N n R = true) {c t : Int} (ht : 61 ≤ t) : onM n R c t = true := by
  unfold onM
  rw [anyB_false.2, Bool.not_false]
  intro i hi
  have := rulesB_at h hi
  unfold brkOn
  rw [show ((R i).at' == t) = false by simp; omega]; rfl

theorem noWay_late {N n : Nat} {R : Nat → RuleM} (h : rulesB N n R = true) {a b t : Int} (ht : 61 ≤ t) : noWayM n R a b t = false := by
  unfold noWayM
  refine anyB_false.2 fun i hi => ?_
  have := rulesB_at h hi
  unfold brkGo
  rw [show ((R i).at' == t) = false by simp; omega]; simp

theorem goes_late {co : Int} {cs : ByteArray} {N n : Nat} {R : Nat → RuleM} (h : rulesB N n R = true) {a b t : Nat} (ht : 61 ≤ t) : goesM co cs n R a b t = adjM co cs a b := by
  unfold goesM
  rw [on_late h (by omega), noWay_late h (by omega)]
  simp

theorem goes_adj {co : Int} {cs : ByteArray} {n : Nat} {R : Nat → RuleM} {a b t : Nat} (h : goesM co cs n R a b t = true) : adjM co cs a b = true := by
  unfold goesM at h
  simp only [Bool.and_eq_true] at h
  exact h.1.1

theorem goes_on {co : Int} {cs : ByteArray} {n : Nat} {R : Nat → RuleM} {a b t : Nat} (h : goesM co cs n R a b t = true) : onM n R b (t + 1 : Nat) = true := by
  unfold goesM at h
  simp only [Bool.and_eq_true] at h
  exact h.1.2

theorem reach_on {co : Int} {cs : ByteArray} {n : Nat} {R : Nat → RuleM} {fr : Nat} : ∀ {t c : Nat}, reachM co cs n R fr t c = true → onM n R c t = true
  | 0, c, h => by simp only [reachM, Bool.and_eq_true] at h; exact h.2
  | t + 1, c, h => by
    simp only [reachM] at h
    obtain ⟨a, _, ha⟩ := anyB_true h
    simp only [Bool.and_eq_true] at ha
    exact goes_on ha.2

theorem stays_iff {co : Int} {cs : ByteArray} {n : Nat} {R : Nat → RuleM} {c t : Nat} : staysM co cs n R c t = true ↔ ∀ s, t ≤ s → s < 61 → goesM co cs n R c c s = true := by
  unfold staysM
  rw [Bool.not_eq_true', anyB_false]
  constructor
  · intro h s h1 h2
    have := h (s - t) (by omega)
    rw [show t + (s - t) = s by omega] at this
    simpa using this
  · intro h i hi
    have := h (t + i) (by omega) (by omega)
    simp [this]

/-- A rule is broken by staying on a cell. -/
def brkStay (c : Int) (r : RuleM) : Bool := if r.kind == 0 then r.cell == c else if r.kind == 1 then r.cell == c && r.next == c else !(r.cell == c)

/-- The first instant from which staying keeps the rules. -/
def settledM (c : Int) (R : Nat → RuleM) : Nat → Int
  | 0 => 0
  | k + 1 => if brkStay c (R k) = true then max (settledM c R k) ((R k).at' + 1) else settledM c R k

theorem settled_le {c : Int} {R : Nat → RuleM} : ∀ {n : Nat} {i : Nat}, i < n → brkStay c (R i) = true → (R i).at' + 1 ≤ settledM c R n
  | n + 1, i, hi, hb => by
    simp only [settledM]
    by_cases e : i = n
    · subst e; rw [if_pos hb]; omega
    · have := settled_le (c := c) (R := R) (n := n) (i := i) (by omega) hb
      split <;> omega

theorem settled_is {c : Int} {R : Nat → RuleM} : ∀ {n : Nat}, settledM c R n = 0 ∨ ∃ i, i < n ∧ brkStay c (R i) = true ∧ settledM c R n = (R i).at' + 1
  | 0 => Or.inl rfl
  | n + 1 => by
    simp only [settledM]
    rcases settled_is (c := c) (R := R) (n := n) with h | ⟨i, hi, hb, h⟩
    · by_cases e : brkStay c (R n) = true
      · rw [if_pos e]
        by_cases e2 : settledM c R n ≤ (R n).at' + 1
        · exact Or.inr ⟨n, by omega, e, by omega⟩
        · exact Or.inl (by omega)
      · rw [if_neg e]; exact Or.inl h
    · by_cases e : brkStay c (R n) = true
      · rw [if_pos e]
        by_cases e2 : settledM c R n ≤ (R n).at' + 1
        · exact Or.inr ⟨n, by omega, e, by omega⟩
        · exact Or.inr ⟨i, by omega, hb, by omega⟩
      · rw [if_neg e]; exact Or.inr ⟨i, by omega, hb, h⟩

theorem settled_bd {N : Nat} {c : Int} {R : Nat → RuleM} {n : Nat} (h : rulesB N n R = true) : 0 ≤ settledM c R n ∧ settledM c R n ≤ 61 := by
  rcases settled_is (c := c) (R := R) (n := n) with e | ⟨i, hi, _, e⟩
  · rw [e]; omega
  · have := rulesB_at h hi
    rw [e]; omega

/-- What a rule that is broken by staying forbids at its own instant. -/
theorem brkStay_says {N n : Nat} {R : Nat → RuleM} (h : rulesB N n R = true) {i : Nat} (hi : i < n) {c : Int} (hb : brkStay c (R i) = true) : onM n R c (R i).at' = false ∨ noWayM n R c c (R i).at' = true := by
  have hr := rulesB_at h hi
  unfold brkStay at hb
  by_cases e0 : (R i).kind = 0
  · simp only [e0] at hb
    refine Or.inl ?_
    unfold onM
    rw [anyB_of (i := i) (by unfold brkOn; simp [e0]; simpa using hb) hi]; rfl
  · by_cases e1 : (R i).kind = 1
    · simp only [e1] at hb
      simp at hb
      refine Or.inr ?_
      unfold noWayM
      exact anyB_of (i := i) (by unfold brkGo; simp [e1, hb.1, hb.2]) hi
    · have e2 : (R i).kind = 2 := by omega
      simp only [e2] at hb
      simp at hb
      refine Or.inl ?_
      unfold onM
      rw [anyB_of (i := i) (by unfold brkOn; simp [e2, hb]) hi]; rfl

/-- Staying from t on breaks a rule: then that rule's instant is t or later. -/
theorem goes_not {co : Int} {cs : ByteArray} {n : Nat} {R : Nat → RuleM} {c s : Nat} (hadj : adjM co cs c c = true) (h : goesM co cs n R c c s = false) : onM n R c (s + 1 : Nat) = false ∨ noWayM n R c c s = true := by
  unfold goesM at h
  rw [hadj] at h
  cases e1 : onM n R c (s + 1 : Nat) with
  | false => exact Or.inl rfl
  | true =>
    rw [e1] at h
    right
    simpa using h

theorem on_not {n : Nat} {R : Nat → RuleM} {c t : Int} (h : onM n R c t = false) : ∃ i, i < n ∧ (R i).at' = t ∧ brkStay c (R i) = true := by
  unfold onM at h
  simp only [Bool.not_eq_false'] at h
  obtain ⟨i, hi, hb⟩ := anyB_true h
  unfold brkOn at hb
  simp only [Bool.and_eq_true, Bool.or_eq_true, beq_iff_eq, Bool.not_eq_true'] at hb
  refine ⟨i, hi, hb.1, ?_⟩
  unfold brkStay
  rcases hb.2 with ⟨e1, e2⟩ | ⟨e1, e2⟩
  · simp [e1, e2]
  · simp [e1]; simpa using e2

theorem noWay_not {n : Nat} {R : Nat → RuleM} {c t : Int} (h : noWayM n R c c t = true) : ∃ i, i < n ∧ (R i).at' = t ∧ brkStay c (R i) = true := by
  unfold noWayM at h
  obtain ⟨i, hi, hb⟩ := anyB_true h
  unfold brkGo at hb
  simp only [Bool.and_eq_true, beq_iff_eq] at hb
  refine ⟨i, hi, hb.1.1.2, ?_⟩
  unfold brkStay
  simp [hb.1.1.1, hb.1.2, hb.2]

/-- Where the cart can be, it may stay just from the settled instant on. -/
theorem stays_settled {co : Int} {cs : ByteArray} {N n : Nat} {R : Nat → RuleM} (hr : rulesB N n R = true) {c t : Nat} (hadj : adjM co cs c c = true) (hon : onM n R c t = true) :
    staysM co cs n R c t = decide (settledM c R n ≤ t) := by
  rw [Bool.eq_iff_iff, decide_eq_true_eq, stays_iff]
  constructor
  · intro h
    rcases settled_is (c := c) (R := R) (n := n) with e | ⟨i, hi, hb, e⟩
    · omega
    · have hri := rulesB_at hr hi
      by_cases hlt : settledM c R n ≤ t
      · exact hlt
      · exfalso
        obtain ⟨s, hs⟩ := Int.eq_ofNat_of_zero_le hri.2.2.2.2.1
        rcases brkStay_says hr hi hb with h1 | h1
        · rw [hs] at h1
          by_cases e2 : s = t
          · subst e2; rw [hon] at h1; cases h1
          · have := goes_on (h (s - 1) (by omega) (by omega))
            rw [show s - 1 + 1 = s by omega, h1] at this; cases this
        · have := h s (by omega) (by omega)
          unfold goesM at this
          rw [hs] at h1
          rw [h1] at this
          simp at this
  · intro h s h1 h2
    cases e : goesM co cs n R c c s with
    | true => rfl
    | false =>
      exfalso
      rcases goes_not hadj e with g | g
      · obtain ⟨i, hi, ha, hb⟩ := on_not g
        have := settled_le hi hb
        omega
      · obtain ⟨i, hi, ha, hb⟩ := noWay_not g
        have := settled_le hi hb
        omega

end Go.Proofs.YtaldfpoolajoiaaDoor.M
