/- Plain facts: one cart's search over a yard under rules is such a search; what the map of what was seen tells; what the search's answer says. -/
import Derived.Test.YtaldfpoolajoiaaDoorRb
import Derived.Test.YtaldfpoolajoiaaDoorRa
import Derived.Test.YtaldfpoolajoiaaDoorHa
import Derived.Test.YtaldfpoolajoiaaDoorRi
import Derived.Test.YtaldfpoolajoiaaDoorRm
namespace Go.Proofs.YtaldfpoolajoiaaDoor
open M Go.RowKit

theorem reach_in {co : Int} {cs : ByteArray} {n : Nat} {R : Nat → RuleM} {fr : Nat} (hfr : freeB cs fr = true) : ∀ {t c : Nat}, reachM co cs n R fr t c = true → freeB cs c = true
  | 0, c, h => by
    simp only [reachM, Bool.and_eq_true, beq_iff_eq] at h
    rw [h.1]; exact hfr
  | t + 1, c, h => by
    simp only [reachM] at h
    obtain ⟨a, _, ha⟩ := anyB_true h
    simp only [Bool.and_eq_true] at ha
    exact adj_free (goes_adj ha.2)

theorem free_lt {cs : ByteArray} {c : Nat} (h : freeB cs c = true) : c < cs.size := by
  by_cases e : c < cs.size
  · exact e
  · rw [freeB_out (by omega)] at h; cases h

/-- One cart under rules. -/
theorem trip_mk {co : Int} {cs : ByteArray} {n : Nat} {R : Nat → RuleM} {fr tt : Nat} {st : Nat → Int} (hr : rulesB cs.size n R = true) (hf : freeB cs fr = true) (ht : freeB cs tt = true) (hst : IsFar cs.size (adjM co cs) tt st) (h0 : 0 ≤ st fr) (hon : onM n R fr 0 = true) :
    Trip cs.size (reachM co cs n R fr) (goesM co cs n R) fr tt (settledM tt R n) st := by
  have told : ∀ t c, reachM co cs n R fr t c = true → 0 ≤ st c := by
    intro t
    induction t with
    | zero =>
      intro c h
      simp only [reachM, Bool.and_eq_true, beq_iff_eq] at h
      rw [h.1]; exact h0
    | succ t ih =>
      intro c h
      have hc := free_lt (reach_in hf h)
      simp only [reachM] at h
      obtain ⟨a, haN, ha⟩ := anyB_true h
      simp only [Bool.and_eq_true] at ha
      exact (hst.next c a hc haN (goes_adj ha.2) (ih a ha.1)).1
  refine ⟨by have := free_lt hf; omega, free_lt ht, ?_, ?_, ?_, ?_, hst.zero, told, ?_, (settled_bd hr).2, ?_, ?_, ?_⟩
  · intro c h
    simp only [reachM, Bool.and_eq_true, beq_iff_eq] at h
    exact h.1
  · simp [reachM, hon]
  · intro t c
    simp only [reachM]
    rw [anyB_iff]
    simp only [Bool.and_eq_true]
  · intro t c h; exact free_lt (reach_in hf h)
  · intro a b t hra hg hb
    have fa := reach_in hf hra
    have fb := adj_free (goes_adj hg)
    exact hst.next a b (free_lt fa) (free_lt fb) (adj_comm fb (goes_adj hg) fa) hb
  · intro t c hrc h61 k hk
    obtain ⟨b, hb, hab, hd⟩ := hst.pred c (free_lt (reach_in hf hrc)) k hk
    refine ⟨b, ?_, hd⟩
    rw [goes_late hr h61]
    exact adj_comm (adj_free hab) hab (far_free hst ht hb (by omega))
  · intro t c hrc hz
    exact hst.src c (free_lt (reach_in hf hrc)) hz
  · intro t c hrc
    exact far_lt (free_lt ht) hst (free_lt (reach_in hf hrc))

/-- What was seen, as a map of numbers. -/
def mapOf (seen : Nat → Nat → Option Nat) : Int → Int → Option Int := fun c t => if 0 ≤ c ∧ 0 ≤ t then (seen c.toNat t.toNat).map (fun (x : Nat) => (x : Int)) else none

theorem mapOf_nat (seen : Nat → Nat → Option Nat) (c t : Nat) : mapOf seen (c : Int) (t : Int) = (seen c t).map (fun (x : Nat) => (x : Int)) := by
  unfold mapOf; rw [if_pos ⟨by omega, by omega⟩]; simp

theorem mapOf_put (seen : Nat → Nat → Option Nat) (b t p : Nat) (c s : Int) : mapPut (mapOf seen) (b : Int) (t : Int) (p : Int) c s = mapOf (seenPut seen b t p) c s := by
  unfold mapPut mapOf seenPut
  by_cases h : c = b ∧ s = t
  · rw [if_pos h, h.1, h.2, if_pos ⟨by omega, by omega⟩]
    simp
  · rw [if_neg h]
    by_cases h2 : 0 ≤ c ∧ 0 ≤ s
    · rw [if_pos h2, if_pos h2, if_neg]
      intro hh
      exact h ⟨by omega, by omega⟩
    · rw [if_neg h2, if_neg h2]

theorem mapOf_start (fr : Nat) (c s : Int) : mapPut (fun _ _ => none) (fr : Int) 0 (fr : Int) c s = mapOf (fun c t => if c = fr ∧ t = 0 then some fr else none) c s := by
  unfold mapPut mapOf
  by_cases h : c = fr ∧ s = 0
  · rw [if_pos h, h.1, h.2, if_pos ⟨by omega, by omega⟩]
    simp
  · rw [if_neg h]
    by_cases h2 : 0 ≤ c ∧ 0 ≤ s
    · rw [if_pos h2]
      show none = Option.map _ (if c.toNat = fr ∧ s.toNat = 0 then some fr else none)
      rw [if_neg (fun hh => h ⟨by omega, by omega⟩)]
      rfl
    · rw [if_neg h2]

/-- What the search tells. -/
def Found (co : Int) (cs : ByteArray) (n : Nat) (R : Nat → RuleM) (f c : Nat) (x : Option (Nat × (Nat → Nat))) : Prop :=
  (x = Option.none ∧ ∀ t, hitM co cs n R f c t = false) ∨
    ∃ T p, x = some (T, p) ∧ T ≤ 60 + cs.size ∧ hitM co cs n R f c T = true ∧ PathOK co cs n R f c T p ∧ ∀ t, hitM co cs n R f c t = true → T ≤ t

theorem Found.none {co : Int} {cs : ByteArray} {n : Nat} {R : Nat → RuleM} {f c : Nat} (h : ∀ t, hitM co cs n R f c t = false) : Found co cs n R f c Option.none := Or.inl ⟨rfl, h⟩

theorem Found.path {co : Int} {cs : ByteArray} {n : Nat} {R : Nat → RuleM} {f c : Nat} (T : Nat) (p : Nat → Nat) (hT : T ≤ 60 + cs.size) (hhit : hitM co cs n R f c T = true) (hok : PathOK co cs n R f c T p) (hleast : ∀ t, hitM co cs n R f c t = true → T ≤ t) : Found co cs n R f c (some (T, p)) :=
  Or.inr ⟨T, p, rfl, hT, hhit, hok, hleast⟩

theorem Found.miss {co : Int} {cs : ByteArray} {n : Nat} {R : Nat → RuleM} {f c : Nat} (h : Found co cs n R f c Option.none) : ∀ t, hitM co cs n R f c t = false := by
  rcases h with h | ⟨T, p, e, _⟩
  · exact h.2
  · cases e

theorem Found.hit {co : Int} {cs : ByteArray} {n : Nat} {R : Nat → RuleM} {f c T : Nat} {p : Nat → Nat} (h : Found co cs n R f c (some (T, p))) : T ≤ 60 + cs.size ∧ hitM co cs n R f c T = true ∧ PathOK co cs n R f c T p ∧ ∀ t, hitM co cs n R f c t = true → T ≤ t := by
  rcases h with h | ⟨T', p', e, h⟩
  · cases h.1
  · cases e; exact h

theorem hit_goal {co : Int} {cs : ByteArray} {n : Nat} {R : Nat → RuleM} {f c t : Nat} (hr : rulesB cs.size n R = true) (hc : freeB cs c = true) : hitM co cs n R f c t = true ↔ reachM co cs n R f t c = true ∧ settledM c R n ≤ t := by
  unfold hitM
  rw [Bool.and_eq_true]
  constructor
  · rintro ⟨h1, h2⟩
    rw [stays_settled hr (by unfold adjM; rw [mayM_in hc (by omega) (by have := free_lt hc; omega)]; exact near_self _ _) (reach_on h1), decide_eq_true_eq] at h2
    exact ⟨h1, h2⟩
  · rintro ⟨h1, h2⟩
    refine ⟨h1, ?_⟩
    rw [stays_settled hr (by unfold adjM; rw [mayM_in hc (by omega) (by have := free_lt hc; omega)]; exact near_self _ _) (reach_on h1), decide_eq_true_eq]
    exact h2

/-- The heap is empty: there is no path. -/
theorem found_none {co : Int} {cs : ByteArray} {n : Nat} {R : Nat → RuleM} {f c : Nat} {st : Nat → Int} {seen : Nat → Nat → Option Nat} {op : Nat → Nat → Prop} (hr : rulesB cs.size n R = true) (hc : freeB cs c = true) (T : Trip cs.size (reachM co cs n R f) (goesM co cs n R) f c (settledM c R n) st)
    (S : Star cs.size (reachM co cs n R f) (goesM co cs n R) f c (settledM c R n) seen op (fun _ _ => False)) (he : ∀ a b, ¬ op a b) : Found co cs n R f c none := by
  refine .none fun t => ?_
  cases e : hitM co cs n R f c t with
  | false => rfl
  | true =>
    obtain ⟨h1, h2⟩ := (hit_goal hr hc).1 e
    obtain ⟨a, b, ho, _⟩ := star_min T S h1 h2
    exact absurd ho (he a b)

/-- The foremost is a goal: the way back to the start is a path of the least cost. -/
theorem found_path {co : Int} {cs : ByteArray} {n : Nat} {R : Nat → RuleM} {f c t : Nat} {st : Nat → Int} {seen : Nat → Nat → Option Nat} {op : Nat → Nat → Prop} (hr : rulesB cs.size n R = true) (_hN : cs.size ≤ 36) (hc : freeB cs c = true) (T : Trip cs.size (reachM co cs n R f) (goesM co cs n R) f c (settledM c R n) st)
    (S : Star cs.size (reachM co cs n R f) (goesM co cs n R) f c (settledM c R n) seen op (fun _ _ => False)) (ho : op c t) (hm : ∀ a b, op a b → (t : Int) + st c ≤ b + st a) (hS : settledM c R n ≤ t) :
    ∃ p : Nat → Nat, p t = c ∧ (∀ s, s ≤ t → p s < cs.size) ∧ seen (p 0) 0 = some f ∧ (∀ s, s < t → seen (p (s + 1)) (s + 1) = some (p s)) ∧ Found co cs n R f c (some (t, p)) := by
  have hs := S.sub c t ho
  obtain ⟨p, p1, p2, p3, p4⟩ := star_way S hs
  have hle := star_bound T S ho hm
  have hreach := S.rch c t hs
  have hin : ∀ s, s ≤ t → p s < cs.size := fun s h => T.inN s _ (S.rch _ _ (p3 s h))
  have hhit : hitM co cs n R f c t = true := (hit_goal hr hc).2 ⟨hreach, hS⟩
  have hstay : staysM co cs n R c t = true := by
    unfold hitM at hhit
    rw [Bool.and_eq_true] at hhit
    exact hhit.2
  refine ⟨p, p1, hin, by rw [p2]; exact S.start, p4, .path t p hle hhit ⟨p2, p1, ?_, ?_, ?_, hstay, hin⟩ ?_⟩
  · -- the last step is no waiting
    intro s hst hps
    subst hst
    obtain ⟨g1, g2, g3⟩ := S.pre (p (s + 1)) s (p s) (p4 s (by omega))
    rw [p1, hps] at g1
    have hr2 := S.rch _ _ g2
    rw [hps] at hr2 g2 g3
    have hon := reach_on hr2
    -- staying from s on would break no rule
    refine g3 ⟨rfl, ?_⟩
    have hst2 : staysM co cs n R c s = true := stays_iff.2 fun u h1 h2 => by
      by_cases e : u = s
      · subst e; exact g1
      · exact stays_iff.1 hstay u (by omega) h2
    rw [stays_settled hr (goes_adj g1) hon, decide_eq_true_eq] at hst2
    exact hst2
  · have := reach_on (S.rch _ _ (p3 0 (Nat.zero_le _)))
    rw [p2] at this; exact this
  · intro s hs'
    exact (S.pre (p (s + 1)) s (p s) (p4 s hs')).1
  · intro u hu
    obtain ⟨h1, h2⟩ := (hit_goal hr hc).1 hu
    exact star_least T S hm h1 h2

/-- There is no way, or the cart may not begin. -/
theorem found_not {co : Int} {cs : ByteArray} {n : Nat} {R : Nat → RuleM} {f c : Nat} {st : Nat → Int} (hf : freeB cs f = true) (hst : IsFar cs.size (adjM co cs) c st) (h : st f < 0 ∨ onM n R f 0 = false) : Found co cs n R f c none := by
  refine .none fun t => ?_
  cases e : hitM co cs n R f c t with
  | false => rfl
  | true =>
    exfalso
    unfold hitM at e
    rw [Bool.and_eq_true] at e
    have hre := e.1
    rcases h with h | h
    · have back : ∀ t x, reachM co cs n R f t x = true → 0 ≤ st x → 0 ≤ st f := by
        intro t
        induction t with
        | zero =>
          intro x hx h0
          simp only [reachM, Bool.and_eq_true, beq_iff_eq] at hx
          rw [← hx.1]; exact h0
        | succ t ih =>
          intro x hx h0
          have fx := reach_in hf hx
          simp only [reachM] at hx
          obtain ⟨a, haN, ha⟩ := anyB_true hx
          simp only [Bool.and_eq_true] at ha
          have fa := reach_in hf ha.1
          exact ih a ha.1 (hst.next a x haN (free_lt fx) (adj_comm fx (goes_adj ha.2) fa) h0).1
      have := back t c hre (by rw [hst.zero]; exact Int.le_refl 0)
      omega
    · have none0 : ∀ t x, reachM co cs n R f t x = false := by
        intro t
        induction t with
        | zero =>
          intro x
          simp only [reachM]
          by_cases ex : x = f
          · subst ex
            have h' : onM n R (x : Int) 0 = false := h
            simp [h']
          · simp [ex]
        | succ t ih =>
          intro x
          simp only [reachM]
          exact anyB_false.2 fun a _ => by rw [ih a]; rfl
      rw [none0 t c] at hre
      cases hre

end Go.Proofs.YtaldfpoolajoiaaDoor
