/- What Lanes asks of the layers: what is true of them. -/
import Derived.Test.YtnkgpinadgacgaaDoorEo
import Derived.Test.YtnkgpinadgacgaaDoorBp
namespace Go.Proofs.YtnkgpinadgacgaaDoor
open Go.RowKit M

variable {co : Int} {cs : ByteArray} {n : Nat} {R : Nat → RuleM} {f c T : Nat}

/-- A walk that is a path and keeps the rules. -/
theorem kept_ok {p : Nat → Nat} (hr : rulesB cs.size n R = true) (hc : freeB cs c = true) (hp : isPathM co cs f c T p = true) (hin : ∀ s, s ≤ T → p s < cs.size) (hk : keepsM n R T p = true) : PathOK co cs n R f c T p := by
  obtain ⟨h0, hT, _, hst⟩ := isPath_parts hp
  have hh := keeps_hit hr hc hp hin hk
  unfold hitM at hh
  rw [Bool.and_eq_true] at hh
  refine ⟨h0, hT, fun s hs e => ?_, ?_, fun t ht => ?_, hh.2, hin⟩
  · unfold isPathM at hp
    simp only [Bool.and_eq_true] at hp
    have h := hp.1.2
    rw [show T - 1 = s by omega, e, hT] at h
    have hp0 : 0 < T := by omega
    simp [hp0] at h
  · have k := (keeps_at hr hk 0).1
    rw [wh_in (Nat.zero_le _), h0] at k
    exact k
  · have k1 := (keeps_at hr hk t).2
    have k2 := (keeps_at hr hk (t + 1)).1
    rw [wh_in (by omega), wh_in (by omega)] at k1
    rw [wh_in (by omega)] at k2
    unfold goesM
    rw [← kmay_adj (hin t (by omega)), hst t ht, k1, k2]; rfl

theorem ok_reach {p : Nat → Nat} (h : PathOK co cs n R f c T p) : ∀ t, t ≤ T → reachM co cs n R f t (p t) = true
  | 0, _ => by
    simp only [reachM, Bool.and_eq_true, beq_iff_eq]
    exact ⟨h.first, by rw [h.first]; exact h.on0⟩
  | t + 1, ht => by
    simp only [reachM]
    refine anyB_of (i := p t) ?_ (h.inN t (by omega))
    simp only [Bool.and_eq_true]
    exact ⟨ok_reach h t (by omega), h.step t (by omega)⟩

theorem ok_bk {p : Nat → Nat} (h : PathOK co cs n R f c T p) : ∀ j, j ≤ T → bkM co cs n R c T j (p (T - j)) = true
  | 0, _ => by
    show (p (T - 0) == c && staysM co cs n R c T) = true
    rw [Nat.sub_zero, h.last, h.stay]; simp
  | j + 1, hj => by
    rw [bk_next (by omega), anyB_iff]
    refine ⟨p (T - j), h.inN _ (by omega), ?_⟩
    have hs := h.step (T - (j + 1)) (by omega)
    rw [show T - (j + 1) + 1 = T - j by omega] at hs
    rw [ok_bk h j (by omega), hs]
    by_cases e : j = 0
    · subst e
      have hw := h.nowait (T - (0 + 1)) (by omega)
      rw [Nat.sub_zero, h.last]
      simpa using hw
    · simp [e]

theorem ok_out {p : Nat → Nat} (h : PathOK co cs n R f c T p) {t : Nat} (ht : t ≤ T) : p t ∈ outTo co cs n R f c T t cs.size := by
  rw [outTo_mem]
  have hb := ok_bk h (T - t) (by omega)
  rw [show T - (T - t) = t by omega] at hb
  exact ⟨h.inN t ht, hb, ok_reach h t ht⟩

theorem ok_full {p : Nat → Nat} (h : PathOK co cs n R f c T p) : ∀ t, t ≤ T → outTo co cs n R f c T t cs.size ≠ [] := fun _ ht e => by
  have := ok_out h ht
  rw [e] at this
  cases this

theorem lay_miss (hr : rulesB cs.size n R = true) (hff : freeB cs f = true) (hc : freeB cs c = true) (h : hitM co cs n R f c T = false) : layO co cs n R f c T = none := by
  refine lay_none hr hff hc ⟨T, Nat.le_refl _, ?_⟩
  cases e : outTo co cs n R f c T T cs.size with
  | nil => rfl
  | cons x l =>
    have hx : x ∈ outTo co cs n R f c T T cs.size := by rw [e]; simp
    rw [outTo_mem, Nat.sub_self] at hx
    have h2 : (x == c && staysM co cs n R c T) = true := hx.2.1
    rw [Bool.and_eq_true] at h2
    have hxc : x = c := by simpa using h2.1
    subst hxc
    unfold hitM at h
    rw [hx.2.2, h2.2] at h
    cases h

theorem out_rise (t : Nat) : (outTo co cs n R f c T t cs.size).Pairwise (· < ·) := by
  unfold outTo
  exact List.Pairwise.filter _ List.pairwise_lt_range

theorem rise_at {L : List Nat} (h : L.Pairwise (· < ·)) {i : Nat} (hi : i + 1 < L.length) : L.getD i 0 < L.getD (i + 1) 0 := by
  rw [List.getD_eq_getElem?_getD, List.getD_eq_getElem?_getD, List.getElem?_eq_getElem hi, List.getElem?_eq_getElem (by omega)]
  exact List.pairwise_iff_getElem.1 h i (i + 1) (by omega) hi (by omega)

theorem out_next {t a : Nat} (ht : t + 1 ≤ T) (h : a ∈ outTo co cs n R f c T t cs.size) : ∃ b, b ∈ outTo co cs n R f c T (t + 1) cs.size ∧ kmay co cs a b = true := by
  rw [outTo_mem] at h
  obtain ⟨ha, hb, hr⟩ := h
  rw [show T - t = (T - (t + 1)) + 1 by omega, bk_next (by omega), anyB_iff] at hb
  obtain ⟨b, hbN, hb⟩ := hb
  rw [Bool.and_eq_true, Bool.and_eq_true, show T - (T - (t + 1) + 1) = t by omega] at hb
  refine ⟨b, ?_, ?_⟩
  · rw [outTo_mem]
    refine ⟨hbN, hb.1.1, ?_⟩
    simp only [reachM]
    refine anyB_of (i := a) ?_ ha
    simp only [Bool.and_eq_true]
    exact ⟨hr, hb.1.2⟩
  · rw [kmay_adj ha]; exact goes_adj hb.1.2

theorem out_prev {t b : Nat} (ht : t + 1 ≤ T) (hne : outTo co cs n R f c T t cs.size ≠ []) (h : b ∈ outTo co cs n R f c T (t + 1) cs.size) : ∃ a, a ∈ outTo co cs n R f c T t cs.size ∧ kmay co cs a b = true := by
  rw [outTo_mem] at h
  obtain ⟨hbN, hb, hr⟩ := h
  by_cases hl : t + 1 = T
  · obtain ⟨x, hx, hxb, hxr⟩ := out_some hne
    have hbc := hb
    rw [show T - (t + 1) = 0 by omega] at hbc
    have hbc : (b == c && staysM co cs n R c T) = true := hbc
    rw [Bool.and_eq_true] at hbc
    have e1 : b = c := by simpa using hbc.1
    have hxb2 := hxb
    rw [show T - t = 0 + 1 by omega, bk_next (by omega), anyB_iff] at hxb
    obtain ⟨y, hy, hxy⟩ := hxb
    rw [Bool.and_eq_true, Bool.and_eq_true] at hxy
    have h4 : (y == c && staysM co cs n R c T) = true := hxy.1.1
    rw [Bool.and_eq_true] at h4
    have e2 : y = c := by simpa using h4.1
    refine ⟨x, outTo_mem.2 ⟨hx, hxb2, hxr⟩, ?_⟩
    rw [kmay_adj hx, e1, ← e2]; exact goes_adj hxy.1.2
  · simp only [reachM] at hr
    rw [anyB_iff] at hr
    obtain ⟨a, ha, hr⟩ := hr
    rw [Bool.and_eq_true] at hr
    refine ⟨a, outTo_mem.2 ⟨ha, ?_, hr.1⟩, by rw [kmay_adj ha]; exact goes_adj hr.2⟩
    rw [show T - t = (T - (t + 1)) + 1 by omega, bk_next (by omega), anyB_iff]
    refine ⟨b, hbN, ?_⟩
    rw [hb, show T - (T - (t + 1) + 1) = t by omega, hr.2]
    have e : ¬ (T - (t + 1) = 0) := by omega
    simp [e]

theorem one_of {L : List Nat} {x : Nat} (hp : L.Pairwise (· < ·)) (hne : L ≠ []) (h : ∀ y, y ∈ L → y = x) : L.length = 1 := by
  cases L with
  | nil => exact absurd rfl hne
  | cons a L =>
    cases L with
    | nil => rfl
    | cons b L =>
      have h1 := h a (by simp)
      have h2 := h b (by simp)
      rw [List.pairwise_cons] at hp
      have := hp.1 b (by simp)
      omega

theorem out_first (hne : outTo co cs n R f c T 0 cs.size ≠ []) : (outTo co cs n R f c T 0 cs.size).length = 1 :=
  one_of (x := f) (out_rise 0) hne fun y hy => by
    rw [outTo_mem] at hy
    have h2 : (y == f && onM n R y 0) = true := hy.2.2
    rw [Bool.and_eq_true] at h2
    simpa using h2.1

theorem out_last (hne : outTo co cs n R f c T T cs.size ≠ []) : (outTo co cs n R f c T T cs.size).length = 1 :=
  one_of (x := c) (out_rise T) hne fun y hy => by
    rw [outTo_mem, Nat.sub_self] at hy
    have h2 : (y == c && staysM co cs n R c T) = true := hy.2.1
    rw [Bool.and_eq_true] at h2
    simpa using h2.1

end Go.Proofs.YtnkgpinadgacgaaDoor
