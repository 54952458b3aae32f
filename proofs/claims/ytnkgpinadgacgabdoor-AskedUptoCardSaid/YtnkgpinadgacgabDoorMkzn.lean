/- Several texts in one: Hd. -/
import Derived.Test.YtnkgpinadgacgabDoorMkzj
import Derived.Test.YtnkgpinadgacgabDoorMkzh
namespace Go.Proofs.YtnkgpinadgacgabDoor
open M SM BM
/-- No two carts in one cell. -/
def Dst (m : Nat) (p : List Nat) : Prop := ∀ i k, i < m → k < m → i ≠ k → p.getD i 0 ≠ p.getD k 0

/-- A position as it may be. -/
def PosG (cs : ByteArray) (m : Nat) (p : List Nat) : Prop := Good cs m p ∧ Dst m p

section
variable {ro co : Int} {cs : ByteArray} {m : Nat}
theorem grow_dst {step : Nat → List Nat} {p q : List Nat} (h : q ∈ growL step p m) : Dst m q := by
  have h2 := (growL_mem.1 h).2
  have key : ∀ i k, i < m → k < i → q.getD i 0 ≠ q.getD k 0 := fun i k hi hk => (fit_apart (h2 i hi).2 hk).1
  intro i k hi hk hne e
  rcases Nat.lt_or_gt_of_ne hne with h | h
  · exact key k i hk h e.symm
  · exact key i k hi h e

theorem PosG.next {p q : List Nat} (h : PosG cs m p) (hq : q ∈ growL (mvN ro co cs) p m) : PosG cs m q := ⟨h.1.next hq, grow_dst hq⟩

theorem mayN_free {c z : Nat} (h : z ∈ mayN co cs c) : z < cs.size ∧ freeB cs (z : Nat) = true ∧ nearM co c z = true := by
  obtain ⟨h1, h2⟩ := mayN_mem.1 h
  unfold mayM at h2
  simp only [Bool.and_eq_true, decide_eq_true_eq] at h2
  exact ⟨h1, h2.1, h2.2.2.2⟩

theorem mayN_turn {c z : Nat} (hc : c < cs.size) (hf : freeB cs (c : Nat) = true) (h : z ∈ mayN co cs c) : c ∈ mayN co cs z := by
  obtain ⟨h1, h2, h3⟩ := mayN_free h
  refine mayN_mem.2 ⟨hc, ?_⟩
  unfold mayM
  simp only [Bool.and_eq_true, decide_eq_true_eq]
  exact ⟨hf, by omega, by omega, by rw [near_comm]; exact h3⟩

/-- Each step may be taken back. -/
theorem step_turn {p q : List Nat} (hp : PosG cs m p) (h : q ∈ growL (mayN co cs) p m) : p ∈ growL (mayN co cs) q m := by
  obtain ⟨h1, h2⟩ := growL_mem.1 h
  refine growL_mem.2 ⟨hp.1.1, fun k hk => ⟨mayN_turn (hp.1.2 k hk).1 (hp.1.2 k hk).2 (h2 k hk).1, fit_of fun j hj => ⟨hp.2 k j hk (by omega) (by omega), fun hh => ?_⟩⟩⟩
  exact (fit_apart (h2 k hk).2 hj).2 ⟨hh.2.symm, hh.1.symm⟩

theorem step_same {p q : List Nat} (h1 : 1 ≤ co) (h2 : co ≤ 6) (hsz : (cs.size : Int) = ro * co) (hp : Good cs m p) : q ∈ growL (mvN ro co cs) p m ↔ q ∈ growL (mayN co cs) p m := step_iff h1 h2 hsz hp

theorem step_both {p q : List Nat} (h1 : 1 ≤ co) (h2 : co ≤ 6) (hsz : (cs.size : Int) = ro * co) (hq : PosG cs m q) (hp : PosG cs m p) : p ∈ growL (mvN ro co cs) q m ↔ q ∈ growL (mayN co cs) p m :=
  ⟨fun h => step_turn hq ((step_same h1 h2 hsz hq.1).1 h), fun h => (step_same h1 h2 hsz hq.1).2 (step_turn hp h)⟩

/-- Each position that is come to is as it may be. -/
theorem come_pos {s : List Nat} (hs : PosG cs m s) : ∀ {n : Nat} {q : List Nat}, reachN (stepP ro co cs m) s n q → PosG cs m q
  | 0, q, h => by rw [show q = s from h]; exact hs
  | n + 1, q, ⟨p, hp, h⟩ => (come_pos hs hp).next h

theorem mv_near {c z : Nat} (h1 : 1 ≤ co) (h2 : co ≤ 6) (hsz : (cs.size : Int) = ro * co) (hc : c < cs.size) (hf : freeB cs (c : Nat) = true) (h : z ∈ mvN ro co cs c) : z < cs.size ∧ adjM co cs c z = true ∧ adjM co cs z c = true := by
  have h3 := (mvN_mem h1 h2 hsz hc hf).1 h
  exact ⟨(mayN_mem.1 h3).1, (mayN_mem.1 h3).2, (mayN_mem.1 (mayN_turn hc hf h3)).2⟩

/-- How far the cells of a position that is come to are. -/
theorem come_far {s : List Nat} {st : Nat → Nat → Int} (h1 : 1 ≤ co) (h2 : co ≤ 6) (hsz : (cs.size : Int) = ro * co) (hs : PosG cs m s) (hst : ∀ t, t < m → IsFar cs.size (adjM co cs) (s.getD t 0) (st t)) : ∀ {n : Nat} {q : List Nat}, reachN (stepP ro co cs m) s n q → ∀ t, t < m → 0 ≤ st t (q.getD t 0)
  | 0, q, h => fun t ht => by rw [show q = s from h, (hst t ht).zero]; exact Int.le_refl 0
  | n + 1, q, ⟨p, hp, h⟩ => fun t ht => by
    have g := come_far h1 h2 hsz hs hst hp t ht
    obtain ⟨_, h4⟩ := growL_mem.1 h
    have hpp := (come_pos hs hp).1.2 t ht
    obtain ⟨h5, h6, h7⟩ := mv_near h1 h2 hsz hpp.1 hpp.2 (h4 t ht).1
    exact ((hst t ht).next _ _ h5 hpp.1 h6 g).1

theorem sum_step {f g : Nat → Int} {u : Nat → Bool} : ∀ {n : Nat}, (∀ i, i < n → f i ≤ g i + (if u i = true then 1 else 0)) → sumTo f n ≤ sumTo g n + ((sumN (fun i => if u i = true then 1 else 0) n : Nat) : Int)
  | 0, _ => by simp [sumTo, sumN]
  | n + 1, h => by
    have ih := sum_step (n := n) (fun i hi => h i (by omega))
    have h2 := h n (by omega)
    simp only [sumTo, sumN]
    by_cases e : u n = true
    · rw [if_pos e] at h2 ⊢; omega
    · rw [if_neg e] at h2 ⊢; omega

/-- What the search is held against, of a yard whose positions were all come to. -/
theorem gnd_yard {s g : List Nat} {st : Nat → Nat → Int} {L : List (List Nat)} (h1 : 1 ≤ co) (h2 : co ≤ 6) (hsz : (cs.size : Int) = ro * co) (hN : cs.size ≤ 36) (hm : m ≤ 4) (hs : PosG cs m s) (hst : ∀ t, t < m → IsFar cs.size (adjM co cs) (s.getD t 0) (st t))
    (hW : Work (stepP ro co cs m) s L L.length) (hg : g ∈ L) (hL : L.length ≤ 20000) :
    Gnd (fun p => growL (mvN ro co cs) p m) (restF st m) m s g L ∧ (∀ p, p ∈ L → PosG cs m p ∧ PosOK m cs.size st p) := by
  have hpos : ∀ p, p ∈ L → PosG cs m p := fun p hp => by
    obtain ⟨n, hn⟩ := hW.come p hp
    exact come_pos hs hn
  have hok : ∀ p, p ∈ L → PosOK m cs.size st p := fun p hp => by
    obtain ⟨n, hn⟩ := hW.come p hp
    refine ⟨(hpos p hp).1.1, fun t ht => ((hpos p hp).1.2 t ht).1, fun t ht => ⟨come_far h1 h2 hsz hs hst hn t ht, ?_⟩⟩
    have := far_lt (hs.1.2 t ht).1 (hst t ht) ((hpos p hp).1.2 t ht).1
    omega
  have hshut : ∀ p, p ∈ L → ∀ q, q ∈ growL (mvN ro co cs) p m → q ∈ L := fun p hp q hq => by
    obtain ⟨j, hj, e⟩ := List.mem_iff_getElem.1 hp
    exact hW.done j hj q (by rw [e]; exact hq)
  refine ⟨⟨hW.nodup, hg, hshut, fun p hp => (hpos p hp).1.1, fun p => ?_, hm, hL, fun p hp q hq u => ?_, ?_⟩, fun p hp => ⟨hpos p hp, hok p hp⟩⟩
  · have h3 := growL_len (step := mvN ro co cs) (p := p) (mvN_le ro co cs) m
    have h4 : 5 ^ m ≤ 5 ^ 4 := Nat.pow_le_pow_right (by omega) hm
    show (growL (mvN ro co cs) p m).length ≤ 625
    omega
  · have hqL := hshut p hp q hq
    have h3 := (hok p hp).bd
    have h4 := (hok q hqL).bd
    obtain ⟨_, h5⟩ := growL_mem.1 hq
    have hs2 := sum_step (f := fun t => st t (p.getD t 0)) (g := fun t => st t (q.getD t 0)) (u := fun t => (backU m p u q).getD t false) (n := m) fun t ht => by
      obtain ⟨h6, h7, h8⟩ := mv_near h1 h2 hsz ((hpos p hp).1.2 t ht).1 ((hpos p hp).1.2 t ht).2 (h5 t ht).1
      have h9 := ((hst t ht).next _ _ ((hpos p hp).1.2 t ht).1 h6 h8 (h4 t ht).1).2
      show st t (p.getD t 0) ≤ st t (q.getD t 0) + _
      by_cases e : q.getD t 0 = p.getD t 0
      · rw [e]
        by_cases e2 : (backU m p u q).getD t false = true
        · rw [if_pos e2]; omega
        · rw [if_neg e2]; omega
      · have e2 : (backU m p u q).getD t false = true := by
          rw [backU_at ht, Bool.or_eq_true]
          exact .inr (bne_iff_ne.2 e)
        rw [if_pos e2]; omega
    rw [cntU_sum (backU_len m p u q)]
    have b1 := restF_is h3
    have b2 := restF_is h4
    omega
  · have h0 : ∀ n, n ≤ m → sumTo (fun t => st t (s.getD t 0)) n = 0 := by
      intro n
      induction n with
      | zero => intro _; rfl
      | succ n ih =>
        intro hn
        simp only [sumTo]
        rw [ih (by omega), (hst n (by omega)).zero]; rfl
    unfold restF
    rw [h0 m (Nat.le_refl _)]; rfl

/-- From the last position there is a way back to the first. -/
theorem way_yard {s g : List Nat} {st : Nat → Nat → Int} {L : List (List Nat)} (h1 : 1 ≤ co) (h2 : co ≤ 6) (hsz : (cs.size : Int) = ro * co) (hs : PosG cs m s)
    (hW : Work (stepP ro co cs m) s L L.length) (hg : g ∈ L) (G : Gnd (fun p => growL (mvN ro co cs) p m) (restF st m) m s g L) :
    ∃ j b K, BM.Way (E (fun p => growL (mvN ro co cs) p m) m L) j (s0 m g) b K ∧ b.1 = s := by
  obtain ⟨n, hn⟩ := hW.come g hg
  have key : ∀ (n : Nat) (q : List Nat), reachN (stepP ro co cs m) s n q → reachN (fun p q => PosG cs m p ∧ stepP ro co cs m p q) s n q := by
    intro n
    induction n with
    | zero => intro q h; exact h
    | succ n ih =>
      rintro q ⟨p, hp, h⟩
      exact ⟨p, ih p hp, come_pos hs hp, h⟩
  refine come_way G (S := fun p q => PosG cs m p ∧ stepP ro co cs m p q) (fun p q h => ?_) n g (List.replicate m false) 0 0 hg (by simp) (key n g hn) ⟨rfl, rfl⟩
  have hq := h.1.next h.2
  exact (step_both h1 h2 hsz hq h.1).2 ((step_same h1 h2 hsz h.1.1).1 h.2)

end
end Go.Proofs.YtnkgpinadgacgabDoor
