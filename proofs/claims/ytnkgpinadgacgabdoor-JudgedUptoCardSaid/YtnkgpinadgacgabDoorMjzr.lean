/- Several texts in one: Pb, Lm. -/
import Derived.Test.YtnkgpinadgacgabDoorMjo
import Derived.Test.YtnkgpinadgacgabDoorMjzq
namespace Go.Proofs.YtnkgpinadgacgabDoor
open Go.RowKit M SM
/-- The lists that are judged: the first n that came in, and none behind. -/
def cutP (n : Nat) (p : PlanM) : PlanM := ⟨fun i => if i < n then p.ad i else none, fun i => if i < n then p.len i else 0, fun i => if i < n then p.cap i else 0, p.num⟩

theorem cutP_len {n B : Nat} {p : PlanM} (hB : ∀ i, i < n → p.len i ≤ B) (i : Nat) : (cutP n p).len i ≤ B := by
  show (if i < n then p.len i else 0) ≤ B
  by_cases e : i < n
  · rw [if_pos e]; exact hB i e
  · rw [if_neg e]; exact Nat.zero_le _

def cutV (n : Nat) (p : PlanM) (i : Nat) : Value := .slice ((cutP n p).ad i) ((cutP n p).len i) ((cutP n p).cap i)

theorem cutV_in {n i : Nat} {p : PlanM} (h : i < n) : cutV n p i = .slice (p.ad i) (p.len i) (p.cap i) := by
  unfold cutV cutP
  simp only [if_pos h]

theorem cutV_out {n i : Nat} {p : PlanM} (h : ¬ i < n) : cutV n p i = .slice none 0 0 := by
  unfold cutV cutP
  simp only [if_neg h]

/-- The lists in memory. -/
theorem cut_at {w w0 : World} {base g cap K n m : Nat} {ap : Option Addr} {p : PlanM} (ho : w.ownsRow base 22 1 (.slice (some ⟨g, 0, none⟩) K cap) K ((List.range K).map (cutV n p))) (hm : m ≤ K) (hp : PlanAt w0 ap n p) (hb : Below w0.heap.size w0 w) : PlanAt w (some ⟨g, 0, none⟩) m (cutP n p) := fun _ =>
  ⟨g, 0, rfl, fun i hi => by
    refine ⟨?_, fun h0 => ?_⟩
    · rw [Nat.zero_add, own_cell ho (by omega), List.getElem?_map, List.getElem?_range (by omega)]; rfl
    · by_cases e : i < n
      · obtain ⟨b, off, _, hpi⟩ := hp (by omega)
        have h1 := ((hpi i e).2).below hb
        have e1 : (cutP n p).ad i = p.ad i := if_pos e
        have e2 : (cutP n p).len i = p.len i := if_pos e
        rw [e1, e2]
        exact h1 (by rw [← e2]; exact h0)
      · exfalso
        have : (cutP n p).len i = 0 := if_neg e
        omega⟩

theorem planC_at {w : World} {gp m : Nat} {h T c : Nat → Nat} {p : Nat → Nat → Nat} (H : PlanC w gp m h T c p) : PlanAt w (some ⟨gp, 0, none⟩) m ⟨fun i => some ⟨h i, 0, none⟩, fun i => T i + 1, c, fun i s => ((p i s : Nat) : Int)⟩ := fun _ =>
  ⟨gp, 0, rfl, fun i hi => ⟨by rw [Nat.zero_add]; exact (H i hi).1, fun _ => ⟨h i, 0, rfl, fun j hj => by rw [Nat.zero_add]; exact (H i hi).2 j (by have hj : j < T i + 1 := hj; omega)⟩⟩⟩

section
variable {ro co bu : Int} {cs : ByteArray} {m : Nat} {fr tt : Nat → Int} {T : Nat → Nat} {p : Nat → Nat → Nat}
/-- A good plan has no fault. -/
theorem goodK_none (hck : (checkM ro co cs m fr tt bu).1 = 0) (hG : GoodK co cs m fr tt T p) : allF 3 co cs fr tt m (fun i => T i + 1) (fun i s => ((p i s : Nat) : Int)) = [] := by
  obtain ⟨hm4, hfree⟩ := carts_free hck
  have P := goodK_P hck hG
  refine good_none P (fun i hi => ?_) (fun i hi => ?_) (fun i hi j hj => ?_) (fun i hi => ?_)
  · obtain ⟨z, e, _⟩ := free_nat (hfree i hi).1
    rw [cellsOf_at hi, e]; rfl
  · obtain ⟨z, e, _⟩ := free_nat (hfree i hi).2
    rw [cellsOf_at hi, e]; rfl
  · obtain ⟨f, c, ef, ec, hp, hin, _⟩ := hG.path i hi
    obtain ⟨_, _, _, hst⟩ := isPath_parts hp
    have h1 := hst j (by omega)
    rw [kmay_adj (hin j (by omega))] at h1
    exact h1
  · obtain ⟨f, c, ef, ec, hp, hin, _⟩ := hG.path i hi
    obtain ⟨h0, _, _, _⟩ := isPath_parts hp
    rw [h0, ← ef]
    exact (hfree i hi).1

end
end Go.Proofs.YtnkgpinadgacgabDoor

namespace Go.Proofs.YtnkgpinadgacgabDoor
open M SM BM
/-- Where a cell comes to lie. -/
def mirC (C c : Nat) : Nat := C * (c / C) + (C - 1 - c % C)

section
variable {C : Nat}
theorem mir_div (hC : 0 < C) (c : Nat) : mirC C c / C = c / C := by
  unfold mirC
  rw [Nat.mul_add_div hC, Nat.div_eq_of_lt (show C - 1 - c % C < C by omega), Nat.add_zero]

theorem mir_mod (hC : 0 < C) (c : Nat) : mirC C c % C = C - 1 - c % C := by
  unfold mirC
  rw [Nat.mul_add_mod, Nat.mod_eq_of_lt (by omega)]

theorem mir_mir (hC : 0 < C) (c : Nat) : mirC C (mirC C c) = c := by
  have h := Nat.mod_lt c hC
  have h2 := Nat.div_add_mod c C
  have e : mirC C (mirC C c) = C * (mirC C c / C) + (C - 1 - mirC C c % C) := rfl
  rw [e, mir_div hC, mir_mod hC]
  omega

theorem mir_lt {R : Nat} (hC : 0 < C) {c : Nat} (h : c < R * C) : mirC C c < R * C := by
  have h1 : c / C < R := (Nat.div_lt_iff_lt_mul hC).2 h
  have h2 : C * (c / C) + C ≤ R * C := by
    have h3 := Nat.mul_le_mul_left C (show c / C + 1 ≤ R from h1)
    rw [Nat.mul_succ, Nat.mul_comm C R] at h3
    exact h3
  unfold mirC
  omega

theorem near_mir (hC : 0 < C) (a b : Nat) : nearM (C : Int) (mirC C a : Nat) (mirC C b : Nat) = nearM (C : Int) (a : Nat) (b : Nat) := by
  rw [Bool.eq_iff_iff, near_iff, near_iff]
  rw [← Int.natCast_ediv, ← Int.natCast_ediv, ← Int.natCast_emod, ← Int.natCast_emod, mir_div hC, mir_div hC, mir_mod hC, mir_mod hC]
  rw [← Int.natCast_ediv, ← Int.natCast_ediv, ← Int.natCast_emod, ← Int.natCast_emod]
  have h1 := Nat.mod_lt a hC
  have h2 := Nat.mod_lt b hC
  omega

end
/-- The second yard's cells are the first's, seen from the other side. -/
structure MirY (C : Nat) (cs cs' : ByteArray) : Prop where
  size : cs'.size = cs.size
  lt : ∀ c, c < cs.size → mirC C c < cs.size
  free : ∀ c : Nat, c < cs.size → freeB cs' (mirC C c : Nat) = freeB cs (c : Nat)
  bad : ∀ c : Nat, c < cs.size → badB cs' (mirC C c) = badB cs c

theorem MirY.symm {C : Nat} {cs cs' : ByteArray} (hC : 0 < C) (h : MirY C cs cs') : MirY C cs' cs :=
  ⟨h.size.symm, fun c hc => by rw [h.size] at hc ⊢; exact h.lt c hc, fun c hc => by
    rw [h.size] at hc
    have := h.free _ (h.lt c hc)
    rw [mir_mir hC] at this
    exact this.symm, fun c hc => by
    rw [h.size] at hc
    have := h.bad _ (h.lt c hc)
    rw [mir_mir hC] at this
    exact this.symm⟩

section
variable {C : Nat} {cs cs' : ByteArray}
theorem may_mir (hC : 0 < C) (H : MirY C cs cs') {a b : Nat} (ha : a < cs.size) (hb : b < cs.size) : mayM (C : Int) cs' (mirC C a : Nat) (mirC C b : Nat) = mayM (C : Int) cs (a : Nat) (b : Nat) := by
  have h1 := H.lt a ha
  unfold mayM
  rw [H.free b hb, near_mir hC, H.size]
  rw [show decide ((0 : Int) ≤ (mirC C a : Nat)) = true by simp, show decide (((mirC C a : Nat) : Int) < (cs.size : Int)) = true by simp; omega, show decide ((0 : Int) ≤ (a : Nat)) = true by simp, show decide (((a : Nat) : Int) < (cs.size : Int)) = true by simp; omega]

/-- A position, seen from the other side, the carts in the other order. -/
def mirP (C m : Nat) (p : List Nat) : List Nat := (List.range m).map fun i => mirC C (p.getD (m - 1 - i) 0)

theorem mirP_len (m : Nat) (p : List Nat) : (mirP C m p).length = m := by simp [mirP]

theorem mirP_at {m i : Nat} {p : List Nat} (h : i < m) : (mirP C m p).getD i 0 = mirC C (p.getD (m - 1 - i) 0) := by
  unfold mirP
  rw [List.getD_eq_getElem?_getD, List.getElem?_map, List.getElem?_range h]; rfl

theorem mirP_mirP (hC : 0 < C) {m : Nat} {p : List Nat} (h : p.length = m) : mirP C m (mirP C m p) = p :=
  list_ext (d := 0) (n := m) (mirP_len _ _) h fun i hi => by
    rw [mirP_at hi, mirP_at (by omega), mir_mir hC, show m - 1 - (m - 1 - i) = i by omega]

theorem mir_inj (hC : 0 < C) {a b : Nat} (h : mirC C a = mirC C b) : a = b := by rw [← mir_mir hC a, h, mir_mir hC]

theorem pos_mir (hC : 0 < C) (H : MirY C cs cs') {m : Nat} {p : List Nat} (hp : PosG cs m p) : PosG cs' m (mirP C m p) := by
  refine ⟨⟨mirP_len _ _, fun k hk => ?_⟩, fun i k hi hk hne e => ?_⟩
  · obtain ⟨h1, h2⟩ := hp.1.2 (m - 1 - k) (by omega)
    rw [mirP_at hk, H.size, H.free _ h1]
    exact ⟨H.lt _ h1, h2⟩
  · rw [mirP_at hi, mirP_at hk] at e
    exact hp.2 (m - 1 - i) (m - 1 - k) (by omega) (by omega) (by omega) (mir_inj hC e)

theorem step_mir (hC : 0 < C) (H : MirY C cs cs') {m : Nat} {p q : List Nat} (hp : PosG cs m p) (h : q ∈ growL (mayN (C : Int) cs) p m) : mirP C m q ∈ growL (mayN (C : Int) cs') (mirP C m p) m := by
  obtain ⟨h1, h2⟩ := growL_mem.1 h
  have ap : ∀ j k, j < m → k < m → j ≠ k → q.getD k 0 ≠ q.getD j 0 ∧ ¬ (q.getD k 0 = p.getD j 0 ∧ q.getD j 0 = p.getD k 0) := fun j k hj hk hne => by
    rcases Nat.lt_or_gt_of_ne hne with e | e
    · exact fit_apart (h2 k hk).2 e
    · obtain ⟨g1, g2⟩ := fit_apart (h2 j hj).2 e
      exact ⟨fun hh => g1 hh.symm, fun hh => g2 ⟨hh.2, hh.1⟩⟩
  refine growL_mem.2 ⟨mirP_len _ _, fun k hk => ⟨?_, fit_of fun j hj => ?_⟩⟩
  · obtain ⟨g1, g2⟩ := mayN_mem.1 (h2 (m - 1 - k) (by omega)).1
    obtain ⟨g3, _⟩ := hp.1.2 (m - 1 - k) (by omega)
    rw [mirP_at hk, mirP_at hk]
    exact mayN_mem.2 ⟨by rw [H.size]; exact H.lt _ g1, by rw [may_mir hC H g3 g1]; exact g2⟩
  · have hjm : j < m := by omega
    rw [mirP_at hk, mirP_at hjm, mirP_at hk, mirP_at hjm]
    obtain ⟨g1, g2⟩ := ap (m - 1 - j) (m - 1 - k) (by omega) (by omega) (by omega)
    exact ⟨fun e => g1 (mir_inj hC e), fun e => g2 ⟨mir_inj hC e.1, mir_inj hC e.2⟩⟩

/-- What is told goes over by a map that goes both ways. -/
theorem told_map {S S' : List Nat → List Nat → Prop} {G : List Nat → Prop} {φ : List Nat → List Nat} {s g : List Nat} {bu : Int} {n : Nat} {d : Bool} (hs : G s) (hg : G g) (hG : ∀ p q, G p → S p q → G q) (hinj : ∀ p q, G p → G q → φ p = φ q → p = q) (hfw : ∀ p q, G p → S p q → S' (φ p) (φ q)) (hbw : ∀ p q', G p → S' (φ p) q' → ∃ q, S p q ∧ q' = φ q)
    (h : M.Told S s g bu n d) : M.Told S' (φ s) (φ g) bu n d := by
  have come : ∀ {k : Nat} {q : List Nat}, reachN S s k q → G q ∧ reachN S' (φ s) k (φ q) := by
    intro k
    induction k with
    | zero => intro q hq; rw [show q = s from hq]; exact ⟨hs, rfl⟩
    | succ k ih =>
      rintro q ⟨p, hp, hpq⟩
      obtain ⟨h1, h2⟩ := ih hp
      exact ⟨hG p q h1 hpq, φ p, h2, hfw p q h1 hpq⟩
  have work : ∀ {L : List (List Nat)} {i : Nat}, Work S s L i → Work S' (φ s) (L.map φ) i ∧ ∀ q, q ∈ L → G q := fun {L i} hW => by
    have hGL : ∀ q, q ∈ L → G q := fun q hq => by
      obtain ⟨k, hk⟩ := hW.come q hq
      exact (come hk).1
    refine ⟨⟨?_, fun q hq => ?_, List.mem_map_of_mem hW.start, by rw [List.length_map]; exact hW.le, fun j hj q hq => ?_⟩, hGL⟩
    · exact List.pairwise_map.2 (hW.nodup.imp_of_mem fun ha hb hne e => hne (hinj _ _ (hGL _ ha) (hGL _ hb) e))
    · obtain ⟨p, hp, rfl⟩ := List.mem_map.1 hq
      obtain ⟨k, hk⟩ := hW.come p hp
      exact ⟨k, (come hk).2⟩
    · have hjL : j < L.length := by have := hW.le; omega
      rw [List.getElem_map] at hq
      obtain ⟨r, hr, rfl⟩ := hbw _ _ (hGL _ (List.getElem_mem hjL)) hq
      exact List.mem_map_of_mem (hW.done j hj r hr)
  rcases h with ⟨L, hW, hn, hd⟩ | ⟨L, i, hW, hn, hd⟩
  · obtain ⟨h1, h2⟩ := work hW
    refine .inl ⟨L.map φ, by rw [List.length_map]; exact h1, by rw [List.length_map]; exact hn, ?_⟩
    rw [hd, Bool.eq_iff_iff, decide_eq_true_eq, decide_eq_true_eq]
    refine ⟨fun h => List.mem_map_of_mem h, fun h => ?_⟩
    obtain ⟨p, hp, e⟩ := List.mem_map.1 h
    rw [← hinj p g (h2 p hp) hg e]
    exact hp
  · exact .inr ⟨L.map φ, i, (work hW).1, by rw [List.length_map]; exact hn, hd⟩

theorem told_mir {ro : Int} {m : Nat} {s g : List Nat} {bu : Int} {n : Nat} {d : Bool} (h1 : 1 ≤ C) (h2 : C ≤ 6) (hsz : (cs.size : Int) = ro * (C : Int)) (H : MirY C cs cs') (hs : PosG cs m s) (hg : PosG cs m g)
    (h : M.Told (stepP ro (C : Int) cs m) s g bu n d) : M.Told (stepP ro (C : Int) cs' m) (mirP C m s) (mirP C m g) bu n d := by
  have hC : 0 < C := h1
  have i1 : (1 : Int) ≤ (C : Int) := by omega
  have i2 : (C : Int) ≤ 6 := by omega
  have hsz' : (cs'.size : Int) = ro * (C : Int) := by rw [H.size]; exact hsz
  refine told_map (G := PosG cs m) hs hg (fun p q hp hq => hp.next hq) (fun p q hp hq e => ?_) (fun p q hp hq => ?_) (fun p q' hp hq => ?_) h
  · rw [← mirP_mirP hC hp.1.1, e, mirP_mirP hC hq.1.1]
  · exact (step_same i1 i2 hsz' (pos_mir hC H hp).1).2 (step_mir hC H hp ((step_same i1 i2 hsz hp.1).1 hq))
  · have hp' := pos_mir hC H hp
    have h3 := (step_same i1 i2 hsz' hp'.1).1 hq
    have h4 := step_mir hC (H.symm hC) hp' h3
    rw [mirP_mirP hC hp.1.1] at h4
    exact ⟨mirP C m q', (step_same i1 i2 hsz hp.1).2 h4, (mirP_mirP hC (growL_mem.1 h3).1).symm⟩

theorem sumN_rev (T : Nat → Nat) : ∀ m : Nat, sumN (fun i => T (m - 1 - i)) m = sumN T m
  | 0 => rfl
  | m + 1 => by
    have ih := sumN_rev T m
    rw [sumN_shift]
    show T (m + 1 - 1 - 0) + sumN (fun i => T (m + 1 - 1 - (i + 1))) m = sumN T m + T m
    rw [sumN_same (g := fun i => T (m - 1 - i)) (fun i hi => by show T (m + 1 - 1 - (i + 1)) = T (m - 1 - i); congr 1; omega), ih, show m + 1 - 1 - 0 = m by omega]
    omega

/-- A good plan is one from the other side. -/
theorem good_mir {m : Nat} {fr tt fr' tt' : Nat → Int} {T : Nat → Nat} {p : Nat → Nat → Nat} (hC : 0 < C) (H : MirY C cs cs') (hfr : ∀ i, i < m → fr' i = (mirC C (fr (m - 1 - i)).toNat : Nat)) (htt : ∀ i, i < m → tt' i = (mirC C (tt (m - 1 - i)).toNat : Nat)) (hG : GoodK (C : Int) cs m fr tt T p) :
    GoodK (C : Int) cs' m fr' tt' (fun i => T (m - 1 - i)) (fun i s => mirC C (p (m - 1 - i) s)) := by
  have wm : ∀ i t, whM (T i) (fun s => mirC C (p i s)) t = mirC C (whM (T i) (p i) t) := fun i t => by
    unfold whM
    split <;> rfl
  refine ⟨fun i hi => ?_, fun i k hki hi t => ?_⟩
  · obtain ⟨f, c, ef, ec, hp, hin, hT⟩ := hG.path (m - 1 - i) (by omega)
    obtain ⟨h0, hTc, hw, hst⟩ := isPath_parts hp
    refine ⟨mirC C f, mirC C c, by rw [hfr i hi, ef]; rfl, by rw [htt i hi, ec]; rfl, ?_, fun s hs => by rw [H.size]; exact H.lt _ (hin s hs), hT⟩
    refine isPath_of (by rw [h0]) (by rw [hTc]) (fun h e => hw (T (m - 1 - i) - 1) (by omega) (mir_inj hC e)) (fun s hs => ⟨by rw [H.size]; exact H.lt _ (hin s (by omega)), ?_⟩)
    rw [may_mir hC H (hin s (by omega)) (hin (s + 1) (by omega))]
    have h3 := hst s hs
    rw [kmay_adj (hin s (by omega))] at h3
    exact h3
  · have h3 := hG.meet (m - 1 - k) (m - 1 - i) (by omega) (by omega) t
    show whM (T (m - 1 - k)) (fun s => mirC C (p (m - 1 - k) s)) t ≠ whM (T (m - 1 - i)) (fun s => mirC C (p (m - 1 - i) s)) t ∧ ¬ (whM (T (m - 1 - k)) (fun s => mirC C (p (m - 1 - k) s)) t = whM (T (m - 1 - i)) (fun s => mirC C (p (m - 1 - i) s)) (t + 1) ∧ whM (T (m - 1 - i)) (fun s => mirC C (p (m - 1 - i) s)) t = whM (T (m - 1 - k)) (fun s => mirC C (p (m - 1 - k) s)) (t + 1))
    rw [wm, wm, wm, wm]
    exact ⟨fun e => h3.1 (mir_inj hC e).symm, fun e => h3.2 ⟨mir_inj hC e.2, mir_inj hC e.1⟩⟩

end
/-- What Solve tells is a good plan's cost. -/
theorem cost_good {F0 : Nat} {ro co bu : Int} {cs : ByteArray} {m n : Nat} {d : Bool} {fr tt : Nat → Int} (hF : 200400000 ≤ F0) (hck : (checkM ro co cs m fr tt bu).1 = 0) (h : M.Told (stepP ro co cs m) (cellsOf fr m) (cellsOf tt m) bu n d) (hn : ¬ bu < n) (hd : d = true) :
    ∃ T p, GoodK co cs m fr tt T p ∧ costY F0 ro co cs m fr tt = sumN T m := by
  have hb20 := (check_bu hck).2.1
  rcases h with ⟨L, hW, hnL, hd2⟩ | ⟨L, i, _, _, q⟩
  · have hg : cellsOf tt m ∈ L := of_decide_eq_true (by rw [← hd2]; exact hd)
    obtain ⟨b, s', hsol⟩ := sol_some F0 hF hck hW hg (by omega)
    obtain ⟨_, _, hG, hk⟩ := sol_plan hF hck hW hg (by omega) hsol
    refine ⟨_, _, hG, ?_⟩
    rw [← hk]
    unfold costY
    rw [hsol]
  · exact absurd q hn

/-- Verdict, positions and cost are the same from the other side. -/
theorem mir_same {F0 : Nat} {ro bu : Int} {C m n n' : Nat} {d d' : Bool} {cs cs' : ByteArray} {fr tt fr' tt' : Nat → Int} (hF : 200400000 ≤ F0) (H : MirY C cs cs') (hfr : ∀ i, i < m → fr' i = (mirC C (fr (m - 1 - i)).toNat : Nat)) (htt : ∀ i, i < m → tt' i = (mirC C (tt (m - 1 - i)).toNat : Nat))
    (hck : (checkM ro (C : Int) cs m fr tt bu).1 = 0) (hck' : (checkM ro (C : Int) cs' m fr' tt' bu).1 = 0) (h : M.Told (stepP ro (C : Int) cs m) (cellsOf fr m) (cellsOf tt m) bu n d) (h' : M.Told (stepP ro (C : Int) cs' m) (cellsOf fr' m) (cellsOf tt' m) bu n' d') :
    (bu < n ↔ bu < n') ∧ (¬ bu < n → n = n' ∧ d = d' ∧ (d = true → costY F0 ro (C : Int) cs m fr tt = costY F0 ro (C : Int) cs' m fr' tt')) := by
  obtain ⟨s1, s2, s3⟩ := checkM_good hck
  obtain ⟨r3, r4⟩ := side_bd s2
  have h1 : 1 ≤ C := by omega
  have h2 : C ≤ 6 := by omega
  have hC : 0 < C := h1
  obtain ⟨hp1, hp2⟩ := cells_pos hck
  have cells : ∀ {f f' : Nat → Int}, (∀ i, i < m → f' i = (mirC C (f (m - 1 - i)).toNat : Nat)) → cellsOf f' m = mirP C m (cellsOf f m) := fun {f f'} hf =>
    list_ext (d := 0) (n := m) (cellsOf_len _ _) (mirP_len _ _) fun i hi => by
      rw [cellsOf_at hi, mirP_at hi, cellsOf_at (show m - 1 - i < m by omega), hf i hi, Int.toNat_natCast]
  have h3 := told_mir h1 h2 s3 H hp1 hp2 h
  rw [← cells hfr, ← cells htt] at h3
  obtain ⟨k1, k2⟩ := M.Told.all h3 h'
  refine ⟨k1, fun hn => ?_⟩
  obtain ⟨e1, e2⟩ := k2 hn
  refine ⟨e1, e2, fun hd => ?_⟩
  have hn' : ¬ bu < n' := fun e => hn (k1.2 e)
  obtain ⟨T, p, hG, hT⟩ := cost_good hF hck h hn hd
  obtain ⟨T', p', hG', hT'⟩ := cost_good hF hck' h' hn' (by rw [← e2]; exact hd)
  have g1 := (goodK_told hF hck' (good_mir hC H hfr htt hG) h' hn').2
  have back : ∀ {f f' : Nat → Int}, (∀ i, i < m → ∃ z : Nat, f i = (z : Int)) → (∀ i, i < m → f' i = (mirC C (f (m - 1 - i)).toNat : Nat)) → ∀ i, i < m → f i = (mirC C (f' (m - 1 - i)).toNat : Nat) := fun {f f'} hz hf i hi => by
    rw [hf (m - 1 - i) (by omega), show m - 1 - (m - 1 - i) = i by omega, Int.toNat_natCast, mir_mir hC]
    obtain ⟨z, e⟩ := hz i hi
    rw [e]; rfl
  have zf : ∀ i, i < m → ∃ z : Nat, fr i = (z : Int) := fun i hi => by
    obtain ⟨z, e, _⟩ := free_nat ((carts_free hck).2 i hi).1
    exact ⟨z, e⟩
  have zt : ∀ i, i < m → ∃ z : Nat, tt i = (z : Int) := fun i hi => by
    obtain ⟨z, e, _⟩ := free_nat ((carts_free hck).2 i hi).2
    exact ⟨z, e⟩
  have g2 := (goodK_told hF hck (good_mir hC (H.symm hC) (back zf hfr) (back zt htt) hG') h hn).2
  rw [sumN_rev] at g1 g2
  omega

end Go.Proofs.YtnkgpinadgacgabDoor
