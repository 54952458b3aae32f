/- Several texts in one: Gj, Ha. -/
import Derived.Test.YtnkgpinadgacgaaDoorQc
namespace Go.Proofs.YtnkgpinadgacgaaDoor.SM
open HM BM M
section
variable {α : Type} {R : α → α → Nat → Prop}
theorem way_cons : ∀ {n : Nat} {x y z : α} {d K : Nat}, R x y d → BM.Way R n y z K → BM.Way R (n + 1) x z (d + K)
  | 0, x, y, z, d, K, h, W => by
    obtain ⟨e1, e2⟩ := W
    subst e1 e2
    exact ⟨x, 0, d, ⟨rfl, rfl⟩, h, by omega⟩
  | n + 1, x, y, z, d, K, h, W => by
    obtain ⟨c, k1, d1, W1, h1, e⟩ := W
    exact ⟨c, d + k1, d1, way_cons h W1, h1, by omega⟩

theorem way_trans : ∀ {n' n : Nat} {x y z : α} {K K' : Nat}, BM.Way R n x y K → BM.Way R n' y z K' → BM.Way R (n + n') x z (K + K')
  | 0, n, x, y, z, K, K', W, W' => by
    obtain ⟨e1, e2⟩ := W'
    subst e1 e2
    exact W
  | n' + 1, n, x, y, z, K, K', W, W' => by
    obtain ⟨c, k1, d1, W1, h1, e⟩ := W'
    exact ⟨c, K + k1, d1, way_trans W W1, h1, by omega⟩

/-- A way's first step. -/
theorem way_first : ∀ {n : Nat} {x z : α} {K : Nat}, BM.Way R (n + 1) x z K → ∃ y d K', R x y d ∧ BM.Way R n y z K' ∧ K = d + K'
  | 0, x, z, K, W => by
    obtain ⟨c, k1, d, ⟨e1, e2⟩, h, e⟩ := W
    subst e1 e2
    exact ⟨z, d, 0, h, ⟨rfl, rfl⟩, by omega⟩
  | n + 1, x, z, K, W => by
    obtain ⟨c, k1, d, W1, h, e⟩ := W
    obtain ⟨y, d', K', h', W', e'⟩ := way_first W1
    exact ⟨y, d', K' + d, h', ⟨c, K', d, W', h, rfl⟩, by omega⟩

end
/-- A step of the document's search: all go on but those that have come to stay; or one more, which is at its end, comes to stay. -/
def RS (rnx : List Nat → List (List Nat)) (m : Nat) (tt : List Nat) (a b : St) (d : Nat) : Prop :=
  (b.2 = a.2 ∧ b.1 ∈ rnx a.1 ∧ (∀ i, i < m → a.2.getD i false = true → b.1.getD i 0 = a.1.getD i 0) ∧ d = m - cntU a.2) ∨
    (b.1 = a.1 ∧ d = 0 ∧ ∃ i, i < m ∧ a.2.getD i false = false ∧ a.1.getD i 0 = tt.getD i 0 ∧ b.2 = a.2.set i true)

def notU (m : Nat) (u : List Bool) : List Bool := (List.range m).map fun i => !u.getD i false

theorem notU_at {m i : Nat} {u : List Bool} (hi : i < m) : (notU m u).getD i false = !u.getD i false := by
  unfold notU
  rw [List.getD_eq_getElem?_getD, List.getElem?_map, List.getElem?_range hi]
  rfl

theorem notU_len (m : Nat) (u : List Bool) : (notU m u).length = m := by simp [notU]

theorem cntU_not {m : Nat} {u : List Bool} (hu : u.length = m) : m - cntU (notU m u) = cntU u := by
  have e : sumN (fun _ => 1) m = m := by
    clear hu u
    induction m with
    | zero => rfl
    | succ m ih => simp only [sumN]; rw [ih]
  have h1 : cntU u + cntU (notU m u) = m := by
    rw [cntU_sum hu, cntU_sum (notU_len m u), ← sumN_add]
    refine (sumN_same fun i hi => ?_).trans e
    rw [notU_at hi]
    cases u.getD i false <;> rfl
  omega

theorem getD_set {u : List Bool} {i j : Nat} (hi : i < u.length) : (u.set i true).getD j false = if j = i then true else u.getD j false := by
  rw [List.getD_eq_getElem?_getD, List.getElem?_set]
  by_cases e : i = j
  · subst e; rw [if_pos rfl, if_pos hi, if_pos rfl]; rfl
  · rw [if_neg e, if_neg (fun h => e h.symm), List.getD_eq_getElem?_getD]

section
variable {nx rnx : List Nat → List (List Nat)} {h : List Nat → Nat} {m : Nat} {fr tt : List Nat} {L : List (List Nat)}
/-- One after the other comes to stay. -/
theorem stay_way {p : List Nat} {u v : List Bool} (hu : u.length = m) (hv : v.length = m) (hle : ∀ i, i < m → u.getD i false = true → v.getD i false = true) (hat : ∀ i, i < m → v.getD i false = true → u.getD i false = false → p.getD i 0 = tt.getD i 0) :
    ∃ n, BM.Way (RS rnx m tt) n (p, u) (p, v) 0 := by
  have key : ∀ k, k ≤ m → ∃ n, BM.Way (RS rnx m tt) n (p, u) (p, v.take k ++ u.drop k) 0 := by
    intro k
    induction k with
    | zero => intro _; exact ⟨0, by simp, rfl⟩
    | succ k ih =>
      intro hk
      obtain ⟨n, W⟩ := ih (by omega)
      have hl : (v.take k ++ u.drop k).length = m := by rw [List.length_append, List.length_take, List.length_drop]; omega
      have hl1 : (v.take (k + 1) ++ u.drop (k + 1)).length = m := by rw [List.length_append, List.length_take, List.length_drop]; omega
      have hat' : ∀ (t : Nat) (j : Nat), t ≤ m → (v.take t ++ u.drop t).getD j false = if j < t then v.getD j false else u.getD j false := fun t j ht => by
        rw [List.getD_eq_getElem?_getD, List.getElem?_append, List.length_take]
        by_cases e : j < t
        · rw [if_pos (by omega), if_pos e, List.getElem?_take, if_pos e, List.getD_eq_getElem?_getD]
        · rw [if_neg (by omega), if_neg e, List.getElem?_drop, List.getD_eq_getElem?_getD, show t + (j - min t v.length) = j by omega]
      by_cases e : v.getD k false = true ∧ u.getD k false = false
      · refine ⟨n + 1, (p, v.take k ++ u.drop k), 0, 0, W, .inr ⟨rfl, rfl, k, by omega, ?_, hat k (by omega) e.1 e.2, ?_⟩, rfl⟩
        · show (v.take k ++ u.drop k).getD k false = false
          rw [hat' k k (by omega), if_neg (Nat.lt_irrefl k)]; exact e.2
        · refine list_ext (d := false) (n := m) hl1 (by rw [List.length_set]; exact hl) fun j hj => ?_
          rw [getD_set (by rw [hl]; omega), hat' k j (by omega), hat' (k + 1) j hk]
          by_cases e2 : j = k
          · subst e2; rw [if_pos (Nat.lt_succ_self j), if_pos rfl]; exact e.1
          · rw [if_neg e2]
            by_cases e3 : j < k
            · rw [if_pos e3, if_pos (by omega)]
            · rw [if_neg e3, if_neg (by omega)]
      · have e1 : v.take (k + 1) ++ u.drop (k + 1) = v.take k ++ u.drop k := by
          refine list_ext (d := false) (n := m) hl1 hl fun j hj => ?_
          rw [hat' k j (by omega), hat' (k + 1) j hk]
          by_cases e2 : j = k
          · subst e2
            rw [if_pos (Nat.lt_succ_self j), if_neg (Nat.lt_irrefl j)]
            have h3 := hle j hj
            cases hv' : v.getD j false with
            | true =>
              cases hu' : u.getD j false with
              | true => rfl
              | false => exact absurd ⟨hv', hu'⟩ e
            | false =>
              cases hu' : u.getD j false with
              | true => rw [h3 hu'] at hv'; cases hv'
              | false => rfl
          · by_cases e3 : j < k
            · rw [if_pos e3, if_pos (by omega)]
            · rw [if_neg e3, if_neg (by omega)]
        rw [e1]
        exact ⟨n, W⟩
  obtain ⟨n, W⟩ := key m (Nat.le_refl _)
  rw [List.take_of_length_le (by omega), List.drop_of_length_le (by omega), List.append_nil] at W
  exact ⟨n, W⟩

/-- What a way of the search comes to. -/
theorem way_fine (G : Gnd nx h m fr tt L) : ∀ (j : Nat) (b : St) (K : Nat), BM.Way (E nx m L) j (s0 m tt) b K → Fine m L b ∧ ∀ i, i < m → b.2.getD i false = false → b.1.getD i 0 = tt.getD i 0
  | 0, b, K, W => by
    obtain ⟨e1, e2⟩ := W
    subst e1
    exact ⟨⟨G.goal, by simp [s0]⟩, fun i _ _ => rfl⟩
  | j + 1, b, K, W => by
    obtain ⟨c, k1, d, W1, ⟨h1, h2, h3, h4, h5⟩, e⟩ := W
    obtain ⟨_, g2⟩ := way_fine G j c k1 W1
    refine ⟨⟨G.shut _ h1.1 _ h2, by rw [h3, backU_len]⟩, fun i hi hu => ?_⟩
    rw [h3, backU_at hi, Bool.or_eq_false_iff] at hu
    have e : b.1.getD i 0 = c.1.getD i 0 := by simpa using hu.2
    rw [e]; exact g2 i hi hu.1

/-- A way of the search, gone forwards, is one of the document's. -/
theorem way_there {ok : List Nat → Prop} (G : Gnd nx h m fr tt L) (hLok : ∀ p, p ∈ L → ok p) (hsw : ∀ p q, q ∈ L → ok p → (p ∈ nx q ↔ q ∈ rnx p)) : ∀ (j : Nat) (b : St) (K : Nat), BM.Way (E nx m L) j (s0 m tt) b K → ∃ n z, BM.Way (RS rnx m tt) n (b.1, notU m b.2) z K ∧ z.2 = List.replicate m true
  | 0, b, K, W => by
    obtain ⟨e1, e2⟩ := W
    subst e1 e2
    refine ⟨0, _, ⟨rfl, rfl⟩, list_ext (d := false) (n := m) (notU_len _ _) (by simp) fun i hi => ?_⟩
    show (notU m (List.replicate m false)).getD i false = _
    rw [notU_at hi, List.getD_eq_getElem?_getD, List.getElem?_replicate, if_pos hi, List.getD_eq_getElem?_getD, List.getElem?_replicate, if_pos hi]
    rfl
  | j + 1, b, K, W => by
    obtain ⟨c, k1, d, W1, ⟨h1, h2, h3, h4, h5⟩, e⟩ := W
    obtain ⟨n, z, W2, hz⟩ := way_there G hLok hsw j c k1 W1
    obtain ⟨_, hst⟩ := way_fine G j c k1 W1
    have hbl := hLok _ (G.shut _ h1.1 _ h2)
    have hb2 : b.2.length = m := by rw [h3, backU_len]
    obtain ⟨n', W3⟩ := stay_way (rnx := rnx) (tt := tt) (p := c.1) (u := notU m b.2) (v := notU m c.2) (notU_len _ _) (notU_len _ _) (fun i hi hh => by
      rw [notU_at hi] at hh ⊢
      rw [h3, backU_at hi] at hh
      simp at hh ⊢
      exact hh.1) (fun i hi hh _ => by
      rw [notU_at hi] at hh
      exact hst i hi (by simpa using hh))
    refine ⟨(n' + n) + 1, z, ?_, hz⟩
    have e2 : K = d + (0 + k1) := by omega
    rw [e2]
    refine way_cons (y := (c.1, notU m b.2)) ?_ (way_trans W3 W2)
    refine .inl ⟨rfl, (hsw _ _ h1.1 hbl).1 h2, fun i hi hh => ?_, ?_⟩
    · show c.1.getD i 0 = b.1.getD i 0
      have hh : (notU m b.2).getD i false = true := hh
      rw [notU_at hi, h3, backU_at hi] at hh
      simp at hh
      exact hh.2.symm
    · show d = m - cntU (notU m b.2)
      rw [cntU_not hb2, h4]

/-- A way of the document's, gone backwards, is one of the search, and costs no more. -/
theorem way_back {ok : List Nat → Prop} (hok : ∀ p, ok p → p.length = m) (G : Gnd nx h m fr tt L) (hsw : ∀ p q, q ∈ L → ok p → (p ∈ nx q ↔ q ∈ rnx p)) : ∀ (n : Nat) (a z : St) (K : Nat), BM.Way (RS rnx m tt) n a z K → z.2 = List.replicate m true → ok a.1 → a.2.length = m → (∀ i, i < m → a.2.getD i false = true → a.1.getD i 0 = tt.getD i 0) → (∀ p q, q ∈ rnx p → ok q) →
    ∃ j u K', BM.Way (E nx m L) j (s0 m tt) (a.1, u) K' ∧ K' ≤ K ∧ ∀ i, i < m → u.getD i false = true → a.2.getD i false = false
  | 0, a, z, K, W, hz, hl, hl2, hat, _ => by
    obtain ⟨e1, e2⟩ := W
    subst e1 e2
    have e : a.1 = tt := list_ext (d := 0) (n := m) (hok _ hl) (G.len _ G.goal) fun i hi => hat i hi (by
      rw [hz, List.getD_eq_getElem?_getD, List.getElem?_replicate, if_pos hi]; rfl)
    rw [e]
    refine ⟨0, List.replicate m false, 0, ⟨rfl, rfl⟩, Nat.le_refl _, fun i hi hh => ?_⟩
    rw [List.getD_eq_getElem?_getD, List.getElem?_replicate, if_pos hi] at hh
    cases hh
  | n + 1, a, z, K, W, hz, hl, hl2, hat, hrl => by
    obtain ⟨y, d, K1, hs, W1, e⟩ := way_first W
    rcases hs with ⟨e1, h2, h3, h4⟩ | ⟨e1, e2, i, hi, h3, h4, h5⟩
    · have hat' : ∀ i, i < m → y.2.getD i false = true → y.1.getD i 0 = tt.getD i 0 := fun i hi hh => by
        rw [e1] at hh
        rw [h3 i hi hh]; exact hat i hi hh
      obtain ⟨j, u, K', W2, hK, hu⟩ := way_back hok G hsw n y z K1 W1 hz (hrl _ _ h2) (by rw [e1]; exact hl2) hat' hrl
      obtain ⟨⟨hyL, hul⟩, _⟩ := way_fine G _ _ _ W2
      have hnx := (hsw _ _ hyL hl).2 h2
      have hfix : ∀ i, i < m → (backU m y.1 u a.1).getD i false = true → a.2.getD i false = false := fun i hi hh => by
        rw [backU_at hi] at hh
        cases ha : a.2.getD i false with
        | false => rfl
        | true =>
          have h7 := h3 i hi ha
          rw [h7] at hh
          simp at hh
          have h8 := hu i hi hh
          rw [e1, ha] at h8
          cases h8
      have hd : cntU (backU m y.1 u a.1) ≤ d := by
        rw [h4, cntU_sum (backU_len _ _ _ _)]
        have e9 : m - cntU a.2 = cntU (notU m a.2) := by
          have h9 := cntU_not (notU_len m a.2)
          have e8 : notU m (notU m a.2) = a.2 := list_ext (d := false) (n := m) (notU_len _ _) hl2 fun i hi => by
            rw [notU_at hi, notU_at hi]; simp
          rw [e8] at h9
          exact h9
        rw [e9, cntU_sum (notU_len m a.2)]
        refine sumN_le fun i hi => ?_
        by_cases hh : (backU m y.1 u a.1).getD i false = true
        · rw [if_pos hh, notU_at hi, hfix i hi hh]; exact Nat.le_refl _
        · rw [if_neg hh]; exact Nat.zero_le _
      rcases Nat.eq_zero_or_pos (cntU (backU m y.1 u a.1)) with e0 | e0
      · obtain ⟨q1, q2⟩ := back_none (G.len _ hyL) (hok _ hl) hul e0
        rw [q1]
        exact ⟨j, u, K', W2, by omega, fun i hi hh => hfix i hi (by rw [q2]; exact hh)⟩
      · exact ⟨j + 1, backU m y.1 u a.1, K' + cntU (backU m y.1 u a.1), ⟨(y.1, u), K', _, W2, ⟨⟨hyL, hul⟩, hnx, rfl, rfl, e0⟩, rfl⟩, by omega, hfix⟩
    · have hat' : ∀ i, i < m → y.2.getD i false = true → y.1.getD i 0 = tt.getD i 0 := fun k hk hh => by
        rw [e1]
        rw [h5, getD_set (by omega)] at hh
        by_cases e : k = i
        · subst e; exact h4
        · rw [if_neg e] at hh; exact hat k hk hh
      obtain ⟨j, u, K', W2, hK, hu⟩ := way_back hok G hsw n y z K1 W1 hz (by rw [e1]; exact hl) (by rw [h5, List.length_set]; exact hl2) hat' hrl
      rw [e1] at W2
      refine ⟨j, u, K', W2, by omega, fun k hk hh => ?_⟩
      have h8 := hu k hk hh
      rw [h5, getD_set (by omega)] at h8
      by_cases e : k = i
      · subst e; exact h3
      · rw [if_neg e] at h8; exact h8

/-- So both find the same least cost. -/
theorem least_same {ok : List Nat → Prop} (hok : ∀ p, ok p → p.length = m) (G : Gnd nx h m fr tt L) (hLok : ∀ p, p ∈ L → ok p) (hsw : ∀ p q, q ∈ L → ok p → (p ∈ nx q ↔ q ∈ rnx p)) (hrl : ∀ p q, q ∈ rnx p → ok q) (hfl : ok fr) {g k : Nat}
    (h1 : ∃ j b, BM.Way (E nx m L) j (s0 m tt) b g ∧ b.1 = fr) (h2 : ∀ j b K, BM.Way (E nx m L) j (s0 m tt) b K → b.1 = fr → g ≤ K)
    (h3 : ∃ n z, BM.Way (RS rnx m tt) n (fr, List.replicate m false) z k ∧ z.2 = List.replicate m true) (h4 : ∀ n z K, BM.Way (RS rnx m tt) n (fr, List.replicate m false) z K → z.2 = List.replicate m true → k ≤ K) : g = k := by
  have hr : ∀ i, i < m → (List.replicate m false).getD i false = false := fun i hi => by
    rw [List.getD_eq_getElem?_getD, List.getElem?_replicate, if_pos hi]; rfl
  apply Nat.le_antisymm
  · obtain ⟨n, z, W, hz⟩ := h3
    obtain ⟨j, u, K', W2, hK, _⟩ := way_back hok G hsw n _ z k W hz hfl (by simp) (fun i hi hh => by
      have hh : (List.replicate m false).getD i false = true := hh
      rw [hr i hi] at hh; cases hh) hrl
    have := h2 _ _ _ W2 rfl
    omega
  · obtain ⟨j, b, W, hb⟩ := h1
    obtain ⟨n, z, W2, hz⟩ := way_there G hLok hsw j b g W
    obtain ⟨_, hst⟩ := way_fine G j b g W
    obtain ⟨n', W3⟩ := stay_way (rnx := rnx) (tt := tt) (p := b.1) (u := List.replicate m false) (v := notU m b.2) (by simp) (notU_len _ _) (fun i hi hh => by rw [hr i hi] at hh; cases hh) (fun i hi hh _ => by
      rw [notU_at hi] at hh
      exact hst i hi (by simpa using hh))
    rw [hb] at W2 W3
    have := h4 _ _ _ (way_trans W3 W2) hz
    omega

end
end Go.Proofs.YtnkgpinadgacgaaDoor.SM

namespace Go.Proofs.YtnkgpinadgacgaaDoor.SV
open BM
def updD (D : Nat → Option Nat) (x k : Nat) : Nat → Option Nat := fun y => if y = x then some k else D y

def addS (sh : Nat → List Nat) (c : Nat) (l : List Nat) : Nat → List Nat := fun j => if j = c then sh j ++ l else sh j

theorem addS_mem {sh : Nat → List Nat} {c : Nat} {l : List Nat} {j y : Nat} : y ∈ addS sh c l j ↔ y ∈ sh j ∨ (j = c ∧ y ∈ l) := by
  unfold addS
  by_cases e : j = c
  · rw [if_pos e, List.mem_append]; exact ⟨fun h => h.imp id fun h => ⟨e, h⟩, fun h => h.imp id fun h => h.2⟩
  · rw [if_neg e]; exact ⟨.inl, fun h => h.elim id fun h => absurd h.1 e⟩

theorem addS_at {sh : Nat → List Nat} {c : Nat} {l : List Nat} {j t : Nat} (h : t < (sh j).length) : (addS sh c l j)[t]? = (sh j)[t]? := by
  unfold addS
  by_cases e : j = c
  · rw [if_pos e, List.getElem?_append_left h]
  · rw [if_neg e]

theorem addS_len {sh : Nat → List Nat} {c : Nat} {l : List Nat} {j : Nat} : (sh j).length ≤ (addS sh c l j).length ∧ (addS sh c l j).length ≤ (sh j).length + l.length := by
  unfold addS
  by_cases e : j = c
  · rw [if_pos e, List.length_append]; omega
  · rw [if_neg e]; omega

/-- What is known in the search's course: D tells at what cost a thing was looked at, sh what lies on the shelves; len shelves there are; the shelf of cost is gone through as far as its i-th. -/
structure Shelf (R : Nat → Nat → Nat → Prop) (fin : Nat → Prop) (s N : Nat) (D : Nat → Option Nat) (sh : Nat → List Nat) (len cost i : Nat) (X : List Nat) : Prop where
  first : s ∈ sh 0
  way : ∀ c y, y ∈ sh c → ∃ j, BM.Way R j s y c
  out : ∀ c, len ≤ c → sh c = []
  done : ∀ c y, c < cost → y ∈ sh c → ∃ k, D y = some k ∧ k ≤ c
  here : ∀ t y, t < i → (sh cost)[t]? = some y → ∃ k, D y = some k ∧ k ≤ cost
  spread : ∀ x k, D x = some k → k ≤ cost ∧ ¬ fin x ∧ ∀ y d, R x y d → y ∈ sh (k + d)
  nodup : X.Nodup
  mem : ∀ x, x ∈ X ↔ (D x).isSome
  lt : ∀ x, x ∈ X → x < N
  most : ∀ c, (sh c).length ≤ 1 + 700 * X.length
  lens : len ≤ 1 + 4 * X.length
  all : ∀ c y, y ∈ sh c → y < N
  le : i ≤ (sh cost).length
  pos : 0 < len

section
variable {R : Nat → Nat → Nat → Prop} {fin : Nat → Prop} {s N : Nat} {D : Nat → Option Nat} {sh : Nat → List Nat} {len cost i : Nat} {X : List Nat}
theorem shelf_start (hs : s < N) : Shelf R fin s N (fun _ => none) (fun c => if c = 0 then [s] else []) 1 0 0 [] := by
  refine ⟨by simp, fun c y h => ?_, fun c h => ?_, fun c y h => absurd h (Nat.not_lt_zero c), fun t y h => absurd h (Nat.not_lt_zero t), fun x k h => (by cases h), List.nodup_nil, fun x => (by simp), fun x h => (by cases h), fun c => ?_, by simp, fun c y h => ?_, by simp, by decide⟩
  · by_cases e : c = 0
    · subst e
      simp only [if_pos, List.mem_singleton] at h
      exact ⟨0, h.symm, rfl⟩
    · simp only [if_neg e, List.not_mem_nil] at h
  · show (if c = 0 then [s] else []) = []
    rw [if_neg (by omega)]
  · show (if c = 0 then [s] else []).length ≤ _
    by_cases e : c = 0
    · rw [if_pos e]; simp
    · rw [if_neg e]; simp
  · by_cases e : c = 0
    · subst e
      simp only [if_pos, List.mem_singleton] at h
      omega
    · simp only [if_neg e, List.not_mem_nil] at h

/-- The list's next was looked at before. -/
theorem shelf_skip (H : Shelf R fin s N D sh len cost i X) {x : Nat} (hx : (sh cost)[i]? = some x) (hs : (D x).isSome = true) : Shelf R fin s N D sh len cost (i + 1) X := by
  obtain ⟨k, hk⟩ := Option.isSome_iff_exists.1 hs
  refine ⟨H.first, H.way, H.out, H.done, fun t y h1 h2 => ?_, H.spread, H.nodup, H.mem, H.lt, H.most, H.lens, H.all, ?_, H.pos⟩
  · by_cases e : t = i
    · subst e
      rw [hx] at h2
      cases h2
      exact ⟨k, hk, (H.spread x k hk).1⟩
    · exact H.here t y (by omega) h2
  · have := (List.getElem?_eq_some_iff.1 hx).1; omega

/-- A shelf is through. -/
theorem shelf_next (H : Shelf R fin s N D sh len cost (sh cost).length X) : Shelf R fin s N D sh len (cost + 1) 0 X := by
  refine ⟨H.first, H.way, H.out, fun c y h1 h2 => ?_, fun t y h => absurd h (Nat.not_lt_zero t), fun x k h => ?_, H.nodup, H.mem, H.lt, H.most, H.lens, H.all, Nat.zero_le _, H.pos⟩
  · by_cases e : c = cost
    · subst e
      obtain ⟨t, ht, e⟩ := List.mem_iff_getElem.1 h2
      exact H.here t y ht (by rw [List.getElem?_eq_getElem ht, e])
    · exact H.done c y (by omega) h2
  · obtain ⟨h1, h2⟩ := H.spread x k h
    exact ⟨by omega, h2⟩

/-- The list's next is looked at. -/
theorem shelf_take (H : Shelf R fin s N D sh len cost i X) {x more len' : Nat} {l st : List Nat} (hx : (sh cost)[i]? = some x) (hs : D x = none) (hf : ¬ fin x) (hl : l.length + st.length ≤ 700) (hm : more ≤ 4)
    (hR : ∀ y d, R x y d ↔ (d = more ∧ y ∈ l) ∨ (d = 0 ∧ y ∈ st)) (hN : ∀ y, y ∈ l ∨ y ∈ st → y < N) (hlen : len' = if len ≤ cost + more then cost + more + 1 else len) :
    Shelf R fin s N (updD D x cost) (addS (addS sh (cost + more) l) cost st) len' cost (i + 1) (x :: X) := by
  have hil := (List.getElem?_eq_some_iff.1 hx).1
  have hxm : x ∈ sh cost := List.mem_of_getElem? hx
  have hcl : cost < len := Nat.lt_of_not_le fun h => by rw [H.out cost h] at hxm; cases hxm
  obtain ⟨j, W⟩ := H.way cost x hxm
  have old : ∀ c y, y ∈ sh c → y ∈ addS (addS sh (cost + more) l) cost st c := fun c y h => addS_mem.2 (.inl (addS_mem.2 (.inl h)))
  have oldt : ∀ t, t < i + 1 → (addS (addS sh (cost + more) l) cost st cost)[t]? = (sh cost)[t]? := fun t ht => by
    rw [addS_at (by have := (addS_len (sh := sh) (c := cost + more) (l := l) (j := cost)).1; omega), addS_at (by omega)]
  have cases_of : ∀ c y, y ∈ addS (addS sh (cost + more) l) cost st c → y ∈ sh c ∨ (c = cost + more ∧ y ∈ l) ∨ (c = cost ∧ y ∈ st) := fun c y h => by
    rcases addS_mem.1 h with h | h
    · rcases addS_mem.1 h with h | h
      · exact .inl h
      · exact .inr (.inl h)
    · exact .inr (.inr h)
  have keep : ∀ y k c, D y = some k → k ≤ c → ∃ k, updD D x cost y = some k ∧ k ≤ c := fun y k c h1 h2 => by
    refine ⟨k, ?_, h2⟩
    unfold updD
    rw [if_neg (fun e => by rw [e, hs] at h1; cases h1), h1]
  have hnX : x ∉ X := fun h => by have := (H.mem x).1 h; rw [hs] at this; cases this
  refine ⟨old 0 s H.first, fun c y h => ?_, fun c h => ?_, fun c y h1 h2 => ?_, fun t y h1 h2 => ?_, fun y k h => ?_, List.nodup_cons.2 ⟨hnX, H.nodup⟩, fun y => ?_, fun y h => ?_, fun c => ?_, ?_, fun c y h => ?_, ?_, ?_⟩
  · rcases cases_of c y h with h7 | ⟨e7, h7⟩ | ⟨e7, h7⟩
    · exact H.way c y h7
    · exact ⟨j + 1, x, cost, more, W, (hR y more).2 (.inl ⟨rfl, h7⟩), e7⟩
    · exact ⟨j + 1, x, cost, 0, W, (hR y 0).2 (.inr ⟨rfl, h7⟩), e7⟩
  · have h0 : len ≤ c ∧ ¬ c = cost + more ∧ ¬ c = cost := by
      by_cases e : len ≤ cost + more
      · rw [if_pos e] at hlen; omega
      · rw [if_neg e] at hlen; omega
    unfold addS
    rw [if_neg h0.2.2, if_neg h0.2.1, H.out c h0.1]
  · rcases cases_of c y h2 with h | ⟨rfl, h⟩ | ⟨rfl, h⟩
    · obtain ⟨k, h3, h4⟩ := H.done c y h1 h
      exact keep y k c h3 h4
    · omega
    · omega
  · rw [oldt t h1] at h2
    by_cases e : t = i
    · subst e
      rw [hx] at h2
      cases h2
      exact ⟨cost, by unfold updD; rw [if_pos rfl], Nat.le_refl _⟩
    · obtain ⟨k, h3, h4⟩ := H.here t y (by omega) h2
      exact keep y k cost h3 h4
  · unfold updD at h
    by_cases e : y = x
    · subst e
      rw [if_pos rfl] at h
      cases h
      refine ⟨Nat.le_refl _, hf, fun z d hz => ?_⟩
      rcases (hR z d).1 hz with ⟨rfl, h⟩ | ⟨rfl, h⟩
      · exact addS_mem.2 (.inl (addS_mem.2 (.inr ⟨rfl, h⟩)))
      · exact addS_mem.2 (.inr ⟨rfl, h⟩)
    · rw [if_neg e] at h
      obtain ⟨h1, h2, h3⟩ := H.spread y k h
      exact ⟨h1, h2, fun z d hz => old _ _ (h3 z d hz)⟩
  · rw [List.mem_cons, H.mem y]
    unfold updD
    by_cases e : y = x
    · rw [if_pos e]; simp [e]
    · rw [if_neg e]; simp [e]
  · rcases List.mem_cons.1 h with h | h
    · rw [h]; exact H.all cost x hxm
    · exact H.lt y h
  · have h1 := (addS_len (sh := addS sh (cost + more) l) (c := cost) (l := st) (j := c)).2
    have h2 := (addS_len (sh := sh) (c := cost + more) (l := l) (j := c)).2
    have h3 := H.most c
    simp only [List.length_cons]
    omega
  · have h3 := H.lens
    simp only [List.length_cons]
    by_cases e : len ≤ cost + more
    · rw [if_pos e] at hlen; omega
    · rw [if_neg e] at hlen; omega
  · rcases cases_of c y h with h | ⟨_, h⟩ | ⟨_, h⟩
    · exact H.all c y h
    · exact hN y (.inl h)
    · exact hN y (.inr h)
  · have h1 := (addS_len (sh := addS sh (cost + more) l) (c := cost) (l := st) (j := cost)).1
    have h2 := (addS_len (sh := sh) (c := cost + more) (l := l) (j := cost)).1
    omega
  · by_cases e : len ≤ cost + more
    · rw [if_pos e] at hlen; omega
    · rw [if_neg e] at hlen; have := H.pos; omega

/-- What is come to at less than the shelf's cost was looked at. -/
theorem shelf_before (H : Shelf R fin s N D sh len cost i X) : ∀ (j : Nat) (y g : Nat), BM.Way R j s y g → g < cost → ∃ k, D y = some k ∧ k ≤ g
  | 0, y, g, W, hg => by
    obtain ⟨e1, e2⟩ := W
    subst e1 e2
    exact H.done 0 _ hg H.first
  | j + 1, y, g, W, hg => by
    obtain ⟨c, k1, d, W1, hr, e⟩ := W
    obtain ⟨k, h1, h2⟩ := shelf_before H j c k1 W1 (by omega)
    obtain ⟨_, _, h3⟩ := H.spread c k h1
    obtain ⟨k2, h4, h5⟩ := H.done (k + d) y (by omega) (h3 y d hr)
    exact ⟨k2, h4, by omega⟩

/-- So what is first come to that is at its end costs the least. -/
theorem shelf_least (H : Shelf R fin s N D sh len cost i X) {x : Nat} (hx : (sh cost)[i]? = some x) : (∃ j, BM.Way R j s x cost) ∧ ∀ j z K, BM.Way R j s z K → fin z → cost ≤ K := by
  refine ⟨H.way cost x (List.mem_of_getElem? hx), fun j z K W hz => Nat.le_of_not_lt fun h => ?_⟩
  obtain ⟨k, h1, _⟩ := shelf_before H j z K W h
  exact (H.spread z k h1).2.1 hz

/-- Where all shelves are through, nothing that is at its end can be come to. -/
theorem shelf_none (H : Shelf R fin s N D sh len len i X) : ∀ (j : Nat) (y g : Nat), BM.Way R j s y g → ∃ k, D y = some k ∧ k ≤ g
  | 0, y, g, W => by
    obtain ⟨e1, e2⟩ := W
    subst e1 e2
    exact H.done 0 _ H.pos H.first
  | j + 1, y, g, W => by
    obtain ⟨c, k1, d, W1, hr, e⟩ := W
    obtain ⟨k, h1, h2⟩ := shelf_none H j c k1 W1
    obtain ⟨_, _, h3⟩ := H.spread c k h1
    have hm := h3 y d hr
    have hlt : k + d < len := Nat.lt_of_not_le fun h => by rw [H.out _ h] at hm; cases hm
    obtain ⟨k2, h4, h5⟩ := H.done (k + d) y hlt hm
    exact ⟨k2, h4, by omega⟩

theorem shelf_end (H : Shelf R fin s N D sh len len i X) (j z K : Nat) (W : BM.Way R j s z K) : ¬ fin z := by
  obtain ⟨k, h1, _⟩ := shelf_none H j z K W
  exact (H.spread z k h1).2.1

/-- There are never more than there are numbers. -/
theorem shelf_few (H : Shelf R fin s N D sh len cost i X) : X.length ≤ N := by
  have h := List.Nodup.length_le_of_subset (l₁ := X) (l₂ := List.range N) H.nodup (fun x hx => List.mem_range.2 (H.lt x hx))
  simpa using h

/-- What is left to be looked at, as a number that falls. -/
def leftS (N : Nat) (X : List Nat) (n i : Nat) : Nat := 701 * (N - X.length) + (n - i)

end
end Go.Proofs.YtnkgpinadgacgaaDoor.SV
