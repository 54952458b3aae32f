/- Leads in memory: a row of them; the search's own block. -/
import Derived.Test.YtnkgpinadgacgabDoorGi
import Derived.Test.YtnkgpinadgacgabDoorGc
import Derived.Test.YtnkgpinadgacgabDoorGl
import Derived.Deep.RegionLaw
import Derived.Deep.AppendLies
import Derived.Deep.QuietTactic
import Derived.BigQuiet
import Derived.BigRegion
import Derived.Deep.DeepCutAuto
import Derived.Deep.RegionHeld3
namespace Go.Proofs.YtnkgpinadgacgabDoor
open Go.RowKit M SM
/-- The cells of a lead. -/
def ldL (l : LeadM) : List Value := [.int .u8 (l.st.1.getD 0 0 : Nat), .int .u8 (l.st.1.getD 1 0 : Nat), .int .u8 (l.st.1.getD 2 0 : Nat), .int .u8 (l.st.1.getD 3 0 : Nat), .bool (l.st.2.getD 0 false), .bool (l.st.2.getD 1 false), .bool (l.st.2.getD 2 false), .bool (l.st.2.getD 3 false), .int .i64 (l.c : Nat), .int .i64 (l.k : Nat)]

theorem ldL_len (l : LeadM) : (ldL l).length = 10 := rfl

theorem ldL_one (l : LeadM) : ∀ v ∈ ldL l, v.oneCell' = true := by
  intro v hv
  unfold ldL at hv
  simp only [List.mem_cons, List.not_mem_nil, or_false] at hv
  rcases hv with rfl | rfl | rfl | rfl | rfl | rfl | rfl | rfl | rfl | rfl <;> rfl

theorem Tryd.sizeLead : (Tryd.prog.info? 149).map (·.size) = some 10 := by kernel_rfl

/-- The first n places of a row of leads. -/
def ItemsL (w : World) (G cap n : Nat) (it : Nat → LeadM) : Prop :=
  n ≤ cap ∧ cap ≤ maxLen ∧ ∃ f, w.rowIs G 149 (cap * 10) f ∧ ∀ i, i < n → ∀ t, t < 10 → (ldL (it i))[t]? = some (f (i * 10 + t))

section
variable {w w' : World} {G cap n : Nat} {it it' : Nat → LeadM}
theorem ItemsL.block (h : ItemsL w G cap n it) (e : w'.heap[G]? = w.heap[G]?) : ItemsL w' G cap n it := by
  obtain ⟨h1, h2, f, h3, h4⟩ := h; exact ⟨h1, h2, f, h3.of_block e, h4⟩

theorem ItemsL.lt (h : ItemsL w G cap n it) : G < w.heap.size := by
  obtain ⟨_, _, f, h3, _⟩ := h; exact h3.lt

theorem ItemsL.fz (h : ItemsL w G cap n it) (o : Nat) : w.frozen? ⟨G, o, none⟩ = false := by
  obtain ⟨_, _, f, h3, _⟩ := h; exact h3.frozen o

theorem ItemsL.room (h : ItemsL w G cap n it) : n ≤ cap ∧ cap ≤ maxLen := ⟨h.1, h.2.1⟩

theorem ItemsL.same (h : ItemsL w G cap n it) (e : ∀ i, i < n → it i = it' i) : ItemsL w G cap n it' := by
  obtain ⟨h1, h2, f, h3, h4⟩ := h; exact ⟨h1, h2, f, h3, fun i hi t ht => by rw [← e i hi]; exact h4 i hi t ht⟩

theorem ItemsL.drew (h : ItemsL w G cap n it) : ItemsL w.drew G cap n it := h

theorem ItemsL.less {n' : Nat} (h : ItemsL w G cap n it) (e : n' ≤ n) : ItemsL w G cap n' it := by
  obtain ⟨h1, h2, f, h3, h4⟩ := h; exact ⟨by omega, h2, f, h3, fun i hi t ht => h4 i (by omega) t ht⟩

theorem ItemsL.range (h : ItemsL w G cap n it) {i : Nat} (hi : i < n) : w.rangeAt G (i * 10) (ldL (it i)) := by
  obtain ⟨h1, _, f, h3, h4⟩ := h
  intro j v hv
  have hj : j < 10 := by have := (List.getElem?_eq_some_iff.1 hv).1; rw [ldL_len] at this; exact this
  rw [h4 i hi j hj] at hv
  cases hv
  exact h3.cell (by omega)

theorem ItemsL.there (h : ItemsL w G cap n it) {i : Nat} (hi : i < cap) : w.there G (i * 10) 10 := by
  obtain ⟨h1, _, f, h3, h4⟩ := h
  intro j hj
  refine ⟨?_, h3.frozen _⟩
  rw [h3.cell (by omega)]; rfl

theorem rowL_set {b : Nat} {t : TypeId} {N : Nat} : ∀ (vs : List Value) (o : Nat) (w : World) (f : Nat → Value), w.rowIs b t N f → (w.setCells b o vs).rowIs b t N (fun j => if o ≤ j ∧ j < o + vs.length then vs[j - o]?.getD undef else f j)
  | [], o, w, f, h => h.congr fun j _ => by rw [if_neg (by simp)]
  | v :: r, o, w, f, h => by
    refine (rowL_set r (o + 1) _ _ (h.set o v)).congr fun j _ => ?_
    by_cases h1 : j = o
    · subst h1
      rw [if_neg (by omega), if_pos rfl, if_pos (by simp), Nat.sub_self]
      rfl
    · by_cases h2 : o + 1 ≤ j ∧ j < o + 1 + r.length
      · rw [if_pos h2, if_pos (by simp; omega), show j - o = (j - (o + 1)) + 1 by omega, List.getElem?_cons_succ]
      · rw [if_neg h2, if_neg h1, if_neg (by simp; omega)]

/-- One place is written. -/
theorem ItemsL.put (h : ItemsL w G cap n it) (i : Nat) (l : LeadM) : ItemsL (w.setCells G (i * 10) (ldL l)) G cap n (fun j => if j = i then l else it j) := by
  obtain ⟨h1, h2, f, h3, h4⟩ := h
  refine ⟨h1, h2, _, rowL_set (ldL l) (i * 10) w f h3, fun j hj t ht => ?_⟩
  by_cases e : j = i
  · subst e
    have e0 : (fun k => if k = j then l else it k) j = l := if_pos rfl
    rw [e0, if_pos (by rw [ldL_len]; omega), show j * 10 + t - j * 10 = t by omega, List.getElem?_eq_getElem (by rw [ldL_len]; exact ht)]
    rfl
  · have e0 : (fun k => if k = i then l else it k) j = it j := if_neg e
    rw [e0, if_neg (by rw [ldL_len]; omega)]
    exact h4 j hj t ht

theorem Only.setCells {S : Nat → Prop} {a : World} {b : Nat} (hb : b < a.heap.size → S b) : ∀ (vs : List Value) (o : Nat) (w : World), Only S a w → Only S a (w.setCells b o vs)
  | [], _, _, h => h
  | v :: r, o, _, h => Only.setCells hb r (o + 1) _ (h.setCell (p := ⟨b, o, none⟩) hb v)

end
/-- The function that orders the search's heap. -/
def aheadV : Value := .func (.func 80) #[] #[]

/-- The search's own block. -/
def SrcAt (w : World) (S : Nat) (c0 c1 c2 c3 v : Value) : Prop := w.heap[S]? = some (.cells #[c0, c1, c2, c3, aheadV, v] 122 (0, 0))

section
variable {w w' : World} {S : Nat} {c0 c1 c2 c3 v : Value}
theorem SrcAt.block (h : SrcAt w S c0 c1 c2 c3 v) (e : w'.heap[S]? = w.heap[S]?) : SrcAt w' S c0 c1 c2 c3 v := e.trans h

theorem SrcAt.lt (h : SrcAt w S c0 c1 c2 c3 v) : S < w.heap.size := (Array.getElem?_eq_some_iff.1 h).1

theorem SrcAt.cells (h : SrcAt w S c0 c1 c2 c3 v) : w.cell? ⟨S, 0, none⟩ = some c0 ∧ w.cell? ⟨S, 1, none⟩ = some c1 ∧ w.cell? ⟨S, 2, none⟩ = some c2 ∧ w.cell? ⟨S, 3, none⟩ = some c3 ∧ w.cell? ⟨S, 4, none⟩ = some aheadV ∧ w.cell? ⟨S, 5, none⟩ = some v := by
  unfold SrcAt at h; simp [World.cell?, h]

theorem SrcAt.fz (h : SrcAt w S c0 c1 c2 c3 v) (o : Nat) : w.frozen? ⟨S, o, none⟩ = false := by
  unfold SrcAt at h; simp [World.frozen?, h]

theorem SrcAt.put (h : SrcAt w S c0 c1 c2 c3 v) (u : Value) : SrcAt (w.setCell ⟨S, 5, none⟩ u) S c0 c1 c2 c3 u := by
  unfold SrcAt at *
  simp [World.setCell, Array.getElem?_modify, h]

end
theorem src_apart {w : World} {S G cap n : Nat} {c0 c1 c2 c3 v : Value} {it : Nat → LeadM} (h : SrcAt w S c0 c1 c2 c3 v) (h' : ItemsL w G cap n it) : S ≠ G := by
  intro e; subst e
  unfold SrcAt at h
  obtain ⟨_, _, f, ⟨cur, h1, _⟩, _⟩ := h'
  rw [h1] at h
  simp at h

end Go.Proofs.YtnkgpinadgacgabDoor
