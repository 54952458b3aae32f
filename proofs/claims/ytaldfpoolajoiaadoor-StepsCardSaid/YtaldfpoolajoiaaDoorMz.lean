/- Plain facts on the carts of a shaped yard: while they are chosen, and that Check lets the yard by. -/
import Derived.Test.YtaldfpoolajoiaaDoorXc
namespace Go.Proofs.YtaldfpoolajoiaaDoor
open M

/-- While carts are chosen: the cells that are left for Froms and Tos, and the m carts that are. -/
structure Shape (cs : ByteArray) (Lf Lt : List Int) (m : Nat) (fr to : Nat → Int) : Prop where
  ff : ∀ j, j < Lf.length → freeB cs (Lf.getD j 0) = true
  ft : ∀ j, j < Lt.length → freeB cs (Lt.getD j 0) = true
  injf : Inj Lf
  injt : Inj Lt
  len : Lf.length = Lt.length
  m4 : m ≤ 4
  cf : ∀ i, i < m → freeB cs (fr i) = true ∧ freeB cs (to i) = true
  nf : ∀ i, i < m → ∀ j, j < Lf.length → Lf.getD j 0 ≠ fr i
  nt : ∀ i, i < m → ∀ j, j < Lt.length → Lt.getD j 0 ≠ to i
  tw : ∀ i, i < m → ∀ j, j < i → fr j ≠ fr i ∧ to j ≠ to i

theorem shape_zero (cs : ByteArray) (N : Nat) (f : Nat → Int) : Shape cs (freeTo cs N) (freeTo cs N) 0 f f := by
  refine ⟨?_, ?_, freeTo_inj _ _, freeTo_inj _ _, rfl, by omega, fun i h => by omega, fun i h => by omega, fun i h => by omega, fun i h => by omega⟩
  · intro j hj
    obtain ⟨c, _, h2, h3⟩ := freeTo_at hj
    rw [h2]; exact h3
  · intro j hj
    obtain ⟨c, _, h2, h3⟩ := freeTo_at hj
    rw [h2]; exact h3

def ext (f : Nat → Int) (m : Nat) (v : Int) (i : Nat) : Int := if i = m then v else f i

theorem shape_step {cs : ByteArray} {Lf Lt : List Int} {m : Nat} {fr to : Nat → Int} (h : Shape cs Lf Lt m fr to) {a b : Nat} (ha : a < Lf.length) (hb : b < Lt.length) (hm : m < 4) :
    Shape cs (woTo Lf a Lf.length) (woTo Lt b Lt.length) (m + 1) (ext fr m (Lf.getD a 0)) (ext to m (Lt.getD b 0)) := by
  have old : ∀ (f : Nat → Int) v i, i < m → ext f m v i = f i := fun f v i hi => by unfold ext; rw [if_neg (by omega)]
  have new : ∀ (f : Nat → Int) v, ext f m v m = v := fun f v => by unfold ext; rw [if_pos rfl]
  refine ⟨?_, ?_, woTo_inj h.injf a _ (Nat.le_refl _), woTo_inj h.injt b _ (Nat.le_refl _), ?_, by omega, ?_, ?_, ?_, ?_⟩
  · intro j hj
    obtain ⟨c, h1, _, h3⟩ := woTo_at hj
    rw [h3]; exact h.ff c h1
  · intro j hj
    obtain ⟨c, h1, _, h3⟩ := woTo_at hj
    rw [h3]; exact h.ft c h1
  · have := h.len
    rw [woTo_len, woTo_len, if_pos ha, if_pos hb]; omega
  · intro i hi
    by_cases e : i = m
    · subst e; rw [new, new]; exact ⟨h.ff a ha, h.ft b hb⟩
    · rw [old _ _ _ (by omega), old _ _ _ (by omega)]; exact h.cf i (by omega)
  · intro i hi j hj
    obtain ⟨c, h1, h2, h3⟩ := woTo_at hj
    rw [h3]
    by_cases e : i = m
    · subst e; rw [new]; exact fun he => h2 (h.injf c a h1 ha he)
    · rw [old _ _ _ (by omega)]; exact h.nf i (by omega) c h1
  · intro i hi j hj
    obtain ⟨c, h1, h2, h3⟩ := woTo_at hj
    rw [h3]
    by_cases e : i = m
    · subst e; rw [new]; exact fun he => h2 (h.injt c b h1 hb he)
    · rw [old _ _ _ (by omega)]; exact h.nt i (by omega) c h1
  · intro i hi j hj
    by_cases e : i = m
    · subst e
      rw [new, new, old _ _ _ hj, old _ _ _ hj]
      exact ⟨fun he => h.nf j hj a ha he.symm, fun he => h.nt j hj b hb he.symm⟩
    · rw [old _ _ _ (by omega), old _ _ _ (by omega), old _ _ _ (by omega), old _ _ _ (by omega)]
      exact h.tw i (by omega) j hj

/-- No cart: one from 0 to 0. -/
theorem shape_one {cs : ByteArray} (h : freeB cs 0 = true) : Shape cs [] [] 1 (fun _ => 0) (fun _ => 0) :=
  ⟨fun j hj => absurd hj (Nat.not_lt_zero j), fun j hj => absurd hj (Nat.not_lt_zero j), inj_nil, inj_nil, rfl, by omega, fun _ _ => ⟨h, h⟩, fun _ _ j hj => absurd hj (Nat.not_lt_zero j), fun _ _ j hj => absurd hj (Nat.not_lt_zero j), fun i hi j hj => by omega⟩

theorem sideB_of {n : Int} (h1 : 1 ≤ n) (h2 : n ≤ 6) : sideB n = true := by unfold sideB; simp [h1, h2]

theorem shape_check {cs : ByteArray} {Lf Lt : List Int} {m : Nat} {fr to : Nat → Int} {ro co bu : Int} (h : Shape cs Lf Lt m fr to) (hm : 1 ≤ m) (r1 : 1 ≤ ro) (r2 : ro ≤ 6) (c1 : 1 ≤ co) (c2 : co ≤ 6) (hs : (cs.size : Int) = ro * co)
    (hg : ∀ j, j < cs.size → badB cs j = false) (b1 : 1 ≤ bu) (b2 : bu ≤ 20000) : checkM ro co cs m fr to bu = (0, 0) := by
  have h4 := h.m4
  refine (checkM_ok (sideB_of r1 r2) (sideB_of c1 c2) (by rw [← cellsM_none hs hg]; omega) (by omega) (by omega) (fun j hj => ?_) (by omega)).symm
  obtain ⟨f1, f2⟩ := h.cf j hj
  refine cartM_ok f1 f2 fun k hk => ?_
  obtain ⟨t1, t2⟩ := h.tw j hj k hk
  unfold twiceB
  simp [t1, t2]

/-- The cells of m carts. -/
def cartCells (fr to : Nat → Int) : Nat → List Value
  | 0 => []
  | m + 1 => cartCells fr to m ++ [.int .i64 (fr m), .int .i64 (to m)]

theorem cartCells_len (fr to : Nat → Int) : ∀ m, (cartCells fr to m).length = m * 2
  | 0 => rfl
  | m + 1 => by simp [cartCells, cartCells_len fr to m]; omega

theorem cartCells_at {fr to : Nat → Int} : ∀ {m i : Nat}, i < m → (cartCells fr to m)[i * 2]? = some (.int .i64 (fr i)) ∧ (cartCells fr to m)[i * 2 + 1]? = some (.int .i64 (to i))
  | m + 1, i, h => by
    have hl := cartCells_len fr to m
    by_cases e : i = m
    · subst e
      simp only [cartCells]
      rw [List.getElem?_append_right (by omega), List.getElem?_append_right (by omega), hl]
      simp
    · have ih := cartCells_at (fr := fr) (to := to) (m := m) (i := i) (by omega)
      simp only [cartCells]
      rw [List.getElem?_append_left (by omega), List.getElem?_append_left (by omega)]
      exact ih

theorem cartCells_congr {fr to fr' to' : Nat → Int} : ∀ {m : Nat}, (∀ i, i < m → fr i = fr' i ∧ to i = to' i) → cartCells fr to m = cartCells fr' to' m
  | 0, _ => rfl
  | m + 1, h => by
    simp only [cartCells]
    rw [cartCells_congr (m := m) fun i hi => h i (by omega), (h m (by omega)).1, (h m (by omega)).2]

theorem cartCells_ext (fr to : Nat → Int) (m : Nat) (u v : Int) : cartCells (ext fr m u) (ext to m v) (m + 1) = cartCells fr to m ++ [.int .i64 u, .int .i64 v] := by
  simp only [cartCells]
  rw [cartCells_congr (fr := ext fr m u) (to := ext to m v) (fr' := fr) (to' := to) (m := m) fun i hi => by unfold ext; rw [if_neg (by omega), if_neg (by omega)]; exact ⟨rfl, rfl⟩]
  simp [ext]

end Go.Proofs.YtaldfpoolajoiaaDoor
