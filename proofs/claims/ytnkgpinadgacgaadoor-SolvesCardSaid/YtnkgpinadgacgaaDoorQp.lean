/- Several texts in one: Bn, Di, Dv, Hf, Hk, Cc. -/
import Derived.Test.YtnkgpinadgacgaaDoorQo
import Derived.Test.YtnkgpinadgacgaaDoorBd
import Derived.Test.YtnkgpinadgacgaaDoorBb
import Derived.Test.YtnkgpinadgacgaaDoorQb
import Derived.Test.YtnkgpinadgacgaaDoorQc
import Derived.Test.YtnkgpinadgacgaaDoorQi
import Derived.Test.YtnkgpinadgacgaaDoorBa
import Derived.Carry
import Derived.Lib.SliceRun
import Derived.Test.YtnkgpinadgacgaaDoorQk
import Derived.Test.YtnkgpinadgacgaaDoorQj
import Derived.Test.YtnkgpinadgacgaaDoorDs
import Derived.Test.YtnkgpinadgacgaaDoorHd
import Derived.Test.YtnkgpinadgacgaaDoorHg
import Derived.Deep.DeepCutAuto
import Derived.Deep.RegionHeld3
import Derived.Deep.QuietTactic
import Derived.BigQuiet
namespace Go.Proofs.YtnkgpinadgacgaaDoor
open Go.RowKit M
theorem Told.from {w w0 w' : World} {v : Value} {x : Option (Nat × (Nat → Nat))} (h : Told w w' v x) (hw : w0.heap.size ≤ w.heap.size) : Told w0 w' v x :=
  ⟨h.1, fun T p e => by
    obtain ⟨g, h1, h2, h3⟩ := h.2 T p e
    exact ⟨g, h1, by omega, h3⟩⟩

end Go.Proofs.YtnkgpinadgacgaaDoor

/- Walks of handedRules (rules in a list of their own, with spare room) and of stillRules. -/
namespace Go.Proofs.YtnkgpinadgacgaaDoor
open Go.RowKit M
end Go.Proofs.YtnkgpinadgacgaaDoor

/- Walks of the program's Alone. -/
namespace Go.Proofs.YtnkgpinadgacgaaDoor
open Go.RowKit M
theorem M.firstOf_is {p : Nat → Bool} : ∀ n, firstOf p n < n → p (firstOf p n) = true
  | 0, h => by omega
  | n + 1, h => by
    simp only [firstOf] at h ⊢
    by_cases h1 : firstOf p n < n
    · rw [if_pos h1]; exact firstOf_is n h1
    · rw [if_neg h1] at h ⊢
      by_cases h2 : p n = true
      · rw [if_pos h2]; exact h2
      · rw [if_neg h2] at h; omega

theorem M.firstOf_none {p : Nat → Bool} {n : Nat} (h : ¬ firstOf p n < n) : ∀ j, j < n → p j = false := by
  induction n with
  | zero => intro j hj; omega
  | succ n ih =>
    simp only [firstOf] at h
    by_cases h1 : firstOf p n < n
    · rw [if_pos h1] at h; omega
    · rw [if_neg h1] at h
      by_cases h2 : p n = true
      · rw [if_pos h2] at h; omega
      · intro j hj
        by_cases e : j = n
        · subst e; simpa using h2
        · exact ih h1 j (by omega)

theorem carts_free {ro co bu : Int} {cs : ByteArray} {m : Nat} {fr tt : Nat → Int} (h : (checkM ro co cs m fr tt bu).1 = 0) : m ≤ 4 ∧ ∀ k, k < m → freeB cs (fr k) = true ∧ freeB cs (tt k) = true := by
  unfold checkM at h
  by_cases h1 : (sideB ro && sideB co) = false
  · rw [if_pos h1] at h; simp at h
  · rw [if_neg h1] at h
    by_cases h2 : 0 ≤ cellsM ro co cs
    · rw [if_pos h2] at h; simp at h
    · rw [if_neg h2] at h
      by_cases h3 : m < 1 ∨ 4 < m
      · rw [if_pos h3] at h; simp at h
      · rw [if_neg h3] at h
        refine ⟨by omega, ?_⟩
        by_cases h4 : firstOf (fun i => !(cartM cs fr tt i == 0)) m < m
        · rw [if_pos h4] at h
          have := M.firstOf_is (p := fun i => !(cartM cs fr tt i == 0)) m h4
          simp only [] at h this
          rw [h] at this; cases this
        · intro k hk
          have := M.firstOf_none h4 k hk
          have h5 : cartM cs fr tt k = 0 := by simpa using this
          unfold cartM at h5
          by_cases h6 : (freeB cs (fr k) && freeB cs (tt k)) = true
          · simpa using h6
          · rw [if_neg h6] at h5; omega

theorem Told.form {w w' : World} {v : Value} {x : Option (Nat × (Nat → Nat))} (h : Told w w' v x) :
    ∃ a n, v = .slice a n n ∧ ((x = none ∧ a = none ∧ n = 0) ∨ ∃ T p g, x = some (T, p) ∧ a = some ⟨g, 0, none⟩ ∧ n = T + 1 ∧ w.heap.size ≤ g ∧ w'.rowIs g 3 (T + 1) (natV p)) := by
  match x, h with
  | none, h => exact ⟨none, 0, h.1 rfl, Or.inl ⟨rfl, rfl, rfl⟩⟩
  | some (T, p), h =>
    obtain ⟨g, h1, h2, h3⟩ := h.2 T p rfl
    exact ⟨_, _, h1, Or.inr ⟨T, p, g, rfl, rfl, rfl, h2, h3⟩⟩

end Go.Proofs.YtnkgpinadgacgaaDoor

namespace Go.Proofs.YtnkgpinadgacgaaDoor
open Go.RowKit M
theorem check_bu {ro co bu : Int} {cs : ByteArray} {m : Nat} {fr tt : Nat → Int} (h : (checkM ro co cs m fr tt bu).1 = 0) : 1 ≤ bu ∧ bu ≤ 20000 ∧ 1 ≤ m := by
  unfold checkM at h
  by_cases h1 : (sideB ro && sideB co) = false
  · rw [if_pos h1] at h; simp at h
  · rw [if_neg h1] at h
    by_cases h2 : 0 ≤ cellsM ro co cs
    · rw [if_pos h2] at h; simp at h
    · rw [if_neg h2] at h
      by_cases h3 : m < 1 ∨ 4 < m
      · rw [if_pos h3] at h; simp at h
      · rw [if_neg h3] at h
        by_cases h4 : firstOf (fun i => !(cartM cs fr tt i == 0)) m < m
        · rw [if_pos h4] at h
          have := M.firstOf_is (p := fun i => !(cartM cs fr tt i == 0)) m h4
          simp only [] at h this
          rw [h] at this; cases this
        · rw [if_neg h4] at h
          by_cases h5 : bu < 1 ∨ 20000 < bu
          · rw [if_pos h5] at h; simp at h
          · omega

theorem free_pos {cs : ByteArray} {z : Int} (h : freeB cs z = true) : 0 ≤ z := by
  obtain ⟨n, e, _⟩ := free_nat h
  omega

/-- What Positions answers. -/
def posE (ro co bu : Int) (cs : ByteArray) (m : Nat) (fr tt : Nat → Int) (x y z : Value) : Prop :=
  ((checkM ro co cs m fr tt bu).1 ≠ 0 ∧ x = .int .i64 0 ∧ y = .bool false ∧ z = .int .i64 (checkM ro co cs m fr tt bu).1) ∨
  ((checkM ro co cs m fr tt bu).1 = 0 ∧ ∃ (n : Nat) (d : Bool), M.Told (stepP ro co cs m) (cellsOf fr m) (cellsOf tt m) bu n d ∧
    ((bu < n ∧ x = .int .i64 0 ∧ y = .bool false ∧ z = .int .i64 10) ∨ (¬ bu < n ∧ x = .int .i64 n ∧ y = .bool d ∧ z = .int .i64 0)))

set_option maxRecDepth 100000 in
set_option maxHeartbeats 2000000 in
theorem positions_any (ro co bu : Int) (cs : ByteArray) (a : Option Addr) (m cc : Nat) (fr tt : Nat → Int) (w : World) (hs : cs.size ≤ maxLen) (hn : m ≤ maxLen) (hcap : m ≤ cc) (hsd : SidesIn w)
    (ha : 0 < m → ∃ b off, a = some ⟨b, off, none⟩ ∧ CartsIn w b off m fr tt) :
    Calls Tryd.prog 35 #[.agg #[.int .i64 ro, .int .i64 co, .string cs, .slice a m cc, .int .i64 bu]] w fun e w' => ∃ x y z, e = .returned (.tuple #[x, y, z]) ∧ posE ro co bu cs m fr tt x y z ∧ Below w.heap.size w w' := by
  have HSD := Hid.mk hsd
  have HA := Hid.mk ha
  clear hsd ha
  go_enter Tryd.func35, Tryd.ntmps35
  go_wp2_with fail
  have B1 : Hid (Below w.heap.size w (w.alloc (Obj.cells #[Value.int IntKind.i64 ro, Value.int IntKind.i64 co, Value.string cs, .slice a m cc, Value.int IntKind.i64 bu] 24))) := (Below.refl _ w).alloc (Nat.le_refl _) _
  have yc : ∀ o, (w.alloc (Obj.cells #[Value.int IntKind.i64 ro, Value.int IntKind.i64 co, Value.string cs, .slice a m cc, Value.int IntKind.i64 bu] 24)).cell? ⟨w.heap.size, o, none⟩ = #[Value.int .i64 ro, .int .i64 co, .string cs, .slice a m cc, .int .i64 bu][o]? := by
    intro o; go_simp
  have hz1 : (w.alloc (Obj.cells #[Value.int IntKind.i64 ro, Value.int IntKind.i64 co, Value.string cs, .slice a m cc, Value.int IntKind.i64 bu] 24)).heap.size = w.heap.size + 1 := by simp
  generalize w.alloc (Obj.cells #[Value.int IntKind.i64 ro, Value.int IntKind.i64 co, Value.string cs, .slice a m cc, Value.int IntKind.i64 bu] 24) = w1 at *
  refine (fault_any ro co bu cs a m cc fr tt _ hs hn hcap (by exact opt_below HA.out B1.out)).mono ?_
  rintro e w2 ⟨rfl, hb2⟩
  have hz2 := hb2.size
  have y0 := cell_later hb2 (yc 0)
  have y1 := cell_later hb2 (yc 1)
  have y2 := cell_later hb2 (yc 2)
  have y3 := cell_later hb2 (yc 3)
  have y4 := cell_later hb2 (yc 4)
  have B2 : Hid (Below w.heap.size w w2) := B1.out.trans (hb2.mono (by omega))
  clear yc hb2
  by_cases hck : (checkM ro co cs m fr tt bu).1 = 0
  · obtain ⟨s1, s2, s3⟩ := checkM_good hck
    obtain ⟨r1, r2⟩ := side_bd s1
    obtain ⟨r3, r4⟩ := side_bd s2
    obtain ⟨hp1, hp2⟩ := mul_bd r1 r2 r3 r4
    have hs6 : cs.size ≤ 36 := by omega
    obtain ⟨hm4, hfree⟩ := carts_free hck
    obtain ⟨hb1, hb2, hm1⟩ := check_bu hck
    have HCK := Hid.mk hck
    obtain ⟨b, off, rfl, hcs⟩ := HA.out (by omega)
    have HCS := Hid.mk hcs
    have HFR := Hid.mk hfree
    rw [hck]
    clear hck hcs hfree s3 hp1 hp2
    go_wp2_with fail
    refine (count_any ro co bu cs b off m cc fr tt _ hs6 r1 r2 r3 r4 hm4 (by omega) (HSD.out.below B2.out) (HCS.out.below B2.out) (fun k hk => ⟨free_pos (HFR.out k hk).1, (HFR.out k hk).1⟩) (fun k hk => ⟨free_pos (HFR.out k hk).2, (HFR.out k hk).2⟩)).mono ?_
    rintro e w3 ⟨n, d, rfl, hn2, htd, hb3⟩
    have TD := Hid.mk htd
    have z4 := cell_later hb3 y4
    have B3 : Hid (Below w.heap.size w w3) := B2.out.trans (hb3.mono (by omega))
    clear hb3 y0 y1 y2 y3 y4 htd
    by_cases hlt : bu < n
    · go_wp2
      go_ret3
      exact ⟨_, _, _, rfl, .inr ⟨HCK.out, n, d, TD.out, .inl ⟨hlt, rfl, rfl, rfl⟩⟩, B3.out⟩
    · go_wp2
      go_ret3
      exact ⟨_, _, _, rfl, .inr ⟨HCK.out, n, d, TD.out, .inr ⟨by omega, rfl, rfl, rfl⟩⟩, B3.out⟩
  · clear y0 y1 y2 y3 y4
    obtain ⟨z, hz⟩ : ∃ z, z = (checkM ro co cs m fr tt bu).1 := ⟨_, rfl⟩
    have HZ := Hid.mk hz
    rw [← hz] at hck ⊢
    clear hz
    go_wp2
    go_ret3
    exact ⟨_, _, _, rfl, .inl ⟨by rw [← HZ.out]; exact hck, rfl, rfl, congrArg (Value.int .i64) HZ.out⟩, B2.out⟩

end Go.Proofs.YtnkgpinadgacgaaDoor

namespace Go.Proofs.YtnkgpinadgacgaaDoor
open Go.RowKit M
/-- Was a number come to? -/
def seenB (cs : ByteArray) (L : List (List Nat)) (n : Nat) : Bool := L.any fun q => numOf (frB cs) cs.size q == n

/-- The numbers of positions. -/
def nums (cs : ByteArray) (L : List (List Nat)) : List Nat := L.map (numOf (frB cs) cs.size)

theorem nums_len (cs : ByteArray) (L : List (List Nat)) : (nums cs L).length = L.length := by simp [nums]

theorem nums_snoc (cs : ByteArray) (L : List (List Nat)) (q : List Nat) : nums cs (L ++ [q]) = nums cs L ++ [numOf (frB cs) cs.size q] := by simp [nums]

theorem nums_at {cs : ByteArray} {L : List (List Nat)} {i : Nat} (h : i < L.length) : (nums cs L).getD i 0 = numOf (frB cs) cs.size (L.getD i []) := by
  unfold nums
  rw [List.getD_eq_getElem?_getD, List.getElem?_map, List.getD_eq_getElem?_getD, List.getElem?_eq_getElem h]; rfl

theorem seenB_snoc (cs : ByteArray) (L : List (List Nat)) (q : List Nat) (n : Nat) : seenB cs (L ++ [q]) n = if n = numOf (frB cs) cs.size q then true else seenB cs L n := by
  unfold seenB
  rw [List.any_append]
  by_cases e : n = numOf (frB cs) cs.size q
  · rw [if_pos e]; simp [e]
  · rw [if_neg e]
    have e2 : ¬ (numOf (frB cs) cs.size q = n) := fun h => e h.symm
    simp [e2]

theorem good_mem {cs : ByteArray} {m : Nat} {q : List Nat} (h : Good cs m q) : ∀ c, c ∈ q → c < cs.size ∧ frB cs c = true := by
  intro c hc
  obtain ⟨k, hk, rfl⟩ := List.mem_iff_getElem.1 hc
  have h2 := h.2 k (by rw [← h.1]; exact hk)
  rw [List.getD_eq_getElem?_getD, List.getElem?_eq_getElem hk] at h2
  exact h2

theorem good_lt {cs : ByteArray} {m : Nat} {q : List Nat} (h : Good cs m q) : numOf (frB cs) cs.size q < (frees (frB cs) cs.size).length ^ m := by
  have h2 := numOf_lt (good_mem h)
  rw [h.1] at h2; exact h2

theorem seenB_iff {cs : ByteArray} {m : Nat} {L : List (List Nat)} {q : List Nat} (hL : ∀ x, x ∈ L → Good cs m x) (hq : Good cs m q) : seenB cs L (numOf (frB cs) cs.size q) = decide (q ∈ L) := by
  rw [Bool.eq_iff_iff, decide_eq_true_eq]
  unfold seenB
  rw [List.any_eq_true]
  constructor
  · rintro ⟨x, hx, e⟩
    have e2 : numOf (frB cs) cs.size x = numOf (frB cs) cs.size q := by simpa using e
    rw [← numOf_inj (by rw [(hL x hx).1, hq.1]) (good_mem (hL x hx)) (good_mem hq) e2]; exact hx
  · exact fun h => ⟨q, h, by simp⟩

/-- What comes behind a position of free cells is one. -/
theorem good_step {co : Int} {cs : ByteArray} {m : Nat} {p q : List Nat} (hq : stepR co cs m p q) : Good cs m q := by
  obtain ⟨h1, h2⟩ := growL_mem.1 hq
  refine ⟨h1, fun k hk => ?_⟩
  obtain ⟨h3, h4⟩ := mayN_mem.1 (h2 k hk).1
  refine ⟨h3, ?_⟩
  unfold mayM at h4
  simp only [Bool.and_eq_true] at h4
  exact h4.1

theorem own_oneN (w : World) (n k : Nat) (hk : k = w.heap.size) : OwnN (w.alloc (.cells #[.int .i64 (n : Int)] 3)) k (.slice (some ⟨k, 0, none⟩) 1 1) [n] := by
  subst hk
  refine ⟨rfl, .inr ⟨w.heap.size, 1, #[.int .i64 (n : Int)], rfl, Nat.le_refl _, ?_, Nat.le_refl _, by unfold maxLen; omega, rfl, rfl⟩⟩
  show (w.heap.push _)[w.heap.size]? = _
  simp

/-- What the document's Positions answers. -/
def posR (ro co bu : Int) (cs : ByteArray) (m : Nat) (fr tt : Nat → Int) (x y z : Value) : Prop :=
  ((checkM ro co cs m fr tt bu).1 ≠ 0 ∧ x = .int .i64 0 ∧ y = .bool false ∧ z = .int .i64 (checkM ro co cs m fr tt bu).1) ∨
  ((checkM ro co cs m fr tt bu).1 = 0 ∧ ∃ (n : Nat) (d : Bool), M.Told (stepR co cs m) (cellsOf fr m) (cellsOf tt m) bu n d ∧
    ((bu < n ∧ x = .int .i64 0 ∧ y = .bool false ∧ z = .int .i64 10) ∨ (¬ bu < n ∧ x = .int .i64 n ∧ y = .bool d ∧ z = .int .i64 0)))

theorem rank_pos {cs : ByteArray} {m : Nat} {q : List Nat} (hm : 1 ≤ m) (h : Good cs m q) : 0 < (frees (frB cs) cs.size).length := by
  have h2 := h.2 0 hm
  exact Nat.lt_of_le_of_lt (Nat.zero_le _) (rank_at (f := frB cs) h2.2 h2.1).1

theorem good_cellsOf {cs : ByteArray} {m : Nat} {f : Nat → Int} (h : ∀ k, k < m → freeB cs (f k) = true) : Good cs m (cellsOf f m) := by
  refine ⟨cellsOf_len _ _, fun k hk => ?_⟩
  obtain ⟨n, e1, e2⟩ := free_nat (h k hk)
  have h3 := h k hk
  rw [cellsOf_at hk, e1]
  rw [e1] at h3
  exact ⟨by simpa using e2, by simpa using h3⟩

end Go.Proofs.YtnkgpinadgacgaaDoor

namespace Go.Proofs.YtnkgpinadgacgaaDoor
open M SM BM
/-- Carts of a good yard stand apart, and so are their ends. -/
theorem carts_apart {ro co bu : Int} {cs : ByteArray} {m : Nat} {fr tt : Nat → Int} (h : (checkM ro co cs m fr tt bu).1 = 0) : ∀ i k, i < k → k < m → fr i ≠ fr k ∧ tt i ≠ tt k := by
  unfold checkM at h
  by_cases h1 : (sideB ro && sideB co) = false
  · rw [if_pos h1] at h; simp at h
  · rw [if_neg h1] at h
    by_cases h2 : 0 ≤ cellsM ro co cs
    · rw [if_pos h2] at h; simp at h
    · rw [if_neg h2] at h
      by_cases h3 : m < 1 ∨ 4 < m
      · rw [if_pos h3] at h; simp at h
      · rw [if_neg h3] at h
        by_cases h4 : firstOf (fun i => !(cartM cs fr tt i == 0)) m < m
        · rw [if_pos h4] at h
          have := M.firstOf_is (p := fun i => !(cartM cs fr tt i == 0)) m h4
          simp only [] at h this
          rw [h] at this; cases this
        · intro i k hik hk
          have := M.firstOf_none h4 k hk
          have h5 : cartM cs fr tt k = 0 := by simpa using this
          unfold cartM at h5
          by_cases h6 : (freeB cs (fr k) && freeB cs (tt k)) = true
          · rw [if_pos h6] at h5
            by_cases h7 : firstOf (twiceB fr tt k) k < k
            · rw [if_pos h7] at h5; cases h5
            · have h8 := M.firstOf_none h7 i hik
              unfold twiceB at h8
              simp only [Bool.or_eq_false_iff, beq_eq_false_iff_ne] at h8
              exact h8
          · rw [if_neg h6] at h5; cases h5

theorem cells_pos {ro co bu : Int} {cs : ByteArray} {m : Nat} {fr tt : Nat → Int} (h : (checkM ro co cs m fr tt bu).1 = 0) : PosG cs m (cellsOf fr m) ∧ PosG cs m (cellsOf tt m) := by
  obtain ⟨_, hf⟩ := carts_free h
  have ha := carts_apart h
  have good : ∀ f : Nat → Int, (∀ k, k < m → freeB cs (f k) = true) → Good cs m (cellsOf f m) := fun f hf => by
    refine ⟨cellsOf_len _ _, fun k hk => ?_⟩
    obtain ⟨n, e1, e2⟩ := free_nat (hf k hk)
    have h3 := hf k hk
    rw [cellsOf_at hk, e1] at *
    exact ⟨by omega, by simpa using h3⟩
  have dst : ∀ f : Nat → Int, (∀ k, k < m → freeB cs (f k) = true) → (∀ i k, i < k → k < m → f i ≠ f k) → Dst m (cellsOf f m) := fun f hf hd => by
    intro i k hi hk hne e
    rw [cellsOf_at hi, cellsOf_at hk] at e
    obtain ⟨a, e1, _⟩ := free_nat (hf i hi)
    obtain ⟨b, e2, _⟩ := free_nat (hf k hk)
    rcases Nat.lt_or_gt_of_ne hne with h | h
    · exact hd i k h hk (by omega)
    · exact hd k i h hi (by omega)
  exact ⟨⟨good fr fun k hk => (hf k hk).1, dst fr (fun k hk => (hf k hk).1) fun i k h1 h2 => (ha i k h1 h2).1⟩, ⟨good tt fun k hk => (hf k hk).2, dst tt (fun k hk => (hf k hk).2) fun i k h1 h2 => (ha i k h1 h2).2⟩⟩

end Go.Proofs.YtnkgpinadgacgaaDoor

namespace Go.Proofs.YtnkgpinadgacgaaDoor
open M SM BM
section
variable {ro co bu : Int} {cs : ByteArray} {m : Nat} {fr tt : Nat → Int} {L : List (List Nat)} {F0 : Nat}
theorem stY_is (hs : PosG cs m (cellsOf fr m)) : ∀ t, t < m → IsFar cs.size (adjM co cs) ((cellsOf fr m).getD t 0) (stY co cs fr t) := fun t ht => by
  have h := (hs.1.2 t ht).1
  rw [cellsOf_at ht] at h ⊢
  exact stF_is (orow_isFar h)

theorem sol_gnd (hck : (checkM ro co cs m fr tt bu).1 = 0) (hW : Work (stepP ro co cs m) (cellsOf fr m) L L.length) (hg : cellsOf tt m ∈ L) (hL : L.length ≤ 20000) :
    Gnd (fun p => growL (mvN ro co cs) p m) (restF (stY co cs fr) m) m (cellsOf fr m) (cellsOf tt m) L ∧ (∀ p, p ∈ L → PosG cs m p ∧ PosOK m cs.size (stY co cs fr) p) ∧
      ∃ j b K, BM.Way (E (fun p => growL (mvN ro co cs) p m) m L) j (s0 m (cellsOf tt m)) b K ∧ b.1 = cellsOf fr m := by
  obtain ⟨s1, s2, s3⟩ := checkM_good hck
  obtain ⟨r1, r2⟩ := side_bd s1
  obtain ⟨r3, r4⟩ := side_bd s2
  obtain ⟨hm4, hfree⟩ := carts_free hck
  obtain ⟨_, hs36⟩ := mul_bd r1 r2 r3 r4
  obtain ⟨hp1, hp2⟩ := cells_pos hck
  obtain ⟨h1, h2⟩ := gnd_yard r3 r4 s3 (by omega) hm4 hp1 (stY_is (co := co) hp1) hW hg hL
  exact ⟨h1, h2, way_yard r3 r4 s3 hp1 hW hg h1⟩

/-- What the search tells is a way, and there is none of less. -/
theorem sol_least (hF : 200400000 ≤ F0) (hck : (checkM ro co cs m fr tt bu).1 = 0) (hW : Work (stepP ro co cs m) (cellsOf fr m) L L.length) (hg : cellsOf tt m ∈ L) (hL : L.length ≤ 20000) {b : St} {s' : SM.Srch} (hsol : solY F0 ro co cs m fr tt = some (b, s')) :
    b.1 = cellsOf fr m ∧ (∃ j, BM.Way (E (fun p => growL (mvN ro co cs) p m) m L) j (s0 m (cellsOf tt m)) b (costO (s'.seen b))) ∧
      (∀ j b' K, BM.Way (E (fun p => growL (mvN ro co cs) p m) m L) j (s0 m (cellsOf tt m)) b' K → b'.1 = cellsOf fr m → costO (s'.seen b) ≤ K) := by
  obtain ⟨G, _, hway⟩ := sol_gnd hck hW hg hL
  obtain ⟨R, hn⟩ := run_begin G
  obtain ⟨x, s2, X2, hcome, hx, ⟨s3, hseen, hR3⟩, g, hgx, hleast⟩ := come_ok G hway F0 _ [] R (by unfold left; rw [hn]; simp only [List.length_nil]; omega)
  have e : some (x, s2) = some (b, s') := hcome.symm.trans hsol
  injection e with e
  injection e with e1 e2
  subst e1 e2
  have hk : costO (s2.seen x) = g := by
    cases e : s2.seen x with
    | none => rw [e] at hgx; cases hgx
    | some v => rw [e] at hgx; simp at hgx; exact hgx
  refine ⟨hx, ?_, fun j b' K W hb => by rw [hk]; exact hleast j b' K W hb⟩
  rw [hk]
  exact hR3.best.way x g (by rw [hseen]; exact hgx)

end
end Go.Proofs.YtnkgpinadgacgaaDoor

namespace Go.Proofs.YtnkgpinadgacgaaDoor
open Go.RowKit M
theorem pairs_bd {lvl n : Nat} {len : Nat → Nat} {num : Nat → Nat → Int} (hn : n ≤ 4) (h : ∀ j, j < n → len j ≤ 1048576) {i : Nat} (hi : i ≤ n) : (pairsF lvl n len num i).length ≤ 16777216 := by
  have h1 := pairsF_len (lvl := lvl) (num := num) (m := n) h i hi
  have h2 : n * 1048576 ≤ 4 * 1048576 := Nat.mul_le_mul hn (Nat.le_refl _)
  have h3 : i * (n * 1048576) ≤ 4 * (4 * 1048576) := Nat.mul_le_mul (by omega) h2
  omega

theorem others_bd {lvl n i k : Nat} {len : Nat → Nat} {num : Nat → Nat → Int} (hn : n ≤ 4) (h : ∀ j, j < n → len j ≤ 1048576) (hi : i < n) (hk : k ≤ n) : (othersF lvl i len num k).length ≤ 4194304 := by
  have h1 := othersF_len (lvl := lvl) (num := num) h hi k hk
  have h2 : k * 1048576 ≤ 4 * 1048576 := Nat.mul_le_mul (by omega) (Nat.le_refl _)
  omega

theorem times_hit {lvl i k t : Nat} {x y : Nat → Int} (h : pairB lvl (x t) (y t) (x (t + 1)) (y (t + 1)) = true) : timesF lvl i k x y (t + 1) = timesF lvl i k x y t ++ [⟨lvl, i, k, t⟩] := by simp only [timesF]; rw [if_pos h]

theorem times_miss {lvl i k t : Nat} {x y : Nat → Int} (h : pairB lvl (x t) (y t) (x (t + 1)) (y (t + 1)) = false) : timesF lvl i k x y (t + 1) = timesF lvl i k x y t := by simp only [timesF]; rw [if_neg (by rw [h]; decide), List.append_nil]

end Go.Proofs.YtnkgpinadgacgaaDoor
