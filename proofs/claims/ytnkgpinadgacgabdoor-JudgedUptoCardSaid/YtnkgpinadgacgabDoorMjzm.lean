/- Several texts in one: Dt, Di, Hf, Hi, Op. -/
import Derived.Test.YtnkgpinadgacgabDoorMjza
import Derived.Test.YtnkgpinadgacgabDoorMjzl
import Derived.Test.YtnkgpinadgacgabDoorMjzd
import Derived.Test.YtnkgpinadgacgabDoorMjl
import Derived.Test.YtnkgpinadgacgabDoorMjzk
import Derived.Deep.QuietTactic
import Derived.BigQuiet
import Derived.Deep.RegionHeld3
import Derived.Test.YtnkgpinadgacgabDoorMje
import Derived.Test.YtnkgpinadgacgabDoorMja
import Derived.ProofKit
import Derived.SizedLaws
import Derived.Deep.SlicePairs
import Derived.Deep.Fields
import Derived.Lib.SmallJoins
namespace Go.Proofs.YtnkgpinadgacgabDoor
open Go.RowKit M
/-- A list of lists of numbers that the call made. -/
def OwnQ (w : World) (base : Nat) (v : Value) (Ls : List (List Nat)) : Prop :=
  ∃ A : List Value, A.length = Ls.length ∧ w.ownsRow base 22 1 v Ls.length A ∧ (∀ t, t < Ls.length → RowQ w (A.getD t (.bool false)) (Ls.getD t [])) ∧ (∀ g t, v.ownBlock = some g → t < Ls.length → (A.getD t (.bool false)).ownBlock ≠ some g) ∧ (∀ t h, t < Ls.length → (A.getD t (.bool false)).ownBlock = some h → base ≤ h)

theorem OwnQ.nil (w : World) (base : Nat) : OwnQ w base (.slice none 0 0) [] := ⟨[], rfl, ⟨rfl, .inl ⟨rfl, rfl⟩⟩, fun _ h => by simp at h, fun _ _ _ h => by simp at h, fun _ _ h => by simp at h⟩

theorem OwnQ.below {w w' : World} {base : Nat} {v : Value} {Ls : List (List Nat)} (h : OwnQ w base v Ls) (hb : Below w.heap.size w w') : OwnQ w' base v Ls := by
  obtain ⟨A, h1, h2, h3, h4, h5⟩ := h
  exact ⟨A, h1, own_later h2 hb, fun t ht => (h3 t ht).below hb, h4, h5⟩

theorem OwnQ.le {w : World} {base base' : Nat} {v : Value} {Ls : List (List Nat)} (h : OwnQ w base v Ls) (hb : base' ≤ base) : OwnQ w base' v Ls := by
  obtain ⟨A, h1, h2, h3, h4, h5⟩ := h
  exact ⟨A, h1, own_le h2 hb, h3, h4, fun t k ht hk => Nat.le_trans hb (h5 t k ht hk)⟩

theorem OwnQ.lt {w : World} {base : Nat} {v : Value} {Ls : List (List Nat)} (h : OwnQ w base v Ls) : ∀ g, v.ownBlock = some g → base ≤ g ∧ g < w.heap.size := by
  obtain ⟨A, h1, h2, h3, h4, h5⟩ := h
  exact fun g hg => h2.lt g hg

theorem OwnQ.form {w : World} {base : Nat} {v : Value} {Ls : List (List Nat)} (h : OwnQ w base v Ls) : ∃ a cap, v = .slice a Ls.length cap ∧ (0 < Ls.length → ∃ g, a = some ⟨g, 0, none⟩) ∧ Ls.length ≤ cap := by
  obtain ⟨A, h1, h2, h3, h4, h5⟩ := h
  exact own_form h2

theorem OwnQ.cell {w : World} {base g n cap : Nat} {Ls : List (List Nat)} (h : OwnQ w base (.slice (some ⟨g, 0, none⟩) n cap) Ls) {t : Nat} (ht : t < Ls.length) : ∃ a c, w.cell? ⟨g, t, none⟩ = some (.slice a (Ls.getD t []).length c) ∧ RowQ w (.slice a (Ls.getD t []).length c) (Ls.getD t []) ∧ ∀ h, (Value.slice a (Ls.getD t []).length c).ownBlock = some h → base ≤ h := by
  obtain ⟨a0, cap2, hv, _, _⟩ := h.form
  obtain ⟨A, h1, h2, h3, h4, h6⟩ := h
  have e : n = Ls.length := by cases hv; rfl
  subst e
  have h5 := h3 t ht
  obtain ⟨a, c, hs, _⟩ := h5.form
  rw [hs] at h5
  refine ⟨a, c, ?_, h5, fun k hk => h6 t k ht (by rw [hs]; exact hk)⟩
  rw [own_cell h2 ht, ← hs, List.getD_eq_getElem?_getD, List.getElem?_eq_getElem (by omega)]; rfl

set_option maxRecDepth 100000 in
theorem wpList_pushQ {w0 : World} {ops : Array Oper} {rest : List Oper} {o : Oper} {a : Act} {Q : Exit → Act → World → Prop} (hgd : o.guard = none) (s x : Operand)
    (ho : o.op = .call { callee := .builtin .append, args := #[s, x], argTypes := #[29, 29] })
    (base : Nat) (v : Value) (Ls : List (List Nat)) (y : Value) (q : List Nat) (hs : a.eval s = v) (hown : OwnQ w0 base v Ls) (hbase : base ≤ w0.heap.size) (hy : RowQ w0 y q) (hd : ∀ g, v.ownBlock = some g → y.ownBlock ≠ some g) (hlo : ∀ g, y.ownBlock = some g → base ≤ g) (c : Nat)
    (hx : a.eval x = .slice (some ⟨w0.heap.size, 0, none⟩) 1 c) (hL : Ls.length ≤ 100000000)
    (h : ∀ g cap w', OwnQ w' base (.slice (some ⟨g, 0, none⟩) (Ls ++ [q]).length cap) (Ls ++ [q]) → Only (fun k => v.ownBlock = some k) w0 w' → (v.ownBlock = some g ∨ w0.heap.size ≤ g) → wpList Tryd.prog ops Q rest (a.put o.dst (.slice (some ⟨g, 0, none⟩) (Ls ++ [q]).length cap)) w') :
    wpList Tryd.prog ops Q (o :: rest) a (w0.alloc (.cells #[y] 22)) := by
  obtain ⟨i0, hi0, hi1, hi2, hi3⟩ := info_parts Tryd.infoSl
  obtain ⟨A, h1, h2, h3, h4, h5⟩ := hown
  obtain ⟨ya, yc, hyv, _⟩ := hy.form
  have hown1 := own_keep (w' := w0.alloc (.cells #[y] 22)) h2 (fun g _ hg _ => Below.heap_alloc _ _ _ hg)
  have hown2 := h2
  refine wpList_append_lies _ hgd s x _ ho base 22 i0 _ 1 24 Tryd.underlying29 hi0 hi1 hi2 hi3 rfl (by omega) v Ls.length A hs hown1 _ 1 c [y] hx rfl (fun j u hj => ?_) (fun u hu => ?_) (by omega) (by unfold maxLen; omega) (by omega) (by simp; omega) (w0.heap.size + 1) (by simp) ?_
  · match j, hj with
    | 0, hj => simp at hj; subst hj; simp [Addr.add]
    | j + 1, hj => simp at hj
  · simp at hu; subst hu; rw [hyv]; rfl
  · intro g cap w' ho9 hg9 hl9 _
    have e1 : (Ls ++ [q]).length = Ls.length + 1 := by simp
    rw [e1] at h
    have hon : Only (fun k => v.ownBlock = some k) w0 w' := ⟨hg9.os, hg9.tape, hg9.output, Nat.le_trans (by simp) hg9.size, fun k hk hn => by
      rw [hg9.block k (by simp; omega) (fun e => hn e.symm)]
      exact Below.heap_alloc _ _ _ hk⟩
    have hat : v.ownBlock = some g ∨ w0.heap.size ≤ g := hl9.imp id (fun e => by omega)
    refine h g cap w' ⟨A ++ [y], by simp [h1], by rw [e1]; exact ho9, fun t ht => ?_, fun g' t hg' ht => ?_, fun t k ht hk => ?_⟩ hon hat
    · by_cases htl : t < Ls.length
      · rw [getD_snoc_old (by omega), getD_snoc_old htl]
        exact (h3 t htl).only hon (fun b hb hv => h4 b t hv htl hb)
      · have e : t = Ls.length := by rw [List.length_append] at ht; simp at ht; omega
        rw [getD_snoc_new (by omega), getD_snoc_new e]
        exact hy.only hon (fun b hb hv => hd b hv hb)
    · have eg : g = g' := Option.some.inj hg'
      subst eg
      by_cases htl : t < Ls.length
      · rw [getD_snoc_old (by omega)]
        rcases hat with hh | hh
        · exact h4 g t hh htl
        · intro hb
          have := (h3 t htl).lt g hb
          omega
      · have e : t = Ls.length := by rw [List.length_append] at ht; simp at ht; omega
        rw [getD_snoc_new (by omega)]
        rcases hat with hh | hh
        · exact hd g hh
        · intro hb
          have := hy.lt g hb
          omega
    · by_cases htl : t < Ls.length
      · rw [getD_snoc_old (by omega)] at hk
        exact h5 t k htl hk
      · have e : t = Ls.length := by rw [List.length_append] at ht; simp at ht; omega
        rw [getD_snoc_new (by omega)] at hk
        exact hlo k hk

end Go.Proofs.YtnkgpinadgacgabDoor

namespace Go.Proofs.YtnkgpinadgacgabDoor
open Go.RowKit M
theorem check_bu {ro co bu : Int} {cs : ByteArray} {m : Nat} {fr tt : Nat → Int} (h : (checkM ro co cs m fr tt bu).1 = 0) : 1 ≤ bu ∧ bu ≤ 20000 ∧ 1 ≤ m := by
  unfold checkM at h
  by_cases h1 : (sideB ro && sideB co) = false
  · rw [if_pos h1] at h; simp at h
  · rw [if_neg h1] at h
    by_cases h2 : 0 ≤ cellsM ro co cs
    · rw [if_pos h2] at h; simp at h
    · rw [if_neg h2] at h
      by_cases h3 : m < 1 ∨ 4 < m
      · rw [if_pos h3] at h; simp at h
      · rw [if_neg h3] at h
        by_cases h4 : firstOf (fun i => !(cartM cs fr tt i == 0)) m < m
        · rw [if_pos h4] at h
          have := M.firstOf_is (p := fun i => !(cartM cs fr tt i == 0)) m h4
          simp only [] at h this
          rw [h] at this; cases this
        · rw [if_neg h4] at h
          by_cases h5 : bu < 1 ∨ 20000 < bu
          · rw [if_pos h5] at h; simp at h
          · omega

theorem free_pos {cs : ByteArray} {z : Int} (h : freeB cs z = true) : 0 ≤ z := by
  obtain ⟨n, e, _⟩ := free_nat h
  omega

/-- What Positions answers. -/
def posE (ro co bu : Int) (cs : ByteArray) (m : Nat) (fr tt : Nat → Int) (x y z : Value) : Prop :=
  ((checkM ro co cs m fr tt bu).1 ≠ 0 ∧ x = .int .i64 0 ∧ y = .bool false ∧ z = .int .i64 (checkM ro co cs m fr tt bu).1) ∨
  ((checkM ro co cs m fr tt bu).1 = 0 ∧ ∃ (n : Nat) (d : Bool), M.Told (stepP ro co cs m) (cellsOf fr m) (cellsOf tt m) bu n d ∧
    ((bu < n ∧ x = .int .i64 0 ∧ y = .bool false ∧ z = .int .i64 10) ∨ (¬ bu < n ∧ x = .int .i64 n ∧ y = .bool d ∧ z = .int .i64 0)))

set_option maxRecDepth 100000 in
set_option maxHeartbeats 2000000 in
theorem positions_any (ro co bu : Int) (cs : ByteArray) (a : Option Addr) (m cc : Nat) (fr tt : Nat → Int) (w : World) (hs : cs.size ≤ maxLen) (hn : m ≤ maxLen) (hcap : m ≤ cc) (hsd : SidesIn w)
    (ha : 0 < m → ∃ b off, a = some ⟨b, off, none⟩ ∧ CartsIn w b off m fr tt) :
    Calls Tryd.prog 14 #[.agg #[.int .i64 ro, .int .i64 co, .string cs, .slice a m cc, .int .i64 bu]] w fun e w' => ∃ x y z, e = .returned (.tuple #[x, y, z]) ∧ posE ro co bu cs m fr tt x y z ∧ Below w.heap.size w w' := by
  have HSD := Hid.mk hsd
  have HA := Hid.mk ha
  clear hsd ha
  go_enter Tryd.func14, Tryd.ntmps14
  go_wp2_with fail
  have B1 : Hid (Below w.heap.size w (w.alloc (Obj.cells #[Value.int IntKind.i64 ro, Value.int IntKind.i64 co, Value.string cs, .slice a m cc, Value.int IntKind.i64 bu] 28))) := (Below.refl _ w).alloc (Nat.le_refl _) _
  have yc : ∀ o, (w.alloc (Obj.cells #[Value.int IntKind.i64 ro, Value.int IntKind.i64 co, Value.string cs, .slice a m cc, Value.int IntKind.i64 bu] 28)).cell? ⟨w.heap.size, o, none⟩ = #[Value.int .i64 ro, .int .i64 co, .string cs, .slice a m cc, .int .i64 bu][o]? := by
    intro o; go_simp
  have hz1 : (w.alloc (Obj.cells #[Value.int IntKind.i64 ro, Value.int IntKind.i64 co, Value.string cs, .slice a m cc, Value.int IntKind.i64 bu] 28)).heap.size = w.heap.size + 1 := by simp
  generalize w.alloc (Obj.cells #[Value.int IntKind.i64 ro, Value.int IntKind.i64 co, Value.string cs, .slice a m cc, Value.int IntKind.i64 bu] 28) = w1 at *
  refine (fault_any ro co bu cs a m cc fr tt _ hs hn hcap (by exact opt_below HA.out B1.out)).mono ?_
  rintro e w2 ⟨rfl, hb2⟩
  have hz2 := hb2.size
  have y0 := cell_later hb2 (yc 0)
  have y1 := cell_later hb2 (yc 1)
  have y2 := cell_later hb2 (yc 2)
  have y3 := cell_later hb2 (yc 3)
  have y4 := cell_later hb2 (yc 4)
  have B2 : Hid (Below w.heap.size w w2) := B1.out.trans (hb2.mono (by omega))
  clear yc hb2
  by_cases hck : (checkM ro co cs m fr tt bu).1 = 0
  · obtain ⟨s1, s2, s3⟩ := checkM_good hck
    obtain ⟨r1, r2⟩ := side_bd s1
    obtain ⟨r3, r4⟩ := side_bd s2
    obtain ⟨hp1, hp2⟩ := mul_bd r1 r2 r3 r4
    have hs6 : cs.size ≤ 36 := by omega
    obtain ⟨hm4, hfree⟩ := carts_free hck
    obtain ⟨hb1, hb2, hm1⟩ := check_bu hck
    have HCK := Hid.mk hck
    obtain ⟨b, off, rfl, hcs⟩ := HA.out (by omega)
    have HCS := Hid.mk hcs
    have HFR := Hid.mk hfree
    rw [hck]
    clear hck hcs hfree s3 hp1 hp2
    go_wp2_with fail
    refine (count_any ro co bu cs b off m cc fr tt _ hs6 r1 r2 r3 r4 hm4 (by omega) (HSD.out.below B2.out) (HCS.out.below B2.out) (fun k hk => ⟨free_pos (HFR.out k hk).1, (HFR.out k hk).1⟩) (fun k hk => ⟨free_pos (HFR.out k hk).2, (HFR.out k hk).2⟩)).mono ?_
    rintro e w3 ⟨n, d, rfl, hn2, htd, hb3⟩
    have TD := Hid.mk htd
    have z4 := cell_later hb3 y4
    have B3 : Hid (Below w.heap.size w w3) := B2.out.trans (hb3.mono (by omega))
    clear hb3 y0 y1 y2 y3 y4 htd
    by_cases hlt : bu < n
    · go_wp2
      go_ret3
      exact ⟨_, _, _, rfl, .inr ⟨HCK.out, n, d, TD.out, .inl ⟨hlt, rfl, rfl, rfl⟩⟩, B3.out⟩
    · go_wp2
      go_ret3
      exact ⟨_, _, _, rfl, .inr ⟨HCK.out, n, d, TD.out, .inr ⟨by omega, rfl, rfl, rfl⟩⟩, B3.out⟩
  · clear y0 y1 y2 y3 y4
    obtain ⟨z, hz⟩ : ∃ z, z = (checkM ro co cs m fr tt bu).1 := ⟨_, rfl⟩
    have HZ := Hid.mk hz
    rw [← hz] at hck ⊢
    clear hz
    go_wp2
    go_ret3
    exact ⟨_, _, _, rfl, .inl ⟨by rw [← HZ.out]; exact hck, rfl, rfl, congrArg (Value.int .i64) HZ.out⟩, B2.out⟩

end Go.Proofs.YtnkgpinadgacgabDoor

namespace Go.Proofs.YtnkgpinadgacgabDoor
open M SM BM
/-- Carts of a good yard stand apart, and so are their ends. -/
theorem carts_apart {ro co bu : Int} {cs : ByteArray} {m : Nat} {fr tt : Nat → Int} (h : (checkM ro co cs m fr tt bu).1 = 0) : ∀ i k, i < k → k < m → fr i ≠ fr k ∧ tt i ≠ tt k := by
  unfold checkM at h
  by_cases h1 : (sideB ro && sideB co) = false
  · rw [if_pos h1] at h; simp at h
  · rw [if_neg h1] at h
    by_cases h2 : 0 ≤ cellsM ro co cs
    · rw [if_pos h2] at h; simp at h
    · rw [if_neg h2] at h
      by_cases h3 : m < 1 ∨ 4 < m
      · rw [if_pos h3] at h; simp at h
      · rw [if_neg h3] at h
        by_cases h4 : firstOf (fun i => !(cartM cs fr tt i == 0)) m < m
        · rw [if_pos h4] at h
          have := M.firstOf_is (p := fun i => !(cartM cs fr tt i == 0)) m h4
          simp only [] at h this
          rw [h] at this; cases this
        · intro i k hik hk
          have := M.firstOf_none h4 k hk
          have h5 : cartM cs fr tt k = 0 := by simpa using this
          unfold cartM at h5
          by_cases h6 : (freeB cs (fr k) && freeB cs (tt k)) = true
          · rw [if_pos h6] at h5
            by_cases h7 : firstOf (twiceB fr tt k) k < k
            · rw [if_pos h7] at h5; cases h5
            · have h8 := M.firstOf_none h7 i hik
              unfold twiceB at h8
              simp only [Bool.or_eq_false_iff, beq_eq_false_iff_ne] at h8
              exact h8
          · rw [if_neg h6] at h5; cases h5

theorem cells_pos {ro co bu : Int} {cs : ByteArray} {m : Nat} {fr tt : Nat → Int} (h : (checkM ro co cs m fr tt bu).1 = 0) : PosG cs m (cellsOf fr m) ∧ PosG cs m (cellsOf tt m) := by
  obtain ⟨_, hf⟩ := carts_free h
  have ha := carts_apart h
  have good : ∀ f : Nat → Int, (∀ k, k < m → freeB cs (f k) = true) → Good cs m (cellsOf f m) := fun f hf => by
    refine ⟨cellsOf_len _ _, fun k hk => ?_⟩
    obtain ⟨n, e1, e2⟩ := free_nat (hf k hk)
    have h3 := hf k hk
    rw [cellsOf_at hk, e1] at *
    exact ⟨by omega, by simpa using h3⟩
  have dst : ∀ f : Nat → Int, (∀ k, k < m → freeB cs (f k) = true) → (∀ i k, i < k → k < m → f i ≠ f k) → Dst m (cellsOf f m) := fun f hf hd => by
    intro i k hi hk hne e
    rw [cellsOf_at hi, cellsOf_at hk] at e
    obtain ⟨a, e1, _⟩ := free_nat (hf i hi)
    obtain ⟨b, e2, _⟩ := free_nat (hf k hk)
    rcases Nat.lt_or_gt_of_ne hne with h | h
    · exact hd i k h hk (by omega)
    · exact hd k i h hi (by omega)
  exact ⟨⟨good fr fun k hk => (hf k hk).1, dst fr (fun k hk => (hf k hk).1) fun i k h1 h2 => (ha i k h1 h2).1⟩, ⟨good tt fun k hk => (hf k hk).2, dst tt (fun k hk => (hf k hk).2) fun i k h1 h2 => (ha i k h1 h2).2⟩⟩

end Go.Proofs.YtnkgpinadgacgabDoor

namespace Go.Proofs.YtnkgpinadgacgabDoor
open Go.RowKit M SM
/-- What Solve answers: behind an error nothing; else the search's plan, and its cost. -/
def solE (F0 : Nat) (w' : World) (base : Nat) (ro co bu : Int) (cs : ByteArray) (m : Nat) (fr tt : Nat → Int) (x y z : Value) : Prop :=
  ((checkM ro co cs m fr tt bu).1 ≠ 0 ∧ x = .slice none 0 0 ∧ y = .int .i64 0 ∧ z = .int .i64 (checkM ro co cs m fr tt bu).1) ∨
  ((checkM ro co cs m fr tt bu).1 = 0 ∧ ∃ (n : Nat) (d : Bool), M.Told (stepP ro co cs m) (cellsOf fr m) (cellsOf tt m) bu n d ∧
    ((bu < n ∧ x = .slice none 0 0 ∧ y = .int .i64 0 ∧ z = .int .i64 10) ∨ (¬ bu < n ∧ d = false ∧ x = .slice none 0 0 ∧ y = .int .i64 0 ∧ z = .int .i64 9) ∨
      (¬ bu < n ∧ d = true ∧ z = .int .i64 0 ∧ ∃ L k b s', Work (stepP ro co cs m) (cellsOf fr m) L L.length ∧ n = L.length ∧ cellsOf tt m ∈ L ∧ solY F0 ro co cs m fr tt = some (b, s') ∧ k = costO (s'.seen b) ∧ y = .int .i64 (k : Nat) ∧ PlanOwn w' base x (planL m (SM.wayF s'.seen k b)))))

set_option maxRecDepth 1000000 in
set_option maxHeartbeats 8000000 in
theorem solve_any (F0 : Nat) (hF0 : 200400000 ≤ F0) (ro co bu : Int) (cs : ByteArray) (a : Option Addr) (m cc : Nat) (fr tt : Nat → Int) (w : World) (hs : cs.size ≤ maxLen) (hn : m ≤ maxLen) (hcap : m ≤ cc) (hsd : SidesIn w)
    (ha : 0 < m → ∃ b off, a = some ⟨b, off, none⟩ ∧ CartsIn w b off m fr tt) :
    Calls Tryd.prog 15 #[.agg #[.int .i64 ro, .int .i64 co, .string cs, .slice a m cc, .int .i64 bu]] w fun e w' => ∃ x y z, e = .returned (.tuple #[x, y, z]) ∧ solE F0 w' w.heap.size ro co bu cs m fr tt x y z ∧ Below w.heap.size w w' := by
  have HSD := Hid.mk hsd
  have HA := Hid.mk ha
  clear hsd ha
  go_enter Tryd.func15, Tryd.ntmps15
  go_wp2_with fail
  have B1 : Hid (Below w.heap.size w (w.alloc (Obj.cells #[Value.int IntKind.i64 ro, Value.int IntKind.i64 co, Value.string cs, .slice a m cc, Value.int IntKind.i64 bu] 28))) := (Below.refl _ w).alloc (Nat.le_refl _) _
  have yc : ∀ o, (w.alloc (Obj.cells #[Value.int IntKind.i64 ro, Value.int IntKind.i64 co, Value.string cs, .slice a m cc, Value.int IntKind.i64 bu] 28)).cell? ⟨w.heap.size, o, none⟩ = #[Value.int .i64 ro, .int .i64 co, .string cs, .slice a m cc, .int .i64 bu][o]? := by
    intro o; go_simp
  have hz1 : (w.alloc (Obj.cells #[Value.int IntKind.i64 ro, Value.int IntKind.i64 co, Value.string cs, .slice a m cc, Value.int IntKind.i64 bu] 28)).heap.size = w.heap.size + 1 := by simp
  generalize w.alloc (Obj.cells #[Value.int IntKind.i64 ro, Value.int IntKind.i64 co, Value.string cs, .slice a m cc, Value.int IntKind.i64 bu] 28) = w1 at *
  refine (positions_any ro co bu cs a m cc fr tt _ hs hn hcap (HSD.out.below B1.out) (by exact opt_below HA.out B1.out)).mono ?_
  rintro e w2 ⟨x, y, z, rfl, hpos, hb2⟩
  have hz2 := hb2.size
  have y0 := cell_later hb2 (yc 0)
  have y1 := cell_later hb2 (yc 1)
  have y2 := cell_later hb2 (yc 2)
  have y3 := cell_later hb2 (yc 3)
  have y4 := cell_later hb2 (yc 4)
  have B2 : Hid (Below w.heap.size w w2) := B1.out.trans (hb2.mono (by omega))
  clear yc hb2
  rcases hpos with ⟨hck, rfl, rfl, rfl⟩ | ⟨hck, n, d, htold, hpos⟩
  · obtain ⟨zc, hzc⟩ : ∃ zc, zc = (checkM ro co cs m fr tt bu).1 := ⟨_, rfl⟩
    have HZ := Hid.mk hzc
    rw [← hzc] at hck ⊢
    clear hzc y0 y1 y2 y3 y4
    go_wp2_with fail
    go_ret3
    exact ⟨_, _, _, rfl, .inl ⟨by rw [← HZ.out]; exact hck, rfl, rfl, congrArg (Value.int .i64) HZ.out⟩, B2.out⟩
  · have HT := Hid.mk htold
    have HCK := Hid.mk hck
    rcases hpos with ⟨hbn, rfl, rfl, rfl⟩ | ⟨hbn, rfl, rfl, rfl⟩
    · have HBN := Hid.mk hbn
      clear htold hck hbn y0 y1 y2 y3 y4
      go_wp2_with fail
      go_ret3
      exact ⟨_, _, _, rfl, .inr ⟨HCK.out, n, d, HT.out, .inl ⟨HBN.out, rfl, rfl, rfl⟩⟩, B2.out⟩
    · have HBN := Hid.mk hbn
      clear htold hck hbn
      cases d
      · clear y0 y1 y2 y3 y4
        go_wp2_with fail
        go_ret3
        exact ⟨_, _, _, rfl, .inr ⟨HCK.out, n, false, HT.out, .inr (.inl ⟨(by have := HBN.out; omega), rfl, rfl, rfl, rfl⟩)⟩, B2.out⟩
      · obtain ⟨L, hW, hnL, hgL⟩ : ∃ L, Work (stepP ro co cs m) (cellsOf fr m) L L.length ∧ n = L.length ∧ cellsOf tt m ∈ L := by
          rcases HT.out with ⟨L, h1, h2, h3⟩ | ⟨L, i, h1, h2, h3⟩
          · exact ⟨L, h1, h2, of_decide_eq_true h3.symm⟩
          · exact absurd h3 (by have := HBN.out; omega)
        obtain ⟨s1, s2, s3⟩ := checkM_good HCK.out
        obtain ⟨r1, r2⟩ := side_bd s1
        obtain ⟨r3, r4⟩ := side_bd s2
        obtain ⟨hm4, hfree⟩ := carts_free HCK.out
        obtain ⟨hb1, hb2, hm1⟩ := check_bu HCK.out
        obtain ⟨b, off, rfl, hcs⟩ := HA.out (by omega)
        obtain ⟨hp1, hp2⟩ := cells_pos HCK.out
        have hLb : L.length ≤ 20000 := by
          have := HBN.out
          omega
        have PL : Hid (Calls Tryd.prog 38 #[.agg #[.int .i64 ro, .int .i64 co, .string cs, .slice (some ⟨b, off, none⟩) m cc, .int .i64 bu]] w2 fun e w' =>
            ∃ v k x s', solY F0 ro co cs m fr tt = some (x, s') ∧ k = costO (s'.seen x) ∧ e = .returned (.tuple #[v, .int .i64 (k : Nat)]) ∧ PlanOwn w' w2.heap.size v (planL m (SM.wayF s'.seen k x)) ∧ Below w2.heap.size w2 w') :=
          plan_any F0 hF0 ro co bu cs b off m cc fr tt L w2 s3 r1 r2 r3 r4 hm1 hm4 (HSD.out.below B2.out) (hcs.below B2.out) hfree hp1 hp2 hW hgL hLb
        have HW := Hid.mk hW
        have HGL := Hid.mk hgL
        have HNL := Hid.mk hnL
        clear hW hnL hgL s1 s2 s3 hfree hcs hp1 hp2
        go_wp2_with fail
        refine PL.out.mono ?_
        rintro e w3 ⟨v, k, q, s', hsol, hk, rfl, hpl, hb3⟩
        have HSOL := Hid.mk hsol
        have HK := Hid.mk hk
        have PLN : Hid (PlanOwn w3 w.heap.size v (planL m (SM.wayF s'.seen k q))) := hpl.le (by have := B2.out.size; omega)
        have B3 : Hid (Below w.heap.size w w3) := B2.out.trans (hb3.mono (by have := B2.out.size; omega))
        obtain ⟨gp, A, rfl, _⟩ := hpl
        clear hsol hk hb3 y0 y1 y2 y3 y4
        go_wp2_with fail
        go_ret3
        exact ⟨_, _, _, rfl, .inr ⟨HCK.out, n, true, HT.out, .inr (.inr ⟨(by have := HBN.out; omega), rfl, rfl, L, k, q, s', HW.out, HNL.out, HGL.out, HSOL.out, HK.out, rfl, PLN.out⟩)⟩, B3.out⟩

end Go.Proofs.YtnkgpinadgacgabDoor

namespace Go.Proofs.YtnkgpinadgacgabDoor
open Go.ChangeShapes Go.WideShapes Go.ChangeAt Go.RowKit Go.Deep Go.Joins
theorem Tryd.own : ownKnob Tryd.prog.godebug = none := by kernel_rfl

theorem Tryd.laidOut : laidOutB Tryd.prog = true := by kernel_rfl

theorem Tryd.cellsInt : Tryd.prog.cellsOf 3 = 1 := by kernel_rfl

theorem Tryd.cellsString : Tryd.prog.cellsOf 9 = 1 := by kernel_rfl

theorem array5 {α : Type} {cs : Array α} (h : cs.size = 5) : ∃ c0 c1 c2 c3 c4, cs = #[c0, c1, c2, c3, c4] := by
  obtain ⟨l⟩ := cs
  match l, h with
  | [c0, c1, c2, c3, c4], _ => exact ⟨c0, c1, c2, c3, c4, rfl⟩

theorem list5 {α : Type} {l : List α} (h : l.length = 5) : ∃ c0 c1 c2 c3 c4, l = [c0, c1, c2, c3, c4] := by
  match l, h with
  | [c0, c1, c2, c3, c4], _ => exact ⟨c0, c1, c2, c3, c4, rfl⟩

end Go.Proofs.YtnkgpinadgacgabDoor
