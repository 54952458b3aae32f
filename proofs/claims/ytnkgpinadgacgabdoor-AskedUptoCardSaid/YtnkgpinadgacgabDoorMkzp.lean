/- Several texts in one: Di, Hf, Hi, He, Ka, Kb, Hk. -/
import Derived.Test.YtnkgpinadgacgabDoorMkzh
import Derived.Test.YtnkgpinadgacgabDoorMkj
import Derived.Test.YtnkgpinadgacgabDoorMkq
import Derived.Test.YtnkgpinadgacgabDoorMkzn
import Derived.Test.YtnkgpinadgacgabDoorMkzd
import Derived.Test.YtnkgpinadgacgabDoorMkzo
import Derived.Deep.QuietTactic
import Derived.BigQuiet
import Derived.Deep.RegionHeld3
import Derived.Test.YtnkgpinadgacgabDoorMkl
import Derived.Test.YtnkgpinadgacgabDoorMkzg
import Derived.Test.YtnkgpinadgacgabDoorMkm
import Derived.Test.YtnkgpinadgacgabDoorMkk
namespace Go.Proofs.YtnkgpinadgacgabDoor
open Go.RowKit M
theorem check_bu {ro co bu : Int} {cs : ByteArray} {m : Nat} {fr tt : Nat → Int} (h : (checkM ro co cs m fr tt bu).1 = 0) : 1 ≤ bu ∧ bu ≤ 20000 ∧ 1 ≤ m := by
  unfold checkM at h
  by_cases h1 : (sideB ro && sideB co) = false
  · rw [if_pos h1] at h; simp at h
  · rw [if_neg h1] at h
    by_cases h2 : 0 ≤ cellsM ro co cs
    · rw [if_pos h2] at h; simp at h
    · rw [if_neg h2] at h
      by_cases h3 : m < 1 ∨ 4 < m
      · rw [if_pos h3] at h; simp at h
      · rw [if_neg h3] at h
        by_cases h4 : firstOf (fun i => !(cartM cs fr tt i == 0)) m < m
        · rw [if_pos h4] at h
          have := M.firstOf_is (p := fun i => !(cartM cs fr tt i == 0)) m h4
          simp only [] at h this
          rw [h] at this; cases this
        · rw [if_neg h4] at h
          by_cases h5 : bu < 1 ∨ 20000 < bu
          · rw [if_pos h5] at h; simp at h
          · omega

theorem free_pos {cs : ByteArray} {z : Int} (h : freeB cs z = true) : 0 ≤ z := by
  obtain ⟨n, e, _⟩ := free_nat h
  omega

/-- What Positions answers. -/
def posE (ro co bu : Int) (cs : ByteArray) (m : Nat) (fr tt : Nat → Int) (x y z : Value) : Prop :=
  ((checkM ro co cs m fr tt bu).1 ≠ 0 ∧ x = .int .i64 0 ∧ y = .bool false ∧ z = .int .i64 (checkM ro co cs m fr tt bu).1) ∨
  ((checkM ro co cs m fr tt bu).1 = 0 ∧ ∃ (n : Nat) (d : Bool), M.Told (stepP ro co cs m) (cellsOf fr m) (cellsOf tt m) bu n d ∧
    ((bu < n ∧ x = .int .i64 0 ∧ y = .bool false ∧ z = .int .i64 10) ∨ (¬ bu < n ∧ x = .int .i64 n ∧ y = .bool d ∧ z = .int .i64 0)))

set_option maxRecDepth 100000 in
set_option maxHeartbeats 2000000 in
theorem positions_any (ro co bu : Int) (cs : ByteArray) (a : Option Addr) (m cc : Nat) (fr tt : Nat → Int) (w : World) (hs : cs.size ≤ maxLen) (hn : m ≤ maxLen) (hcap : m ≤ cc) (hsd : SidesIn w)
    (ha : 0 < m → ∃ b off, a = some ⟨b, off, none⟩ ∧ CartsIn w b off m fr tt) :
    Calls Tryd.prog 14 #[.agg #[.int .i64 ro, .int .i64 co, .string cs, .slice a m cc, .int .i64 bu]] w fun e w' => ∃ x y z, e = .returned (.tuple #[x, y, z]) ∧ posE ro co bu cs m fr tt x y z ∧ Below w.heap.size w w' := by
  have HSD := Hid.mk hsd
  have HA := Hid.mk ha
  clear hsd ha
  go_enter Tryd.func14, Tryd.ntmps14
  go_wp2_with fail
  have B1 : Hid (Below w.heap.size w (w.alloc (Obj.cells #[Value.int IntKind.i64 ro, Value.int IntKind.i64 co, Value.string cs, .slice a m cc, Value.int IntKind.i64 bu] 28))) := (Below.refl _ w).alloc (Nat.le_refl _) _
  have yc : ∀ o, (w.alloc (Obj.cells #[Value.int IntKind.i64 ro, Value.int IntKind.i64 co, Value.string cs, .slice a m cc, Value.int IntKind.i64 bu] 28)).cell? ⟨w.heap.size, o, none⟩ = #[Value.int .i64 ro, .int .i64 co, .string cs, .slice a m cc, .int .i64 bu][o]? := by
    intro o; go_simp
  have hz1 : (w.alloc (Obj.cells #[Value.int IntKind.i64 ro, Value.int IntKind.i64 co, Value.string cs, .slice a m cc, Value.int IntKind.i64 bu] 28)).heap.size = w.heap.size + 1 := by simp
  generalize w.alloc (Obj.cells #[Value.int IntKind.i64 ro, Value.int IntKind.i64 co, Value.string cs, .slice a m cc, Value.int IntKind.i64 bu] 28) = w1 at *
  refine (fault_any ro co bu cs a m cc fr tt _ hs hn hcap (by exact opt_below HA.out B1.out)).mono ?_
  rintro e w2 ⟨rfl, hb2⟩
  have hz2 := hb2.size
  have y0 := cell_later hb2 (yc 0)
  have y1 := cell_later hb2 (yc 1)
  have y2 := cell_later hb2 (yc 2)
  have y3 := cell_later hb2 (yc 3)
  have y4 := cell_later hb2 (yc 4)
  have B2 : Hid (Below w.heap.size w w2) := B1.out.trans (hb2.mono (by omega))
  clear yc hb2
  by_cases hck : (checkM ro co cs m fr tt bu).1 = 0
  · obtain ⟨s1, s2, s3⟩ := checkM_good hck
    obtain ⟨r1, r2⟩ := side_bd s1
    obtain ⟨r3, r4⟩ := side_bd s2
    obtain ⟨hp1, hp2⟩ := mul_bd r1 r2 r3 r4
    have hs6 : cs.size ≤ 36 := by omega
    obtain ⟨hm4, hfree⟩ := carts_free hck
    obtain ⟨hb1, hb2, hm1⟩ := check_bu hck
    have HCK := Hid.mk hck
    obtain ⟨b, off, rfl, hcs⟩ := HA.out (by omega)
    have HCS := Hid.mk hcs
    have HFR := Hid.mk hfree
    rw [hck]
    clear hck hcs hfree s3 hp1 hp2
    go_wp2_with fail
    refine (count_any ro co bu cs b off m cc fr tt _ hs6 r1 r2 r3 r4 hm4 (by omega) (HSD.out.below B2.out) (HCS.out.below B2.out) (fun k hk => ⟨free_pos (HFR.out k hk).1, (HFR.out k hk).1⟩) (fun k hk => ⟨free_pos (HFR.out k hk).2, (HFR.out k hk).2⟩)).mono ?_
    rintro e w3 ⟨n, d, rfl, hn2, htd, hb3⟩
    have TD := Hid.mk htd
    have z4 := cell_later hb3 y4
    have B3 : Hid (Below w.heap.size w w3) := B2.out.trans (hb3.mono (by omega))
    clear hb3 y0 y1 y2 y3 y4 htd
    by_cases hlt : bu < n
    · go_wp2
      go_ret3
      exact ⟨_, _, _, rfl, .inr ⟨HCK.out, n, d, TD.out, .inl ⟨hlt, rfl, rfl, rfl⟩⟩, B3.out⟩
    · go_wp2
      go_ret3
      exact ⟨_, _, _, rfl, .inr ⟨HCK.out, n, d, TD.out, .inr ⟨by omega, rfl, rfl, rfl⟩⟩, B3.out⟩
  · clear y0 y1 y2 y3 y4
    obtain ⟨z, hz⟩ : ∃ z, z = (checkM ro co cs m fr tt bu).1 := ⟨_, rfl⟩
    have HZ := Hid.mk hz
    rw [← hz] at hck ⊢
    clear hz
    go_wp2
    go_ret3
    exact ⟨_, _, _, rfl, .inl ⟨by rw [← HZ.out]; exact hck, rfl, rfl, congrArg (Value.int .i64) HZ.out⟩, B2.out⟩

end Go.Proofs.YtnkgpinadgacgabDoor

namespace Go.Proofs.YtnkgpinadgacgabDoor
open M SM BM
/-- Carts of a good yard stand apart, and so are their ends. -/
theorem carts_apart {ro co bu : Int} {cs : ByteArray} {m : Nat} {fr tt : Nat → Int} (h : (checkM ro co cs m fr tt bu).1 = 0) : ∀ i k, i < k → k < m → fr i ≠ fr k ∧ tt i ≠ tt k := by
  unfold checkM at h
  by_cases h1 : (sideB ro && sideB co) = false
  · rw [if_pos h1] at h; simp at h
  · rw [if_neg h1] at h
    by_cases h2 : 0 ≤ cellsM ro co cs
    · rw [if_pos h2] at h; simp at h
    · rw [if_neg h2] at h
      by_cases h3 : m < 1 ∨ 4 < m
      · rw [if_pos h3] at h; simp at h
      · rw [if_neg h3] at h
        by_cases h4 : firstOf (fun i => !(cartM cs fr tt i == 0)) m < m
        · rw [if_pos h4] at h
          have := M.firstOf_is (p := fun i => !(cartM cs fr tt i == 0)) m h4
          simp only [] at h this
          rw [h] at this; cases this
        · intro i k hik hk
          have := M.firstOf_none h4 k hk
          have h5 : cartM cs fr tt k = 0 := by simpa using this
          unfold cartM at h5
          by_cases h6 : (freeB cs (fr k) && freeB cs (tt k)) = true
          · rw [if_pos h6] at h5
            by_cases h7 : firstOf (twiceB fr tt k) k < k
            · rw [if_pos h7] at h5; cases h5
            · have h8 := M.firstOf_none h7 i hik
              unfold twiceB at h8
              simp only [Bool.or_eq_false_iff, beq_eq_false_iff_ne] at h8
              exact h8
          · rw [if_neg h6] at h5; cases h5

theorem cells_pos {ro co bu : Int} {cs : ByteArray} {m : Nat} {fr tt : Nat → Int} (h : (checkM ro co cs m fr tt bu).1 = 0) : PosG cs m (cellsOf fr m) ∧ PosG cs m (cellsOf tt m) := by
  obtain ⟨_, hf⟩ := carts_free h
  have ha := carts_apart h
  have good : ∀ f : Nat → Int, (∀ k, k < m → freeB cs (f k) = true) → Good cs m (cellsOf f m) := fun f hf => by
    refine ⟨cellsOf_len _ _, fun k hk => ?_⟩
    obtain ⟨n, e1, e2⟩ := free_nat (hf k hk)
    have h3 := hf k hk
    rw [cellsOf_at hk, e1] at *
    exact ⟨by omega, by simpa using h3⟩
  have dst : ∀ f : Nat → Int, (∀ k, k < m → freeB cs (f k) = true) → (∀ i k, i < k → k < m → f i ≠ f k) → Dst m (cellsOf f m) := fun f hf hd => by
    intro i k hi hk hne e
    rw [cellsOf_at hi, cellsOf_at hk] at e
    obtain ⟨a, e1, _⟩ := free_nat (hf i hi)
    obtain ⟨b, e2, _⟩ := free_nat (hf k hk)
    rcases Nat.lt_or_gt_of_ne hne with h | h
    · exact hd i k h hk (by omega)
    · exact hd k i h hi (by omega)
  exact ⟨⟨good fr fun k hk => (hf k hk).1, dst fr (fun k hk => (hf k hk).1) fun i k h1 h2 => (ha i k h1 h2).1⟩, ⟨good tt fun k hk => (hf k hk).2, dst tt (fun k hk => (hf k hk).2) fun i k h1 h2 => (ha i k h1 h2).2⟩⟩

end Go.Proofs.YtnkgpinadgacgabDoor

namespace Go.Proofs.YtnkgpinadgacgabDoor
open Go.RowKit M SM
/-- What Solve answers: behind an error nothing; else the search's plan, and its cost. -/
def solE (F0 : Nat) (w' : World) (base : Nat) (ro co bu : Int) (cs : ByteArray) (m : Nat) (fr tt : Nat → Int) (x y z : Value) : Prop :=
  ((checkM ro co cs m fr tt bu).1 ≠ 0 ∧ x = .slice none 0 0 ∧ y = .int .i64 0 ∧ z = .int .i64 (checkM ro co cs m fr tt bu).1) ∨
  ((checkM ro co cs m fr tt bu).1 = 0 ∧ ∃ (n : Nat) (d : Bool), M.Told (stepP ro co cs m) (cellsOf fr m) (cellsOf tt m) bu n d ∧
    ((bu < n ∧ x = .slice none 0 0 ∧ y = .int .i64 0 ∧ z = .int .i64 10) ∨ (¬ bu < n ∧ d = false ∧ x = .slice none 0 0 ∧ y = .int .i64 0 ∧ z = .int .i64 9) ∨
      (¬ bu < n ∧ d = true ∧ z = .int .i64 0 ∧ ∃ L k b s', Work (stepP ro co cs m) (cellsOf fr m) L L.length ∧ n = L.length ∧ cellsOf tt m ∈ L ∧ solY F0 ro co cs m fr tt = some (b, s') ∧ k = costO (s'.seen b) ∧ y = .int .i64 (k : Nat) ∧ PlanOwn w' base x (planL m (SM.wayF s'.seen k b)))))

set_option maxRecDepth 1000000 in
set_option maxHeartbeats 8000000 in
theorem solve_any (F0 : Nat) (hF0 : 200400000 ≤ F0) (ro co bu : Int) (cs : ByteArray) (a : Option Addr) (m cc : Nat) (fr tt : Nat → Int) (w : World) (hs : cs.size ≤ maxLen) (hn : m ≤ maxLen) (hcap : m ≤ cc) (hsd : SidesIn w)
    (ha : 0 < m → ∃ b off, a = some ⟨b, off, none⟩ ∧ CartsIn w b off m fr tt) :
    Calls Tryd.prog 15 #[.agg #[.int .i64 ro, .int .i64 co, .string cs, .slice a m cc, .int .i64 bu]] w fun e w' => ∃ x y z, e = .returned (.tuple #[x, y, z]) ∧ solE F0 w' w.heap.size ro co bu cs m fr tt x y z ∧ Below w.heap.size w w' := by
  have HSD := Hid.mk hsd
  have HA := Hid.mk ha
  clear hsd ha
  go_enter Tryd.func15, Tryd.ntmps15
  go_wp2_with fail
  have B1 : Hid (Below w.heap.size w (w.alloc (Obj.cells #[Value.int IntKind.i64 ro, Value.int IntKind.i64 co, Value.string cs, .slice a m cc, Value.int IntKind.i64 bu] 28))) := (Below.refl _ w).alloc (Nat.le_refl _) _
  have yc : ∀ o, (w.alloc (Obj.cells #[Value.int IntKind.i64 ro, Value.int IntKind.i64 co, Value.string cs, .slice a m cc, Value.int IntKind.i64 bu] 28)).cell? ⟨w.heap.size, o, none⟩ = #[Value.int .i64 ro, .int .i64 co, .string cs, .slice a m cc, .int .i64 bu][o]? := by
    intro o; go_simp
  have hz1 : (w.alloc (Obj.cells #[Value.int IntKind.i64 ro, Value.int IntKind.i64 co, Value.string cs, .slice a m cc, Value.int IntKind.i64 bu] 28)).heap.size = w.heap.size + 1 := by simp
  generalize w.alloc (Obj.cells #[Value.int IntKind.i64 ro, Value.int IntKind.i64 co, Value.string cs, .slice a m cc, Value.int IntKind.i64 bu] 28) = w1 at *
  refine (positions_any ro co bu cs a m cc fr tt _ hs hn hcap (HSD.out.below B1.out) (by exact opt_below HA.out B1.out)).mono ?_
  rintro e w2 ⟨x, y, z, rfl, hpos, hb2⟩
  have hz2 := hb2.size
  have y0 := cell_later hb2 (yc 0)
  have y1 := cell_later hb2 (yc 1)
  have y2 := cell_later hb2 (yc 2)
  have y3 := cell_later hb2 (yc 3)
  have y4 := cell_later hb2 (yc 4)
  have B2 : Hid (Below w.heap.size w w2) := B1.out.trans (hb2.mono (by omega))
  clear yc hb2
  rcases hpos with ⟨hck, rfl, rfl, rfl⟩ | ⟨hck, n, d, htold, hpos⟩
  · obtain ⟨zc, hzc⟩ : ∃ zc, zc = (checkM ro co cs m fr tt bu).1 := ⟨_, rfl⟩
    have HZ := Hid.mk hzc
    rw [← hzc] at hck ⊢
    clear hzc y0 y1 y2 y3 y4
    go_wp2_with fail
    go_ret3
    exact ⟨_, _, _, rfl, .inl ⟨by rw [← HZ.out]; exact hck, rfl, rfl, congrArg (Value.int .i64) HZ.out⟩, B2.out⟩
  · have HT := Hid.mk htold
    have HCK := Hid.mk hck
    rcases hpos with ⟨hbn, rfl, rfl, rfl⟩ | ⟨hbn, rfl, rfl, rfl⟩
    · have HBN := Hid.mk hbn
      clear htold hck hbn y0 y1 y2 y3 y4
      go_wp2_with fail
      go_ret3
      exact ⟨_, _, _, rfl, .inr ⟨HCK.out, n, d, HT.out, .inl ⟨HBN.out, rfl, rfl, rfl⟩⟩, B2.out⟩
    · have HBN := Hid.mk hbn
      clear htold hck hbn
      cases d
      · clear y0 y1 y2 y3 y4
        go_wp2_with fail
        go_ret3
        exact ⟨_, _, _, rfl, .inr ⟨HCK.out, n, false, HT.out, .inr (.inl ⟨(by have := HBN.out; omega), rfl, rfl, rfl, rfl⟩)⟩, B2.out⟩
      · obtain ⟨L, hW, hnL, hgL⟩ : ∃ L, Work (stepP ro co cs m) (cellsOf fr m) L L.length ∧ n = L.length ∧ cellsOf tt m ∈ L := by
          rcases HT.out with ⟨L, h1, h2, h3⟩ | ⟨L, i, h1, h2, h3⟩
          · exact ⟨L, h1, h2, of_decide_eq_true h3.symm⟩
          · exact absurd h3 (by have := HBN.out; omega)
        obtain ⟨s1, s2, s3⟩ := checkM_good HCK.out
        obtain ⟨r1, r2⟩ := side_bd s1
        obtain ⟨r3, r4⟩ := side_bd s2
        obtain ⟨hm4, hfree⟩ := carts_free HCK.out
        obtain ⟨hb1, hb2, hm1⟩ := check_bu HCK.out
        obtain ⟨b, off, rfl, hcs⟩ := HA.out (by omega)
        obtain ⟨hp1, hp2⟩ := cells_pos HCK.out
        have hLb : L.length ≤ 20000 := by
          have := HBN.out
          omega
        have PL : Hid (Calls Tryd.prog 38 #[.agg #[.int .i64 ro, .int .i64 co, .string cs, .slice (some ⟨b, off, none⟩) m cc, .int .i64 bu]] w2 fun e w' =>
            ∃ v k x s', solY F0 ro co cs m fr tt = some (x, s') ∧ k = costO (s'.seen x) ∧ e = .returned (.tuple #[v, .int .i64 (k : Nat)]) ∧ PlanOwn w' w2.heap.size v (planL m (SM.wayF s'.seen k x)) ∧ Below w2.heap.size w2 w') :=
          plan_any F0 hF0 ro co bu cs b off m cc fr tt L w2 s3 r1 r2 r3 r4 hm1 hm4 (HSD.out.below B2.out) (hcs.below B2.out) hfree hp1 hp2 hW hgL hLb
        have HW := Hid.mk hW
        have HGL := Hid.mk hgL
        have HNL := Hid.mk hnL
        clear hW hnL hgL s1 s2 s3 hfree hcs hp1 hp2
        go_wp2_with fail
        refine PL.out.mono ?_
        rintro e w3 ⟨v, k, q, s', hsol, hk, rfl, hpl, hb3⟩
        have HSOL := Hid.mk hsol
        have HK := Hid.mk hk
        have PLN : Hid (PlanOwn w3 w.heap.size v (planL m (SM.wayF s'.seen k q))) := hpl.le (by have := B2.out.size; omega)
        have B3 : Hid (Below w.heap.size w w3) := B2.out.trans (hb3.mono (by have := B2.out.size; omega))
        obtain ⟨gp, A, rfl, _⟩ := hpl
        clear hsol hk hb3 y0 y1 y2 y3 y4
        go_wp2_with fail
        go_ret3
        exact ⟨_, _, _, rfl, .inr ⟨HCK.out, n, true, HT.out, .inr (.inr ⟨(by have := HBN.out; omega), rfl, rfl, L, k, q, s', HW.out, HNL.out, HGL.out, HSOL.out, HK.out, rfl, PLN.out⟩)⟩, B3.out⟩

end Go.Proofs.YtnkgpinadgacgabDoor

namespace Go.Proofs.YtnkgpinadgacgabDoor.M
/-- f (f - 1) .. : k factors. -/
def fallF (f : Nat) : Nat → Nat
  | 0 => 1
  | k + 1 => fallF f k * (f - k)

/-- All lists of m different ones of A. -/
def injL (A : List Nat) : Nat → List (List Nat)
  | 0 => [[]]
  | m + 1 => (injL A m).flatMap fun q => (A.filter fun c => !q.contains c).map fun c => q ++ [c]

theorem injL_mem {A : List Nat} : ∀ {m : Nat} {q : List Nat}, q ∈ injL A m ↔ q.length = m ∧ q.Nodup ∧ ∀ c, c ∈ q → c ∈ A
  | 0, q => by
    simp only [injL, List.mem_singleton]
    constructor
    · intro h; subst h; exact ⟨rfl, List.nodup_nil, fun c hc => by cases hc⟩
    · intro h; exact List.eq_nil_of_length_eq_zero h.1
  | m + 1, q => by
    simp only [injL, List.mem_flatMap, List.mem_map, List.mem_filter]
    constructor
    · rintro ⟨q0, h0, c, ⟨hc, hn⟩, rfl⟩
      obtain ⟨h1, h2, h3⟩ := injL_mem.1 h0
      have hn : c ∉ q0 := by simpa using hn
      refine ⟨by simp [h1], List.nodup_append.2 ⟨h2, by simp, fun a ha b hb e => ?_⟩, fun z hz => ?_⟩
      · simp at hb; subst hb e; exact hn ha
      · rcases List.mem_append.1 hz with h | h
        · exact h3 z h
        · simp at h; subst h; exact hc
    · rintro ⟨h1, h2, h3⟩
      have hne : q ≠ [] := fun e => by rw [e] at h1; simp at h1
      have e := List.dropLast_concat_getLast hne
      have h4 := h2
      rw [← e] at h4
      obtain ⟨h5, _, h6⟩ := List.nodup_append.1 h4
      refine ⟨q.dropLast, injL_mem.2 ⟨by rw [List.length_dropLast]; omega, h5, fun c hc => h3 c (by rw [← e]; exact List.mem_append_left _ hc)⟩, q.getLast hne, ⟨h3 _ (List.getLast_mem hne), ?_⟩, e⟩
      have : q.getLast hne ∉ q.dropLast := fun hh => h6 _ hh _ (List.mem_singleton.2 rfl) rfl
      simpa using this

theorem filter_both (A : List Nat) (f : Nat → Bool) : (A.filter f).length + (A.filter fun c => !f c).length = A.length := by
  induction A with
  | nil => rfl
  | cons a A ih =>
    cases h : f a
    · rw [List.filter_cons_of_neg (by simp [h]), List.filter_cons_of_pos (by simp [h])]; simp only [List.length_cons]; omega
    · rw [List.filter_cons_of_pos h, List.filter_cons_of_neg (by simp [h])]; simp only [List.length_cons]; omega

theorem injL_len {A : List Nat} : ∀ m, (injL A m).length ≤ fallF A.length m
  | 0 => by simp [injL, fallF]
  | m + 1 => by
    have ih := injL_len (A := A) m
    have key : ∀ Q : List (List Nat), (∀ q, q ∈ Q → q.length = m ∧ q.Nodup ∧ ∀ c, c ∈ q → c ∈ A) → (Q.flatMap fun q => (A.filter fun c => !q.contains c).map fun c => q ++ [c]).length ≤ Q.length * (A.length - m) := by
      intro Q
      induction Q with
      | nil => intro _; simp
      | cons q Q ihQ =>
        intro h
        obtain ⟨h1, h2, h3⟩ := h q (by simp)
        have h4 := ihQ fun q' hq' => h q' (by simp [hq'])
        have h5 := filter_both A fun c => q.contains c
        have h6 : q.length ≤ (A.filter fun c => q.contains c).length := List.Nodup.length_le_of_subset h2 fun c hc => List.mem_filter.2 ⟨h3 c hc, by simpa using hc⟩
        simp only [List.flatMap_cons, List.length_append, List.length_map, List.length_cons]
        rw [Nat.add_mul, Nat.one_mul]
        omega
    have h2 := key (injL A m) fun q hq => injL_mem.1 hq
    show ((injL A m).flatMap fun q => (A.filter fun c => !q.contains c).map fun c => q ++ [c]).length ≤ fallF A.length m * (A.length - m)
    exact Nat.le_trans h2 (Nat.mul_le_mul ih (Nat.le_refl _))

theorem inj_few {A : List Nat} {m : Nat} {L : List (List Nat)} (hL : L.Nodup) (h : ∀ q, q ∈ L → q.length = m ∧ (∀ i, i < m → q.getD i 0 ∈ A) ∧ ∀ i k, i < m → k < m → i ≠ k → q.getD i 0 ≠ q.getD k 0) : L.length ≤ fallF A.length m := by
  refine Nat.le_trans (List.Nodup.length_le_of_subset hL fun q hq => ?_) (injL_len m)
  obtain ⟨h1, h2, h3⟩ := h q hq
  refine injL_mem.2 ⟨h1, ?_, fun c hc => ?_⟩
  · show List.Pairwise _ q
    rw [List.pairwise_iff_getElem]
    intro i k hi hk hik e
    have hne := h3 i k (by omega) (by omega) (by omega)
    rw [List.getD_eq_getElem?_getD, List.getD_eq_getElem?_getD, List.getElem?_eq_getElem hi, List.getElem?_eq_getElem hk] at hne
    exact hne e
  · obtain ⟨i, hi, rfl⟩ := List.mem_iff_getElem.1 hc
    have := h2 i (by omega)
    rw [List.getD_eq_getElem?_getD, List.getElem?_eq_getElem hi] at this
    exact this

end Go.Proofs.YtnkgpinadgacgabDoor.M

namespace Go.Proofs.YtnkgpinadgacgabDoor
open Go.RowKit M SM
theorem freeTo_nat (cs : ByteArray) : ∀ k : Nat, freeTo cs k = ((List.range k).filter fun c : Nat => freeB cs (c : Int)).map fun c : Nat => (c : Int)
  | 0 => rfl
  | k + 1 => by
    rw [freeTo, List.range_succ, List.filter_append, List.map_append, ← freeTo_nat cs k]
    by_cases h : freeB cs (k : Int) = true
    · rw [if_pos h]; simp [h]
    · rw [if_neg h]; simp [h]

/-- There are no more positions than the free cells allow. -/
theorem few_pos {cs : ByteArray} {m : Nat} {L : List (List Nat)} (hL : L.Nodup) (h : ∀ q, q ∈ L → PosG cs m q) : L.length ≤ fallF (freeTo cs cs.size).length m := by
  have e : (freeTo cs cs.size).length = ((List.range cs.size).filter fun c : Nat => freeB cs (c : Int)).length := by rw [freeTo_nat, List.length_map]
  rw [e]
  refine inj_few hL fun q hq => ⟨(h q hq).1.1, fun i hi => ?_, (h q hq).2⟩
  obtain ⟨h1, h2⟩ := (h q hq).1.2 i hi
  exact List.mem_filter.2 ⟨List.mem_range.2 h1, h2⟩

theorem fall_le {f : Nat} (hf : f ≤ 36) : ∀ k, k ≤ 4 → fallF f k ≤ 1679616
  | 0, _ => by simp [fallF]
  | 1, _ => by simp only [fallF]; omega
  | 2, _ => by
    simp only [fallF, Nat.one_mul, Nat.sub_zero]
    exact Nat.le_trans (Nat.mul_le_mul hf (show f - 1 ≤ 36 by omega)) (by decide)
  | 3, _ => by
    simp only [fallF, Nat.one_mul, Nat.sub_zero]
    exact Nat.le_trans (Nat.mul_le_mul (Nat.mul_le_mul hf (show f - 1 ≤ 36 by omega)) (show f - 2 ≤ 36 by omega)) (by decide)
  | 4, _ => by
    simp only [fallF, Nat.one_mul, Nat.sub_zero]
    exact Nat.le_trans (Nat.mul_le_mul (Nat.mul_le_mul (Nat.mul_le_mul hf (show f - 1 ≤ 36 by omega)) (show f - 2 ≤ 36 by omega)) (show f - 3 ≤ 36 by omega)) (by decide)
  | k + 5, h => by omega

set_option maxRecDepth 100000 in
set_option maxHeartbeats 2000000 in
theorem many_any (ro co bu : Int) (cs : ByteArray) (b m cc : Nat) (w : World) (hs : cs.size ≤ 36) (hm : m ≤ 4) (hmf : m ≤ (freeTo cs cs.size).length) :
    Calls Tryd.prog 16 #[.agg #[.int .i64 ro, .int .i64 co, .string cs, .slice (some ⟨b, 0, none⟩) m cc, .int .i64 bu]] w fun e w' =>
      e = .returned (.bool (decide (bu < (fallF (freeTo cs cs.size).length m : Nat)))) ∧ Below w.heap.size w w' := by
  obtain ⟨F, hF⟩ : ∃ F, F = (freeTo cs cs.size).length := ⟨_, rfl⟩
  have hF36 : F ≤ 36 := by rw [hF]; have := freeTo_len cs cs.size; omega
  rw [← hF] at hmf ⊢
  have FRE : Hid (∀ u : World, Calls Tryd.prog 39 #[.agg #[.int .i64 ro, .int .i64 co, .string cs, .slice (some ⟨b, 0, none⟩) m cc, .int .i64 bu]] u fun e w' => ∃ a c, e = .returned (.slice a F c) ∧ Below u.heap.size u w') := fun u => by
    refine (kfree_any ro co bu cs _ u hs).mono ?_
    rintro e w' ⟨v, rfl, ho, hb⟩
    obtain ⟨a, c, hv, _, _⟩ := own_form ho
    exact ⟨a, c, by rw [hv, hF], hb⟩
  clear hF
  go_enter Tryd.func16, Tryd.ntmps16
  go_wp2_with fail
  have B1 : Hid (Below w.heap.size w (w.alloc (Obj.cells #[Value.int IntKind.i64 ro, Value.int IntKind.i64 co, Value.string cs, .slice (some ⟨b, 0, none⟩) m cc, Value.int IntKind.i64 bu] 28))) := (Below.refl _ w).alloc (Nat.le_refl _) _
  have yc : ∀ o, (w.alloc (Obj.cells #[Value.int IntKind.i64 ro, Value.int IntKind.i64 co, Value.string cs, .slice (some ⟨b, 0, none⟩) m cc, Value.int IntKind.i64 bu] 28)).cell? ⟨w.heap.size, o, none⟩ = #[Value.int .i64 ro, .int .i64 co, .string cs, .slice (some ⟨b, 0, none⟩) m cc, .int .i64 bu][o]? := by
    intro o; go_simp
  have hz1 : (w.alloc (Obj.cells #[Value.int IntKind.i64 ro, Value.int IntKind.i64 co, Value.string cs, .slice (some ⟨b, 0, none⟩) m cc, Value.int IntKind.i64 bu] 28)).heap.size = w.heap.size + 1 := by simp
  generalize w.alloc (Obj.cells #[Value.int IntKind.i64 ro, Value.int IntKind.i64 co, Value.string cs, .slice (some ⟨b, 0, none⟩) m cc, Value.int IntKind.i64 bu] 28) = w1 at *
  refine (FRE.out _).mono ?_
  rintro e w2 ⟨a, c, rfl, hb2⟩
  have BW2 : Hid (Below w.heap.size w w2) := B1.out.trans (hb2.mono (by omega))
  have y3 := cell_later hb2 (yc 3)
  have y4 := cell_later hb2 (yc 4)
  clear hb2 yc
  go_wp2_with fail
  go_loopw [4, 5] (fun v4 v5 wr => ∃ i : Nat, i ≤ m ∧ v4 = .int .i64 (fallF F i : Nat) ∧ v5 = .int .i64 i ∧ w2 = wr) (fun _ v5 _ => m - (intOf v5).toNat)
  case atStart => exact ⟨0, Nat.zero_le _, rfl, rfl, rfl⟩
  case round =>
    obtain ⟨i, hi, rfl, rfl, rfl⟩ := hrel
    by_cases hlt : i < m
    · have hb := fall_le hF36 (i + 1) (by omega)
      have hN : ((fallF F i : Nat) : Int) * ((F : Int) - (i : Int)) = ((fallF F (i + 1) : Nat) : Int) := by
        simp only [fallF]
        rw [Int.natCast_mul, Int.natCast_sub (by omega)]
      obtain ⟨x, hx⟩ : ∃ x, x = fallF F i := ⟨_, rfl⟩
      obtain ⟨y, hy⟩ : ∃ y, y = fallF F (i + 1) := ⟨_, rfl⟩
      rw [← hy] at hb hN
      rw [← hx] at hN ⊢
      have HY := Hid.mk hy
      have HN := Hid.mk hN
      have hw1 : IntKind.i64.wrap ((F : Int) - (i : Int)) = (F : Int) - (i : Int) := by rw [IntKind.wrap_i64]; omega
      have hw2 : IntKind.i64.wrap ((x : Int) * ((F : Int) - (i : Int))) = (y : Int) := by rw [hN, IntKind.wrap_i64]; omega
      clear hx hy hN
      go_wp2
      go_roundw
      case rel => exact ⟨i + 1, by omega, by rw [← HY.out], by go_num, trivial⟩
      case measure => simp [intOf]; omega
    · have hd : i = m := by omega
      subst hd
      go_wp2
      go_ret
      exact ⟨rfl, BW2.out⟩

end Go.Proofs.YtnkgpinadgacgabDoor

namespace Go.Proofs.YtnkgpinadgacgabDoor
open Go.RowKit M SM
/-- What the search of a yard costs. -/
noncomputable def costY (F0 : Nat) (ro co : Int) (cs : ByteArray) (m : Nat) (fr tt : Nat → Int) : Nat := match solY F0 ro co cs m fr tt with
  | some (b, s') => costO (s'.seen b)
  | none => 0

theorem told_work {S : List Nat → List Nat → Prop} {s g : List Nat} {bu : Int} {n : Nat} {b : Bool} (h : M.Told S s g bu n b) : ∃ L i, Work S s L i ∧ n = L.length := by
  rcases h with ⟨L, h1, h2, _⟩ | ⟨L, i, h1, h2, _⟩
  · exact ⟨L, _, h1, h2⟩
  · exact ⟨L, i, h1, h2⟩

end Go.Proofs.YtnkgpinadgacgabDoor

namespace Go.Proofs.YtnkgpinadgacgabDoor
open M SM BM
section
variable {ro co bu : Int} {cs : ByteArray} {m : Nat} {fr tt : Nat → Int} {L : List (List Nat)} {F0 : Nat}
theorem stY_is (hs : PosG cs m (cellsOf fr m)) : ∀ t, t < m → IsFar cs.size (adjM co cs) ((cellsOf fr m).getD t 0) (stY co cs fr t) := fun t ht => by
  have h := (hs.1.2 t ht).1
  rw [cellsOf_at ht] at h ⊢
  exact stF_is (orow_isFar h)

theorem sol_gnd (hck : (checkM ro co cs m fr tt bu).1 = 0) (hW : Work (stepP ro co cs m) (cellsOf fr m) L L.length) (hg : cellsOf tt m ∈ L) (hL : L.length ≤ 20000) :
    Gnd (fun p => growL (mvN ro co cs) p m) (restF (stY co cs fr) m) m (cellsOf fr m) (cellsOf tt m) L ∧ (∀ p, p ∈ L → PosG cs m p ∧ PosOK m cs.size (stY co cs fr) p) ∧
      ∃ j b K, BM.Way (E (fun p => growL (mvN ro co cs) p m) m L) j (s0 m (cellsOf tt m)) b K ∧ b.1 = cellsOf fr m := by
  obtain ⟨s1, s2, s3⟩ := checkM_good hck
  obtain ⟨r1, r2⟩ := side_bd s1
  obtain ⟨r3, r4⟩ := side_bd s2
  obtain ⟨hm4, hfree⟩ := carts_free hck
  obtain ⟨_, hs36⟩ := mul_bd r1 r2 r3 r4
  obtain ⟨hp1, hp2⟩ := cells_pos hck
  obtain ⟨h1, h2⟩ := gnd_yard r3 r4 s3 (by omega) hm4 hp1 (stY_is (co := co) hp1) hW hg hL
  exact ⟨h1, h2, way_yard r3 r4 s3 hp1 hW hg h1⟩

/-- What the search tells is a way, and there is none of less. -/
theorem sol_least (hF : 200400000 ≤ F0) (hck : (checkM ro co cs m fr tt bu).1 = 0) (hW : Work (stepP ro co cs m) (cellsOf fr m) L L.length) (hg : cellsOf tt m ∈ L) (hL : L.length ≤ 20000) {b : St} {s' : SM.Srch} (hsol : solY F0 ro co cs m fr tt = some (b, s')) :
    b.1 = cellsOf fr m ∧ (∃ j, BM.Way (E (fun p => growL (mvN ro co cs) p m) m L) j (s0 m (cellsOf tt m)) b (costO (s'.seen b))) ∧
      (∀ j b' K, BM.Way (E (fun p => growL (mvN ro co cs) p m) m L) j (s0 m (cellsOf tt m)) b' K → b'.1 = cellsOf fr m → costO (s'.seen b) ≤ K) := by
  obtain ⟨G, _, hway⟩ := sol_gnd hck hW hg hL
  obtain ⟨R, hn⟩ := run_begin G
  obtain ⟨x, s2, X2, hcome, hx, ⟨s3, hseen, hR3⟩, g, hgx, hleast⟩ := come_ok G hway F0 _ [] R (by unfold left; rw [hn]; simp only [List.length_nil]; omega)
  have e : some (x, s2) = some (b, s') := hcome.symm.trans hsol
  injection e with e
  injection e with e1 e2
  subst e1 e2
  have hk : costO (s2.seen x) = g := by
    cases e : s2.seen x with
    | none => rw [e] at hgx; cases hgx
    | some v => rw [e] at hgx; simp at hgx; exact hgx
  refine ⟨hx, ?_, fun j b' K W hb => by rw [hk]; exact hleast j b' K W hb⟩
  rw [hk]
  exact hR3.best.way x g (by rw [hseen]; exact hgx)

end
end Go.Proofs.YtnkgpinadgacgabDoor
