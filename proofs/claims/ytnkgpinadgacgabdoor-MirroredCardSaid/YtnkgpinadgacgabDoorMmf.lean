/- Several texts in one: Bg, Da. -/
import Derived.Test.YtnkgpinadgacgabDoorMmc
import Derived.Test.YtnkgpinadgacgabDoorRows
import Derived.Maps.OwnSet
import Derived.DeepKeys4
import Derived.WalkSmall
import Derived.Test.YtnkgpinadgacgabDoorMme
import Derived.Test.YtnkgpinadgacgabDoorMmd
namespace Go.Proofs.YtnkgpinadgacgabDoor
open Go.RowKit Go.Maps
theorem Tryd.laidOut0 : laidOutB Tryd.prog = true := by kernel_rfl

theorem Tryd.rowSpot : (102 : TypeId) < Tryd.prog.types.size := of_decide_eq_true (by kernel_rfl)

theorem Tryd.typesSome : ∃ m, Tryd.prog.types.size = m + 1 := by
  have h : (102 : Nat) < Tryd.prog.types.size := Tryd.rowSpot
  exact ⟨Tryd.prog.types.size - 1, by omega⟩

theorem Tryd.zeroUnit (w : World) : (zeroValue 90).run Tryd.prog w = .ok (.agg #[]) w := by kernel_rfl

theorem own_map_block {w w' : World} {P : Program} {k : TypeId} {R : Value → Option (DataW Unit × List MemPlace)} {b n : Nat} {D : DataW Unit} (h : w.ownsMap P k R b n D) (e : w'.heap[b]? = w.heap[b]?) : w'.ownsMap P k R b n D := by
  obtain ⟨es, clock, hb, r⟩ := h
  exact ⟨es, clock, e.trans hb, r⟩

theorem own_map_lt {w : World} {P : Program} {k : TypeId} {R : Value → Option (DataW Unit × List MemPlace)} {b n : Nat} {D : DataW Unit} (h : w.ownsMap P k R b n D) : b < w.heap.size := by
  obtain ⟨es, clock, hb, _⟩ := h
  exact (Array.getElem?_eq_some_iff.1 hb).1

section
variable {w : World} {ops : Array Oper} {rest : List Oper} {o : Oper} {a : Act} {Q : Exit → Act → World → Prop}
end
end Go.Proofs.YtnkgpinadgacgabDoor

/- What a call has turned: some blocks, and nothing else that was there. -/
namespace Go.Proofs.YtnkgpinadgacgabDoor
open Go.RowKit
/-- Of the blocks that were there only those of S may have turned. -/
structure Only (S : Nat → Prop) (w w' : World) : Prop where
  os : w'.os = w.os
  tape : w'.tape = w.tape
  output : w'.output = w.output
  size : w.heap.size ≤ w'.heap.size
  block : ∀ k, k < w.heap.size → ¬ S k → w'.heap[k]? = w.heap[k]?

theorem Only.refl (S : Nat → Prop) (w : World) : Only S w w := ⟨rfl, rfl, rfl, Nat.le_refl _, fun _ _ _ => rfl⟩

theorem Only.trans {S S' : Nat → Prop} {a b c : World} (h : Only S a b) (k : Only S' b c) (hs : ∀ i, i < a.heap.size → S' i → S i) : Only S a c :=
  ⟨k.os.trans h.os, k.tape.trans h.tape, k.output.trans h.output, Nat.le_trans h.size k.size, fun i hi hn => (k.block i (Nat.lt_of_lt_of_le hi h.size) (fun e => hn (hs i hi e))).trans (h.block i hi hn)⟩

theorem Only.of_below {S : Nat → Prop} {w w' : World} (h : Below w.heap.size w w') : Only S w w' := ⟨h.os, h.tape, h.output, h.size, fun k hk _ => h.block k hk⟩

theorem Only.of_grown {w w' : World} {b : Nat} (h : w.grownBy w' (some b)) : Only (fun k => k = b) w w' := ⟨h.os, h.tape, h.output, h.size, fun k hk hn => h.block k hk (fun e => hn (Option.some.inj e))⟩

theorem Only.alloc {S : Nat → Prop} {a w : World} (h : Only S a w) (o : Obj) : Only S a (w.alloc o) :=
  h.trans (Only.of_below ((Below.refl _ _).alloc (Nat.le_refl _) _) : Only (fun _ => False) w _) (fun _ _ e => e.elim)

theorem Only.setCell {S : Nat → Prop} {a w : World} (h : Only S a w) {p : Addr} (hp : p.block < a.heap.size → S p.block) (u : Value) : Only S a (w.setCell p u) := by
  have h2 : Only (fun k => k = p.block) w (w.setCell p u) := ⟨rfl, rfl, rfl, by simp, fun k _ hn => Below.heap_setCell w p u k hn⟩
  exact h.trans h2 (fun i hi e => by subst e; exact hp hi)

theorem Only.drew {S : Nat → Prop} {a w : World} (h : Only S a w) : Only S a w.drew := ⟨h.os, h.tape, h.output, h.size, h.block⟩

theorem Only.drewN {S : Nat → Prop} {a w : World} (h : Only S a w) (n : Nat) : Only S a (w.drewN n) := ⟨h.os, h.tape, h.output, h.size, h.block⟩

theorem Only.mono {S S' : Nat → Prop} {a w : World} (h : Only S a w) (hs : ∀ i, i < a.heap.size → S i → S' i) : Only S' a w := ⟨h.os, h.tape, h.output, h.size, fun k hk hn => h.block k hk (fun e => hn (hs k hk e))⟩

theorem Only.below {S : Nat → Prop} {a w : World} (h : Only S a w) {B : Nat} (hB : B ≤ a.heap.size) (hs : ∀ i, S i → B ≤ i) : Below B a w :=
  ⟨h.os, h.tape, h.output, h.size, fun k hk => h.block k (Nat.lt_of_lt_of_le hk hB) (fun e => by have := hs k e; omega)⟩

theorem Only.cell {S : Nat → Prop} {a w : World} (h : Only S a w) {p : Addr} (hp : p.block < a.heap.size) (hn : ¬ S p.block) : w.cell? p = a.cell? p := World.cell?_of_block (w := a) (h.block p.block hp hn)

theorem Only.frozen {S : Nat → Prop} {a w : World} (h : Only S a w) {p : Addr} (hp : p.block < a.heap.size) (hn : ¬ S p.block) : w.frozen? p = a.frozen? p := World.frozen?_of_block (w := a) (h.block p.block hp hn)

/-- What lay below B, where only blocks from B on may have turned. -/
theorem below_only {B : Nat} {a b c : World} {S : Nat → Prop} (h : Below B a b) (k : Only S b c) (hB : B ≤ b.heap.size) (hs : ∀ i, S i → B ≤ i) : Below B a c := h.trans (k.below hB hs)

end Go.Proofs.YtnkgpinadgacgabDoor

/- Plain facts on rules: when a cart may be on a cell, when it may go; where it can have come; when it may stay for ever. No program is named here. -/
namespace Go.Proofs.YtnkgpinadgacgabDoor.M
theorem anyB_false {p : Nat → Bool} {n : Nat} : anyB p n = false ↔ ∀ i, i < n → p i = false := by
  constructor
  · intro h i hi
    cases e : p i with
    | false => rfl
    | true => rw [anyB_of e hi] at h; cases h
  · intro h
    cases e : anyB p n with
    | false => rfl
    | true => obtain ⟨i, hi, hp⟩ := anyB_true e; rw [h i hi] at hp; cases hp

theorem anyB_iff {p : Nat → Bool} {n : Nat} : anyB p n = true ↔ ∃ i, i < n ∧ p i = true :=
  ⟨anyB_true, fun ⟨_, hi, hp⟩ => anyB_of hp hi⟩

end Go.Proofs.YtnkgpinadgacgabDoor.M

/- Rules in memory; walks of the document's on, goes, stays. -/
namespace Go.Proofs.YtnkgpinadgacgabDoor
open Go.RowKit M
theorem upto_step {p : Nat → Bool} {k : Nat} (hb : p k = false) (hg : ∀ j, j < k → p j = false) : ∀ j, j < k + 1 → p j = false := by
  intro j hj
  by_cases e : j = k
  · subst e; exact hb
  · exact hg j (by omega)

end Go.Proofs.YtnkgpinadgacgabDoor

namespace Go.Proofs.YtnkgpinadgacgabDoor.M
/-- Does cart i meet or swap with cart j? -/
def clashB (p q : List Nat) (i j : Nat) : Bool := (q.getD i 0 == q.getD j 0) || (q.getD i 0 == p.getD j 0 && q.getD j 0 == p.getD i 0)

/-- Does cart i neither meet nor swap with one ahead of it? -/
def fitB (p q : List Nat) (i : Nat) : Bool := !anyB (fun k => clashB p q i k) i

/-- The positions, cart by cart, to which one may go. -/
def growL (step : Nat → List Nat) (p : List Nat) : Nat → List (List Nat)
  | 0 => [[]]
  | i + 1 => (growL step p i).flatMap fun q => ((step (p.getD i 0)).filter fun c => fitB p (q ++ [c]) i).map fun c => q ++ [c]

theorem getD_app_old {q r : List Nat} {k : Nat} (h : k < q.length) : (q ++ r).getD k 0 = q.getD k 0 := by
  simp only [List.getD_eq_getElem?_getD]
  rw [List.getElem?_append_left h]

theorem getD_app_new {q : List Nat} {c : Nat} : (q ++ [c]).getD q.length 0 = c := by
  simp only [List.getD_eq_getElem?_getD]
  simp

theorem fitB_app {p q r : List Nat} {k : Nat} (h : k < q.length) : fitB p (q ++ r) k = fitB p q k := by
  unfold fitB
  congr 1
  have e : ∀ j, j < k → clashB p (q ++ r) k j = clashB p q k j := fun j hj => by
    unfold clashB
    rw [getD_app_old h, getD_app_old (show j < q.length by omega)]
  rw [Bool.eq_iff_iff, anyB_iff, anyB_iff]
  constructor
  · rintro ⟨j, hj, hc⟩; exact ⟨j, hj, by rw [← e j hj]; exact hc⟩
  · rintro ⟨j, hj, hc⟩; exact ⟨j, hj, by rw [e j hj]; exact hc⟩

theorem growL_mem {step : Nat → List Nat} {p : List Nat} : ∀ {i : Nat} {q : List Nat}, q ∈ growL step p i ↔ q.length = i ∧ ∀ k, k < i → q.getD k 0 ∈ step (p.getD k 0) ∧ fitB p q k = true
  | 0, q => by
    simp only [growL, List.mem_singleton]
    constructor
    · intro h; subst h; exact ⟨rfl, fun k hk => absurd hk (Nat.not_lt_zero k)⟩
    · intro h; exact List.eq_nil_of_length_eq_zero h.1
  | i + 1, q => by
    simp only [growL, List.mem_flatMap, List.mem_map, List.mem_filter]
    constructor
    · rintro ⟨q0, h0, c, ⟨hc, hf⟩, rfl⟩
      obtain ⟨hl, hk⟩ := growL_mem.1 h0
      refine ⟨by simp [hl], fun k hki => ?_⟩
      by_cases e : k = i
      · subst e
        rw [← hl, getD_app_new, hl]
        exact ⟨hc, hf⟩
      · have h1 : k < q0.length := by omega
        rw [getD_app_old h1, fitB_app h1]
        exact hk k (by omega)
    · rintro ⟨hl, hk⟩
      have hne : q ≠ [] := fun e => by rw [e] at hl; simp at hl
      refine ⟨q.dropLast, growL_mem.2 ⟨by rw [List.length_dropLast]; omega, fun k hki => ?_⟩, q.getLast hne, ⟨?_, ?_⟩, List.dropLast_concat_getLast hne⟩
      · have h1 : k < q.dropLast.length := by rw [List.length_dropLast]; omega
        have h2 := hk k (by omega)
        rw [← List.dropLast_concat_getLast hne, getD_app_old h1, fitB_app h1] at h2
        exact h2
      · have h2 := (hk i (by omega)).1
        rw [← List.dropLast_concat_getLast hne] at h2
        have e : i = q.dropLast.length := by rw [List.length_dropLast]; omega
        rw [e, getD_app_new, ← e] at h2
        exact h2
      · rw [List.dropLast_concat_getLast hne]
        exact (hk i (by omega)).2

theorem growL_len {step : Nat → List Nat} {p : List Nat} {B : Nat} (h : ∀ c, (step c).length ≤ B) : ∀ i, (growL step p i).length ≤ B ^ i
  | 0 => by simp [growL]
  | i + 1 => by
    have ih := growL_len (p := p) h i
    simp only [growL, List.length_flatMap]
    have : ∀ L : List (List Nat), ((L.map fun q => (((step (p.getD i 0)).filter fun c => fitB p (q ++ [c]) i).map fun c => q ++ [c]).length).sum) ≤ L.length * B := by
      intro L
      induction L with
      | nil => simp
      | cons q L ihL =>
        simp only [List.map_cons, List.sum_cons, List.length_cons, List.length_map] at ihL ⊢
        have h1 := List.length_filter_le (fun c => fitB p (q ++ [c]) i) (step (p.getD i 0))
        have h2 := h (p.getD i 0)
        rw [Nat.succ_mul]
        omega
    have h3 := this (growL step p i)
    have h4 : (growL step p i).length * B ≤ B ^ i * B := Nat.mul_le_mul ih (Nat.le_refl _)
    rw [Nat.pow_succ]
    omega

/-- What one comes to in n steps. -/
def reachN (S : List Nat → List Nat → Prop) (s : List Nat) : Nat → List Nat → Prop
  | 0, q => q = s
  | n + 1, q => ∃ p, reachN S s n p ∧ S p q

def Come (S : List Nat → List Nat → Prop) (s q : List Nat) : Prop := ∃ n, reachN S s n q

theorem Come.start {S : List Nat → List Nat → Prop} {s : List Nat} : Come S s s := ⟨0, rfl⟩

theorem Come.next {S : List Nat → List Nat → Prop} {s p q : List Nat} (h : Come S s p) (h2 : S p q) : Come S s q := by
  obtain ⟨n, hn⟩ := h
  exact ⟨n + 1, p, hn, h2⟩

/-- A list of what was come to: nothing twice; what comes behind its first i ones is in it. -/
structure Work (S : List Nat → List Nat → Prop) (s : List Nat) (L : List (List Nat)) (i : Nat) : Prop where
  nodup : L.Nodup
  come : ∀ q, q ∈ L → Come S s q
  start : s ∈ L
  le : i ≤ L.length
  done : ∀ j, (h : j < i) → ∀ q, S (L[j]'(by omega)) q → q ∈ L

theorem Work.one {S : List Nat → List Nat → Prop} {s : List Nat} : Work S s [s] 0 :=
  ⟨by simp, fun q hq => by simp at hq; subst hq; exact Come.start, by simp, Nat.zero_le _, fun j hj => absurd hj (Nat.not_lt_zero j)⟩

/-- One more is found. -/
theorem Work.add {S : List Nat → List Nat → Prop} {s : List Nat} {L : List (List Nat)} {i : Nat} (h : Work S s L i) (hi : i < L.length) {q : List Nat} (hq : S L[i] q) (hn : q ∉ L) : Work S s (L ++ [q]) i := by
  refine ⟨?_, fun x hx => ?_, List.mem_append_left _ h.start, by rw [List.length_append]; have := h.le; omega, fun j hj x hx => ?_⟩
  · rw [List.nodup_append]
    refine ⟨h.nodup, by simp, fun a ha b hb e => ?_⟩
    simp at hb
    subst hb
    subst e
    exact hn ha
  · rcases List.mem_append.1 hx with hx | hx
    · exact h.come x hx
    · simp at hx
      subst hx
      exact (h.come _ (List.getElem_mem hi)).next hq
  · have hj2 : j < L.length := by have := h.le; omega
    rw [List.getElem_append_left hj2] at hx
    exact List.mem_append_left _ (h.done j hj x hx)

/-- All that comes behind one is in it. -/
theorem Work.next {S : List Nat → List Nat → Prop} {s : List Nat} {L : List (List Nat)} {i : Nat} (h : Work S s L i) (hi : i < L.length) (hall : ∀ q, S L[i] q → q ∈ L) : Work S s L (i + 1) :=
  ⟨h.nodup, h.come, h.start, hi, fun j hj q hq => by
    by_cases e : j = i
    · subst e; exact hall q hq
    · exact h.done j (by omega) q hq⟩

/-- At its end all is in it. -/
theorem Work.all {S : List Nat → List Nat → Prop} {s : List Nat} {L : List (List Nat)} {i : Nat} (h : Work S s L i) (hi : i = L.length) : ∀ q, Come S s q → q ∈ L := by
  have go : ∀ n q, reachN S s n q → q ∈ L := by
    intro n
    induction n with
    | zero => intro q hq; rw [show q = s from hq]; exact h.start
    | succ n ih =>
      rintro q ⟨p, hp, hs⟩
      obtain ⟨j, hj, rfl⟩ := List.mem_iff_getElem.1 (ih p hp)
      exact h.done j (by omega) q hs
  rintro q ⟨n, hn⟩
  exact go n q hn

theorem nodup_len : ∀ {L L' : List (List Nat)}, L.Nodup → (∀ q, q ∈ L → q ∈ L') → L.length ≤ L'.length
  | [], _, _, _ => by simp
  | x :: L, L', hn, hs => by
    have hx : x ∈ L' := hs x (by simp)
    have hn2 := List.nodup_cons.1 hn
    have h := nodup_len (L' := L'.erase x) hn2.2 (fun q hq => by
      have hne : q ≠ x := fun e => hn2.1 (by rw [← e]; exact hq)
      exact (List.mem_erase_of_ne hne).2 (hs q (by simp [hq])))
    have h2 := List.length_erase_of_mem hx
    have h3 : 0 < L'.length := List.length_pos_of_mem hx
    simp only [List.length_cons]
    omega

/-- How many there are; or more than the budget. -/
def Told (S : List Nat → List Nat → Prop) (s g : List Nat) (bu : Int) (n : Nat) (b : Bool) : Prop :=
  (∃ L, Work S s L L.length ∧ n = L.length ∧ b = decide (g ∈ L)) ∨ (∃ L i, Work S s L i ∧ n = L.length ∧ bu < n)

theorem Told.all {S : List Nat → List Nat → Prop} {s g : List Nat} {bu : Int} {n n' : Nat} {b b' : Bool} (h : Told S s g bu n b) (h' : Told S s g bu n' b') : (bu < n ↔ bu < n') ∧ (¬ bu < n → n = n' ∧ b = b') := by
  have key : ∀ {L L' : List (List Nat)} {i : Nat}, Work S s L L.length → Work S s L' i → L'.length ≤ L.length := fun {L L' i} h1 h2 => nodup_len h2.nodup fun q hq => h1.all rfl q (h2.come q hq)
  rcases h with ⟨L, hL, hn, hb⟩ | ⟨L, i, hL, hn, hb⟩
  · rcases h' with ⟨L', hL', hn', hb'⟩ | ⟨L', i', hL', hn', hb'⟩
    · have e : n = n' := by have := key hL hL'; have := key hL' hL; omega
      subst e
      refine ⟨Iff.rfl, fun _ => ⟨rfl, ?_⟩⟩
      rw [hb, hb', Bool.eq_iff_iff, decide_eq_true_eq, decide_eq_true_eq]
      exact ⟨fun h => hL'.all rfl _ (hL.come _ h), fun h => hL.all rfl _ (hL'.come _ h)⟩
    · have := key hL hL'
      exact ⟨⟨fun _ => hb', fun _ => by omega⟩, fun hh => absurd (show bu < n by omega) hh⟩
  · rcases h' with ⟨L', hL', hn', hb'⟩ | ⟨L', i', hL', hn', hb'⟩
    · have := key hL' hL
      exact ⟨⟨fun _ => by omega, fun _ => hb⟩, fun hh => absurd hb hh⟩
    · exact ⟨⟨fun _ => hb', fun _ => hb⟩, fun hh => absurd hb hh⟩

end Go.Proofs.YtnkgpinadgacgabDoor.M
