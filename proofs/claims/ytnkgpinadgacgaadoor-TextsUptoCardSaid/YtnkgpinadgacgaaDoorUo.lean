/- What Write tells of any yard, what Read tells of any text: the program's and the document's are one. -/
import Derived.Test.YtnkgpinadgacgaaDoorUn
namespace Go.Proofs.YtnkgpinadgacgaaDoor
open Go.RowKit Go.Shelf Go.Deep M

/-- What Write tells. -/
def wtT (ro co bu : Int) (cs : ByteArray) (n : Nat) (fr tt : Nat → Int) : ByteArray × Int :=
  if (checkM ro co cs n fr tt bu).1 = 0 then (⟨(textY ro.toNat co.toNat bu.toNat n cs fr tt).toArray⟩, 0) else (⟨#[]⟩, (checkM ro co cs n fr tt bu).1)

theorem wt_bad {ro co bu : Int} {cs : ByteArray} {n : Nat} {fr tt : Nat → Int} (h : (checkM ro co cs n fr tt bu).1 ≠ 0) : wtT ro co bu cs n fr tt = (⟨#[]⟩, (checkM ro co cs n fr tt bu).1) := if_neg h

theorem wt_good {R C U n : Nat} {cs F : ByteArray} {fr tt : Nat → Int} (h : (checkM (R : Int) (C : Int) cs n fr tt (U : Int)).1 = 0) (hF : F.data.toList = textY R C U n cs fr tt) : wtT (R : Int) (C : Int) (U : Int) cs n fr tt = (F, 0) := by
  unfold wtT
  rw [if_pos h, Int.toNat_natCast, Int.toNat_natCast, Int.toNat_natCast, ← hF]

theorem chk_nats {ro co bu : Int} {cs : ByteArray} {n : Nat} {fr tt : Nat → Int} (h : (checkM ro co cs n fr tt bu).1 = 0) : ∃ R C U : Nat, ro = (R : Int) ∧ co = (C : Int) ∧ bu = (U : Int) ∧ 0 < n := by
  obtain ⟨hs1, hs2, _⟩ := checkM_good h
  obtain ⟨⟨hb1, _, hm⟩, _⟩ := chk_bu h
  unfold sideB at hs1 hs2
  simp only [Bool.and_eq_true, decide_eq_true_eq] at hs1 hs2
  exact ⟨ro.toNat, co.toNat, bu.toNat, by omega, by omega, by omega, by omega⟩

theorem chk_pair {ro co bu : Int} {cs : ByteArray} {n : Nat} {fr tt : Nat → Int} (h : (checkM ro co cs n fr tt bu).1 = 0) : checkM ro co cs n fr tt bu = (0, 0) := by
  unfold checkM at h ⊢
  split at h
  · cases h
  · next h1 =>
    rw [if_neg h1]
    split at h
    · cases h
    · next h2 =>
      rw [if_neg h2]
      split at h
      · cases h
      · next h3 =>
        rw [if_neg h3]
        split at h
        · next h4 =>
          exfalso
          have := M.firstOf_is (p := fun i => !(cartM cs fr tt i == 0)) n h4
          simp only [] at h this
          rw [h] at this
          cases this
        · next h4 =>
          rw [if_neg h4]
          split at h
          · cases h
          · next h5 => rw [if_neg h5]

theorem ywrite_told (ro co bu : Int) (g n cap : Nat) (cs : ByteArray) (fr tt : Nat → Int) (w : World) (hs : cs.size ≤ maxLen) (hn : n ≤ maxLen) (hcap : n ≤ cap) (hT : Lib.TabBelow Tryd.prog w.heap.size w "internal/strconv.uint64pow10" .u64 Lib.pow10Tab)
    (ha : CartsIn w g 0 n fr tt) :
    Calls Tryd.prog 41 #[.agg #[.int .i64 ro, .int .i64 co, .string cs, .slice (some ⟨g, 0, none⟩) n cap, .int .i64 bu]] w fun e w' =>
      e = .returned (.tuple #[.string (wtT ro co bu cs n fr tt).1, .int .i64 (wtT ro co bu cs n fr tt).2]) ∧ Below w.heap.size w w' := by
  by_cases hck : (checkM ro co cs n fr tt bu).1 = 0
  · obtain ⟨R, C, U, rfl, rfl, rfl, _⟩ := chk_nats hck
    refine (ywrite_good R C U n g cap cs fr tt w hT hck hcap ha).mono ?_
    rintro e w' ⟨F, rfl, hF, hb⟩
    rw [wt_good hck hF]
    exact ⟨rfl, hb⟩
  · rw [wt_bad hck]
    exact ywrite_bad ro co bu _ n cap cs fr tt w hs hn hcap (fun _ => ⟨g, 0, rfl, ha⟩) hck

theorem xwrite_told (ro co bu : Int) (a : Option Addr) (n cap : Nat) (cs : ByteArray) (fr tt : Nat → Int) (w : World) (hs : cs.size ≤ maxLen) (hn : n ≤ maxLen)
    (ha : 0 < n → ∃ b off, a = some ⟨b, off, none⟩ ∧ CartsIn w b off n fr tt) :
    Calls Tryd.prog 42 #[.agg #[.int .i64 ro, .int .i64 co, .string cs, .slice a n cap, .int .i64 bu]] w fun e w' =>
      e = .returned (.tuple #[.string (wtT ro co bu cs n fr tt).1, .int .i64 (wtT ro co bu cs n fr tt).2]) ∧ Below w.heap.size w w' := by
  by_cases hck : (checkM ro co cs n fr tt bu).1 = 0
  · obtain ⟨R, C, U, rfl, rfl, rfl, h0⟩ := chk_nats hck
    obtain ⟨b, off, rfl, hci⟩ := ha h0
    refine (xwrite_good R C U n b off cap cs fr tt w (chk_pair hck) hci).mono ?_
    rintro e w' ⟨F, rfl, hF, hb⟩
    rw [wt_good hck hF]
    exact ⟨rfl, hb⟩
  · rw [wt_bad hck]
    exact xwrite_bad ro co bu a n cap cs fr tt w hs hn ha hck

/-- What Read tells of a text: nothing, an error and its place; or a yard. -/
def rdT (s : ByteArray) : Option TX.Told × Int × Int :=
  match (TX.readT s.data.toList).2 with
  | none => (none, 11, placeI s)
  | some t => if (chkT t).1 = 0 then (some t, 0, 0) else (none, (chkT t).1, (chkT t).2)

theorem rd_none {s : ByteArray} (h : (TX.readT s.data.toList).2 = none) : rdT s = (none, 11, placeI s) := by
  unfold rdT
  rw [h]

theorem rd_some {s : ByteArray} {t : TX.Told} {l : List UInt8} (h : TX.readT s.data.toList = (l, some t)) (hc : (chkT t).1 = 0) : rdT s = (some t, 0, 0) := by
  unfold rdT
  rw [h]
  exact if_pos hc

theorem rd_bad {s : ByteArray} {t : TX.Told} {l : List UInt8} (h : TX.readT s.data.toList = (l, some t)) (hc : (chkT t).1 ≠ 0) : rdT s = (none, (chkT t).1, (chkT t).2) := by
  unfold rdT
  rw [h]
  exact if_neg hc

/-- A yard that the call made, of what a text tells. -/
def YardO (w : World) (base n : Nat) (o : Option TX.Told) (v : Value) : Prop :=
  match o with
  | none => v = yard0
  | some t => ∃ g cap, v = yardV t g cap ∧ CartsO w g cap t.carts.length (frL t.carts) (ttL t.carts) ∧ base ≤ g ∧ t.carts.length ≤ n

theorem yread_told (s : ByteArray) (w : World) (hs : s.size ≤ 2000000) :
    Calls Tryd.prog 43 #[.string s] w fun e w' => ∃ v, e = .returned (.tuple #[v, .int .i64 (rdT s).2.1, .int .i64 (rdT s).2.2]) ∧ YardO w' w.heap.size s.size (rdT s).1 v ∧ Below w.heap.size w w' := by
  refine (yreadO_any s w hs).mono ?_
  rintro e w' ⟨hb, ⟨t, g, cap, h1, h2, rfl, h3, h4, _, h6⟩ | ⟨t, h1, h2, rfl⟩ | ⟨k, h1, h2, rfl⟩⟩
  · rw [rd_some h1 h2]
    exact ⟨_, rfl, ⟨g, cap, rfl, h3, h4, h6⟩, hb⟩
  · rw [rd_bad h1 h2]
    exact ⟨_, rfl, rfl, hb⟩
  · have hn : (TX.readT s.data.toList).2 = none := by rw [h1]
    have hpl := place_read s
    rw [h1] at hpl
    have hk : placeI s = (k : Int) := by
      have e : placeI s = ((s.size - (restS s k).length : Nat) : Int) := hpl
      rw [e, rest_len]
      omega
    rw [rd_none hn, hk]
    exact ⟨_, rfl, rfl, hb⟩

/-- A yard in memory, of what a text tells. -/
def YardC (w : World) (base : Nat) (o : Option TX.Told) (v : Value) : Prop :=
  match o with
  | none => v = yard0
  | some t => ∃ g cap, v = yardV t g cap ∧ CartsIn w g 0 t.carts.length (frL t.carts) (ttL t.carts) ∧ base ≤ g

theorem xread_told (s : ByteArray) (w : World) (hs : s.size ≤ 2000000) :
    Calls Tryd.prog 44 #[.string s] w fun e w' => ∃ v, e = .returned (.tuple #[v, .int .i64 (rdT s).2.1, .int .i64 (rdT s).2.2]) ∧ YardC w' w.heap.size (rdT s).1 v ∧ Below w.heap.size w w' := by
  refine (xread_any s w hs).mono ?_
  rintro e w' ⟨hb, ⟨t, g, cap, h1, h2, rfl, h3, h4, _⟩ | ⟨t, h1, h2, rfl⟩ | ⟨h1, rfl⟩⟩
  · rw [rd_some h1 h2]
    exact ⟨_, rfl, ⟨g, cap, rfl, h3, h4⟩, hb⟩
  · rw [rd_bad h1 h2]
    exact ⟨_, rfl, rfl, hb⟩
  · rw [rd_none h1]
    exact ⟨_, rfl, rfl, hb⟩

end Go.Proofs.YtnkgpinadgacgaaDoor
