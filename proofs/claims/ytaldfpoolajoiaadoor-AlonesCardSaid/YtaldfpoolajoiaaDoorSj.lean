/- What a search for one cart's least path holds in memory; what a push and a pop leave of it. -/
import Derived.Test.YtaldfpoolajoiaaDoorRn
import Derived.Test.YtaldfpoolajoiaaDoorSg
import Derived.Test.YtaldfpoolajoiaaDoorSh
import Derived.Test.YtaldfpoolajoiaaDoorHf
import Derived.Test.YtaldfpoolajoiaaDoorHg
import Derived.Deep.LoopGhost
import Derived.Laws.EntriesVeiled
namespace Go.Proofs.YtaldfpoolajoiaaDoor
open Go.RowKit M

/-- What a search's answer is in memory. -/
def Told (w w' : World) (v : Value) (x : Option (Nat × (Nat → Nat))) : Prop :=
  (x = none → v = .slice none 0 0) ∧ ∀ T p, x = some (T, p) → ∃ g, v = .slice (some ⟨g, 0, none⟩) (T + 1) (T + 1) ∧ w.heap.size ≤ g ∧ w'.rowIs g 3 (T + 1) (natV p)

/-- What the search holds in memory. -/
structure Srch (b0 : Nat) (w6 wr : World) (N : Nat) (seen : Nat → Nat → Option Nat) (m : Nat) (it : Nat → Spot) (v : Value) (nm : Nat) : Prop where
  heap : HeapAt wr (b0 + 1 + 1) (b0 + 1) v
  list : ListAt wr v m it
  own : ∀ G, v.ownBlock = some G → b0 + 5 ≤ G
  map : SpotMap wr (b0 + 1 + 1 + 1 + 1) nm (mapOf seen)
  cnt : nm + unseen N seen ≤ 10000
  size : m + unseen N seen ≤ 10000
  below : Below (b0 + 1 + 1) w6 wr
  sz : b0 + 5 ≤ wr.heap.size

theorem ListAt.keep {w w' : World} {v : Value} {n : Nat} {it : Nat → Spot} (h : ListAt w v n it) (hk : ∀ G, v.ownBlock = some G → w'.heap[G]? = w.heap[G]?) : ListAt w' v n it := by
  rcases h with h | ⟨G, cap, h1, h2⟩
  · exact Or.inl h
  · exact Or.inr ⟨G, cap, h1, h2.block (hk G (by rw [h1]; rfl))⟩

theorem ListAt.lt {w : World} {v : Value} {n : Nat} {it : Nat → Spot} (h : ListAt w v n it) : ∀ G, v.ownBlock = some G → G < w.heap.size := by
  rcases h with h | ⟨G, cap, h1, h2⟩
  · intro G hG; rw [h.1] at hG; cases hG
  · intro G' hG; rw [h1] at hG; cases hG; exact h2.lt

theorem ListAt.form {w : World} {v : Value} {n : Nat} {it : Nat → Spot} (h : ListAt w v n it) : ∃ a c, v = .slice a n c := by
  rcases h with ⟨h1, h2⟩ | ⟨G, cap, h1, h2⟩
  · exact ⟨none, 0, by rw [h1, h2]⟩
  · exact ⟨_, _, h1⟩

theorem Srch.later {b0 : Nat} {w6 wr w' : World} {N : Nat} {seen : Nat → Nat → Option Nat} {m : Nat} {it : Nat → Spot} {v : Value} {nm : Nat} (h : Srch b0 w6 wr N seen m it v nm) (hb : Below wr.heap.size wr w') : Srch b0 w6 w' N seen m it v nm :=
  ⟨h.heap.block (hb.block _ h.heap.lt), h.list.keep (fun G hG => hb.block _ (h.list.lt G hG)), h.own, h.map.block (hb.block _ h.map.lt), h.cnt, h.size, h.below.trans (hb.mono (by have := h.sz; omega)), Nat.le_trans h.sz hb.size⟩

theorem fine_start {N n : Nat} {it : Nat → Spot} (h : n = 0) : Fine N n it := fun p ⟨i, hi, _⟩ => by omega

theorem ord_start {key : Spot → Int} {n : Nat} {it : Nat → Spot} (h : n ≤ 1) : Ord key n it := fun i h0 hi => by omega

theorem Srch.far {b0 gf : Nat} {w6 wr : World} {N : Nat} {seen : Nat → Nat → Option Nat} {m : Nat} {it : Nat → Spot} {v : Value} {nm : Nat} {st : Nat → Int} (h : Srch b0 w6 wr N seen m it v nm) (hf : FarAt w6 (b0 + 1) gf N st) (hg : gf < b0) : FarAt wr (b0 + 1) gf N st :=
  ⟨(h.below.cell (p := ⟨b0 + 1, 0, none⟩) (by show b0 + 1 < _; omega)).trans hf.1, hf.2.of_block (h.below.block _ (by omega))⟩

/-- The map has one more. -/
theorem Srch.put {b0 : Nat} {w6 wr w' : World} {N : Nat} {seen : Nat → Nat → Option Nat} {m : Nat} {it : Nat → Spot} {v : Value} {nm b t p : Nat} (h : Srch b0 w6 wr N seen m it v nm) (hN : 0 < N) (hb : b < N) (ht : t ≤ 61 + N) (hn : seen b t = none)
    (hm : SpotMap w' (b0 + 1 + 1 + 1 + 1) (nm + 1) (mapPut (mapOf seen) (b : Int) (t : Int) (p : Int))) (hg : wr.grownBy w' (some (b0 + 1 + 1 + 1 + 1))) : Srch b0 w6 w' N (seenPut seen b t p) m it v (nm + 1) := by
  have hu := unseen_put (p := p) hN hb ht hn
  have hs := h.sz
  have hmg : ∀ G, v.ownBlock = some G → w'.heap[G]? = wr.heap[G]? := fun G hG => hg.block _ (h.list.lt G hG) (by
    intro e
    have e := Option.some.inj e
    have := h.own G hG
    omega)
  refine ⟨h.heap.block (hg.block _ h.heap.lt (by intro e; have e := Option.some.inj e; omega)), h.list.keep hmg, h.own, hm.same (mapOf_put seen b t p), by have := h.cnt; omega, by have := h.size; omega, ?_, Nat.le_trans hs hg.size⟩
  exact h.below.grown hg (by omega) (fun k hk => by cases hk; omega)

/-- A cell of a block of its own is written. -/
theorem Srch.box {b0 : Nat} {w6 wr : World} {N : Nat} {seen : Nat → Nat → Option Nat} {m : Nat} {it : Nat → Spot} {v : Value} {nm B : Nat} (h : Srch b0 w6 wr N seen m it v nm) (hB : b0 + 5 ≤ B) (hG : ∀ G, v.ownBlock = some G → G ≠ B) (o : Nat) (u : Value) : Srch b0 w6 (wr.setCell ⟨B, o, none⟩ u) N seen m it v nm :=
  ⟨h.heap.block (Below.heap_setCell _ _ _ _ (by show b0 + 1 + 1 ≠ B; omega)), h.list.keep (fun G hg => Below.heap_setCell _ _ _ _ (hG G hg)), h.own, h.map.block (Below.heap_setCell _ _ _ _ (by show b0 + 1 + 1 + 1 + 1 ≠ B; omega)), h.cnt, h.size, h.below.setCell (by show b0 + 1 + 1 ≤ B; omega) _, by have := h.sz; simpa using this⟩

theorem pop_srch (b0 gf N : Nat) (w6 wr : World) (seen : Nat → Nat → Option Nat) (m : Nat) (it : Nat → Spot) (v : Value) (nm : Nat) (st : Nat → Int) (h : Srch b0 w6 wr N seen m it v nm) (hf : FarAt w6 (b0 + 1) gf N st) (hg : gf < b0) (hst : ∀ x, x < N → -1 ≤ st x ∧ st x ≤ 1000) (hfine : Fine N m it) (hord : Ord (keyM st) m it) :
    Calls Tryd.prog 88 #[.pointer (some ⟨b0 + 1 + 1, 0, none⟩)] wr fun e w' =>
      ∃ (okb : Bool) (hc ht m' : Nat) (it' : Nat → Spot) (v' : Value), e = .returned (.tuple #[.agg #[.int .i64 (hc : Int), .int .i64 (ht : Int)], .bool okb]) ∧ Srch b0 w6 w' N seen m' it' v' nm ∧ Ord (keyM st) m' it' ∧ Fine N m' it' ∧
        (okb = true → (∀ a b, Mem m it (a, b) ↔ Mem m' it' (a, b) ∨ (a = hc ∧ b = ht)) ∧ (∀ a b, Mem m it (a, b) → keyM st (hc, ht) ≤ keyM st (a, b)) ∧ m' + 1 = m ∧ hc < N ∧ ht ≤ 100000) ∧ (okb = false → m = 0 ∧ m' = 0) ∧
        Only (fun k => k = b0 + 1 + 1 ∨ v.ownBlock = some k) wr w' ∧ (∀ G, v'.ownBlock = some G → v.ownBlock = some G) := by
  by_cases h0 : m = 0
  · subst h0
    obtain ⟨a, cv, rfl⟩ := h.list.form
    refine (pop_none (b0 + 1 + 1) (b0 + 1) a cv wr h.heap).mono ?_
    rintro e w' ⟨rfl, hb⟩
    exact ⟨false, 0, 0, 0, it, _, rfl, h.later hb, ord_start (Nat.zero_le _), fine_start rfl, fun h => (by cases h), fun _ => ⟨rfl, rfl⟩, Only.of_below hb, fun _ h => h⟩
  · rcases h.list with ⟨_, e⟩ | ⟨G, cap, rfl, hit⟩
    · exact absurd e h0
    · have hGo := h.own G rfl
      refine (pop_some (b0 + 1 + 1) (b0 + 1) gf G cap m N it st wr h.heap hit (h.far hf hg) ⟨by omega, by omega⟩ hst hfine (by omega) (by have := h.size; omega) hord).mono ?_
      rintro e w' ⟨rfl, it', ho, hm, hh, hi, hon⟩
      have hs := h.sz
      have on2 : Only (fun k => k = b0 + 1 + 1 ∨ Value.ownBlock (.slice (some ⟨G, 0, none⟩) m cap) = some k) wr w' := hon.mono (fun i _ e => e.elim Or.inl (fun e => Or.inr (by rw [e]; rfl)))
      have hfi : ∀ p, Mem (m - 1) it' p → Mem m it p := fun p hp => (hm p).2 (Or.inl hp)
      have h00 : Mem m it (it 0) := ⟨0, by omega, rfl⟩
      refine ⟨true, (it 0).1, (it 0).2, m - 1, it', .slice (some ⟨G, 0, none⟩) (m - 1) cap, rfl, ⟨hh, Or.inr ⟨G, cap, rfl, hi⟩, fun G' hG' => ?_, h.map.block (hon.block _ h.map.lt (by intro e; rcases e with e | e <;> omega)), h.cnt, by have := h.size; omega, ?_, Nat.le_trans hs hon.size⟩, ho, fun p hp => hfine p (hfi p hp), fun _ => ⟨fun a b => ?_, fun a b hab => ?_, by omega, (hfine _ h00).1, (hfine _ h00).2⟩, fun h => (by cases h), on2, fun G' hG' => hG'⟩
      · cases hG'; exact hGo
      · exact h.below.trans (hon.below (by omega) (fun i e => by rcases e with e | e <;> omega))
      · rw [hm (a, b)]
        refine or_congr Iff.rfl ⟨fun e => ?_, fun e => ?_⟩
        · rw [← e]; exact ⟨rfl, rfl⟩
        · rw [e.1, e.2]
      · obtain ⟨i, hi, he⟩ := hab
        rw [← he]
        exact ord_first hord i hi

theorem push_srch (b0 gf N : Nat) (w6 wr : World) (seen : Nat → Nat → Option Nat) (m : Nat) (it : Nat → Spot) (v : Value) (nm : Nat) (st : Nat → Int) (pc pa : Nat) (h : Srch b0 w6 wr N seen m it v nm) (hf : FarAt w6 (b0 + 1) gf N st) (hg : gf < b0) (hst : ∀ x, x < N → -1 ≤ st x ∧ st x ≤ 1000) (hfine : Fine N m it) (hord : Ord (keyM st) m it) (hp1 : pc < N) (hp2 : pa ≤ 100000) (hroom : m + 1 + unseen N seen ≤ 10000) :
    Calls Tryd.prog 87 #[.pointer (some ⟨b0 + 1 + 1, 0, none⟩), .agg #[.int .i64 (pc : Int), .int .i64 (pa : Int)]] wr fun e w' =>
      e = .returned (.tuple #[]) ∧ ∃ (it' : Nat → Spot) (v' : Value), Srch b0 w6 w' N seen (m + 1) it' v' nm ∧ Ord (keyM st) (m + 1) it' ∧ Fine N (m + 1) it' ∧ (∀ a b, Mem (m + 1) it' (a, b) ↔ Mem m it (a, b) ∨ (a = pc ∧ b = pa)) ∧
        Only (fun k => k = b0 + 1 + 1 ∨ v.ownBlock = some k) wr w' ∧ (∀ G, v'.ownBlock = some G → v.ownBlock = some G ∨ wr.heap.size ≤ G) := by
  have hs := h.sz
  have own1 : ∀ k, k < b0 + 5 → v.ownBlock ≠ some k := fun k hk e => by have := h.own k e; omega
  refine (push_any (b0 + 1 + 1) (b0 + 1) gf m N v it (pc, pa) st wr h.heap h.list (own1 _ (by omega)) (h.far hf hg) ⟨own1 _ (by omega), own1 _ (by omega)⟩ ⟨by omega, by omega⟩ hst hfine hp1 hp2 (by have := h.size; omega) hord).mono ?_
  rintro e w' ⟨rfl, it', G, cap, ho, hm, hh, hi, hloc, hon⟩
  refine ⟨rfl, it', .slice (some ⟨G, 0, none⟩) (m + 1) cap, ⟨hh, Or.inr ⟨G, cap, rfl, hi⟩, fun G' hG' => ?_, h.map.block (hon.block _ h.map.lt (by
      intro e
      rcases e with e | e
      · omega
      · exact own1 _ (by omega) e)), h.cnt, hroom, ?_, Nat.le_trans hs hon.size⟩, ho, fun p hp => ?_, fun a b => ?_, hon, fun G' hG' => ?_⟩
  · cases hG'
    rcases hloc with e | e
    · exact h.own _ e
    · show b0 + 5 ≤ G; omega
  · exact h.below.trans (hon.below (by omega) (fun i e => by
      rcases e with e | e
      · omega
      · have := h.own i e; omega))
  · rcases (hm p).1 hp with e | e
    · exact hfine p e
    · rw [e]; exact ⟨hp1, hp2⟩
  · rw [hm (a, b)]
    refine or_congr Iff.rfl ⟨fun e => ?_, fun e => ?_⟩
    · cases e; exact ⟨rfl, rfl⟩
    · rw [e.1, e.2]
  · cases hG'; exact hloc

theorem star_congr {N : Nat} {rch : Nat → Nat → Bool} {goes : Nat → Nat → Nat → Bool} {fr c : Nat} {S : Int} {seen : Nat → Nat → Option Nat} {op op' hx : Nat → Nat → Prop} (h : Star N rch goes fr c S seen op hx) (e : ∀ a b, op' a b ↔ op a b) : Star N rch goes fr c S seen op' hx :=
  ⟨h.start, fun a b ho => h.sub a b ((e a b).1 ho), h.rch, h.pre0, h.pre, fun a b hs ho => h.exp a b hs (fun ho' => ho ((e a b).2 ho')), fun a b hs ho => h.ng a b hs (fun ho' => ho ((e a b).2 ho')), h.bd⟩

theorem unseen_le (N : Nat) (seen : Nat → Nat → Option Nat) : unseen N seen ≤ N * (62 + N) := cnt_le _ _

theorem push_srch_at (b0 gf N : Nat) (w6 wr : World) (seen : Nat → Nat → Option Nat) (m : Nat) (it : Nat → Spot) (v : Value) (nm : Nat) (st : Nat → Int) (pc pa : Nat) (pa' : Int) (hpa : pa' = (pa : Int)) (h : Srch b0 w6 wr N seen m it v nm) (hf : FarAt w6 (b0 + 1) gf N st) (hg : gf < b0) (hst : ∀ x, x < N → -1 ≤ st x ∧ st x ≤ 1000) (hfine : Fine N m it) (hord : Ord (keyM st) m it) (hp1 : pc < N) (hp2 : pa ≤ 100000) (hroom : m + 1 + unseen N seen ≤ 10000) :
    Calls Tryd.prog 87 #[.pointer (some ⟨b0 + 1 + 1, 0, none⟩), .agg #[.int .i64 (pc : Int), .int .i64 pa']] wr fun e w' =>
      e = .returned (.tuple #[]) ∧ ∃ (it' : Nat → Spot) (v' : Value), Srch b0 w6 w' N seen (m + 1) it' v' nm ∧ Ord (keyM st) (m + 1) it' ∧ Fine N (m + 1) it' ∧ (∀ a b, Mem (m + 1) it' (a, b) ↔ Mem m it (a, b) ∨ (a = pc ∧ b = pa)) ∧
        Only (fun k => k = b0 + 1 + 1 ∨ v.ownBlock = some k) wr w' ∧ (∀ G, v'.ownBlock = some G → v.ownBlock = some G ∨ wr.heap.size ≤ G) := by
  subst hpa
  exact push_srch b0 gf N w6 wr seen m it v nm st pc pa h hf hg hst hfine hord hp1 hp2 hroom

end Go.Proofs.YtaldfpoolajoiaaDoor
