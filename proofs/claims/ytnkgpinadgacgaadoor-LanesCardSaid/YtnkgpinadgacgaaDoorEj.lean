/- A set of cells, sorted: the cells in order. -/
import Derived.Test.YtnkgpinadgacgaaDoorEi
import Derived.Test.YtnkgpinadgacgaaDoorEa
namespace Go.Proofs.YtnkgpinadgacgaaDoor
open Go.RowKit Go.Maps M

/-- The cells of a set, in order. -/
def cellsL (f : Nat → Bool) : List Nat := (List.range 36).filter f

theorem cellsL_mem {f : Nat → Bool} {c : Nat} : c ∈ cellsL f ↔ c < 36 ∧ f c = true := by
  unfold cellsL
  rw [List.mem_filter, List.mem_range]

theorem qi_nodup {f : Nat → Bool} : (qi (cellsL f)).Nodup := by
  unfold qi cellsL
  rw [List.Nodup, List.pairwise_map]
  refine (List.Pairwise.filter f (List.pairwise_lt_range (n := 36))).imp fun {a b} h e => ?_
  omega

theorem qi_le {f : Nat → Bool} : (qi (cellsL f)).Pairwise (fun a b => decide (a ≤ b) = true) := by
  unfold qi cellsL
  rw [List.pairwise_map]
  refine (List.Pairwise.filter f (List.pairwise_lt_range (n := 36))).imp fun {a b} h => ?_
  simp
  omega

theorem keys_perm {w : World} {b n : Nat} {D : DataW Unit} {f : Nat → Bool} (h : w.ownsMap Tryd.prog 3 (unitElem (H := Unit)) b n D) (hk : ∀ kl, Maps.has D kl = true → ∃ c : Nat, c < 36 ∧ kl = .int .i64 (c : Int)) (hf : ∀ c : Nat, c < 36 → Maps.has D (.int .i64 (c : Int)) = f c) : (Go.intKeys D).Perm (qi (cellsL f)) := by
  obtain ⟨es, rfl, hp, hl⟩ := h.entries Tryd.lawInt
  have hin : ∀ p ∈ es, ∃ c : Nat, c < 36 ∧ p.1 = .int .i64 (c : Int) := fun p hm => hk p.1 (by
    rw [Maps.has_eq, List.any_eq_true]
    exact ⟨p, hm, WideAt.sameKey_self (hl p hm)⟩)
  refine (List.perm_ext_iff_of_nodup ?_ qi_nodup).2 fun x => ?_
  · show (es.map _).Nodup
    rw [List.Nodup, List.pairwise_map]
    refine hp.imp_of_mem fun {p q} hpm hqm hne e => ?_
    obtain ⟨c, _, e1⟩ := hin p hpm
    obtain ⟨d, _, e2⟩ := hin q hqm
    rw [e1, e2] at e hne
    have e3 : (c : Int) = (d : Int) := e
    exact hne (by rw [e3])
  · constructor
    · intro hx
      obtain ⟨p, hpm, rfl⟩ := List.mem_map.1 (show x ∈ es.map _ from hx)
      obtain ⟨c, hc, e1⟩ := hin p hpm
      have hh : Maps.has (.map es) (.int .i64 (c : Int)) = true := by
        rw [Maps.has_eq, List.any_eq_true]
        exact ⟨p, hpm, by rw [e1]; exact WideAt.sameKey_self (by rw [← e1]; exact hl p hpm)⟩
      rw [hf c hc] at hh
      refine List.mem_map.2 ⟨c, cellsL_mem.2 ⟨hc, hh⟩, ?_⟩
      rw [e1]; rfl
    · intro hx
      obtain ⟨c, hc, rfl⟩ := List.mem_map.1 hx
      obtain ⟨hc1, hc2⟩ := cellsL_mem.1 hc
      have hh := hf c hc1
      rw [hc2, Maps.has_eq, List.any_eq_true] at hh
      obtain ⟨p, hpm, hs⟩ := hh
      have e1 : p.1 = .int .i64 (c : Int) := WideAt.sameKey_eq hs
      refine List.mem_map.2 ⟨p, hpm, ?_⟩
      rw [e1]; rfl

theorem sorted_cells (b : Nat) (f : Nat → Bool) (w : World) (hc : CellSet w b f) :
    Calls Tryd.prog 122 #[.func (.func 166) #[] #[.pointer (some ⟨w.heap.size, 0, none⟩)]] (w.alloc (.cells #[.map (some b)] 166)) fun e w' => ∃ v, e = .returned v ∧ OwnN w' w.heap.size v (cellsL f) ∧ Below w.heap.size (w.alloc (.cells #[.map (some b)] 166)) w' := by
  obtain ⟨D, hD, hk, hf⟩ := hc
  have hsz := cells_size hD hk
  refine (Tryd.sorted_calls b _ D _ w hD (by unfold maxLen; omega) (by omega)).mono ?_
  rintro e w' ⟨v, ss, rfl, hp, hrow, hb⟩
  refine ⟨v, rfl, ?_, hb⟩
  have e1 : ss.mergeSort (fun x y => decide (x ≤ y)) = qi (cellsL f) := by
    refine List.Perm.eq_of_pairwise (le := fun a b => decide (a ≤ b) = true) (fun a b _ _ h1 h2 => ?_) (List.pairwise_mergeSort (fun a b c h1 h2 => ?_) (fun a b => ?_) ss) qi_le (((List.mergeSort_perm ss _).trans hp).trans (keys_perm hD hk hf))
    · simp at h1 h2; omega
    · simp at h1 h2 ⊢; omega
    · simp; omega
  have hl : ss.length = (cellsL f).length := by
    have h := (hp.trans (keys_perm hD hk hf)).length_eq
    rw [h]; simp [qi]
  unfold OwnN
  rw [e1, hl] at hrow
  exact hrow

end Go.Proofs.YtnkgpinadgacgaaDoor
