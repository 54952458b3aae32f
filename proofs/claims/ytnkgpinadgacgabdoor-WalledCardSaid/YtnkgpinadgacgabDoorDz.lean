/- Small facts on lists that the call made and on rows, used by many. -/
import Derived.Test.YtnkgpinadgacgabDoorBi
import Derived.Test.YtnkgpinadgacgabDoorBe
namespace Go.Proofs.YtnkgpinadgacgabDoor
open Go.RowKit M
/-- A row of empty lists, just made. -/
theorem nilRow (N : Nat) (w : World) (t : TypeId) (k : Nat) (hk : k = w.heap.size) : (w.alloc (.cells (madeCells #[.slice none 0 0] N) t)).rowIs k t N (fun _ => .slice none 0 0) := by
  subst hk
  refine rowIs_made _ _ _ _ fun i _ => ?_
  simp [Nat.mod_one]

theorem Tryd.infoInt2 : (Tryd.prog.info? 3).map (fun i => (i.zero, i.size, i.bytes)) = some (some (.int .i64 0), 1, 8) := by kernel_rfl

/-- A list of natural numbers that the call made. -/
def OwnN (w : World) (base : Nat) (v : Value) (L : List Nat) : Prop := w.ownsRow base 3 1 v L.length (ints (qi L))

theorem OwnN.nil (w : World) (base : Nat) : OwnN w base (.slice none 0 0) [] := ⟨rfl, .inl ⟨rfl, rfl⟩⟩

theorem OwnN.below {w w' : World} {base : Nat} {v : Value} {L : List Nat} (h : OwnN w base v L) (hb : Below w.heap.size w w') : OwnN w' base v L := own_later h hb

theorem OwnN.le {w : World} {base base' : Nat} {v : Value} {L : List Nat} (h : OwnN w base v L) (hb : base' ≤ base) : OwnN w base' v L := own_le h hb

theorem OwnN.form {w : World} {base : Nat} {v : Value} {L : List Nat} (h : OwnN w base v L) : ∃ a cap, v = .slice a L.length cap ∧ (0 < L.length → ∃ g, a = some ⟨g, 0, none⟩) ∧ L.length ≤ cap := own_form h

theorem OwnN.cell {w : World} {base g n cap : Nat} {L : List Nat} (h : OwnN w base (.slice (some ⟨g, 0, none⟩) n cap) L) {i : Nat} (hi : i < L.length) : w.cell? ⟨g, i, none⟩ = some (.int .i64 (L.getD i 0 : Nat)) := by
  obtain ⟨a, cap2, hv, _, _⟩ := h.form
  have e : n = L.length := by cases hv; rfl
  subst e
  rw [own_cell h hi, qi_at hi]

set_option maxRecDepth 100000 in
theorem wpList_pushN {w0 : World} {ops : Array Oper} {rest : List Oper} {o : Oper} {a : Act} {Q : Exit → Act → World → Prop} (hgd : o.guard = none) (s x : Operand)
    (ho : o.op = .call { callee := .builtin .append, args := #[s, x], argTypes := #[22, 22] })
    (base : Nat) (v : Value) (L : List Nat) (y : Nat) (hs : a.eval s = v) (hown : OwnN w0 base v L) (hbase : base ≤ w0.heap.size) (c : Nat)
    (hx : a.eval x = .slice (some ⟨w0.heap.size, 0, none⟩) 1 c) (hL : L.length ≤ 100000000)
    (h : ∀ g cap w', OwnN w' base (.slice (some ⟨g, 0, none⟩) (L ++ [y]).length cap) (L ++ [y]) → Only (fun k => v.ownBlock = some k) w0 w' → (v.ownBlock = some g ∨ w0.heap.size ≤ g) → wpList Tryd.prog ops Q rest (a.put o.dst (.slice (some ⟨g, 0, none⟩) (L ++ [y]).length cap)) w') :
    wpList Tryd.prog ops Q (o :: rest) a (w0.alloc (.cells #[.int .i64 (y : Int)] 3)) := by
  obtain ⟨i0, hi0, hi1, hi2, hi3⟩ := info_parts Tryd.infoInt2
  have hown1 := own_keep (w' := w0.alloc (.cells #[.int .i64 (y : Int)] 3)) hown (fun g _ hg _ => Below.heap_alloc _ _ _ hg)
  refine wpList_append_lies _ hgd s x _ ho base 3 i0 _ 1 8 Tryd.underlying22 hi0 hi1 hi2 hi3 rfl (by omega) v L.length (ints (qi L)) hs hown1 _ 1 c [.int .i64 (y : Int)] hx rfl (fun j u hj => ?_) (fun u hu => ?_) (by omega) (by unfold maxLen; omega) (by omega) (by simp; omega) (w0.heap.size + 1) (by simp) ?_
  · match j, hj with
    | 0, hj => simp at hj; subst hj; simp [Addr.add]
    | j + 1, hj => simp at hj
  · simp at hu; subst hu; rfl
  · intro g cap w' ho9 hg9 hl9 _
    have e1 : (L ++ [y]).length = L.length + 1 := by simp
    rw [e1] at h
    refine h g cap w' ?_ (⟨hg9.os, hg9.tape, hg9.output, Nat.le_trans (by simp) hg9.size, fun k hk hn => ?_⟩) (hl9.imp id (fun e => by omega))
    · unfold OwnN
      rw [← qi_push, e1]; exact ho9
    · rw [hg9.block k (by simp; omega) (fun e => hn e.symm)]
      exact Below.heap_alloc _ _ _ hk

theorem Tryd.infoSl : (Tryd.prog.info? 22).map (fun i => (i.zero, i.size, i.bytes)) = some (some (.slice none 0 0), 1, 24) := by kernel_rfl

end Go.Proofs.YtnkgpinadgacgabDoor
