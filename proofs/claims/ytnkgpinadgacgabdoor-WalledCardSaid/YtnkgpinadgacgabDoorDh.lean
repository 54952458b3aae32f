/- Walks of Count and Positions. -/
import Derived.Test.YtnkgpinadgacgabDoorDg
namespace Go.Proofs.YtnkgpinadgacgabDoor
open Go.RowKit M
/-- To which positions one may go from a position. -/
def stepP (ro co : Int) (cs : ByteArray) (m : Nat) (p q : List Nat) : Prop := q ∈ growL (mvN ro co cs) p m

set_option maxRecDepth 100000 in
set_option maxHeartbeats 2000000 in
theorem count_any (ro co bu : Int) (cs : ByteArray) (b off m cc : Nat) (fr tt : Nat → Int) (w : World) (hs : cs.size ≤ 36) (r1 : 1 ≤ ro) (r2 : ro ≤ 6) (h1 : 1 ≤ co) (h2 : co ≤ 6) (hm : m ≤ 4) (hbu : bu ≤ 1000000) (hsd : SidesIn w) (hcs : CartsIn w b off m fr tt) (hf : ∀ k, k < m → 0 ≤ fr k ∧ freeB cs (fr k) = true) (ht : ∀ k, k < m → 0 ≤ tt k ∧ freeB cs (tt k) = true) :
    Calls Tryd.prog 37 #[.agg #[.int .i64 ro, .int .i64 co, .string cs, .slice (some ⟨b, off, none⟩) m cc, .int .i64 bu]] w fun e w' => ∃ (n : Nat) (d : Bool), e = .returned (.tuple #[.int .i64 n, .bool d]) ∧ n ≤ 2000000 ∧ M.Told (stepP ro co cs m) (cellsOf fr m) (cellsOf tt m) bu n d ∧ Below w.heap.size w w' := by
  have ht2 : ∀ k, k < m → 0 ≤ tt k ∧ tt k < 256 := fun k hk => by
    obtain ⟨n, e1, e2⟩ := free_nat (ht k hk).2
    have := (ht k hk).1
    omega
  have GT : Hid (Good cs m (cellsOf tt m)) := by
    refine ⟨cellsOf_len _ _, fun k hk => ?_⟩
    obtain ⟨n, e1, e2⟩ := free_nat (ht k hk).2
    rw [cellsOf_at hk, e1]
    exact ⟨by simpa using e2, by rw [← e1]; simpa [e1] using (ht k hk).2⟩
  have ST := Hid.mk (GT.out.small hs)
  have HSD := Hid.mk hsd
  have HCS := Hid.mk hcs
  have HF := Hid.mk hf
  have HT2 := Hid.mk ht2
  clear hsd hcs hf ht ht2
  go_enter Tryd.func37, Tryd.ntmps37
  go_wp2_with fail
  have B1 : Hid (Below w.heap.size w (w.alloc (Obj.cells #[Value.int IntKind.i64 ro, Value.int IntKind.i64 co, Value.string cs, .slice (some ⟨b, off, none⟩) m cc, Value.int IntKind.i64 bu] 28))) := (Below.refl _ w).alloc (Nat.le_refl _) _
  have yc : ∀ o, (w.alloc (Obj.cells #[Value.int IntKind.i64 ro, Value.int IntKind.i64 co, Value.string cs, .slice (some ⟨b, off, none⟩) m cc, Value.int IntKind.i64 bu] 28)).cell? ⟨w.heap.size, o, none⟩ = #[Value.int .i64 ro, .int .i64 co, .string cs, .slice (some ⟨b, off, none⟩) m cc, .int .i64 bu][o]? := by
    intro o; go_simp
  have hz1 : (w.alloc (Obj.cells #[Value.int IntKind.i64 ro, Value.int IntKind.i64 co, Value.string cs, .slice (some ⟨b, off, none⟩) m cc, Value.int IntKind.i64 bu] 28)).heap.size = w.heap.size + 1 := by simp
  generalize w.alloc (Obj.cells #[Value.int IntKind.i64 ro, Value.int IntKind.i64 co, Value.string cs, .slice (some ⟨b, off, none⟩) m cc, Value.int IntKind.i64 bu] 28) = w1 at *
  refine (reached_any ro co bu cs b off m cc fr tt _ hs r1 r2 h1 h2 hm hbu (HSD.out.below B1.out) (HCS.out.below B1.out) HF.out).mono ?_
  rintro e w2 ⟨bm, L, i, rfl, hwk, hi, hgd, hlen, hps, hbm, hb2⟩
  have WK := Hid.mk hwk
  have HI := Hid.mk hi
  have HLEN := Hid.mk hlen
  have PS := Hid.mk hps
  have hz2 := hb2.size
  have y0 := cell_later hb2 (yc 0)
  have y1 := cell_later hb2 (yc 1)
  have y2 := cell_later hb2 (yc 2)
  have y3 := cell_later hb2 (yc 3)
  have y4 := cell_later hb2 (yc 4)
  have B2 : Hid (Below w.heap.size w w2) := B1.out.trans (hb2.mono (by omega))
  clear yc hwk hi hgd hlen hps hb2
  go_wp2_with fail
  refine (goals_any ro co bu cs b off m cc fr tt _ hm (HCS.out.below B2.out) HT2.out).mono ?_
  rintro e w3 ⟨rfl, hb3⟩
  have PS3 := Hid.mk (PS.out.below hb3)
  have B3 : Hid (Below w.heap.size w w3) := B2.out.trans (hb3.mono (by omega))
  have hz3 := hb3.size
  clear hb3 y0 y1 y2 y3 y4
  have PS4 : Hid (PosSet (w3.alloc (Obj.cells #[] 90)) bm m L) := PS3.out.below ((Below.refl _ _).alloc (Nat.le_refl _) _)
  go_upto_region 3 with (at_lookup; refine wpList_look_pos rfl _ _ rfl bm m L rfl PS3.out (cellsOf tt m) rfl GT.out.1 ST.out ?_)
  go_wp2_with (at_len; go_must (refine wpList_len_pos rfl _ rfl bm m L rfl PS4.out ?_))
  go_ret2
  refine ⟨L.length, decide (cellsOf tt m ∈ L), rfl, ?_, ?_, B3.out.alloc (by omega) _⟩
  · have := HLEN.out; omega
  · have hw := WK.out
    rcases HI.out with h | h
    · subst h; exact .inl ⟨L, hw, rfl, rfl⟩
    · exact .inr ⟨L, i, hw, rfl, h⟩

end Go.Proofs.YtnkgpinadgacgabDoor
