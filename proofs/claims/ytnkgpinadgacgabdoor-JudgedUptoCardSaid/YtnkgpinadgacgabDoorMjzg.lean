/- Several texts in one: Gw. -/
import Derived.Test.YtnkgpinadgacgabDoorMjzf
import Derived.Laws.StructEq
namespace Go.Proofs.YtnkgpinadgacgabDoor
open Go.RowKit M SM
theorem eq_pos (a0 a1 a2 a3 b0 b1 b2 b3 : Nat) (w : World) : (Op.equalIn 10000 102 (.agg #[.int .u8 (a0 : Nat), .int .u8 (a1 : Nat), .int .u8 (a2 : Nat), .int .u8 (a3 : Nat)]) (.agg #[.int .u8 (b0 : Nat), .int .u8 (b1 : Nat), .int .u8 (b2 : Nat), .int .u8 (b3 : Nat)])).run Tryd.prog w = .ok (((a0 : Int) == b0) && ((a1 : Int) == b1) && ((a2 : Int) == b2) && ((a3 : Int) == b3)) w := by
  have un := Tryd.underlying5
  have ag := Tryd.isAgg5
  have sz := Tryd.sizeOf5
  rw [show (10000 : Nat) = 9999 + 1 from rfl, Op.equalIn]
  simp only [Sem.run_bind, run_underlying Tryd.underlying102, Result.andThen_ok]
  simp only [Std.Legacy.Range.forIn_eq_forIn_range', Std.Legacy.Range.size, Nat.sub_zero, Nat.add_sub_cancel, Nat.div_one, List.range'_succ, List.range'_zero, List.forIn_cons, List.forIn_nil]
  go_simp
  by_cases h1 : (a0 : Int) = b0 <;> by_cases h2 : (a1 : Int) = b1 <;> by_cases h3 : (a2 : Int) = b2 <;> by_cases h4 : (a3 : Int) = b3 <;> simp [h1, h2, h3, h4]

theorem run_eq_pos {m : Nat} {p q : List Nat} (hm : m ≤ 4) (hp : p.length = m) (hq : q.length = m) (w : World) : (binOp .eql 102 (.agg (psL p).toArray) (.agg (psL q).toArray)).run Tryd.prog w = .ok (.bool (decide (p = q))) w := by
  rw [run_eql_struct]
  have h := eq_pos (p.getD 0 0) (p.getD 1 0) (p.getD 2 0) (p.getD 3 0) (q.getD 0 0) (q.getD 1 0) (q.getD 2 0) (q.getD 3 0) w
  have e : ((((p.getD 0 0 : Nat) : Int) == ((q.getD 0 0 : Nat) : Int)) && (((p.getD 1 0 : Nat) : Int) == ((q.getD 1 0 : Nat) : Int)) && (((p.getD 2 0 : Nat) : Int) == ((q.getD 2 0 : Nat) : Int)) && (((p.getD 3 0 : Nat) : Int) == ((q.getD 3 0 : Nat) : Int))) = decide (p = q) := by
    rw [Bool.eq_iff_iff]
    simp only [Bool.and_eq_true, beq_iff_eq, decide_eq_true_eq]
    constructor
    · rintro ⟨⟨⟨e0, e1⟩, e2⟩, e3⟩
      refine list_ext (d := 0) (n := m) hp hq fun i hi => ?_
      have hc : i = 0 ∨ i = 1 ∨ i = 2 ∨ i = 3 := by omega
      rcases hc with rfl | rfl | rfl | rfl <;> omega
    · rintro rfl
      exact ⟨⟨⟨rfl, rfl⟩, rfl⟩, rfl⟩
  rw [e] at h
  show ((Op.equalIn 10000 102 (.agg (psL p).toArray) (.agg (psL q).toArray)).run Tryd.prog w).andThen _ = _
  unfold psL
  rw [h]
  rfl

/-- Pop, of the search. -/
theorem popS_any (S mb m B n : Nat) (c0 c1 c2 v : Value) (s : Srch) (w : World) (hI : SIn w S mb m B n c0 c1 c2 v s) (hn0 : 0 < s.n) (hn : s.n < 900000000) :
    Calls Tryd.prog 83 #[.pointer (some ⟨S, 4, none⟩)] w fun e w' =>
      e = .returned (.tuple #[.agg (ldL (s.it 0)).toArray, .bool true]) ∧ ∃ v', SIn w' S mb m B n c0 c1 c2 v' (popF s) ∧ (∀ g, v'.ownBlock = some g → v.ownBlock = some g) ∧ Only (TnV S mb v) w w' := by
  rcases hI.list with ⟨_, h0⟩ | ⟨G, cap, rfl, h2⟩
  · omega
  · refine (popL_some S G cap s.n c0 c1 c2 (.map (some mb)) s.it w hI.src h2 hn0 hn).mono ?_
    rintro e w' ⟨rfl, h3, h4, h5⟩
    have hmb : ¬ (mb = S ∨ mb = G) := fun e => by
      rcases e with e | e
      · exact hI.low.2.2.1 e.symm
      · have := hI.own G rfl
        have := hI.low.2.1
        omega
    refine ⟨rfl, _, ⟨h3, .inr ⟨G, cap, rfl, h4⟩, fun g hg => hI.own g (by rw [← Option.some.inj hg]; rfl), hI.seen.block (h5.block mb hI.seen.lt hmb), hI.low.1, hI.low.2.1, hI.low.2.2.1, Nat.le_trans hI.low.2.2.2 h5.size⟩, fun g hg => by rw [← Option.some.inj hg]; rfl, h5.mono (fun i _ e => ?_)⟩
    rcases e with e | e
    · exact .inl e
    · exact .inr (.inr (by rw [e]; rfl))

theorem GroundIn.only {w w' : World} {gm k : Nat} {G C : Nat → Nat} {ro co : Int} {cs : ByteArray} {T : Nat → Prop} (h : GroundIn w gm k G C ro co cs) (ho : Only T w w') (h1 : ¬ T gm) (h2 : ∀ j, j < k → freeB cs j = true → ¬ T (G j)) : GroundIn w' gm k G C ro co cs := by
  refine ⟨h.row.of_block (ho.block gm h.row.lt h1), fun j hj hf i hi => ?_, h.low⟩
  have hl := h.lists j hj hf i hi
  have hs : (ints (mvL ro co cs j))[i]? = some ((ints (mvL ro co cs j))[i]'(by simpa [ints] using hi)) := List.getElem?_eq_getElem _
  rw [hs] at hl ⊢
  exact (ho.cell (p := ⟨G j, i, none⟩) (World.block_lt_of_cell? _ _ hl) (h2 j hj hf)).trans hl

end Go.Proofs.YtnkgpinadgacgabDoor
