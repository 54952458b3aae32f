/- Walks of the program's bans: put in, asked. -/
import Derived.Test.YtaldfpoolajoiaaDoorRm
import Derived.Test.YtaldfpoolajoiaaDoorLc
import Derived.Test.YtaldfpoolajoiaaDoorRa
import Derived.Test.YtaldfpoolajoiaaDoorWc
namespace Go.Proofs.YtaldfpoolajoiaaDoor
open Go.RowKit M

set_option maxHeartbeats 1000000 in
theorem banSpot_any (bs bt n : Nat) (f : Int → Int → Bool) (c t : Int) (w : World) (h : SpotSet w bs n f) (hn : n < 1000000) (hc : i64B c) (ht : i64B t) :
    Calls Tryd.prog 99 #[.agg #[.map (some bs), .map (some bt)], .agg #[.int .i64 c, .int .i64 t]] w fun e w' =>
      e = .returned (.tuple #[]) ∧ SpotSet w' bs (n + 1) (fun c' t' => f c' t' || (c' == c && t' == t)) ∧ Only (fun k => k = bs) w w' := by
  have H := Hid.mk h
  have hl := h.lt
  clear h
  have hnm : n < maxLen := by unfold maxLen; omega
  go_enter Tryd.func99, Tryd.ntmps99
  go_wp2_with (at_mapUpdate; refine wpList_put_spot rfl _ _ _ rfl bs n f rfl (H.out.block (by rw [Below.heap_alloc _ _ _ (by simp; omega), Below.heap_alloc _ _ _ hl])) hnm c t rfl rfl hc ht ?_; intro w3 hs3 hg3)
  go_end0
  exact ⟨rfl, hs3, (((Only.refl _ w).alloc _).alloc _).trans (Only.of_grown hg3) (fun _ _ e => e)⟩

set_option maxHeartbeats 1000000 in
theorem banStep_any (bs bt n : Nat) (f : Int → Int → Int → Bool) (p c t : Int) (w : World) (h : StepSet w bt n f) (hn : n < 1000000) (hp : i64B p) (hc : i64B c) (ht : i64B t) :
    Calls Tryd.prog 74 #[.agg #[.map (some bs), .map (some bt)], .agg #[.int .i64 p, .int .i64 c, .int .i64 t]] w fun e w' =>
      e = .returned (.tuple #[]) ∧ StepSet w' bt (n + 1) (fun a' c' t' => f a' c' t' || (a' == p && c' == c && t' == t)) ∧ Only (fun k => k = bt) w w' := by
  have H := Hid.mk h
  have hl := h.lt
  clear h
  have hnm : n < maxLen := by unfold maxLen; omega
  go_enter Tryd.func74, Tryd.ntmps74
  go_wp2_with (at_mapUpdate; refine wpList_put_step rfl _ _ _ rfl bt n f rfl (H.out.block (by rw [Below.heap_alloc _ _ _ (by simp; omega), Below.heap_alloc _ _ _ hl])) hnm p c t rfl rfl hp hc ht ?_; intro w3 hs3 hg3)
  go_end0
  exact ⟨rfl, hs3, (((Only.refl _ w).alloc _).alloc _).trans (Only.of_grown hg3) (fun _ _ e => e)⟩

set_option maxHeartbeats 1000000 in
theorem allowSpot_any (bs bt n : Nat) (f : Int → Int → Bool) (c t : Int) (w : World) (h : SpotSet w bs n f) (hc : i64B c) (ht : i64B t) :
    Calls Tryd.prog 85 #[.agg #[.map (some bs), .map (some bt)], .agg #[.int .i64 c, .int .i64 t]] w fun e w' =>
      e = .returned (.bool (!f c t)) ∧ Below w.heap.size w w' := by
  have H := Hid.mk h
  have hl := h.lt
  clear h
  obtain ⟨g, hg⟩ : ∃ g, g = f c t := ⟨_, rfl⟩
  rw [← hg]
  have HG := Hid.mk hg
  clear hg
  have KEY : Hid (∀ (ops : Array Oper) (rest : List Oper) (o : Oper) (a : Act) (Q : Exit → Act → World → Prop) (w' : World) (m x : Operand), o.guard = none → o.op = Op.lookup 100 m x true → a.eval m = .map (some bs) → w'.heap[bs]? = w.heap[bs]? → a.eval x = .agg #[.int .i64 c, .int .i64 t] →
      wpList Tryd.prog ops Q rest (a.put o.dst (.tuple #[.agg #[], .bool g])) w' → wpList Tryd.prog ops Q (o :: rest) a w') := by
    intro ops rest o a Q w' m x h1 h2 h3 h4 h5 h6
    refine wpList_look_spot h1 m x h2 bs n f h3 (H.out.block h4) c t h5 hc ht ?_
    rw [← HG.out]; exact h6
  go_enter Tryd.func85, Tryd.ntmps85
  go_wp2_with (at_lookup; refine KEY.out _ _ _ _ _ _ _ _ rfl rfl rfl (by rw [Below.heap_alloc _ _ _ (by simp; omega), Below.heap_alloc _ _ _ hl]) rfl ?_)
  go_ret
  exact ⟨rfl, (((Below.refl _ w).alloc (Nat.le_refl _) _).alloc (by simp) _).alloc (by simp; omega) _⟩

set_option maxHeartbeats 1000000 in
theorem allowStep_any (bs bt n n' : Nat) (f : Int → Int → Bool) (f' : Int → Int → Int → Bool) (p c : Int) (t : Nat) (w : World) (h : SpotSet w bs n f) (h' : StepSet w bt n' f') (hp : i64B p) (hc : i64B c) (ht : t ≤ 100000) :
    Calls Tryd.prog 104 #[.agg #[.map (some bs), .map (some bt)], .agg #[.int .i64 p, .int .i64 c, .int .i64 (t : Int)]] w fun e w' =>
      e = .returned (.bool (!f' p c t && !f c (t + 1 : Nat))) ∧ Below w.heap.size w w' := by
  have H := Hid.mk h
  have H' := Hid.mk h'
  have hl := h'.lt
  clear h h'
  have ht1 : i64B (t : Int) := i64B_small (by omega) (by omega)
  have ht2 : i64B ((t + 1 : Nat) : Int) := i64B_small (by omega) (by omega)
  obtain ⟨g, hg⟩ : ∃ g, g = f' p c t := ⟨_, rfl⟩
  rw [← hg]
  have HG := Hid.mk hg
  clear hg
  have KEY : Hid (∀ (ops : Array Oper) (rest : List Oper) (o : Oper) (a : Act) (Q : Exit → Act → World → Prop) (w' : World) (m x : Operand), o.guard = none → o.op = Op.lookup 101 m x true → a.eval m = .map (some bt) → w'.heap[bt]? = w.heap[bt]? → a.eval x = .agg #[.int .i64 p, .int .i64 c, .int .i64 (t : Int)] →
      wpList Tryd.prog ops Q rest (a.put o.dst (.tuple #[.agg #[], .bool g])) w' → wpList Tryd.prog ops Q (o :: rest) a w') := by
    intro ops rest o a Q w' m x h1 h2 h3 h4 h5 h6
    refine wpList_look_step h1 m x h2 bt n' f' h3 (H'.out.block h4) p c t h5 hp hc ht1 ?_
    rw [← HG.out]; exact h6
  go_enter Tryd.func104, Tryd.ntmps104
  cases g
  · go_wp2_with (at_lookup; refine KEY.out _ _ _ _ _ _ _ _ rfl rfl rfl (by rw [Below.heap_alloc _ _ _ (by simp; omega), Below.heap_alloc _ _ _ hl]) rfl ?_)
    have HB3 : Hid (Below w.heap.size w (((w.alloc (Obj.cells #[Value.map (some bs), Value.map (some bt)] 103)).alloc (Obj.cells #[Value.int IntKind.i64 p, Value.int IntKind.i64 c, Value.int IntKind.i64 (t : Int)] 110)).alloc (Obj.cells #[] 120))) := (((Below.refl _ w).alloc (Nat.le_refl _) _).alloc (by simp) _).alloc (by simp; omega) _
    generalize ((w.alloc (Obj.cells #[Value.map (some bs), Value.map (some bt)] 103)).alloc (Obj.cells #[Value.int IntKind.i64 p, Value.int IntKind.i64 c, Value.int IntKind.i64 (t : Int)] 110)).alloc (Obj.cells #[] 120) = w3 at *
    rw [show ((t : Int) + 1) = ((t + 1 : Nat) : Int) by omega]
    refine (allowSpot_any bs bt n f c (t + 1 : Nat) _ (H.out.block (HB3.out.block _ H.out.lt)) hc ht2).mono ?_
    rintro e w4 ⟨rfl, hb4⟩
    have HB4 : Hid (Below w.heap.size w w4) := HB3.out.trans (hb4.mono HB3.out.size)
    clear hb4
    go_wp2
    go_ret
    exact ⟨rfl, HB4.out⟩
  · go_wp2_with (at_lookup; refine KEY.out _ _ _ _ _ _ _ _ rfl rfl rfl (by rw [Below.heap_alloc _ _ _ (by simp; omega), Below.heap_alloc _ _ _ hl]) rfl ?_)
    go_ret
    exact ⟨rfl, (((Below.refl _ w).alloc (Nat.le_refl _) _).alloc (by simp) _).alloc (by simp; omega) _⟩

end Go.Proofs.YtaldfpoolajoiaaDoor
