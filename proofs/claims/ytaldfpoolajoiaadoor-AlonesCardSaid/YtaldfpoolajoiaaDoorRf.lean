/- Walks of the document's first and ahead. -/
import Derived.Test.YtaldfpoolajoiaaDoorRdRe
import Derived.Deep.RegionHeld3
import Derived.Deep.DeepCutAuto
namespace Go.Proofs.YtaldfpoolajoiaaDoor
open Go.RowKit M

def boolV (f : Nat → Bool) : Nat → Value := fun i => .bool (f i)

theorem Tryd.infoBool : (Tryd.prog.info? 4).map (fun i => (i.zero, i.size, i.bytes)) = some (some (.bool false), 1, 1) := by kernel_rfl

theorem brow_zero (N : Nat) (w : World) (t : TypeId) (k : Nat) (hk : k = w.heap.size) : (w.alloc (.cells (madeCells #[.bool false] N) t)).rowIs k t N (boolV (fun _ => false)) := by
  subst hk
  refine rowIs_made _ _ _ _ fun i _ => ?_
  simp [Nat.mod_one, boolV]

theorem brow_store {w : World} {g N : Nat} {t : TypeId} {f f' : Nat → Bool} (h : w.rowIs g t N (boolV f)) (i : Nat) (v : Bool) (he : ∀ j, j < N → (if j = i then v else f j) = f' j) : (w.setCell ⟨g, i, none⟩ (.bool v)).rowIs g t N (boolV f') := by
  refine (h.set i _).congr fun j hj => ?_
  unfold boolV
  rw [← he j hj]
  split <;> rfl

set_option maxRecDepth 100000 in
set_option maxHeartbeats 1000000 in
theorem first_any (ro co bu : Int) (cs : ByteArray) (b off m cap : Nat) (fr tt : Nat → Int) (k f : Nat) (ar : Option Addr) (n capr : Nat) (R : Nat → RuleM) (w : World) (hs : cs.size ≤ 36) (hn : n ≤ maxLen) (hk : k < m) (hf : fr k = (f : Int)) (hfN : f < cs.size)
    (hc : CartsIn w b off m fr tt) (har : RulesAt w ar n R) :
    Calls Tryd.prog 49 #[.agg #[.int .i64 ro, .int .i64 co, .string cs, .slice (some ⟨b, off, none⟩) m cap, .int .i64 bu], .int .i64 k, .slice ar n capr] w fun e w' =>
      ∃ g, e = .returned (.slice (some ⟨g, 0, none⟩) cs.size cs.size) ∧ w.heap.size ≤ g ∧ w'.rowIs g 4 cs.size (boolV (fun c => c == f && onM n R c 0)) ∧ Below w.heap.size w w' := by
  have hfc := (hc k hk).1
  rw [hf] at hfc
  have HA := Hid.mk har
  clear har hc
  have hbl : b < w.heap.size := World.block_lt_of_cell? _ _ hfc
  go_enter Tryd.func49, Tryd.ntmps49
  go_upto_region 2 with (at_make; go_must (refine wpList_make_all _ rfl _ _ 81 rfl 4 _ _ _ Tryd.underlying81 Tryd.infoBool _ _ _ _ cs.size rfl rfl rfl rfl (by omega) (by omega) ?_))
  have hrow0 := Hid.mk (brow_zero cs.size (w.alloc (Obj.cells #[Value.int IntKind.i64 ro, Value.int IntKind.i64 co, Value.string cs, .slice (some ⟨b, off, none⟩) m cap, Value.int IntKind.i64 bu] 24)) 4 (w.heap.size + 1) (by simp))
  have hB3 : Hid (Below w.heap.size w ((w.alloc (Obj.cells #[Value.int IntKind.i64 ro, Value.int IntKind.i64 co, Value.string cs, .slice (some ⟨b, off, none⟩) m cap, Value.int IntKind.i64 bu] 24)).alloc (Obj.cells (madeCells #[Value.bool false] cs.size) 4))) := ((Below.refl _ w).alloc (Nat.le_refl _) _).alloc (by simp) _
  have y3 : ((w.alloc (Obj.cells #[Value.int IntKind.i64 ro, Value.int IntKind.i64 co, Value.string cs, .slice (some ⟨b, off, none⟩) m cap, Value.int IntKind.i64 bu] 24)).alloc (Obj.cells (madeCells #[Value.bool false] cs.size) 4)).cell? ⟨w.heap.size, 3, none⟩ = some (.slice (some ⟨b, off, none⟩) m cap) := by
    go_simp
  have hz3 : ((w.alloc (Obj.cells #[Value.int IntKind.i64 ro, Value.int IntKind.i64 co, Value.string cs, .slice (some ⟨b, off, none⟩) m cap, Value.int IntKind.i64 bu] 24)).alloc (Obj.cells (madeCells #[Value.bool false] cs.size) 4)).heap.size = w.heap.size + 2 := by simp
  have c3 := cell_later hB3.out hfc
  generalize (w.alloc (Obj.cells #[Value.int IntKind.i64 ro, Value.int IntKind.i64 co, Value.string cs, .slice (some ⟨b, off, none⟩) m cap, Value.int IntKind.i64 bu] 24)).alloc (Obj.cells (madeCells #[Value.bool false] cs.size) 4) = w3 at *
  have x3 := hrow0.out.frozen
  have x4 := hrow0.out.cell (i := f) hfN
  clear hfc
  have hz30 : w.heap.size < w3.heap.size := by omega
  have hz31 : w.heap.size + 1 < w3.heap.size := by omega
  have hb3 : b < w3.heap.size := by omega
  have hbne : b ≠ w.heap.size + 1 := by omega
  have hbne2 : w.heap.size + 1 ≠ b := by omega
  have hbne3 : (⟨b, off + k * 2, none⟩ : Addr) ≠ ⟨w.heap.size + 1, f, none⟩ := fun e => hbne (congrArg Addr.block e)
  have hbne4 : (⟨w.heap.size + 1, f, none⟩ : Addr) ≠ ⟨b, off + k * 2, none⟩ := fun e => hbne2 (congrArg Addr.block e)
  go_region_held3 (fun w' => w'.cell? ⟨w.heap.size, 3, none⟩ = some (.slice (some ⟨b, off, none⟩) m cap) ∧ w'.cell? ⟨b, off + k * 2, none⟩ = some (.int .i64 (f : Int))) (go_keep)
    (first
      | (go_at_call_of 52 (Value.int IntKind.i64 0); refine (on_any _ _ _ R _ _ _ hn (HA.out.below (by exact hB3.out.drew))).mono ?_; rintro e w4 ⟨rfl, hb4⟩; have q1 : w4.cell? ⟨w.heap.size, 3, none⟩ = some (.slice (some ⟨b, off, none⟩) m cap) := (hb4.cell (p := ⟨w.heap.size, 3, none⟩) hz30).trans y3; have q2 : w4.cell? ⟨b, off + k * 2, none⟩ = some (.int .i64 (f : Int)) := (hb4.cell (p := ⟨b, off + k * 2, none⟩) hb3).trans c3; have q3 : w4.cell? ⟨w.heap.size + 1, f, none⟩ = some (boolV (fun _ => false) f) := (hb4.cell (p := ⟨w.heap.size + 1, f, none⟩) hz31).trans x4; have q4 : w4.frozen? ⟨w.heap.size + 1, f, none⟩ = false := (hb4.frozen (p := ⟨w.heap.size + 1, f, none⟩) hz31).trans (x3 f)))
  have HW4 : Hid ((w4.setCell ⟨w.heap.size + 1, f, none⟩ (.bool (onM n R (f : Int) 0))).rowIs (w.heap.size + 1) 4 cs.size (boolV (fun c => c == f && onM n R c 0))) := by
    refine brow_store ((hrow0.out.drew).of_block (hb4.block _ hz31)) f _ fun j _ => ?_
    by_cases e : j = f
    · subst e; simp
    · simp [e]
  have HB4 : Hid (Below w.heap.size w (w4.setCell ⟨w.heap.size + 1, f, none⟩ (.bool (onM n R (f : Int) 0)))) := (hB3.out.drew.trans (hb4.mono (by show w.heap.size ≤ w3.heap.size; omega))).setCell (by simp) _
  generalize w4.setCell ⟨w.heap.size + 1, f, none⟩ (.bool (onM n R (f : Int) 0)) = w5 at *
  go_wp2
  go_ret
  exact ⟨w.heap.size + 1, rfl, by omega, HW4.out, HB4.out⟩

end Go.Proofs.YtaldfpoolajoiaaDoor
