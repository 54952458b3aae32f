/- Walk of walls: the cells of a raw yard. -/
import Derived.Test.YtaldfpoolajoiaaDoorXb
import Derived.Test.YtaldfpoolajoiaaDoorMy
import Derived.Laws.IdiomStrings
namespace Go.Proofs.YtaldfpoolajoiaaDoor
open Go.RowKit M

theorem Tryd.infoByte : (Tryd.prog.info? 5).map (fun i => (i.zero, i.size, i.bytes)) = some (some (.int .u8 0), 1, 1) := by kernel_rfl

def byV (f : Nat → Int) (i : Nat) : Value := .int .u8 (f i)
def wallF (s : ByteArray) (k i : Nat) : Int := if i < k then ((wallB s i).toNat : Int) else 0

theorem byrow_zero (s : ByteArray) (N : Nat) (w : World) (t : TypeId) (k : Nat) (hk : k = w.heap.size) : (w.alloc (.cells (madeCells #[.int .u8 0] N) t)).rowIs k t N (byV (wallF s 0)) := by
  subst hk
  refine rowIs_made _ _ _ _ fun i _ => ?_
  simp [Nat.mod_one, byV, wallF]

theorem byrow_store {w : World} {g N : Nat} {t : TypeId} {s : ByteArray} {k : Nat} (h : w.rowIs g t N (byV (wallF s k))) (v : Int) (hv : v = ((wallB s k).toNat : Int)) : (w.setCell ⟨g, k, none⟩ (.int .u8 v)).rowIs g t N (byV (wallF s (k + 1))) := by
  refine (h.set k _).congr fun j hj => ?_
  unfold byV wallF
  by_cases e : j = k
  · subst e; rw [if_pos rfl, if_pos (by omega), hv]
  · rw [if_neg e]
    by_cases e2 : j < k
    · rw [if_pos e2, if_pos (show j < k + 1 by omega)]
    · rw [if_neg e2, if_neg (show ¬ j < k + 1 by omega)]

theorem byrow_store2 {w : World} {g N : Nat} {t : TypeId} {s : ByteArray} {k : Nat} (h : w.rowIs g t N (byV (wallF s k))) (u v : Int) (hv : v = ((wallB s k).toNat : Int)) : ((w.setCell ⟨g, k, none⟩ (.int .u8 u)).setCell ⟨g, k, none⟩ (.int .u8 v)).rowIs g t N (byV (wallF s (k + 1))) := by
  refine ((h.set k _).set k _).congr fun j hj => ?_
  unfold byV wallF
  by_cases e : j = k
  · subst e; rw [if_pos rfl, if_pos (by omega), hv]
  · rw [if_neg e, if_neg e]
    by_cases e2 : j < k
    · rw [if_pos e2, if_pos (show j < k + 1 by omega)]
    · rw [if_neg e2, if_neg (show ¬ j < k + 1 by omega)]

set_option maxRecDepth 100000 in
set_option maxHeartbeats 1000000 in
theorem walls_any (ro co bu : Int) (s : ByteArray) (ca : Value) (n : Nat) (w : World) (hn : n ≤ 36) :
    Calls Tryd.prog 56 #[.agg #[.int .i64 ro, .int .i64 co, .string s, ca, .int .i64 bu], .int .i64 n] w fun e w' => e = .returned (.string (wallS s n)) ∧ Below w.heap.size w w' := by
  go_enter Tryd.func56, Tryd.ntmps56
  go_wp2_with (at_make; go_must (refine wpList_make_all _ rfl _ _ 121 rfl 5 _ _ _ Tryd.underlying121 Tryd.infoByte _ _ _ _ n rfl rfl rfl rfl (by omega) (by omega) ?_))
  have hrow0 := Hid.mk (byrow_zero s n (w.alloc (Obj.cells #[Value.int IntKind.i64 ro, Value.int IntKind.i64 co, Value.string s, ca, Value.int IntKind.i64 bu] 53)) 5 (w.heap.size + 1) (by simp))
  have hB3 : Hid (Below w.heap.size w ((w.alloc (Obj.cells #[Value.int IntKind.i64 ro, Value.int IntKind.i64 co, Value.string s, ca, Value.int IntKind.i64 bu] 53)).alloc (Obj.cells (madeCells #[Value.int IntKind.u8 0] n) 5))) := ((Below.refl _ w).alloc (Nat.le_refl _) _).alloc (by simp) _
  have y3 : ∀ o, ((w.alloc (Obj.cells #[Value.int IntKind.i64 ro, Value.int IntKind.i64 co, Value.string s, ca, Value.int IntKind.i64 bu] 53)).alloc (Obj.cells (madeCells #[Value.int IntKind.u8 0] n) 5)).cell? ⟨w.heap.size, o, none⟩ = #[Value.int .i64 ro, .int .i64 co, .string s, ca, .int .i64 bu][o]? := by
    intro o; go_simp
  generalize (w.alloc (Obj.cells #[Value.int IntKind.i64 ro, Value.int IntKind.i64 co, Value.string s, ca, Value.int IntKind.i64 bu] 53)).alloc (Obj.cells (madeCells #[Value.int IntKind.u8 0] n) 5) = w3 at *
  obtain ⟨g, hg⟩ : ∃ g, g = w.heap.size + 1 := ⟨_, rfl⟩
  rw [← hg] at hrow0 ⊢
  have hg0 : w.heap.size < g := by omega
  have Hg := Hid.mk hg
  clear hg
  go_loopw [6] (fun v wr => ∃ k : Nat, k ≤ n ∧ v = .int .i64 k ∧ wr.rowIs g 5 n (byV (wallF s k)) ∧ Below g w3 wr) (fun v _ => n - (intOf v).toNat)
  case atStart => exact ⟨0, Nat.zero_le _, rfl, hrow0.out, Below.refl _ _⟩
  case round =>
    obtain ⟨k, hk, rfl, hrw, hbr⟩ := hrel
    have HW := Hid.mk hrw
    have HB := Hid.mk hbr
    have y1 : ∀ o, wr.cell? ⟨w.heap.size, o, none⟩ = #[Value.int .i64 ro, .int .i64 co, .string s, ca, .int .i64 bu][o]? := fun o => (hbr.cell (p := ⟨w.heap.size, o, none⟩) hg0).trans (y3 o)
    by_cases hlt : k < n
    · have x1 := hrw.cell (i := k) hlt
      have x3 := hrw.frozen
      clear hrw hbr y3
      by_cases c1 : k < s.size
      · by_cases c2 : ((s[k].toNat : Int) % 4 == 0) = true
        · by_cases c3 : 0 < k
          · go_wp2
            go_roundw
            case rel => exact ⟨k + 1, by omega, by go_num, byrow_store2 HW.out 46 35 (by unfold wallB; rw [dif_pos c1, if_pos ⟨by simp at c2; omega, c3⟩]; rfl), (HB.out.setCell (Nat.le_refl _) _).setCell (Nat.le_refl _) _⟩
            case measure => simp [intOf]; omega
          · have c3' : decide ((0 : Int) < (k : Int)) = false := by simp; omega
            go_wp2
            go_roundw
            case rel => exact ⟨k + 1, by omega, by go_num, byrow_store HW.out 46 (by unfold wallB; rw [dif_pos c1, if_neg (by omega)]; rfl), HB.out.setCell (Nat.le_refl _) _⟩
            case measure => simp [intOf]; omega
        · have c2' : ((s[k].toNat : Int) % 4 == 0) = false := by simpa using c2
          go_wp2
          go_roundw
          case rel => exact ⟨k + 1, by omega, by go_num, byrow_store HW.out 46 (by unfold wallB; rw [dif_pos c1, if_neg (by simp at c2'; omega)]; rfl), HB.out.setCell (Nat.le_refl _) _⟩
          case measure => simp [intOf]; omega
      · have c1' : decide ((k : Int) < (s.size : Int)) = false := by simp; omega
        go_wp2
        go_roundw
        case rel => exact ⟨k + 1, by omega, by go_num, byrow_store HW.out 46 (by unfold wallB; rw [dif_neg (by omega)]; rfl), HB.out.setCell (Nat.le_refl _) _⟩
        case measure => simp [intOf]; omega
    · have hd : k = n := by omega
      subst hd
      have hcv : (convert 121 9 (.slice (some ⟨g, 0, none⟩) (wallL s k).length k)).run Tryd.prog wr = .ok (.string (wallS s k)) wr :=
        run_convert_bytes_back wr 121 9 5 ⟨g, 0, none⟩ k (wallL s k) Tryd.underlying121 Tryd.underlying5 Tryd.underlying9 (fun j hj => by
          have hjk : j < k := by rw [wallL_len] at hj; exact hj
          have e1 : (⟨g, 0, none⟩ : Addr).add j = ⟨g, j, none⟩ := by unfold Addr.add; split <;> simp_all
          rw [e1, hrw.cell hjk]
          simp [byV, wallF, hjk, wallL])
      rw [wallL_len] at hcv
      clear hrw hbr y3
      go_wp2
      go_ret
      exact ⟨rfl, hB3.out.trans (HB.out.mono (by omega))⟩

end Go.Proofs.YtaldfpoolajoiaaDoor
