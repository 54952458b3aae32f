/- Several texts in one: Dd, Gc, Gk. -/
import Derived.Test.YtnkgpinadgacgabDoorMky
import Derived.Test.YtnkgpinadgacgabDoorMku
import Derived.Test.YtnkgpinadgacgabDoorMkx
import Derived.Test.YtnkgpinadgacgabDoorMki
import Derived.Deep.RegionLaw
import Derived.Deep.AppendLies
import Derived.Deep.QuietTactic
import Derived.BigQuiet
import Derived.BigRegion
import Derived.Deep.DeepCutAuto
import Derived.Deep.RegionHeld3
namespace Go.Proofs.YtnkgpinadgacgabDoor
open Go.RowKit M
/-- The cells of a position that is being laid. -/
def partV (f : Nat → Int) (k o : Nat) : Value := .int .u8 (if o < k then ((f o).toNat : Nat) else 0 : Nat)

theorem partV_set {w : World} {b k : Nat} {f : Nat → Int} {x : Nat} (h : ∀ o, o < 4 → w.cell? ⟨b, o, none⟩ = some (partV f k o)) (hk : k < 4) (hx : f k = (x : Int)) : ∀ o, o < 4 → (w.setCell ⟨b, k, none⟩ (.int .u8 (x : Int))).cell? ⟨b, o, none⟩ = some (partV f (k + 1) o) := by
  intro o ho
  by_cases e : o = k
  · subst e
    rw [World.cell?_setCell_same' _ _ _ (by rw [h o ho]; rfl)]
    unfold partV
    rw [if_pos (by omega), hx]; rfl
  · rw [World.cell?_setCell_other _ _ _ _ (by intro hh; cases hh; exact e rfl), h o ho]
    unfold partV
    by_cases e2 : o < k
    · rw [if_pos e2, if_pos (by omega)]
    · rw [if_neg e2, if_neg (by omega)]

theorem partV_all {f : Nat → Int} {m o : Nat} : partV f m o = .int .u8 ((cellsOf f m).getD o 0 : Nat) := by
  unfold partV
  by_cases h : o < m
  · rw [if_pos h, cellsOf_at h]
  · rw [if_neg h, cellsOf_out h]

set_option maxRecDepth 100000 in
set_option maxHeartbeats 2000000 in
theorem starts_any (ro co bu : Int) (cs : ByteArray) (b off m cc : Nat) (fr tt : Nat → Int) (w : World) (hm : m ≤ 4) (hcs : CartsIn w b off m fr tt) (hf : ∀ k, k < m → 0 ≤ fr k ∧ fr k < 256) :
    Calls Tryd.prog 59 #[.agg #[.int .i64 ro, .int .i64 co, .string cs, .slice (some ⟨b, off, none⟩) m cc, .int .i64 bu]] w fun e w' => e = .returned (posV (cellsOf fr m)) ∧ Below w.heap.size w w' := by
  have HCS := Hid.mk hcs
  have HF := Hid.mk hf
  clear hcs hf
  go_enter Tryd.func59, Tryd.ntmps59
  go_wp2
  have B0 : Hid (Below w.heap.size w (((w.alloc (Obj.cells #[Value.int IntKind.i64 ro, Value.int IntKind.i64 co, Value.string cs, .slice (some ⟨b, off, none⟩) m cc, Value.int IntKind.i64 bu] 28)).alloc (Obj.cells #[Value.int .u8 0, .int .u8 0, .int .u8 0, .int .u8 0] 102)).alloc (Obj.cells #[Value.int .u8 0, .int .u8 0, .int .u8 0, .int .u8 0] 102))) := (((Below.refl _ w).alloc (Nat.le_refl _) _).alloc (by simp) _).alloc (by simp; omega) _
  have y0 : ∀ o, (((w.alloc (Obj.cells #[Value.int IntKind.i64 ro, Value.int IntKind.i64 co, Value.string cs, .slice (some ⟨b, off, none⟩) m cc, Value.int IntKind.i64 bu] 28)).alloc (Obj.cells #[Value.int .u8 0, .int .u8 0, .int .u8 0, .int .u8 0] 102)).alloc (Obj.cells #[Value.int .u8 0, .int .u8 0, .int .u8 0, .int .u8 0] 102)).cell? ⟨w.heap.size, o, none⟩ = #[Value.int .i64 ro, .int .i64 co, .string cs, .slice (some ⟨b, off, none⟩) m cc, .int .i64 bu][o]? := by
    intro o; go_simp
  have z0 : ∀ o, (((w.alloc (Obj.cells #[Value.int IntKind.i64 ro, Value.int IntKind.i64 co, Value.string cs, .slice (some ⟨b, off, none⟩) m cc, Value.int IntKind.i64 bu] 28)).alloc (Obj.cells #[Value.int .u8 0, .int .u8 0, .int .u8 0, .int .u8 0] 102)).alloc (Obj.cells #[Value.int .u8 0, .int .u8 0, .int .u8 0, .int .u8 0] 102)).cell? ⟨w.heap.size + 1, o, none⟩ = #[Value.int .u8 0, .int .u8 0, .int .u8 0, .int .u8 0][o]? := by
    intro o; go_simp
  have zf : ∀ o, (((w.alloc (Obj.cells #[Value.int IntKind.i64 ro, Value.int IntKind.i64 co, Value.string cs, .slice (some ⟨b, off, none⟩) m cc, Value.int IntKind.i64 bu] 28)).alloc (Obj.cells #[Value.int .u8 0, .int .u8 0, .int .u8 0, .int .u8 0] 102)).alloc (Obj.cells #[Value.int .u8 0, .int .u8 0, .int .u8 0, .int .u8 0] 102)).frozen? ⟨w.heap.size + 1, o, none⟩ = false := by
    intro o; go_simp
  have p0 : ∀ o, (((w.alloc (Obj.cells #[Value.int IntKind.i64 ro, Value.int IntKind.i64 co, Value.string cs, .slice (some ⟨b, off, none⟩) m cc, Value.int IntKind.i64 bu] 28)).alloc (Obj.cells #[Value.int .u8 0, .int .u8 0, .int .u8 0, .int .u8 0] 102)).alloc (Obj.cells #[Value.int .u8 0, .int .u8 0, .int .u8 0, .int .u8 0] 102)).cell? ⟨w.heap.size + 2, o, none⟩ = #[Value.int .u8 0, .int .u8 0, .int .u8 0, .int .u8 0][o]? := by
    intro o; go_simp
  have pf : ∀ o, (((w.alloc (Obj.cells #[Value.int IntKind.i64 ro, Value.int IntKind.i64 co, Value.string cs, .slice (some ⟨b, off, none⟩) m cc, Value.int IntKind.i64 bu] 28)).alloc (Obj.cells #[Value.int .u8 0, .int .u8 0, .int .u8 0, .int .u8 0] 102)).alloc (Obj.cells #[Value.int .u8 0, .int .u8 0, .int .u8 0, .int .u8 0] 102)).frozen? ⟨w.heap.size + 2, o, none⟩ = false := by
    intro o; go_simp
  have hz : (((w.alloc (Obj.cells #[Value.int IntKind.i64 ro, Value.int IntKind.i64 co, Value.string cs, .slice (some ⟨b, off, none⟩) m cc, Value.int IntKind.i64 bu] 28)).alloc (Obj.cells #[Value.int .u8 0, .int .u8 0, .int .u8 0, .int .u8 0] 102)).alloc (Obj.cells #[Value.int .u8 0, .int .u8 0, .int .u8 0, .int .u8 0] 102)).heap.size = w.heap.size + 3 := by simp
  generalize (((w.alloc (Obj.cells #[Value.int IntKind.i64 ro, Value.int IntKind.i64 co, Value.string cs, .slice (some ⟨b, off, none⟩) m cc, Value.int IntKind.i64 bu] 28)).alloc (Obj.cells #[Value.int .u8 0, .int .u8 0, .int .u8 0, .int .u8 0] 102)).alloc (Obj.cells #[Value.int .u8 0, .int .u8 0, .int .u8 0, .int .u8 0] 102)) = w0 at *
  have P0 : Hid (∀ o, o < 4 → w0.cell? ⟨w.heap.size + 2, o, none⟩ = some (partV fr 0 o)) := fun o ho => by
    have hc : o = 0 ∨ o = 1 ∨ o = 2 ∨ o = 3 := by omega
    rcases hc with rfl | rfl | rfl | rfl <;> rw [p0] <;> rfl
  have PF := Hid.mk pf
  have Z0 := Hid.mk z0
  have ZF := Hid.mk zf
  have HZ := Hid.mk hz
  clear z0 zf p0 pf hz y0
  go_loopw [9] (fun v9 wr => ∃ k : Nat, k ≤ m ∧ v9 = .int .i64 k ∧ (∀ o, o < 4 → wr.cell? ⟨w.heap.size + 2, o, none⟩ = some (partV fr k o)) ∧ (∀ o, wr.frozen? ⟨w.heap.size + 2, o, none⟩ = false) ∧ Below (w.heap.size + 2) w0 wr) (fun v9 _ => m - (intOf v9).toNat)
  case atStart => exact ⟨0, Nat.zero_le _, rfl, P0.out, PF.out, Below.refl _ _⟩
  case round =>
    obtain ⟨k, hk, rfl, hp, hpf, hbr⟩ := hrel
    have HP := Hid.mk hp
    have HB := Hid.mk hbr
    have hzr := hbr.size
    have hz := HZ.out
    by_cases hlt : k < m
    · have HW : Hid (Below w.heap.size w wr) := B0.out.trans (hbr.mono (by omega))
      obtain ⟨c0, c1⟩ := HCS.out k hlt
      have c0 := cell_later HW.out c0
      have c1 := cell_later HW.out c1
      obtain ⟨h0, h1⟩ := HF.out k hlt
      obtain ⟨f, hf⟩ := Int.eq_ofNat_of_zero_le h0
      rw [hf] at c0 h1
      have hw : IntKind.u8.wrap (f : Int) = (f : Int) := u8_wrap (by omega) (by omega)
      have x1 := hp k (by omega)
      unfold partV at x1
      rw [if_neg (Nat.lt_irrefl k)] at x1
      have hk4 : k < 4 := by omega
      have hk4I : (k : Int) < 4 := by omega
      have n1 : w.heap.size + 2 ≠ wr.heap.size := by omega
      have n2 : wr.heap.size ≠ w.heap.size + 2 := by omega
      have hs2 : w.heap.size + 2 < wr.heap.size := by omega
      have N1 := Hid.mk (partV_set hp hk4 hf)
      have HPF := Hid.mk hpf
      clear hp hbr h0 h1 hf hz
      go_wp2
      go_roundw
      case rel =>
        refine ⟨k + 1, by omega, by go_num, fun o ho => ?_, fun o => ?_, ?_⟩
        · exact cell_later ((Below.refl _ _).alloc (Nat.le_refl _) _) (N1.out o ho)
        · rw [((Below.refl _ (wr.setCell ⟨w.heap.size + 1 + 1, k, none⟩ (.int .u8 (f : Int)))).alloc (Nat.le_refl _) _).frozen (p := ⟨w.heap.size + 2, o, none⟩) (by show w.heap.size + 2 < (wr.setCell _ _).heap.size; simp [World.setCell]; omega), World.frozen?_setCell]
          exact HPF.out o
        · exact (HB.out.setCell (by show w.heap.size + 2 ≤ w.heap.size + 1 + 1; omega) _).alloc (by simp [World.setCell]; omega) _
      case measure => simp [intOf]; omega
    · have e : k = m := by omega
      have HW : Hid (Below w.heap.size w wr) := B0.out.trans (hbr.mono (by omega))
      obtain ⟨a0, ha0⟩ : ∃ v, v = (cellsOf fr m).getD 0 0 := ⟨_, rfl⟩
      obtain ⟨a1, ha1⟩ : ∃ v, v = (cellsOf fr m).getD 1 0 := ⟨_, rfl⟩
      obtain ⟨a2, ha2⟩ : ∃ v, v = (cellsOf fr m).getD 2 0 := ⟨_, rfl⟩
      obtain ⟨a3, ha3⟩ : ∃ v, v = (cellsOf fr m).getD 3 0 := ⟨_, rfl⟩
      have q0 : wr.cell? ⟨w.heap.size + 2, 0, none⟩ = some (.int .u8 (a0 : Nat)) := by rw [hp 0 (by omega), e, partV_all, ha0]
      have q1 : wr.cell? ⟨w.heap.size + 2, 1, none⟩ = some (.int .u8 (a1 : Nat)) := by rw [hp 1 (by omega), e, partV_all, ha1]
      have q2 : wr.cell? ⟨w.heap.size + 2, 2, none⟩ = some (.int .u8 (a2 : Nat)) := by rw [hp 2 (by omega), e, partV_all, ha2]
      have q3 : wr.cell? ⟨w.heap.size + 2, 3, none⟩ = some (.int .u8 (a3 : Nat)) := by rw [hp 3 (by omega), e, partV_all, ha3]
      have x1 : ∀ o, wr.cell? ⟨w.heap.size + 1, o, none⟩ = #[Value.int .u8 0, .int .u8 0, .int .u8 0, .int .u8 0][o]? := fun o => (hbr.cell (p := ⟨w.heap.size + 1, o, none⟩) (by show w.heap.size + 1 < _; omega)).trans (Z0.out o)
      have x2 : ∀ o, wr.frozen? ⟨w.heap.size + 1, o, none⟩ = false := fun o => (hbr.frozen (p := ⟨w.heap.size + 1, o, none⟩) (by show w.heap.size + 1 < _; omega)).trans (ZF.out o)
      have RES : Hid (posV (cellsOf fr m) = .agg #[.int .u8 (a0 : Nat), .int .u8 (a1 : Nat), .int .u8 (a2 : Nat), .int .u8 (a3 : Nat)]) := by unfold Hid posV; rw [ha0, ha1, ha2, ha3]
      have hs1 : w.heap.size + 1 < wr.heap.size := by omega
      clear hp hbr hpf ha0 ha1 ha2 ha3 e hz
      go_wp2
      refine bodyPost_ret (v := .agg #[.int .u8 (a0 : Nat), .int .u8 (a1 : Nat), .int .u8 (a2 : Nat), .int .u8 (a3 : Nat)]) (by simp [results, Tryd.results59]; go_simp) rfl ⟨by rw [RES.out], ?_⟩
      iterate 4 refine Below.setCell ?_ (by show w.heap.size ≤ w.heap.size + 1; omega) _
      exact HW.out

set_option maxRecDepth 100000 in
set_option maxHeartbeats 2000000 in
theorem goals_any (ro co bu : Int) (cs : ByteArray) (b off m cc : Nat) (fr tt : Nat → Int) (w : World) (hm : m ≤ 4) (hcs : CartsIn w b off m fr tt) (hf : ∀ k, k < m → 0 ≤ tt k ∧ tt k < 256) :
    Calls Tryd.prog 55 #[.agg #[.int .i64 ro, .int .i64 co, .string cs, .slice (some ⟨b, off, none⟩) m cc, .int .i64 bu]] w fun e w' => e = .returned (posV (cellsOf tt m)) ∧ Below w.heap.size w w' := by
  have HCS := Hid.mk hcs
  have HF := Hid.mk hf
  clear hcs hf
  go_enter Tryd.func55, Tryd.ntmps55
  go_wp2
  have B0 : Hid (Below w.heap.size w (((w.alloc (Obj.cells #[Value.int IntKind.i64 ro, Value.int IntKind.i64 co, Value.string cs, .slice (some ⟨b, off, none⟩) m cc, Value.int IntKind.i64 bu] 28)).alloc (Obj.cells #[Value.int .u8 0, .int .u8 0, .int .u8 0, .int .u8 0] 102)).alloc (Obj.cells #[Value.int .u8 0, .int .u8 0, .int .u8 0, .int .u8 0] 102))) := (((Below.refl _ w).alloc (Nat.le_refl _) _).alloc (by simp) _).alloc (by simp; omega) _
  have y0 : ∀ o, (((w.alloc (Obj.cells #[Value.int IntKind.i64 ro, Value.int IntKind.i64 co, Value.string cs, .slice (some ⟨b, off, none⟩) m cc, Value.int IntKind.i64 bu] 28)).alloc (Obj.cells #[Value.int .u8 0, .int .u8 0, .int .u8 0, .int .u8 0] 102)).alloc (Obj.cells #[Value.int .u8 0, .int .u8 0, .int .u8 0, .int .u8 0] 102)).cell? ⟨w.heap.size, o, none⟩ = #[Value.int .i64 ro, .int .i64 co, .string cs, .slice (some ⟨b, off, none⟩) m cc, .int .i64 bu][o]? := by
    intro o; go_simp
  have z0 : ∀ o, (((w.alloc (Obj.cells #[Value.int IntKind.i64 ro, Value.int IntKind.i64 co, Value.string cs, .slice (some ⟨b, off, none⟩) m cc, Value.int IntKind.i64 bu] 28)).alloc (Obj.cells #[Value.int .u8 0, .int .u8 0, .int .u8 0, .int .u8 0] 102)).alloc (Obj.cells #[Value.int .u8 0, .int .u8 0, .int .u8 0, .int .u8 0] 102)).cell? ⟨w.heap.size + 1, o, none⟩ = #[Value.int .u8 0, .int .u8 0, .int .u8 0, .int .u8 0][o]? := by
    intro o; go_simp
  have zf : ∀ o, (((w.alloc (Obj.cells #[Value.int IntKind.i64 ro, Value.int IntKind.i64 co, Value.string cs, .slice (some ⟨b, off, none⟩) m cc, Value.int IntKind.i64 bu] 28)).alloc (Obj.cells #[Value.int .u8 0, .int .u8 0, .int .u8 0, .int .u8 0] 102)).alloc (Obj.cells #[Value.int .u8 0, .int .u8 0, .int .u8 0, .int .u8 0] 102)).frozen? ⟨w.heap.size + 1, o, none⟩ = false := by
    intro o; go_simp
  have p0 : ∀ o, (((w.alloc (Obj.cells #[Value.int IntKind.i64 ro, Value.int IntKind.i64 co, Value.string cs, .slice (some ⟨b, off, none⟩) m cc, Value.int IntKind.i64 bu] 28)).alloc (Obj.cells #[Value.int .u8 0, .int .u8 0, .int .u8 0, .int .u8 0] 102)).alloc (Obj.cells #[Value.int .u8 0, .int .u8 0, .int .u8 0, .int .u8 0] 102)).cell? ⟨w.heap.size + 2, o, none⟩ = #[Value.int .u8 0, .int .u8 0, .int .u8 0, .int .u8 0][o]? := by
    intro o; go_simp
  have pf : ∀ o, (((w.alloc (Obj.cells #[Value.int IntKind.i64 ro, Value.int IntKind.i64 co, Value.string cs, .slice (some ⟨b, off, none⟩) m cc, Value.int IntKind.i64 bu] 28)).alloc (Obj.cells #[Value.int .u8 0, .int .u8 0, .int .u8 0, .int .u8 0] 102)).alloc (Obj.cells #[Value.int .u8 0, .int .u8 0, .int .u8 0, .int .u8 0] 102)).frozen? ⟨w.heap.size + 2, o, none⟩ = false := by
    intro o; go_simp
  have hz : (((w.alloc (Obj.cells #[Value.int IntKind.i64 ro, Value.int IntKind.i64 co, Value.string cs, .slice (some ⟨b, off, none⟩) m cc, Value.int IntKind.i64 bu] 28)).alloc (Obj.cells #[Value.int .u8 0, .int .u8 0, .int .u8 0, .int .u8 0] 102)).alloc (Obj.cells #[Value.int .u8 0, .int .u8 0, .int .u8 0, .int .u8 0] 102)).heap.size = w.heap.size + 3 := by simp
  generalize (((w.alloc (Obj.cells #[Value.int IntKind.i64 ro, Value.int IntKind.i64 co, Value.string cs, .slice (some ⟨b, off, none⟩) m cc, Value.int IntKind.i64 bu] 28)).alloc (Obj.cells #[Value.int .u8 0, .int .u8 0, .int .u8 0, .int .u8 0] 102)).alloc (Obj.cells #[Value.int .u8 0, .int .u8 0, .int .u8 0, .int .u8 0] 102)) = w0 at *
  have P0 : Hid (∀ o, o < 4 → w0.cell? ⟨w.heap.size + 2, o, none⟩ = some (partV tt 0 o)) := fun o ho => by
    have hc : o = 0 ∨ o = 1 ∨ o = 2 ∨ o = 3 := by omega
    rcases hc with rfl | rfl | rfl | rfl <;> rw [p0] <;> rfl
  have PF := Hid.mk pf
  have Z0 := Hid.mk z0
  have ZF := Hid.mk zf
  have HZ := Hid.mk hz
  clear z0 zf p0 pf hz y0
  go_loopw [9] (fun v9 wr => ∃ k : Nat, k ≤ m ∧ v9 = .int .i64 k ∧ (∀ o, o < 4 → wr.cell? ⟨w.heap.size + 2, o, none⟩ = some (partV tt k o)) ∧ (∀ o, wr.frozen? ⟨w.heap.size + 2, o, none⟩ = false) ∧ Below (w.heap.size + 2) w0 wr) (fun v9 _ => m - (intOf v9).toNat)
  case atStart => exact ⟨0, Nat.zero_le _, rfl, P0.out, PF.out, Below.refl _ _⟩
  case round =>
    obtain ⟨k, hk, rfl, hp, hpf, hbr⟩ := hrel
    have HP := Hid.mk hp
    have HB := Hid.mk hbr
    have hzr := hbr.size
    have hz := HZ.out
    by_cases hlt : k < m
    · have HW : Hid (Below w.heap.size w wr) := B0.out.trans (hbr.mono (by omega))
      obtain ⟨c0, c1⟩ := HCS.out k hlt
      have c0 := cell_later HW.out c0
      have c1 := cell_later HW.out c1
      obtain ⟨h0, h1⟩ := HF.out k hlt
      obtain ⟨f, hf⟩ := Int.eq_ofNat_of_zero_le h0
      rw [hf] at c1 h1
      have hw : IntKind.u8.wrap (f : Int) = (f : Int) := u8_wrap (by omega) (by omega)
      have x1 := hp k (by omega)
      unfold partV at x1
      rw [if_neg (Nat.lt_irrefl k)] at x1
      have hk4 : k < 4 := by omega
      have hk4I : (k : Int) < 4 := by omega
      have n1 : w.heap.size + 2 ≠ wr.heap.size := by omega
      have n2 : wr.heap.size ≠ w.heap.size + 2 := by omega
      have hs2 : w.heap.size + 2 < wr.heap.size := by omega
      have N1 := Hid.mk (partV_set hp hk4 hf)
      have HPF := Hid.mk hpf
      clear hp hbr h0 h1 hf hz
      go_wp2
      go_roundw
      case rel =>
        refine ⟨k + 1, by omega, by go_num, fun o ho => ?_, fun o => ?_, ?_⟩
        · exact cell_later ((Below.refl _ _).alloc (Nat.le_refl _) _) (N1.out o ho)
        · rw [((Below.refl _ (wr.setCell ⟨w.heap.size + 1 + 1, k, none⟩ (.int .u8 (f : Int)))).alloc (Nat.le_refl _) _).frozen (p := ⟨w.heap.size + 2, o, none⟩) (by show w.heap.size + 2 < (wr.setCell _ _).heap.size; simp [World.setCell]; omega), World.frozen?_setCell]
          exact HPF.out o
        · exact (HB.out.setCell (by show w.heap.size + 2 ≤ w.heap.size + 1 + 1; omega) _).alloc (by simp [World.setCell]; omega) _
      case measure => simp [intOf]; omega
    · have e : k = m := by omega
      have HW : Hid (Below w.heap.size w wr) := B0.out.trans (hbr.mono (by omega))
      obtain ⟨a0, ha0⟩ : ∃ v, v = (cellsOf tt m).getD 0 0 := ⟨_, rfl⟩
      obtain ⟨a1, ha1⟩ : ∃ v, v = (cellsOf tt m).getD 1 0 := ⟨_, rfl⟩
      obtain ⟨a2, ha2⟩ : ∃ v, v = (cellsOf tt m).getD 2 0 := ⟨_, rfl⟩
      obtain ⟨a3, ha3⟩ : ∃ v, v = (cellsOf tt m).getD 3 0 := ⟨_, rfl⟩
      have q0 : wr.cell? ⟨w.heap.size + 2, 0, none⟩ = some (.int .u8 (a0 : Nat)) := by rw [hp 0 (by omega), e, partV_all, ha0]
      have q1 : wr.cell? ⟨w.heap.size + 2, 1, none⟩ = some (.int .u8 (a1 : Nat)) := by rw [hp 1 (by omega), e, partV_all, ha1]
      have q2 : wr.cell? ⟨w.heap.size + 2, 2, none⟩ = some (.int .u8 (a2 : Nat)) := by rw [hp 2 (by omega), e, partV_all, ha2]
      have q3 : wr.cell? ⟨w.heap.size + 2, 3, none⟩ = some (.int .u8 (a3 : Nat)) := by rw [hp 3 (by omega), e, partV_all, ha3]
      have x1 : ∀ o, wr.cell? ⟨w.heap.size + 1, o, none⟩ = #[Value.int .u8 0, .int .u8 0, .int .u8 0, .int .u8 0][o]? := fun o => (hbr.cell (p := ⟨w.heap.size + 1, o, none⟩) (by show w.heap.size + 1 < _; omega)).trans (Z0.out o)
      have x2 : ∀ o, wr.frozen? ⟨w.heap.size + 1, o, none⟩ = false := fun o => (hbr.frozen (p := ⟨w.heap.size + 1, o, none⟩) (by show w.heap.size + 1 < _; omega)).trans (ZF.out o)
      have RES : Hid (posV (cellsOf tt m) = .agg #[.int .u8 (a0 : Nat), .int .u8 (a1 : Nat), .int .u8 (a2 : Nat), .int .u8 (a3 : Nat)]) := by unfold Hid posV; rw [ha0, ha1, ha2, ha3]
      have hs1 : w.heap.size + 1 < wr.heap.size := by omega
      clear hp hbr hpf ha0 ha1 ha2 ha3 e hz
      go_wp2
      refine bodyPost_ret (v := .agg #[.int .u8 (a0 : Nat), .int .u8 (a1 : Nat), .int .u8 (a2 : Nat), .int .u8 (a3 : Nat)]) (by simp [results, Tryd.results55]; go_simp) rfl ⟨by rw [RES.out], ?_⟩
      iterate 4 refine Below.setCell ?_ (by show w.heap.size ≤ w.heap.size + 1; omega) _
      exact HW.out

end Go.Proofs.YtnkgpinadgacgabDoor

namespace Go.Proofs.YtnkgpinadgacgabDoor
open Go.RowKit M
/-- Of two leads the one that may come to less; of two that may come to the same the one that cost more. -/
def aheadB (ac aw bc bw : Int) : Bool := decide (aw < bw) || (aw == bw && decide (bc < ac))

set_option maxRecDepth 100000 in
theorem jahead_any (x0 x1 x2 x3 x4 x5 x6 x7 y0 y1 y2 y3 y4 y5 y6 y7 : Value) (ac aw bc bw : Int) (w : World) :
    Calls Tryd.prog 80 #[.agg #[x0, x1, x2, x3, x4, x5, x6, x7, .int .i64 ac, .int .i64 aw], .agg #[y0, y1, y2, y3, y4, y5, y6, y7, .int .i64 bc, .int .i64 bw]] w fun e w' =>
      e = .returned (.bool (aheadB ac aw bc bw)) ∧ Below w.heap.size w w' := by
  have B0 : Hid (∀ o p, Below w.heap.size w ((w.alloc o).alloc p)) := fun o p => ((Below.refl _ w).alloc (Nat.le_refl _) o).alloc (by simp) p
  go_enter Tryd.func80, Tryd.ntmps80
  by_cases h1 : aw < bw
  · have d1 : decide (aw < bw) = true := by simp [h1]
    have R : Hid (aheadB ac aw bc bw = true) := by unfold Hid aheadB; simp [h1]
    go_wp2
    go_ret
    exact ⟨ret_bool R.out.symm, B0.out _ _⟩
  · have d1 : decide (aw < bw) = false := by simp; omega
    by_cases h2 : aw = bw
    · have d2 : (aw == bw) = true := by simp [h2]
      by_cases h3 : bc < ac
      · have d3 : decide (bc < ac) = true := by simp [h3]
        have R : Hid (aheadB ac aw bc bw = true) := by unfold Hid aheadB; simp [h2, h3]
        clear h2
        go_wp2
        go_ret
        exact ⟨ret_bool R.out.symm, B0.out _ _⟩
      · have d3 : decide (bc < ac) = false := by simp; omega
        have R : Hid (aheadB ac aw bc bw = false) := by unfold Hid aheadB; simp [h2]; omega
        clear h2
        go_wp2
        go_ret
        exact ⟨ret_bool R.out.symm, B0.out _ _⟩
    · have d2 : (aw == bw) = false := by simp [h2]
      have R : Hid (aheadB ac aw bc bw = false) := by unfold Hid aheadB; simp [h1, h2]
      go_wp2
      go_ret
      exact ⟨ret_bool R.out.symm, B0.out _ _⟩

def sumTo (f : Nat → Int) : Nat → Int
  | 0 => 0
  | n + 1 => sumTo f n + f n

theorem sumTo_bd {f : Nat → Int} : ∀ {n : Nat}, (∀ i, i < n → 0 ≤ f i ∧ f i ≤ 36) → 0 ≤ sumTo f n ∧ sumTo f n ≤ 36 * n
  | 0, _ => by simp [sumTo]
  | n + 1, h => by
    have h1 := sumTo_bd (n := n) (fun i hi => h i (by omega))
    have h2 := h n (by omega)
    show 0 ≤ sumTo f n + f n ∧ sumTo f n + f n ≤ _
    omega

set_option maxRecDepth 100000 in
set_option maxHeartbeats 1000000 in
theorem rest_any (S gf cf K N : Nat) (H c : Nat → Nat) (st : Nat → Nat → Int) (pf : Nat → Nat) (w : World) (hK : K ≤ 4) (hN : N ≤ 36) (hf : w.cell? ⟨S, 2, none⟩ = some (.slice (some ⟨gf, 0, none⟩) K cf)) (hr : ∀ t, t < K → w.cell? ⟨gf, t, none⟩ = some (.slice (some ⟨H t, 0, none⟩) N (c t)))
    (hc : ∀ t i, t < K → i < N → w.cell? ⟨H t, i, none⟩ = some (.int .i64 (st t i))) (hq : ∀ t, t < K → pf t < N) (hb : ∀ t, t < K → 0 ≤ st t (pf t) ∧ st t (pf t) ≤ 36) :
    Calls Tryd.prog 82 #[.pointer (some ⟨S, 0, none⟩), .agg #[.int .u8 (pf 0 : Nat), .int .u8 (pf 1 : Nat), .int .u8 (pf 2 : Nat), .int .u8 (pf 3 : Nat)]] w fun e w' =>
      e = .returned (.int .i64 (sumTo (fun t => st t (pf t)) K)) ∧ Below w.heap.size w w' := by
  have HR := Hid.mk hr
  have HC := Hid.mk hc
  have HQ := Hid.mk hq
  have HBD := Hid.mk hb
  have hSl := World.block_lt_of_cell? (a := ⟨S, 2, none⟩) _ hf
  clear hr hc hq hb
  go_enter Tryd.func82, Tryd.ntmps82
  have P0 : Hid (∀ k, k < 4 → (w.alloc (Obj.cells #[Value.int .u8 (pf 0 : Nat), .int .u8 (pf 1 : Nat), .int .u8 (pf 2 : Nat), .int .u8 (pf 3 : Nat)] 102)).cell? ⟨w.heap.size, k, none⟩ = some (.int .u8 (pf k : Nat))) := by
    intro k hk
    match k, hk with
    | 0, _ => go_simp
    | 1, _ => go_simp
    | 2, _ => go_simp
    | 3, _ => go_simp
  have B0 : Hid (Below w.heap.size w (w.alloc (Obj.cells #[Value.int .u8 (pf 0 : Nat), .int .u8 (pf 1 : Nat), .int .u8 (pf 2 : Nat), .int .u8 (pf 3 : Nat)] 102))) := (Below.refl _ _).alloc (Nat.le_refl _) _
  go_wp2
  generalize (w.alloc (Obj.cells #[Value.int .u8 (pf 0 : Nat), .int .u8 (pf 1 : Nat), .int .u8 (pf 2 : Nat), .int .u8 (pf 3 : Nat)] 102)) = w1 at *
  go_loopw [5, 6, 7, 13] (fun v5 _ _ v13 wr => ∃ k : Nat, v13 = .int .i64 k ∧ k ≤ K ∧ v5 = .int .i64 (sumTo (fun t => st t (pf t)) k) ∧ w1 = wr) (fun _ _ _ v13 _ => K - (intOf v13).toNat)
  case atStart => exact ⟨0, rfl, Nat.zero_le _, rfl, rfl⟩
  case round =>
    obtain ⟨k, rfl, hk, rfl, rfl⟩ := hrel
    have bd := sumTo_bd (f := fun t => st t (pf t)) (n := k) (fun i hi => HBD.out i (by omega))
    by_cases hlt : k < K
    · have hkI : (k : Int) < (K : Int) := by omega
      have hk4 : (k : Int) < 4 := by omega
      have d0 := cell_later B0.out (HR.out k hlt)
      have d1 := P0.out k (by omega)
      have d2 := cell_later B0.out (HC.out k (pf k) hlt (HQ.out k hlt))
      have hqN := HQ.out k hlt
      have bk := HBD.out k hlt
      have NX : Hid (sumTo (fun t => st t (pf t)) k + st k (pf k) = sumTo (fun t => st t (pf t)) (k + 1)) := rfl
      obtain ⟨z, hz⟩ : ∃ z, z = pf k := ⟨_, rfl⟩
      rw [← hz] at d1 d2 hqN bk NX
      obtain ⟨sm, hsm⟩ : ∃ sm, sm = sumTo (fun t => st t (pf t)) k := ⟨_, rfl⟩
      rw [← hsm] at bd NX ⊢
      have hzI : (z : Int) < (N : Int) := by omega
      have hz36 : (z : Int) < 256 := by omega
      clear hz hsm
      go_wp2
      go_roundw
      case rel => exact ⟨k + 1, by go_num, by omega, by rw [← NX.out], by first | rfl | trivial⟩
      case measure => simp [intOf]; omega
    · have hd : k = K := by omega
      subst hd
      go_wp2
      go_ret
      exact ⟨rfl, B0.out⟩

end Go.Proofs.YtnkgpinadgacgabDoor

namespace Go.Proofs.YtnkgpinadgacgabDoor
open Go.RowKit M SM
/-- The cells of a lead. -/
def ldL (l : LeadM) : List Value := [.int .u8 (l.st.1.getD 0 0 : Nat), .int .u8 (l.st.1.getD 1 0 : Nat), .int .u8 (l.st.1.getD 2 0 : Nat), .int .u8 (l.st.1.getD 3 0 : Nat), .bool (l.st.2.getD 0 false), .bool (l.st.2.getD 1 false), .bool (l.st.2.getD 2 false), .bool (l.st.2.getD 3 false), .int .i64 (l.c : Nat), .int .i64 (l.k : Nat)]

theorem ldL_len (l : LeadM) : (ldL l).length = 10 := rfl

theorem ldL_one (l : LeadM) : ∀ v ∈ ldL l, v.oneCell' = true := by
  intro v hv
  unfold ldL at hv
  simp only [List.mem_cons, List.not_mem_nil, or_false] at hv
  rcases hv with rfl | rfl | rfl | rfl | rfl | rfl | rfl | rfl | rfl | rfl <;> rfl

theorem Tryd.sizeLead : (Tryd.prog.info? 149).map (·.size) = some 10 := by kernel_rfl

/-- The first n places of a row of leads. -/
def ItemsL (w : World) (G cap n : Nat) (it : Nat → LeadM) : Prop :=
  n ≤ cap ∧ cap ≤ maxLen ∧ ∃ f, w.rowIs G 149 (cap * 10) f ∧ ∀ i, i < n → ∀ t, t < 10 → (ldL (it i))[t]? = some (f (i * 10 + t))

section
variable {w w' : World} {G cap n : Nat} {it it' : Nat → LeadM}
theorem ItemsL.block (h : ItemsL w G cap n it) (e : w'.heap[G]? = w.heap[G]?) : ItemsL w' G cap n it := by
  obtain ⟨h1, h2, f, h3, h4⟩ := h; exact ⟨h1, h2, f, h3.of_block e, h4⟩

theorem ItemsL.lt (h : ItemsL w G cap n it) : G < w.heap.size := by
  obtain ⟨_, _, f, h3, _⟩ := h; exact h3.lt

theorem ItemsL.fz (h : ItemsL w G cap n it) (o : Nat) : w.frozen? ⟨G, o, none⟩ = false := by
  obtain ⟨_, _, f, h3, _⟩ := h; exact h3.frozen o

theorem ItemsL.room (h : ItemsL w G cap n it) : n ≤ cap ∧ cap ≤ maxLen := ⟨h.1, h.2.1⟩

theorem ItemsL.same (h : ItemsL w G cap n it) (e : ∀ i, i < n → it i = it' i) : ItemsL w G cap n it' := by
  obtain ⟨h1, h2, f, h3, h4⟩ := h; exact ⟨h1, h2, f, h3, fun i hi t ht => by rw [← e i hi]; exact h4 i hi t ht⟩

theorem ItemsL.drew (h : ItemsL w G cap n it) : ItemsL w.drew G cap n it := h

theorem ItemsL.less {n' : Nat} (h : ItemsL w G cap n it) (e : n' ≤ n) : ItemsL w G cap n' it := by
  obtain ⟨h1, h2, f, h3, h4⟩ := h; exact ⟨by omega, h2, f, h3, fun i hi t ht => h4 i (by omega) t ht⟩

theorem ItemsL.range (h : ItemsL w G cap n it) {i : Nat} (hi : i < n) : w.rangeAt G (i * 10) (ldL (it i)) := by
  obtain ⟨h1, _, f, h3, h4⟩ := h
  intro j v hv
  have hj : j < 10 := by have := (List.getElem?_eq_some_iff.1 hv).1; rw [ldL_len] at this; exact this
  rw [h4 i hi j hj] at hv
  cases hv
  exact h3.cell (by omega)

theorem ItemsL.there (h : ItemsL w G cap n it) {i : Nat} (hi : i < cap) : w.there G (i * 10) 10 := by
  obtain ⟨h1, _, f, h3, h4⟩ := h
  intro j hj
  refine ⟨?_, h3.frozen _⟩
  rw [h3.cell (by omega)]; rfl

theorem rowL_set {b : Nat} {t : TypeId} {N : Nat} : ∀ (vs : List Value) (o : Nat) (w : World) (f : Nat → Value), w.rowIs b t N f → (w.setCells b o vs).rowIs b t N (fun j => if o ≤ j ∧ j < o + vs.length then vs[j - o]?.getD undef else f j)
  | [], o, w, f, h => h.congr fun j _ => by rw [if_neg (by simp)]
  | v :: r, o, w, f, h => by
    refine (rowL_set r (o + 1) _ _ (h.set o v)).congr fun j _ => ?_
    by_cases h1 : j = o
    · subst h1
      rw [if_neg (by omega), if_pos rfl, if_pos (by simp), Nat.sub_self]
      rfl
    · by_cases h2 : o + 1 ≤ j ∧ j < o + 1 + r.length
      · rw [if_pos h2, if_pos (by simp; omega), show j - o = (j - (o + 1)) + 1 by omega, List.getElem?_cons_succ]
      · rw [if_neg h2, if_neg h1, if_neg (by simp; omega)]

/-- One place is written. -/
theorem ItemsL.put (h : ItemsL w G cap n it) (i : Nat) (l : LeadM) : ItemsL (w.setCells G (i * 10) (ldL l)) G cap n (fun j => if j = i then l else it j) := by
  obtain ⟨h1, h2, f, h3, h4⟩ := h
  refine ⟨h1, h2, _, rowL_set (ldL l) (i * 10) w f h3, fun j hj t ht => ?_⟩
  by_cases e : j = i
  · subst e
    have e0 : (fun k => if k = j then l else it k) j = l := if_pos rfl
    rw [e0, if_pos (by rw [ldL_len]; omega), show j * 10 + t - j * 10 = t by omega, List.getElem?_eq_getElem (by rw [ldL_len]; exact ht)]
    rfl
  · have e0 : (fun k => if k = i then l else it k) j = it j := if_neg e
    rw [e0, if_neg (by rw [ldL_len]; omega)]
    exact h4 j hj t ht

theorem Only.setCells {S : Nat → Prop} {a : World} {b : Nat} (hb : b < a.heap.size → S b) : ∀ (vs : List Value) (o : Nat) (w : World), Only S a w → Only S a (w.setCells b o vs)
  | [], _, _, h => h
  | v :: r, o, _, h => Only.setCells hb r (o + 1) _ (h.setCell (p := ⟨b, o, none⟩) hb v)

end
/-- The function that orders the search's heap. -/
def aheadV : Value := .func (.func 80) #[] #[]

/-- The search's own block. -/
def SrcAt (w : World) (S : Nat) (c0 c1 c2 c3 v : Value) : Prop := w.heap[S]? = some (.cells #[c0, c1, c2, c3, aheadV, v] 122 (0, 0))

section
variable {w w' : World} {S : Nat} {c0 c1 c2 c3 v : Value}
theorem SrcAt.block (h : SrcAt w S c0 c1 c2 c3 v) (e : w'.heap[S]? = w.heap[S]?) : SrcAt w' S c0 c1 c2 c3 v := e.trans h

theorem SrcAt.lt (h : SrcAt w S c0 c1 c2 c3 v) : S < w.heap.size := (Array.getElem?_eq_some_iff.1 h).1

theorem SrcAt.cells (h : SrcAt w S c0 c1 c2 c3 v) : w.cell? ⟨S, 0, none⟩ = some c0 ∧ w.cell? ⟨S, 1, none⟩ = some c1 ∧ w.cell? ⟨S, 2, none⟩ = some c2 ∧ w.cell? ⟨S, 3, none⟩ = some c3 ∧ w.cell? ⟨S, 4, none⟩ = some aheadV ∧ w.cell? ⟨S, 5, none⟩ = some v := by
  unfold SrcAt at h; simp [World.cell?, h]

theorem SrcAt.fz (h : SrcAt w S c0 c1 c2 c3 v) (o : Nat) : w.frozen? ⟨S, o, none⟩ = false := by
  unfold SrcAt at h; simp [World.frozen?, h]

theorem SrcAt.put (h : SrcAt w S c0 c1 c2 c3 v) (u : Value) : SrcAt (w.setCell ⟨S, 5, none⟩ u) S c0 c1 c2 c3 u := by
  unfold SrcAt at *
  simp [World.setCell, Array.getElem?_modify, h]

end
theorem src_apart {w : World} {S G cap n : Nat} {c0 c1 c2 c3 v : Value} {it : Nat → LeadM} (h : SrcAt w S c0 c1 c2 c3 v) (h' : ItemsL w G cap n it) : S ≠ G := by
  intro e; subst e
  unfold SrcAt at h
  obtain ⟨_, _, f, ⟨cur, h1, _⟩, _⟩ := h'
  rw [h1] at h
  simp at h

end Go.Proofs.YtnkgpinadgacgabDoor
