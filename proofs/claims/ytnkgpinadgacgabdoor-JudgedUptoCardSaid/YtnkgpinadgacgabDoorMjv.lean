/- Several texts in one: Dd, Gc. -/
import Derived.Test.YtnkgpinadgacgabDoorMju
import Derived.Test.YtnkgpinadgacgabDoorMjp
namespace Go.Proofs.YtnkgpinadgacgabDoor
open Go.RowKit M
/-- The cells of a position that is being laid. -/
def partV (f : Nat → Int) (k o : Nat) : Value := .int .u8 (if o < k then ((f o).toNat : Nat) else 0 : Nat)

theorem partV_set {w : World} {b k : Nat} {f : Nat → Int} {x : Nat} (h : ∀ o, o < 4 → w.cell? ⟨b, o, none⟩ = some (partV f k o)) (hk : k < 4) (hx : f k = (x : Int)) : ∀ o, o < 4 → (w.setCell ⟨b, k, none⟩ (.int .u8 (x : Int))).cell? ⟨b, o, none⟩ = some (partV f (k + 1) o) := by
  intro o ho
  by_cases e : o = k
  · subst e
    rw [World.cell?_setCell_same' _ _ _ (by rw [h o ho]; rfl)]
    unfold partV
    rw [if_pos (by omega), hx]; rfl
  · rw [World.cell?_setCell_other _ _ _ _ (by intro hh; cases hh; exact e rfl), h o ho]
    unfold partV
    by_cases e2 : o < k
    · rw [if_pos e2, if_pos (by omega)]
    · rw [if_neg e2, if_neg (by omega)]

theorem partV_all {f : Nat → Int} {m o : Nat} : partV f m o = .int .u8 ((cellsOf f m).getD o 0 : Nat) := by
  unfold partV
  by_cases h : o < m
  · rw [if_pos h, cellsOf_at h]
  · rw [if_neg h, cellsOf_out h]

set_option maxRecDepth 100000 in
set_option maxHeartbeats 2000000 in
theorem starts_any (ro co bu : Int) (cs : ByteArray) (b off m cc : Nat) (fr tt : Nat → Int) (w : World) (hm : m ≤ 4) (hcs : CartsIn w b off m fr tt) (hf : ∀ k, k < m → 0 ≤ fr k ∧ fr k < 256) :
    Calls Tryd.prog 59 #[.agg #[.int .i64 ro, .int .i64 co, .string cs, .slice (some ⟨b, off, none⟩) m cc, .int .i64 bu]] w fun e w' => e = .returned (posV (cellsOf fr m)) ∧ Below w.heap.size w w' := by
  have HCS := Hid.mk hcs
  have HF := Hid.mk hf
  clear hcs hf
  go_enter Tryd.func59, Tryd.ntmps59
  go_wp2
  have B0 : Hid (Below w.heap.size w (((w.alloc (Obj.cells #[Value.int IntKind.i64 ro, Value.int IntKind.i64 co, Value.string cs, .slice (some ⟨b, off, none⟩) m cc, Value.int IntKind.i64 bu] 28)).alloc (Obj.cells #[Value.int .u8 0, .int .u8 0, .int .u8 0, .int .u8 0] 102)).alloc (Obj.cells #[Value.int .u8 0, .int .u8 0, .int .u8 0, .int .u8 0] 102))) := (((Below.refl _ w).alloc (Nat.le_refl _) _).alloc (by simp) _).alloc (by simp; omega) _
  have y0 : ∀ o, (((w.alloc (Obj.cells #[Value.int IntKind.i64 ro, Value.int IntKind.i64 co, Value.string cs, .slice (some ⟨b, off, none⟩) m cc, Value.int IntKind.i64 bu] 28)).alloc (Obj.cells #[Value.int .u8 0, .int .u8 0, .int .u8 0, .int .u8 0] 102)).alloc (Obj.cells #[Value.int .u8 0, .int .u8 0, .int .u8 0, .int .u8 0] 102)).cell? ⟨w.heap.size, o, none⟩ = #[Value.int .i64 ro, .int .i64 co, .string cs, .slice (some ⟨b, off, none⟩) m cc, .int .i64 bu][o]? := by
    intro o; go_simp
  have z0 : ∀ o, (((w.alloc (Obj.cells #[Value.int IntKind.i64 ro, Value.int IntKind.i64 co, Value.string cs, .slice (some ⟨b, off, none⟩) m cc, Value.int IntKind.i64 bu] 28)).alloc (Obj.cells #[Value.int .u8 0, .int .u8 0, .int .u8 0, .int .u8 0] 102)).alloc (Obj.cells #[Value.int .u8 0, .int .u8 0, .int .u8 0, .int .u8 0] 102)).cell? ⟨w.heap.size + 1, o, none⟩ = #[Value.int .u8 0, .int .u8 0, .int .u8 0, .int .u8 0][o]? := by
    intro o; go_simp
  have zf : ∀ o, (((w.alloc (Obj.cells #[Value.int IntKind.i64 ro, Value.int IntKind.i64 co, Value.string cs, .slice (some ⟨b, off, none⟩) m cc, Value.int IntKind.i64 bu] 28)).alloc (Obj.cells #[Value.int .u8 0, .int .u8 0, .int .u8 0, .int .u8 0] 102)).alloc (Obj.cells #[Value.int .u8 0, .int .u8 0, .int .u8 0, .int .u8 0] 102)).frozen? ⟨w.heap.size + 1, o, none⟩ = false := by
    intro o; go_simp
  have p0 : ∀ o, (((w.alloc (Obj.cells #[Value.int IntKind.i64 ro, Value.int IntKind.i64 co, Value.string cs, .slice (some ⟨b, off, none⟩) m cc, Value.int IntKind.i64 bu] 28)).alloc (Obj.cells #[Value.int .u8 0, .int .u8 0, .int .u8 0, .int .u8 0] 102)).alloc (Obj.cells #[Value.int .u8 0, .int .u8 0, .int .u8 0, .int .u8 0] 102)).cell? ⟨w.heap.size + 2, o, none⟩ = #[Value.int .u8 0, .int .u8 0, .int .u8 0, .int .u8 0][o]? := by
    intro o; go_simp
  have pf : ∀ o, (((w.alloc (Obj.cells #[Value.int IntKind.i64 ro, Value.int IntKind.i64 co, Value.string cs, .slice (some ⟨b, off, none⟩) m cc, Value.int IntKind.i64 bu] 28)).alloc (Obj.cells #[Value.int .u8 0, .int .u8 0, .int .u8 0, .int .u8 0] 102)).alloc (Obj.cells #[Value.int .u8 0, .int .u8 0, .int .u8 0, .int .u8 0] 102)).frozen? ⟨w.heap.size + 2, o, none⟩ = false := by
    intro o; go_simp
  have hz : (((w.alloc (Obj.cells #[Value.int IntKind.i64 ro, Value.int IntKind.i64 co, Value.string cs, .slice (some ⟨b, off, none⟩) m cc, Value.int IntKind.i64 bu] 28)).alloc (Obj.cells #[Value.int .u8 0, .int .u8 0, .int .u8 0, .int .u8 0] 102)).alloc (Obj.cells #[Value.int .u8 0, .int .u8 0, .int .u8 0, .int .u8 0] 102)).heap.size = w.heap.size + 3 := by simp
  generalize (((w.alloc (Obj.cells #[Value.int IntKind.i64 ro, Value.int IntKind.i64 co, Value.string cs, .slice (some ⟨b, off, none⟩) m cc, Value.int IntKind.i64 bu] 28)).alloc (Obj.cells #[Value.int .u8 0, .int .u8 0, .int .u8 0, .int .u8 0] 102)).alloc (Obj.cells #[Value.int .u8 0, .int .u8 0, .int .u8 0, .int .u8 0] 102)) = w0 at *
  have P0 : Hid (∀ o, o < 4 → w0.cell? ⟨w.heap.size + 2, o, none⟩ = some (partV fr 0 o)) := fun o ho => by
    have hc : o = 0 ∨ o = 1 ∨ o = 2 ∨ o = 3 := by omega
    rcases hc with rfl | rfl | rfl | rfl <;> rw [p0] <;> rfl
  have PF := Hid.mk pf
  have Z0 := Hid.mk z0
  have ZF := Hid.mk zf
  have HZ := Hid.mk hz
  clear z0 zf p0 pf hz y0
  go_loopw [9] (fun v9 wr => ∃ k : Nat, k ≤ m ∧ v9 = .int .i64 k ∧ (∀ o, o < 4 → wr.cell? ⟨w.heap.size + 2, o, none⟩ = some (partV fr k o)) ∧ (∀ o, wr.frozen? ⟨w.heap.size + 2, o, none⟩ = false) ∧ Below (w.heap.size + 2) w0 wr) (fun v9 _ => m - (intOf v9).toNat)
  case atStart => exact ⟨0, Nat.zero_le _, rfl, P0.out, PF.out, Below.refl _ _⟩
  case round =>
    obtain ⟨k, hk, rfl, hp, hpf, hbr⟩ := hrel
    have HP := Hid.mk hp
    have HB := Hid.mk hbr
    have hzr := hbr.size
    have hz := HZ.out
    by_cases hlt : k < m
    · have HW : Hid (Below w.heap.size w wr) := B0.out.trans (hbr.mono (by omega))
      obtain ⟨c0, c1⟩ := HCS.out k hlt
      have c0 := cell_later HW.out c0
      have c1 := cell_later HW.out c1
      obtain ⟨h0, h1⟩ := HF.out k hlt
      obtain ⟨f, hf⟩ := Int.eq_ofNat_of_zero_le h0
      rw [hf] at c0 h1
      have hw : IntKind.u8.wrap (f : Int) = (f : Int) := u8_wrap (by omega) (by omega)
      have x1 := hp k (by omega)
      unfold partV at x1
      rw [if_neg (Nat.lt_irrefl k)] at x1
      have hk4 : k < 4 := by omega
      have hk4I : (k : Int) < 4 := by omega
      have n1 : w.heap.size + 2 ≠ wr.heap.size := by omega
      have n2 : wr.heap.size ≠ w.heap.size + 2 := by omega
      have hs2 : w.heap.size + 2 < wr.heap.size := by omega
      have N1 := Hid.mk (partV_set hp hk4 hf)
      have HPF := Hid.mk hpf
      clear hp hbr h0 h1 hf hz
      go_wp2
      go_roundw
      case rel =>
        refine ⟨k + 1, by omega, by go_num, fun o ho => ?_, fun o => ?_, ?_⟩
        · exact cell_later ((Below.refl _ _).alloc (Nat.le_refl _) _) (N1.out o ho)
        · rw [((Below.refl _ (wr.setCell ⟨w.heap.size + 1 + 1, k, none⟩ (.int .u8 (f : Int)))).alloc (Nat.le_refl _) _).frozen (p := ⟨w.heap.size + 2, o, none⟩) (by show w.heap.size + 2 < (wr.setCell _ _).heap.size; simp [World.setCell]; omega), World.frozen?_setCell]
          exact HPF.out o
        · exact (HB.out.setCell (by show w.heap.size + 2 ≤ w.heap.size + 1 + 1; omega) _).alloc (by simp [World.setCell]; omega) _
      case measure => simp [intOf]; omega
    · have e : k = m := by omega
      have HW : Hid (Below w.heap.size w wr) := B0.out.trans (hbr.mono (by omega))
      obtain ⟨a0, ha0⟩ : ∃ v, v = (cellsOf fr m).getD 0 0 := ⟨_, rfl⟩
      obtain ⟨a1, ha1⟩ : ∃ v, v = (cellsOf fr m).getD 1 0 := ⟨_, rfl⟩
      obtain ⟨a2, ha2⟩ : ∃ v, v = (cellsOf fr m).getD 2 0 := ⟨_, rfl⟩
      obtain ⟨a3, ha3⟩ : ∃ v, v = (cellsOf fr m).getD 3 0 := ⟨_, rfl⟩
      have q0 : wr.cell? ⟨w.heap.size + 2, 0, none⟩ = some (.int .u8 (a0 : Nat)) := by rw [hp 0 (by omega), e, partV_all, ha0]
      have q1 : wr.cell? ⟨w.heap.size + 2, 1, none⟩ = some (.int .u8 (a1 : Nat)) := by rw [hp 1 (by omega), e, partV_all, ha1]
      have q2 : wr.cell? ⟨w.heap.size + 2, 2, none⟩ = some (.int .u8 (a2 : Nat)) := by rw [hp 2 (by omega), e, partV_all, ha2]
      have q3 : wr.cell? ⟨w.heap.size + 2, 3, none⟩ = some (.int .u8 (a3 : Nat)) := by rw [hp 3 (by omega), e, partV_all, ha3]
      have x1 : ∀ o, wr.cell? ⟨w.heap.size + 1, o, none⟩ = #[Value.int .u8 0, .int .u8 0, .int .u8 0, .int .u8 0][o]? := fun o => (hbr.cell (p := ⟨w.heap.size + 1, o, none⟩) (by show w.heap.size + 1 < _; omega)).trans (Z0.out o)
      have x2 : ∀ o, wr.frozen? ⟨w.heap.size + 1, o, none⟩ = false := fun o => (hbr.frozen (p := ⟨w.heap.size + 1, o, none⟩) (by show w.heap.size + 1 < _; omega)).trans (ZF.out o)
      have RES : Hid (posV (cellsOf fr m) = .agg #[.int .u8 (a0 : Nat), .int .u8 (a1 : Nat), .int .u8 (a2 : Nat), .int .u8 (a3 : Nat)]) := by unfold Hid posV; rw [ha0, ha1, ha2, ha3]
      have hs1 : w.heap.size + 1 < wr.heap.size := by omega
      clear hp hbr hpf ha0 ha1 ha2 ha3 e hz
      go_wp2
      refine bodyPost_ret (v := .agg #[.int .u8 (a0 : Nat), .int .u8 (a1 : Nat), .int .u8 (a2 : Nat), .int .u8 (a3 : Nat)]) (by simp [results, Tryd.results59]; go_simp) rfl ⟨by rw [RES.out], ?_⟩
      iterate 4 refine Below.setCell ?_ (by show w.heap.size ≤ w.heap.size + 1; omega) _
      exact HW.out

set_option maxRecDepth 100000 in
set_option maxHeartbeats 2000000 in
theorem goals_any (ro co bu : Int) (cs : ByteArray) (b off m cc : Nat) (fr tt : Nat → Int) (w : World) (hm : m ≤ 4) (hcs : CartsIn w b off m fr tt) (hf : ∀ k, k < m → 0 ≤ tt k ∧ tt k < 256) :
    Calls Tryd.prog 55 #[.agg #[.int .i64 ro, .int .i64 co, .string cs, .slice (some ⟨b, off, none⟩) m cc, .int .i64 bu]] w fun e w' => e = .returned (posV (cellsOf tt m)) ∧ Below w.heap.size w w' := by
  have HCS := Hid.mk hcs
  have HF := Hid.mk hf
  clear hcs hf
  go_enter Tryd.func55, Tryd.ntmps55
  go_wp2
  have B0 : Hid (Below w.heap.size w (((w.alloc (Obj.cells #[Value.int IntKind.i64 ro, Value.int IntKind.i64 co, Value.string cs, .slice (some ⟨b, off, none⟩) m cc, Value.int IntKind.i64 bu] 28)).alloc (Obj.cells #[Value.int .u8 0, .int .u8 0, .int .u8 0, .int .u8 0] 102)).alloc (Obj.cells #[Value.int .u8 0, .int .u8 0, .int .u8 0, .int .u8 0] 102))) := (((Below.refl _ w).alloc (Nat.le_refl _) _).alloc (by simp) _).alloc (by simp; omega) _
  have y0 : ∀ o, (((w.alloc (Obj.cells #[Value.int IntKind.i64 ro, Value.int IntKind.i64 co, Value.string cs, .slice (some ⟨b, off, none⟩) m cc, Value.int IntKind.i64 bu] 28)).alloc (Obj.cells #[Value.int .u8 0, .int .u8 0, .int .u8 0, .int .u8 0] 102)).alloc (Obj.cells #[Value.int .u8 0, .int .u8 0, .int .u8 0, .int .u8 0] 102)).cell? ⟨w.heap.size, o, none⟩ = #[Value.int .i64 ro, .int .i64 co, .string cs, .slice (some ⟨b, off, none⟩) m cc, .int .i64 bu][o]? := by
    intro o; go_simp
  have z0 : ∀ o, (((w.alloc (Obj.cells #[Value.int IntKind.i64 ro, Value.int IntKind.i64 co, Value.string cs, .slice (some ⟨b, off, none⟩) m cc, Value.int IntKind.i64 bu] 28)).alloc (Obj.cells #[Value.int .u8 0, .int .u8 0, .int .u8 0, .int .u8 0] 102)).alloc (Obj.cells #[Value.int .u8 0, .int .u8 0, .int .u8 0, .int .u8 0] 102)).cell? ⟨w.heap.size + 1, o, none⟩ = #[Value.int .u8 0, .int .u8 0, .int .u8 0, .int .u8 0][o]? := by
    intro o; go_simp
  have zf : ∀ o, (((w.alloc (Obj.cells #[Value.int IntKind.i64 ro, Value.int IntKind.i64 co, Value.string cs, .slice (some ⟨b, off, none⟩) m cc, Value.int IntKind.i64 bu] 28)).alloc (Obj.cells #[Value.int .u8 0, .int .u8 0, .int .u8 0, .int .u8 0] 102)).alloc (Obj.cells #[Value.int .u8 0, .int .u8 0, .int .u8 0, .int .u8 0] 102)).frozen? ⟨w.heap.size + 1, o, none⟩ = false := by
    intro o; go_simp
  have p0 : ∀ o, (((w.alloc (Obj.cells #[Value.int IntKind.i64 ro, Value.int IntKind.i64 co, Value.string cs, .slice (some ⟨b, off, none⟩) m cc, Value.int IntKind.i64 bu] 28)).alloc (Obj.cells #[Value.int .u8 0, .int .u8 0, .int .u8 0, .int .u8 0] 102)).alloc (Obj.cells #[Value.int .u8 0, .int .u8 0, .int .u8 0, .int .u8 0] 102)).cell? ⟨w.heap.size + 2, o, none⟩ = #[Value.int .u8 0, .int .u8 0, .int .u8 0, .int .u8 0][o]? := by
    intro o; go_simp
  have pf : ∀ o, (((w.alloc (Obj.cells #[Value.int IntKind.i64 ro, Value.int IntKind.i64 co, Value.string cs, .slice (some ⟨b, off, none⟩) m cc, Value.int IntKind.i64 bu] 28)).alloc (Obj.cells #[Value.int .u8 0, .int .u8 0, .int .u8 0, .int .u8 0] 102)).alloc (Obj.cells #[Value.int .u8 0, .int .u8 0, .int .u8 0, .int .u8 0] 102)).frozen? ⟨w.heap.size + 2, o, none⟩ = false := by
    intro o; go_simp
  have hz : (((w.alloc (Obj.cells #[Value.int IntKind.i64 ro, Value.int IntKind.i64 co, Value.string cs, .slice (some ⟨b, off, none⟩) m cc, Value.int IntKind.i64 bu] 28)).alloc (Obj.cells #[Value.int .u8 0, .int .u8 0, .int .u8 0, .int .u8 0] 102)).alloc (Obj.cells #[Value.int .u8 0, .int .u8 0, .int .u8 0, .int .u8 0] 102)).heap.size = w.heap.size + 3 := by simp
  generalize (((w.alloc (Obj.cells #[Value.int IntKind.i64 ro, Value.int IntKind.i64 co, Value.string cs, .slice (some ⟨b, off, none⟩) m cc, Value.int IntKind.i64 bu] 28)).alloc (Obj.cells #[Value.int .u8 0, .int .u8 0, .int .u8 0, .int .u8 0] 102)).alloc (Obj.cells #[Value.int .u8 0, .int .u8 0, .int .u8 0, .int .u8 0] 102)) = w0 at *
  have P0 : Hid (∀ o, o < 4 → w0.cell? ⟨w.heap.size + 2, o, none⟩ = some (partV tt 0 o)) := fun o ho => by
    have hc : o = 0 ∨ o = 1 ∨ o = 2 ∨ o = 3 := by omega
    rcases hc with rfl | rfl | rfl | rfl <;> rw [p0] <;> rfl
  have PF := Hid.mk pf
  have Z0 := Hid.mk z0
  have ZF := Hid.mk zf
  have HZ := Hid.mk hz
  clear z0 zf p0 pf hz y0
  go_loopw [9] (fun v9 wr => ∃ k : Nat, k ≤ m ∧ v9 = .int .i64 k ∧ (∀ o, o < 4 → wr.cell? ⟨w.heap.size + 2, o, none⟩ = some (partV tt k o)) ∧ (∀ o, wr.frozen? ⟨w.heap.size + 2, o, none⟩ = false) ∧ Below (w.heap.size + 2) w0 wr) (fun v9 _ => m - (intOf v9).toNat)
  case atStart => exact ⟨0, Nat.zero_le _, rfl, P0.out, PF.out, Below.refl _ _⟩
  case round =>
    obtain ⟨k, hk, rfl, hp, hpf, hbr⟩ := hrel
    have HP := Hid.mk hp
    have HB := Hid.mk hbr
    have hzr := hbr.size
    have hz := HZ.out
    by_cases hlt : k < m
    · have HW : Hid (Below w.heap.size w wr) := B0.out.trans (hbr.mono (by omega))
      obtain ⟨c0, c1⟩ := HCS.out k hlt
      have c0 := cell_later HW.out c0
      have c1 := cell_later HW.out c1
      obtain ⟨h0, h1⟩ := HF.out k hlt
      obtain ⟨f, hf⟩ := Int.eq_ofNat_of_zero_le h0
      rw [hf] at c1 h1
      have hw : IntKind.u8.wrap (f : Int) = (f : Int) := u8_wrap (by omega) (by omega)
      have x1 := hp k (by omega)
      unfold partV at x1
      rw [if_neg (Nat.lt_irrefl k)] at x1
      have hk4 : k < 4 := by omega
      have hk4I : (k : Int) < 4 := by omega
      have n1 : w.heap.size + 2 ≠ wr.heap.size := by omega
      have n2 : wr.heap.size ≠ w.heap.size + 2 := by omega
      have hs2 : w.heap.size + 2 < wr.heap.size := by omega
      have N1 := Hid.mk (partV_set hp hk4 hf)
      have HPF := Hid.mk hpf
      clear hp hbr h0 h1 hf hz
      go_wp2
      go_roundw
      case rel =>
        refine ⟨k + 1, by omega, by go_num, fun o ho => ?_, fun o => ?_, ?_⟩
        · exact cell_later ((Below.refl _ _).alloc (Nat.le_refl _) _) (N1.out o ho)
        · rw [((Below.refl _ (wr.setCell ⟨w.heap.size + 1 + 1, k, none⟩ (.int .u8 (f : Int)))).alloc (Nat.le_refl _) _).frozen (p := ⟨w.heap.size + 2, o, none⟩) (by show w.heap.size + 2 < (wr.setCell _ _).heap.size; simp [World.setCell]; omega), World.frozen?_setCell]
          exact HPF.out o
        · exact (HB.out.setCell (by show w.heap.size + 2 ≤ w.heap.size + 1 + 1; omega) _).alloc (by simp [World.setCell]; omega) _
      case measure => simp [intOf]; omega
    · have e : k = m := by omega
      have HW : Hid (Below w.heap.size w wr) := B0.out.trans (hbr.mono (by omega))
      obtain ⟨a0, ha0⟩ : ∃ v, v = (cellsOf tt m).getD 0 0 := ⟨_, rfl⟩
      obtain ⟨a1, ha1⟩ : ∃ v, v = (cellsOf tt m).getD 1 0 := ⟨_, rfl⟩
      obtain ⟨a2, ha2⟩ : ∃ v, v = (cellsOf tt m).getD 2 0 := ⟨_, rfl⟩
      obtain ⟨a3, ha3⟩ : ∃ v, v = (cellsOf tt m).getD 3 0 := ⟨_, rfl⟩
      have q0 : wr.cell? ⟨w.heap.size + 2, 0, none⟩ = some (.int .u8 (a0 : Nat)) := by rw [hp 0 (by omega), e, partV_all, ha0]
      have q1 : wr.cell? ⟨w.heap.size + 2, 1, none⟩ = some (.int .u8 (a1 : Nat)) := by rw [hp 1 (by omega), e, partV_all, ha1]
      have q2 : wr.cell? ⟨w.heap.size + 2, 2, none⟩ = some (.int .u8 (a2 : Nat)) := by rw [hp 2 (by omega), e, partV_all, ha2]
      have q3 : wr.cell? ⟨w.heap.size + 2, 3, none⟩ = some (.int .u8 (a3 : Nat)) := by rw [hp 3 (by omega), e, partV_all, ha3]
      have x1 : ∀ o, wr.cell? ⟨w.heap.size + 1, o, none⟩ = #[Value.int .u8 0, .int .u8 0, .int .u8 0, .int .u8 0][o]? := fun o => (hbr.cell (p := ⟨w.heap.size + 1, o, none⟩) (by show w.heap.size + 1 < _; omega)).trans (Z0.out o)
      have x2 : ∀ o, wr.frozen? ⟨w.heap.size + 1, o, none⟩ = false := fun o => (hbr.frozen (p := ⟨w.heap.size + 1, o, none⟩) (by show w.heap.size + 1 < _; omega)).trans (ZF.out o)
      have RES : Hid (posV (cellsOf tt m) = .agg #[.int .u8 (a0 : Nat), .int .u8 (a1 : Nat), .int .u8 (a2 : Nat), .int .u8 (a3 : Nat)]) := by unfold Hid posV; rw [ha0, ha1, ha2, ha3]
      have hs1 : w.heap.size + 1 < wr.heap.size := by omega
      clear hp hbr hpf ha0 ha1 ha2 ha3 e hz
      go_wp2
      refine bodyPost_ret (v := .agg #[.int .u8 (a0 : Nat), .int .u8 (a1 : Nat), .int .u8 (a2 : Nat), .int .u8 (a3 : Nat)]) (by simp [results, Tryd.results55]; go_simp) rfl ⟨by rw [RES.out], ?_⟩
      iterate 4 refine Below.setCell ?_ (by show w.heap.size ≤ w.heap.size + 1; omega) _
      exact HW.out

end Go.Proofs.YtnkgpinadgacgabDoor

namespace Go.Proofs.YtnkgpinadgacgabDoor
open Go.RowKit M
/-- Of two leads the one that may come to less; of two that may come to the same the one that cost more. -/
def aheadB (ac aw bc bw : Int) : Bool := decide (aw < bw) || (aw == bw && decide (bc < ac))

set_option maxRecDepth 100000 in
theorem jahead_any (x0 x1 x2 x3 x4 x5 x6 x7 y0 y1 y2 y3 y4 y5 y6 y7 : Value) (ac aw bc bw : Int) (w : World) :
    Calls Tryd.prog 80 #[.agg #[x0, x1, x2, x3, x4, x5, x6, x7, .int .i64 ac, .int .i64 aw], .agg #[y0, y1, y2, y3, y4, y5, y6, y7, .int .i64 bc, .int .i64 bw]] w fun e w' =>
      e = .returned (.bool (aheadB ac aw bc bw)) ∧ Below w.heap.size w w' := by
  have B0 : Hid (∀ o p, Below w.heap.size w ((w.alloc o).alloc p)) := fun o p => ((Below.refl _ w).alloc (Nat.le_refl _) o).alloc (by simp) p
  go_enter Tryd.func80, Tryd.ntmps80
  by_cases h1 : aw < bw
  · have d1 : decide (aw < bw) = true := by simp [h1]
    have R : Hid (aheadB ac aw bc bw = true) := by unfold Hid aheadB; simp [h1]
    go_wp2
    go_ret
    exact ⟨ret_bool R.out.symm, B0.out _ _⟩
  · have d1 : decide (aw < bw) = false := by simp; omega
    by_cases h2 : aw = bw
    · have d2 : (aw == bw) = true := by simp [h2]
      by_cases h3 : bc < ac
      · have d3 : decide (bc < ac) = true := by simp [h3]
        have R : Hid (aheadB ac aw bc bw = true) := by unfold Hid aheadB; simp [h2, h3]
        clear h2
        go_wp2
        go_ret
        exact ⟨ret_bool R.out.symm, B0.out _ _⟩
      · have d3 : decide (bc < ac) = false := by simp; omega
        have R : Hid (aheadB ac aw bc bw = false) := by unfold Hid aheadB; simp [h2]; omega
        clear h2
        go_wp2
        go_ret
        exact ⟨ret_bool R.out.symm, B0.out _ _⟩
    · have d2 : (aw == bw) = false := by simp [h2]
      have R : Hid (aheadB ac aw bc bw = false) := by unfold Hid aheadB; simp [h1, h2]
      go_wp2
      go_ret
      exact ⟨ret_bool R.out.symm, B0.out _ _⟩

def sumTo (f : Nat → Int) : Nat → Int
  | 0 => 0
  | n + 1 => sumTo f n + f n

theorem sumTo_bd {f : Nat → Int} : ∀ {n : Nat}, (∀ i, i < n → 0 ≤ f i ∧ f i ≤ 36) → 0 ≤ sumTo f n ∧ sumTo f n ≤ 36 * n
  | 0, _ => by simp [sumTo]
  | n + 1, h => by
    have h1 := sumTo_bd (n := n) (fun i hi => h i (by omega))
    have h2 := h n (by omega)
    show 0 ≤ sumTo f n + f n ∧ sumTo f n + f n ≤ _
    omega

set_option maxRecDepth 100000 in
set_option maxHeartbeats 1000000 in
theorem rest_any (S gf cf K N : Nat) (H c : Nat → Nat) (st : Nat → Nat → Int) (pf : Nat → Nat) (w : World) (hK : K ≤ 4) (hN : N ≤ 36) (hf : w.cell? ⟨S, 2, none⟩ = some (.slice (some ⟨gf, 0, none⟩) K cf)) (hr : ∀ t, t < K → w.cell? ⟨gf, t, none⟩ = some (.slice (some ⟨H t, 0, none⟩) N (c t)))
    (hc : ∀ t i, t < K → i < N → w.cell? ⟨H t, i, none⟩ = some (.int .i64 (st t i))) (hq : ∀ t, t < K → pf t < N) (hb : ∀ t, t < K → 0 ≤ st t (pf t) ∧ st t (pf t) ≤ 36) :
    Calls Tryd.prog 82 #[.pointer (some ⟨S, 0, none⟩), .agg #[.int .u8 (pf 0 : Nat), .int .u8 (pf 1 : Nat), .int .u8 (pf 2 : Nat), .int .u8 (pf 3 : Nat)]] w fun e w' =>
      e = .returned (.int .i64 (sumTo (fun t => st t (pf t)) K)) ∧ Below w.heap.size w w' := by
  have HR := Hid.mk hr
  have HC := Hid.mk hc
  have HQ := Hid.mk hq
  have HBD := Hid.mk hb
  have hSl := World.block_lt_of_cell? (a := ⟨S, 2, none⟩) _ hf
  clear hr hc hq hb
  go_enter Tryd.func82, Tryd.ntmps82
  have P0 : Hid (∀ k, k < 4 → (w.alloc (Obj.cells #[Value.int .u8 (pf 0 : Nat), .int .u8 (pf 1 : Nat), .int .u8 (pf 2 : Nat), .int .u8 (pf 3 : Nat)] 102)).cell? ⟨w.heap.size, k, none⟩ = some (.int .u8 (pf k : Nat))) := by
    intro k hk
    match k, hk with
    | 0, _ => go_simp
    | 1, _ => go_simp
    | 2, _ => go_simp
    | 3, _ => go_simp
  have B0 : Hid (Below w.heap.size w (w.alloc (Obj.cells #[Value.int .u8 (pf 0 : Nat), .int .u8 (pf 1 : Nat), .int .u8 (pf 2 : Nat), .int .u8 (pf 3 : Nat)] 102))) := (Below.refl _ _).alloc (Nat.le_refl _) _
  go_wp2
  generalize (w.alloc (Obj.cells #[Value.int .u8 (pf 0 : Nat), .int .u8 (pf 1 : Nat), .int .u8 (pf 2 : Nat), .int .u8 (pf 3 : Nat)] 102)) = w1 at *
  go_loopw [5, 6, 7, 13] (fun v5 _ _ v13 wr => ∃ k : Nat, v13 = .int .i64 k ∧ k ≤ K ∧ v5 = .int .i64 (sumTo (fun t => st t (pf t)) k) ∧ w1 = wr) (fun _ _ _ v13 _ => K - (intOf v13).toNat)
  case atStart => exact ⟨0, rfl, Nat.zero_le _, rfl, rfl⟩
  case round =>
    obtain ⟨k, rfl, hk, rfl, rfl⟩ := hrel
    have bd := sumTo_bd (f := fun t => st t (pf t)) (n := k) (fun i hi => HBD.out i (by omega))
    by_cases hlt : k < K
    · have hkI : (k : Int) < (K : Int) := by omega
      have hk4 : (k : Int) < 4 := by omega
      have d0 := cell_later B0.out (HR.out k hlt)
      have d1 := P0.out k (by omega)
      have d2 := cell_later B0.out (HC.out k (pf k) hlt (HQ.out k hlt))
      have hqN := HQ.out k hlt
      have bk := HBD.out k hlt
      have NX : Hid (sumTo (fun t => st t (pf t)) k + st k (pf k) = sumTo (fun t => st t (pf t)) (k + 1)) := rfl
      obtain ⟨z, hz⟩ : ∃ z, z = pf k := ⟨_, rfl⟩
      rw [← hz] at d1 d2 hqN bk NX
      obtain ⟨sm, hsm⟩ : ∃ sm, sm = sumTo (fun t => st t (pf t)) k := ⟨_, rfl⟩
      rw [← hsm] at bd NX ⊢
      have hzI : (z : Int) < (N : Int) := by omega
      have hz36 : (z : Int) < 256 := by omega
      clear hz hsm
      go_wp2
      go_roundw
      case rel => exact ⟨k + 1, by go_num, by omega, by rw [← NX.out], by first | rfl | trivial⟩
      case measure => simp [intOf]; omega
    · have hd : k = K := by omega
      subst hd
      go_wp2
      go_ret
      exact ⟨rfl, B0.out⟩

end Go.Proofs.YtnkgpinadgacgabDoor
