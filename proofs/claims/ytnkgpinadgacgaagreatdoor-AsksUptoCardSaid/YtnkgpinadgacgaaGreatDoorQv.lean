/- Dc, Dd. -/
import Derived.Test.YtnkgpinadgacgaaGreatDoorQu
set_option maxRecDepth 1000000
set_option maxHeartbeats 2000000
namespace Go.Proofs.YtnkgpinadgacgaaGreatDoor
section
open Go.RowKit M
theorem fit_hit {p q : List Nat} {i k : Nat} (hk : k < i) (h : clashB p q i k = true) : fitB p q i = false := by
 unfold fitB; rw [anyB_of h hk]; rfl
theorem fit_miss {p q : List Nat} {i : Nat} (h : ∀ k, k < i -> clashB p q i k = false) : fitB p q i = true := by
 unfold fitB; rw [anyB_false.2 h]; rfl
theorem pos_cell {w : World} {b : Nat} {q : List Nat} (h : ∀ o, w.cell? ⟨b, o, none⟩ = #[Value.int .u8 (q.getD 0 0 : Nat), .int .u8 (q.getD 1 0 : Nat), .int .u8 (q.getD 2 0 : Nat), .int .u8 (q.getD 3 0 : Nat)][o]?) {k : Nat} (hk : k < 4) : w.cell? ⟨b, k, none⟩ = some (.int .u8 (q.getD k 0 : Nat)) := by
 have hc : k = 0 ∨ k = 1 ∨ k = 2 ∨ k = 3 := by omega
 rcases hc with rfl | rfl | rfl | rfl <;> rw [h] <;> rfl
theorem fits_any (p q : List Nat) (i : Nat) (w : World) (hi : i < 4) :
 Calls Tryz.prog 104 #[posV p, posV q, .int .i64 i] w fun e w' => e = .returned (.bool (fitB p q i)) ∧ Below w.heap.size w w' := by
 obtain ⟨a0, ha0⟩ : ∃ v, v = p.getD 0 0 := ⟨_, rfl⟩
 obtain ⟨a1, ha1⟩ : ∃ v, v = p.getD 1 0 := ⟨_, rfl⟩
 obtain ⟨a2, ha2⟩ : ∃ v, v = p.getD 2 0 := ⟨_, rfl⟩
 obtain ⟨a3, ha3⟩ : ∃ v, v = p.getD 3 0 := ⟨_, rfl⟩
 obtain ⟨b0, hb0⟩ : ∃ v, v = q.getD 0 0 := ⟨_, rfl⟩
 obtain ⟨b1, hb1⟩ : ∃ v, v = q.getD 1 0 := ⟨_, rfl⟩
 obtain ⟨b2, hb2⟩ : ∃ v, v = q.getD 2 0 := ⟨_, rfl⟩
 obtain ⟨b3, hb3⟩ : ∃ v, v = q.getD 3 0 := ⟨_, rfl⟩
 unfold posV; rw [<- ha0, <- ha1, <- ha2, <- ha3, <- hb0, <- hb1, <- hb2, <- hb3]; have HA := zx (And.intro ha0 (And.intro ha1 (And.intro ha2 ha3))); have HQ := zx (And.intro hb0 (And.intro hb1 (And.intro hb2 hb3))); clear ha0 ha1 ha2 ha3 hb0 hb1 hb2 hb3; go_enter Tryz.func104, Tryz.ntmps104; go_wp2; have B0 : Hid (Below w.heap.size w ((w.alloc (.cells #[.int .u8 a0, .int .u8 a1, .int .u8 a2, .int .u8 a3] 103)).alloc (.cells #[.int .u8 b0, .int .u8 b1, .int .u8 b2, .int .u8 b3] 103))) := ((Below.refl _ w).alloc zl _).alloc (by simp) _
 have x0 : ∀ o, ((w.alloc (.cells #[.int .u8 a0, .int .u8 a1, .int .u8 a2, .int .u8 a3] 103)).alloc (.cells #[.int .u8 b0, .int .u8 b1, .int .u8 b2, .int .u8 b3] 103)).cell? ⟨w.heap.size, o, none⟩ = #[Value.int .u8 a0, .int .u8 a1, .int .u8 a2, .int .u8 a3][o]? := by
  intro o; go_simp
 have x1 : ∀ o, ((w.alloc (.cells #[.int .u8 a0, .int .u8 a1, .int .u8 a2, .int .u8 a3] 103)).alloc (.cells #[.int .u8 b0, .int .u8 b1, .int .u8 b2, .int .u8 b3] 103)).cell? ⟨w.heap.size + 1, o, none⟩ = #[Value.int .u8 b0, .int .u8 b1, .int .u8 b2, .int .u8 b3][o]? := by
  intro o; go_simp
 have hz : ((w.alloc (.cells #[.int .u8 a0, .int .u8 a1, .int .u8 a2, .int .u8 a3] 103)).alloc (.cells #[.int .u8 b0, .int .u8 b1, .int .u8 b2, .int .u8 b3] 103)).heap.size = w.heap.size + 2 := by simp
 generalize ((w.alloc (.cells #[.int .u8 a0, .int .u8 a1, .int .u8 a2, .int .u8 a3] 103)).alloc (.cells #[.int .u8 b0, .int .u8 b1, .int .u8 b2, .int .u8 b3] 103)) = w0 at *; have C0 : Hid (∀ k, k < 4 -> w0.cell? ⟨w.heap.size, k, none⟩ = some (.int .u8 (p.getD k 0 : Nat))) := fun k hk => pos_cell (q := p) (by intro o; rw [x0, HA.out.1, HA.out.2.1, HA.out.2.2.1, HA.out.2.2.2]) hk
 have C1 : Hid (∀ k, k < 4 -> w0.cell? ⟨w.heap.size + 1, k, none⟩ = some (.int .u8 (q.getD k 0 : Nat))) := fun k hk => pos_cell (q := q) (by intro o; rw [x1, HQ.out.1, HQ.out.2.1, HQ.out.2.2.1, HQ.out.2.2.2]) hk
 have HZ := zx hz; clear x0 x1 hz; go_loopw [11] (fun v11 wr => ∃ k : Nat, k <= i ∧ v11 = .int .i64 k ∧ (∀ j, j < k -> clashB p q i j = false) ∧ Below w0.heap.size w0 wr) (fun v11 _ => i - (intOf v11).toNat)
 case atStart => exact ⟨0, Nat.zero_le _, rfl, fun j hj => absurd hj (Nat.not_lt_zero j), Below.refl _ _⟩
 case round =>
  obtain ⟨k, hk, rfl, hmiss, hbr⟩ := hrel; have HM := zx hmiss; have HB := zx hbr; by_cases hlt : k < i
  . have hz := HZ.out; have ha := (hbr.cell (p := ⟨w.heap.size + 1, i, none⟩) (by show w.heap.size + 1 < _; omega)).trans (C1.out i hi); have hb := (hbr.cell (p := ⟨w.heap.size + 1, k, none⟩) (by show w.heap.size + 1 < _; omega)).trans (C1.out k (by omega)); have hc := (hbr.cell (p := ⟨w.heap.size, k, none⟩) (by show w.heap.size < _; omega)).trans (C0.out k (by omega)); have hd := (hbr.cell (p := ⟨w.heap.size, i, none⟩) (by show w.heap.size < _; omega)).trans (C0.out i hi); have hiI : (i : Int) < 4 := by omega
    have hkI : (k : Int) < 4 := by omega
    have hk4 : k < 4 := by omega
    obtain ⟨va, hva⟩ : ∃ v, v = q.getD i 0 := ⟨_, rfl⟩
    obtain ⟨vb, hvb⟩ : ∃ v, v = q.getD k 0 := ⟨_, rfl⟩
    obtain ⟨vc, hvc⟩ : ∃ v, v = p.getD k 0 := ⟨_, rfl⟩
    obtain ⟨vd, hvd⟩ : ∃ v, v = p.getD i 0 := ⟨_, rfl⟩
    rw [<- hva] at ha; rw [<- hvb] at hb; rw [<- hvc] at hc; rw [<- hvd] at hd; have CL : Hid (clashB p q i k = ((va == vb) || (va == vc && vb == vd))) := by unfold Hid clashB; rw [hva, hvb, hvc, hvd]
    clear hva hvb hvc hvd hmiss hbr hz; by_cases e2 : va = vc
    . have e2' : (((va : Nat) : Int) == ((vc : Nat) : Int)) = true := by simp [e2]
      by_cases e1 : va = vb
      . have e1' : (((va : Nat) : Int) == ((vb : Nat) : Int)) = true := by simp [e1]
        have RES : Hid (fitB p q i = false) := fit_hit hlt (by rw [CL.out]; simp [e1]); have HW := zx (B0.out.trans (HB.out.mono (by have := HZ.out; omega))); clear e1 e2; go_wp2_with fail; go_quiet (fail); go_wp2_with fail; go_quiet (fail); go_wp2; go_ret; exact ⟨ret_bool RES.out.symm, below_drewN HW.out _⟩
      . have e1' : (((va : Nat) : Int) == ((vb : Nat) : Int)) = false := by simp; omega
        by_cases e3 : vb = vd
        . have e3' : (((vb : Nat) : Int) == ((vd : Nat) : Int)) = true := by simp [e3]
          have RES : Hid (fitB p q i = false) := fit_hit hlt (by rw [CL.out]; simp [e2, e3]); have HW := zx (B0.out.trans (HB.out.mono (by have := HZ.out; omega))); clear e1 e2 e3; go_wp2_with fail; go_quiet (fail); go_wp2_with fail; go_quiet (fail); go_wp2; go_ret; exact ⟨ret_bool RES.out.symm, below_drewN HW.out _⟩
        . have e3' : (((vb : Nat) : Int) == ((vd : Nat) : Int)) = false := by simp; omega
          have RES : Hid (clashB p q i k = false) := by unfold Hid; rw [CL.out]; simp [e1, e3]
          clear e1 e2 e3; go_wp2_with fail; go_quiet (fail); go_wp2_with fail; go_quiet (fail); go_wp2; go_roundw; case rel => exact ⟨k + 1, by omega, by go_num, upto_step RES.out HM.out, below_drewN HB.out _⟩
          case measure => simp [intOf]; omega
    . have e2' : (((va : Nat) : Int) == ((vc : Nat) : Int)) = false := by simp; omega
      by_cases e1 : va = vb
      . have e1' : (((va : Nat) : Int) == ((vb : Nat) : Int)) = true := by simp [e1]
        have RES : Hid (fitB p q i = false) := fit_hit hlt (by rw [CL.out]; simp [e1]); have HW := zx (B0.out.trans (HB.out.mono (by have := HZ.out; omega))); clear e1 e2; go_wp2_with fail; go_quiet (fail); go_wp2_with fail; go_quiet (fail); go_wp2; go_ret; exact ⟨ret_bool RES.out.symm, below_drewN HW.out _⟩
      . have e1' : (((va : Nat) : Int) == ((vb : Nat) : Int)) = false := by simp; omega
        have RES : Hid (clashB p q i k = false) := by unfold Hid; rw [CL.out]; simp [e1, e2]
        clear e1 e2; go_wp2_with fail; go_quiet (fail); go_wp2_with fail; go_quiet (fail); go_wp2; go_roundw; case rel => exact ⟨k + 1, by omega, by go_num, upto_step RES.out HM.out, below_drewN HB.out _⟩
        case measure => simp [intOf]; omega
  . have RES : Hid (fitB p q i = true) := fit_miss fun j hj => HM.out j (by omega)
    have HW := zx (B0.out.trans (HB.out.mono (by have := HZ.out; omega))); clear hmiss hbr; go_wp2; go_ret; exact ⟨ret_bool RES.out.symm, HW.out⟩
def cellsOf (f : Nat -> Int) (m : Nat) : List Nat := (List.range m).map fun k => (f k).toNat
theorem cellsOf_len (f : Nat -> Int) (m : Nat) : (cellsOf f m).length = m := by simp [cellsOf]
theorem cellsOf_at {f : Nat -> Int} {m k : Nat} (h : k < m) : (cellsOf f m).getD k 0 = (f k).toNat := by
 unfold cellsOf; rw [zg, List.getElem?_map, List.getElem?_range h]; rfl
theorem cellsOf_out {f : Nat -> Int} {m k : Nat} (h : ¬ k < m) : (cellsOf f m).getD k 0 = 0 := by
 rw [zg, List.getElem?_eq_none (by rw [cellsOf_len]; omega)]; rfl
theorem u8_wrap {x : Int} (h0 : 0 <= x) (h1 : x < 256) : IntKind.u8.wrap x = x := by
 simp [IntKind.wrap, IntKind.signed, IntKind.bits]; omega
end
section
open Go.RowKit M
def partV (f : Nat -> Int) (k o : Nat) : Value := .int .u8 (if o < k then ((f o).toNat : Nat) else 0 : Nat)
theorem partV_set {w : World} {b k : Nat} {f : Nat -> Int} {x : Nat} (h : ∀ o, o < 4 -> w.cell? ⟨b, o, none⟩ = some (partV f k o)) (hk : k < 4) (hx : f k = (x : Int)) : ∀ o, o < 4 -> (w.setCell ⟨b, k, none⟩ (.int .u8 (x : Int))).cell? ⟨b, o, none⟩ = some (partV f (k + 1) o) := by
 intro o ho; by_cases e : o = k
 . subst e; rw [World.cell?_setCell_same' _ _ _ (by rw [h o ho]; rfl)]; unfold partV; rw [if_pos (by omega), hx]; rfl
 . rw [World.cell?_setCell_other _ _ _ _ (by intro hh; cases hh; exact e rfl), h o ho]; unfold partV; by_cases e2 : o < k
   . rw [if_pos e2, if_pos (by omega)]
   . rw [if_neg e2, if_neg (by omega)]
theorem partV_all {f : Nat -> Int} {m o : Nat} : partV f m o = .int .u8 ((cellsOf f m).getD o 0 : Nat) := by
 unfold partV; by_cases h : o < m
 . rw [if_pos h, cellsOf_at h]
 . rw [if_neg h, cellsOf_out h]
theorem starts_any (ro co bu : Int) (cs : ByteArray) (b off m cc : Nat) (fr tt : Nat -> Int) (w : World) (hm : m <= 4) (hcs : CartsIn w b off m fr tt) (hf : ∀ k, k < m -> 0 <= fr k ∧ fr k < 256) :
 Calls Tryz.prog 52 #[.agg #[.int .i64 ro, .int .i64 co, .string cs, .slice (some ⟨b, off, none⟩) m cc, .int .i64 bu]] w fun e w' => e = .returned (posV (cellsOf fr m)) ∧ Below w.heap.size w w' := by
 have HCS := zx hcs; have HF := zx hf; clear hcs hf; go_enter Tryz.func52, Tryz.ntmps52; go_wp2; have B0 : Hid (Below w.heap.size w (((w.alloc (.cells #[.int .i64 ro, .int .i64 co, .string cs, .slice (some ⟨b, off, none⟩) m cc, .int .i64 bu] 34)).alloc (.cells #[.int .u8 0, .int .u8 0, .int .u8 0, .int .u8 0] 103)).alloc (.cells #[.int .u8 0, .int .u8 0, .int .u8 0, .int .u8 0] 103))) := (((Below.refl _ w).alloc zl _).alloc (by simp) _).alloc (by simp; omega) _
 have y0 : ∀ o, (((w.alloc (.cells #[.int .i64 ro, .int .i64 co, .string cs, .slice (some ⟨b, off, none⟩) m cc, .int .i64 bu] 34)).alloc (.cells #[.int .u8 0, .int .u8 0, .int .u8 0, .int .u8 0] 103)).alloc (.cells #[.int .u8 0, .int .u8 0, .int .u8 0, .int .u8 0] 103)).cell? ⟨w.heap.size, o, none⟩ = #[Value.int .i64 ro, .int .i64 co, .string cs, .slice (some ⟨b, off, none⟩) m cc, .int .i64 bu][o]? := by
  intro o; go_simp
 have z0 : ∀ o, (((w.alloc (.cells #[.int .i64 ro, .int .i64 co, .string cs, .slice (some ⟨b, off, none⟩) m cc, .int .i64 bu] 34)).alloc (.cells #[.int .u8 0, .int .u8 0, .int .u8 0, .int .u8 0] 103)).alloc (.cells #[.int .u8 0, .int .u8 0, .int .u8 0, .int .u8 0] 103)).cell? ⟨w.heap.size + 1, o, none⟩ = #[Value.int .u8 0, .int .u8 0, .int .u8 0, .int .u8 0][o]? := by
  intro o; go_simp
 have zf : ∀ o, (((w.alloc (.cells #[.int .i64 ro, .int .i64 co, .string cs, .slice (some ⟨b, off, none⟩) m cc, .int .i64 bu] 34)).alloc (.cells #[.int .u8 0, .int .u8 0, .int .u8 0, .int .u8 0] 103)).alloc (.cells #[.int .u8 0, .int .u8 0, .int .u8 0, .int .u8 0] 103)).frozen? ⟨w.heap.size + 1, o, none⟩ = false := by
  intro o; go_simp
 have p0 : ∀ o, (((w.alloc (.cells #[.int .i64 ro, .int .i64 co, .string cs, .slice (some ⟨b, off, none⟩) m cc, .int .i64 bu] 34)).alloc (.cells #[.int .u8 0, .int .u8 0, .int .u8 0, .int .u8 0] 103)).alloc (.cells #[.int .u8 0, .int .u8 0, .int .u8 0, .int .u8 0] 103)).cell? ⟨w.heap.size + 2, o, none⟩ = #[Value.int .u8 0, .int .u8 0, .int .u8 0, .int .u8 0][o]? := by
  intro o; go_simp
 have pf : ∀ o, (((w.alloc (.cells #[.int .i64 ro, .int .i64 co, .string cs, .slice (some ⟨b, off, none⟩) m cc, .int .i64 bu] 34)).alloc (.cells #[.int .u8 0, .int .u8 0, .int .u8 0, .int .u8 0] 103)).alloc (.cells #[.int .u8 0, .int .u8 0, .int .u8 0, .int .u8 0] 103)).frozen? ⟨w.heap.size + 2, o, none⟩ = false := by
  intro o; go_simp
 have hz : (((w.alloc (.cells #[.int .i64 ro, .int .i64 co, .string cs, .slice (some ⟨b, off, none⟩) m cc, .int .i64 bu] 34)).alloc (.cells #[.int .u8 0, .int .u8 0, .int .u8 0, .int .u8 0] 103)).alloc (.cells #[.int .u8 0, .int .u8 0, .int .u8 0, .int .u8 0] 103)).heap.size = w.heap.size + 3 := by simp
 generalize (((w.alloc (.cells #[.int .i64 ro, .int .i64 co, .string cs, .slice (some ⟨b, off, none⟩) m cc, .int .i64 bu] 34)).alloc (.cells #[.int .u8 0, .int .u8 0, .int .u8 0, .int .u8 0] 103)).alloc (.cells #[.int .u8 0, .int .u8 0, .int .u8 0, .int .u8 0] 103)) = w0 at *; have P0 : Hid (∀ o, o < 4 -> w0.cell? ⟨w.heap.size + 2, o, none⟩ = some (partV fr 0 o)) := fun o ho => by
  have hc : o = 0 ∨ o = 1 ∨ o = 2 ∨ o = 3 := by omega
  rcases hc with rfl | rfl | rfl | rfl <;> rw [p0] <;> rfl
 have PF := zx pf; have Z0 := zx z0; have ZF := zx zf; have HZ := zx hz; clear z0 zf p0 pf hz y0; go_loopw [9] (fun v9 wr => ∃ k : Nat, k <= m ∧ v9 = .int .i64 k ∧ (∀ o, o < 4 -> wr.cell? ⟨w.heap.size + 2, o, none⟩ = some (partV fr k o)) ∧ (∀ o, wr.frozen? ⟨w.heap.size + 2, o, none⟩ = false) ∧ Below (w.heap.size + 2) w0 wr) (fun v9 _ => m - (intOf v9).toNat)
 case atStart => exact ⟨0, Nat.zero_le _, rfl, P0.out, PF.out, Below.refl _ _⟩
 case round =>
  obtain ⟨k, hk, rfl, hp, hpf, hbr⟩ := hrel; have HP := zx hp; have HB := zx hbr; have hzr := hbr.size; have hz := HZ.out; by_cases hlt : k < m
  . have HW : Hid (Below w.heap.size w wr) := B0.out.trans (hbr.mono (by omega)); obtain ⟨c0, c1⟩ := HCS.out k hlt; have c0 := zj HW.out c0; have c1 := zj HW.out c1; obtain ⟨h0, h1⟩ := HF.out k hlt; obtain ⟨f, hf⟩ := Int.eq_ofNat_of_zero_le h0; rw [hf] at c0 h1; have hw : IntKind.u8.wrap (f : Int) = (f : Int) := u8_wrap (by omega) (by omega); have x1 := hp k (by omega); unfold partV at x1; rw [if_neg (Nat.lt_irrefl k)] at x1; have hk4 : k < 4 := by omega
    have hk4I : (k : Int) < 4 := by omega
    have n1 : w.heap.size + 2 ≠ wr.heap.size := by omega
    have n2 : wr.heap.size ≠ w.heap.size + 2 := by omega
    have hs2 : w.heap.size + 2 < wr.heap.size := by omega
    have N1 := zx (partV_set hp hk4 hf); have HPF := zx hpf; clear hp hbr h0 h1 hf hz; go_wp2; go_roundw; case rel =>
     refine ⟨k + 1, by omega, by go_num, fun o ho => ?_, fun o => ?_, ?_⟩
     . exact zj ((Below.refl _ _).alloc zl _) (N1.out o ho)
     . rw [((Below.refl _ (wr.setCell ⟨w.heap.size + 1 + 1, k, none⟩ (.int .u8 (f : Int)))).alloc zl _).frozen (p := ⟨w.heap.size + 2, o, none⟩) (by show w.heap.size + 2 < (wr.setCell _ _).heap.size; simp [World.setCell]; omega), World.frozen?_setCell]; exact HPF.out o
     . exact (HB.out.setCell (by show w.heap.size + 2 <= w.heap.size + 1 + 1; omega) _).alloc (by simp [World.setCell]; omega) _
    case measure => simp [intOf]; omega
  . have e : k = m := by omega
    have HW := zx (B0.out.trans (hbr.mono (by omega))); obtain ⟨a0, ha0⟩ : ∃ v, v = (cellsOf fr m).getD 0 0 := ⟨_, rfl⟩
    obtain ⟨a1, ha1⟩ : ∃ v, v = (cellsOf fr m).getD 1 0 := ⟨_, rfl⟩
    obtain ⟨a2, ha2⟩ : ∃ v, v = (cellsOf fr m).getD 2 0 := ⟨_, rfl⟩
    obtain ⟨a3, ha3⟩ : ∃ v, v = (cellsOf fr m).getD 3 0 := ⟨_, rfl⟩
    have q0 : wr.cell? ⟨w.heap.size + 2, 0, none⟩ = some (.int .u8 a0) := by rw [hp 0 (by omega), e, partV_all, ha0]
    have q1 : wr.cell? ⟨w.heap.size + 2, 1, none⟩ = some (.int .u8 a1) := by rw [hp 1 (by omega), e, partV_all, ha1]
    have q2 : wr.cell? ⟨w.heap.size + 2, 2, none⟩ = some (.int .u8 a2) := by rw [hp 2 (by omega), e, partV_all, ha2]
    have q3 : wr.cell? ⟨w.heap.size + 2, 3, none⟩ = some (.int .u8 a3) := by rw [hp 3 (by omega), e, partV_all, ha3]
    have x1 : ∀ o, wr.cell? ⟨w.heap.size + 1, o, none⟩ = #[Value.int .u8 0, .int .u8 0, .int .u8 0, .int .u8 0][o]? := fun o => (hbr.cell (p := ⟨w.heap.size + 1, o, none⟩) (by show w.heap.size + 1 < _; omega)).trans (Z0.out o)
    have x2 : ∀ o, wr.frozen? ⟨w.heap.size + 1, o, none⟩ = false := fun o => (hbr.frozen (p := ⟨w.heap.size + 1, o, none⟩) (by show w.heap.size + 1 < _; omega)).trans (ZF.out o)
    have RES : Hid (posV (cellsOf fr m) = .agg #[.int .u8 a0, .int .u8 a1, .int .u8 a2, .int .u8 a3]) := by unfold Hid posV; rw [ha0, ha1, ha2, ha3]
    have hs1 : w.heap.size + 1 < wr.heap.size := by omega
    clear hp hbr hpf ha0 ha1 ha2 ha3 e hz; go_wp2; refine bodyPost_ret (v := .agg #[.int .u8 a0, .int .u8 a1, .int .u8 a2, .int .u8 a3]) (by simp [results, Tryz.results52]; go_simp) rfl ⟨by rw [RES.out], ?_⟩; iterate 4 refine Below.setCell ?_ (by show w.heap.size <= w.heap.size + 1; omega) _
    exact HW.out
theorem goals_any (ro co bu : Int) (cs : ByteArray) (b off m cc : Nat) (fr tt : Nat -> Int) (w : World) (hm : m <= 4) (hcs : CartsIn w b off m fr tt) (hf : ∀ k, k < m -> 0 <= tt k ∧ tt k < 256) :
 Calls Tryz.prog 49 #[.agg #[.int .i64 ro, .int .i64 co, .string cs, .slice (some ⟨b, off, none⟩) m cc, .int .i64 bu]] w fun e w' => e = .returned (posV (cellsOf tt m)) ∧ Below w.heap.size w w' := by
 have HCS := zx hcs; have HF := zx hf; clear hcs hf; go_enter Tryz.func49, Tryz.ntmps49; go_wp2; have B0 : Hid (Below w.heap.size w (((w.alloc (.cells #[.int .i64 ro, .int .i64 co, .string cs, .slice (some ⟨b, off, none⟩) m cc, .int .i64 bu] 34)).alloc (.cells #[.int .u8 0, .int .u8 0, .int .u8 0, .int .u8 0] 103)).alloc (.cells #[.int .u8 0, .int .u8 0, .int .u8 0, .int .u8 0] 103))) := (((Below.refl _ w).alloc zl _).alloc (by simp) _).alloc (by simp; omega) _
 have y0 : ∀ o, (((w.alloc (.cells #[.int .i64 ro, .int .i64 co, .string cs, .slice (some ⟨b, off, none⟩) m cc, .int .i64 bu] 34)).alloc (.cells #[.int .u8 0, .int .u8 0, .int .u8 0, .int .u8 0] 103)).alloc (.cells #[.int .u8 0, .int .u8 0, .int .u8 0, .int .u8 0] 103)).cell? ⟨w.heap.size, o, none⟩ = #[Value.int .i64 ro, .int .i64 co, .string cs, .slice (some ⟨b, off, none⟩) m cc, .int .i64 bu][o]? := by
  intro o; go_simp
 have z0 : ∀ o, (((w.alloc (.cells #[.int .i64 ro, .int .i64 co, .string cs, .slice (some ⟨b, off, none⟩) m cc, .int .i64 bu] 34)).alloc (.cells #[.int .u8 0, .int .u8 0, .int .u8 0, .int .u8 0] 103)).alloc (.cells #[.int .u8 0, .int .u8 0, .int .u8 0, .int .u8 0] 103)).cell? ⟨w.heap.size + 1, o, none⟩ = #[Value.int .u8 0, .int .u8 0, .int .u8 0, .int .u8 0][o]? := by
  intro o; go_simp
 have zf : ∀ o, (((w.alloc (.cells #[.int .i64 ro, .int .i64 co, .string cs, .slice (some ⟨b, off, none⟩) m cc, .int .i64 bu] 34)).alloc (.cells #[.int .u8 0, .int .u8 0, .int .u8 0, .int .u8 0] 103)).alloc (.cells #[.int .u8 0, .int .u8 0, .int .u8 0, .int .u8 0] 103)).frozen? ⟨w.heap.size + 1, o, none⟩ = false := by
  intro o; go_simp
 have p0 : ∀ o, (((w.alloc (.cells #[.int .i64 ro, .int .i64 co, .string cs, .slice (some ⟨b, off, none⟩) m cc, .int .i64 bu] 34)).alloc (.cells #[.int .u8 0, .int .u8 0, .int .u8 0, .int .u8 0] 103)).alloc (.cells #[.int .u8 0, .int .u8 0, .int .u8 0, .int .u8 0] 103)).cell? ⟨w.heap.size + 2, o, none⟩ = #[Value.int .u8 0, .int .u8 0, .int .u8 0, .int .u8 0][o]? := by
  intro o; go_simp
 have pf : ∀ o, (((w.alloc (.cells #[.int .i64 ro, .int .i64 co, .string cs, .slice (some ⟨b, off, none⟩) m cc, .int .i64 bu] 34)).alloc (.cells #[.int .u8 0, .int .u8 0, .int .u8 0, .int .u8 0] 103)).alloc (.cells #[.int .u8 0, .int .u8 0, .int .u8 0, .int .u8 0] 103)).frozen? ⟨w.heap.size + 2, o, none⟩ = false := by
  intro o; go_simp
 have hz : (((w.alloc (.cells #[.int .i64 ro, .int .i64 co, .string cs, .slice (some ⟨b, off, none⟩) m cc, .int .i64 bu] 34)).alloc (.cells #[.int .u8 0, .int .u8 0, .int .u8 0, .int .u8 0] 103)).alloc (.cells #[.int .u8 0, .int .u8 0, .int .u8 0, .int .u8 0] 103)).heap.size = w.heap.size + 3 := by simp
 generalize (((w.alloc (.cells #[.int .i64 ro, .int .i64 co, .string cs, .slice (some ⟨b, off, none⟩) m cc, .int .i64 bu] 34)).alloc (.cells #[.int .u8 0, .int .u8 0, .int .u8 0, .int .u8 0] 103)).alloc (.cells #[.int .u8 0, .int .u8 0, .int .u8 0, .int .u8 0] 103)) = w0 at *; have P0 : Hid (∀ o, o < 4 -> w0.cell? ⟨w.heap.size + 2, o, none⟩ = some (partV tt 0 o)) := fun o ho => by
  have hc : o = 0 ∨ o = 1 ∨ o = 2 ∨ o = 3 := by omega
  rcases hc with rfl | rfl | rfl | rfl <;> rw [p0] <;> rfl
 have PF := zx pf; have Z0 := zx z0; have ZF := zx zf; have HZ := zx hz; clear z0 zf p0 pf hz y0; go_loopw [9] (fun v9 wr => ∃ k : Nat, k <= m ∧ v9 = .int .i64 k ∧ (∀ o, o < 4 -> wr.cell? ⟨w.heap.size + 2, o, none⟩ = some (partV tt k o)) ∧ (∀ o, wr.frozen? ⟨w.heap.size + 2, o, none⟩ = false) ∧ Below (w.heap.size + 2) w0 wr) (fun v9 _ => m - (intOf v9).toNat)
 case atStart => exact ⟨0, Nat.zero_le _, rfl, P0.out, PF.out, Below.refl _ _⟩
 case round =>
  obtain ⟨k, hk, rfl, hp, hpf, hbr⟩ := hrel; have HP := zx hp; have HB := zx hbr; have hzr := hbr.size; have hz := HZ.out; by_cases hlt : k < m
  . have HW : Hid (Below w.heap.size w wr) := B0.out.trans (hbr.mono (by omega)); obtain ⟨c0, c1⟩ := HCS.out k hlt; have c0 := zj HW.out c0; have c1 := zj HW.out c1; obtain ⟨h0, h1⟩ := HF.out k hlt; obtain ⟨f, hf⟩ := Int.eq_ofNat_of_zero_le h0; rw [hf] at c1 h1; have hw : IntKind.u8.wrap (f : Int) = (f : Int) := u8_wrap (by omega) (by omega); have x1 := hp k (by omega); unfold partV at x1; rw [if_neg (Nat.lt_irrefl k)] at x1; have hk4 : k < 4 := by omega
    have hk4I : (k : Int) < 4 := by omega
    have n1 : w.heap.size + 2 ≠ wr.heap.size := by omega
    have n2 : wr.heap.size ≠ w.heap.size + 2 := by omega
    have hs2 : w.heap.size + 2 < wr.heap.size := by omega
    have N1 := zx (partV_set hp hk4 hf); have HPF := zx hpf; clear hp hbr h0 h1 hf hz; go_wp2; go_roundw; case rel =>
     refine ⟨k + 1, by omega, by go_num, fun o ho => ?_, fun o => ?_, ?_⟩
     . exact zj ((Below.refl _ _).alloc zl _) (N1.out o ho)
     . rw [((Below.refl _ (wr.setCell ⟨w.heap.size + 1 + 1, k, none⟩ (.int .u8 (f : Int)))).alloc zl _).frozen (p := ⟨w.heap.size + 2, o, none⟩) (by show w.heap.size + 2 < (wr.setCell _ _).heap.size; simp [World.setCell]; omega), World.frozen?_setCell]; exact HPF.out o
     . exact (HB.out.setCell (by show w.heap.size + 2 <= w.heap.size + 1 + 1; omega) _).alloc (by simp [World.setCell]; omega) _
    case measure => simp [intOf]; omega
  . have e : k = m := by omega
    have HW := zx (B0.out.trans (hbr.mono (by omega))); obtain ⟨a0, ha0⟩ : ∃ v, v = (cellsOf tt m).getD 0 0 := ⟨_, rfl⟩
    obtain ⟨a1, ha1⟩ : ∃ v, v = (cellsOf tt m).getD 1 0 := ⟨_, rfl⟩
    obtain ⟨a2, ha2⟩ : ∃ v, v = (cellsOf tt m).getD 2 0 := ⟨_, rfl⟩
    obtain ⟨a3, ha3⟩ : ∃ v, v = (cellsOf tt m).getD 3 0 := ⟨_, rfl⟩
    have q0 : wr.cell? ⟨w.heap.size + 2, 0, none⟩ = some (.int .u8 a0) := by rw [hp 0 (by omega), e, partV_all, ha0]
    have q1 : wr.cell? ⟨w.heap.size + 2, 1, none⟩ = some (.int .u8 a1) := by rw [hp 1 (by omega), e, partV_all, ha1]
    have q2 : wr.cell? ⟨w.heap.size + 2, 2, none⟩ = some (.int .u8 a2) := by rw [hp 2 (by omega), e, partV_all, ha2]
    have q3 : wr.cell? ⟨w.heap.size + 2, 3, none⟩ = some (.int .u8 a3) := by rw [hp 3 (by omega), e, partV_all, ha3]
    have x1 : ∀ o, wr.cell? ⟨w.heap.size + 1, o, none⟩ = #[Value.int .u8 0, .int .u8 0, .int .u8 0, .int .u8 0][o]? := fun o => (hbr.cell (p := ⟨w.heap.size + 1, o, none⟩) (by show w.heap.size + 1 < _; omega)).trans (Z0.out o)
    have x2 : ∀ o, wr.frozen? ⟨w.heap.size + 1, o, none⟩ = false := fun o => (hbr.frozen (p := ⟨w.heap.size + 1, o, none⟩) (by show w.heap.size + 1 < _; omega)).trans (ZF.out o)
    have RES : Hid (posV (cellsOf tt m) = .agg #[.int .u8 a0, .int .u8 a1, .int .u8 a2, .int .u8 a3]) := by unfold Hid posV; rw [ha0, ha1, ha2, ha3]
    have hs1 : w.heap.size + 1 < wr.heap.size := by omega
    clear hp hbr hpf ha0 ha1 ha2 ha3 e hz; go_wp2; refine bodyPost_ret (v := .agg #[.int .u8 a0, .int .u8 a1, .int .u8 a2, .int .u8 a3]) (by simp [results, Tryz.results49]; go_simp) rfl ⟨by rw [RES.out], ?_⟩; iterate 4 refine Below.setCell ?_ (by show w.heap.size <= w.heap.size + 1; omega) _
    exact HW.out
end
end Go.Proofs.YtnkgpinadgacgaaGreatDoor
