/- Several texts in one: Ln. -/
import Derived.Test.YtnkgpinadgacgabDoorMjzr
import Derived.Test.YtnkgpinadgacgabDoorMjzw
namespace Go.Proofs.YtnkgpinadgacgabDoor
open Go.RowKit M SM
set_option maxHeartbeats 1000000 in
theorem turned_any (ro bu : Int) (C c : Nat) (cs : ByteArray) (ca : Value) (w : World) (h1 : 1 ≤ C) (h2 : C ≤ 6) (hc : c ≤ 36) :
    Calls Tryd.prog 42 #[.agg #[.int .i64 ro, .int .i64 (C : Nat), .string cs, ca, .int .i64 bu], .int .i64 (c : Nat)] w fun e w' => e = .returned (.int .i64 (mirC C c : Nat)) ∧ Below w.heap.size w w' := by
  have hd : (c : Int) / (C : Int) = ((c / C : Nat) : Int) := (Int.natCast_ediv c C).symm
  have hm : (c : Int) % (C : Int) = ((c % C : Nat) : Int) := (Int.natCast_emod c C).symm
  obtain ⟨p1, p2, p3, p4⟩ := divmod_bd (a := (c : Int)) (co := (C : Int)) (by omega) (by omega) (by omega) (by omega)
  have hco : ((C : Int) == 0) = false := by simp; omega
  have hp : ((c / C : Nat) : Int) * (C : Int) = ((C * (c / C) : Nat) : Int) := by rw [Nat.mul_comm]; exact (Int.natCast_mul _ _).symm
  have hle : C * (c / C) ≤ c := Nat.mul_div_le c C
  have hlt : c % C < C := Nat.mod_lt c h1
  have RES : Hid (wrap64 (wrap64 (wrap64 (wrap64 ((c : Int) / (C : Int) * (C : Int)) + (C : Int)) - 1) - (c : Int) % (C : Int)) = ((mirC C c : Nat) : Int)) := by
    unfold Hid
    rw [hd, hm, hp]
    unfold mirC
    obtain ⟨X, hX⟩ : ∃ X, X = C * (c / C) := ⟨_, rfl⟩
    obtain ⟨Y, hY⟩ : ∃ Y, Y = c % C := ⟨_, rfl⟩
    rw [← hX, ← hY]
    rw [← hX] at hle
    rw [← hY] at hlt
    have wr : ∀ n : Int, -9223372036854775808 ≤ n → n ≤ 9223372036854775807 → wrap64 n = n := fun n h1 h2 => by unfold wrap64; omega
    rw [wr (X : Int) (by omega) (by omega), wr ((X : Int) + (C : Int)) (by omega) (by omega), wr ((X : Int) + (C : Int) - 1) (by omega) (by omega), wr ((X : Int) + (C : Int) - 1 - (Y : Int)) (by omega) (by omega)]
    omega
  clear hd hm hp hle hlt
  go_enter Tryd.func42, Tryd.ntmps42
  go_wp2
  go_quiet (fail)
  go_wp2
  go_ret
  exact ⟨ret_int RES.out, below_drewN ((Below.refl _ _).alloc (Nat.le_refl _) _) _⟩

def cB (cs : ByteArray) (d : Nat) : UInt8 := if h : d < cs.size then cs[d] else 0

def mirL (C : Nat) (cs : ByteArray) : List UInt8 := (List.range cs.size).map fun d => cB cs (mirC C d)

def mirS (C : Nat) (cs : ByteArray) : ByteArray := ⟨(mirL C cs).toArray⟩

/-- The row behind k cells. -/
def mirF (C : Nat) (cs : ByteArray) (k d : Nat) : Int := if mirC C d < k then ((cB cs (mirC C d)).toNat : Int) else 0

theorem mirS_size (C : Nat) (cs : ByteArray) : (mirS C cs).size = cs.size := by
  show (mirL C cs).toArray.size = cs.size
  simp [mirL]

theorem mirS_at {C : Nat} {cs : ByteArray} {d : Nat} (h : d < (mirS C cs).size) : (mirS C cs)[d] = cB cs (mirC C d) := by
  show (mirL C cs).toArray[d]'h = _
  simp [mirL]

theorem mir_yard {R C : Nat} {cs : ByteArray} (hC : 0 < C) (hsz : cs.size = R * C) : MirY C cs (mirS C cs) := by
  have hl : ∀ c, c < cs.size → mirC C c < cs.size := fun c hc => by rw [hsz] at hc ⊢; exact mir_lt hC hc
  have hb : ∀ (c : Nat) (hc : c < cs.size) (h : mirC C c < (mirS C cs).size), (mirS C cs)[mirC C c] = cs[c] := fun c hc h => by
    rw [mirS_at h, mir_mir hC]
    unfold cB
    rw [dif_pos hc]
  refine ⟨mirS_size C cs, hl, fun c hc => ?_, fun c hc => ?_⟩
  · have h1 : mirC C c < (mirS C cs).size := by rw [mirS_size]; exact hl c hc
    rw [freeB_in (by omega) (by omega), freeB_in (by omega) (by omega)]
    simp only [Int.toNat_natCast]
    rw [hb c hc h1]
  · have h1 : mirC C c < (mirS C cs).size := by rw [mirS_size]; exact hl c hc
    rw [badB_in h1, badB_in hc, hb c hc h1]

theorem mir_store {w : World} {g N C k : Nat} {t : TypeId} {cs : ByteArray} (hC : 0 < C) (h : w.rowIs g t N (byV (mirF C cs k))) (v : Int) (hv : v = ((cB cs k).toNat : Int)) : (w.setCell ⟨g, mirC C k, none⟩ (.int .u8 v)).rowIs g t N (byV (mirF C cs (k + 1))) := by
  refine (h.set (mirC C k) _).congr fun j hj => ?_
  unfold byV mirF
  by_cases e : j = mirC C k
  · subst e; rw [if_pos rfl, mir_mir hC, if_pos (Nat.lt_succ_self k), hv]
  · rw [if_neg e]
    have hne : mirC C j ≠ k := fun e2 => e (by rw [← e2, mir_mir hC])
    by_cases e2 : mirC C j < k
    · rw [if_pos e2, if_pos (show mirC C j < k + 1 by omega)]
    · rw [if_neg e2, if_neg (show ¬ mirC C j < k + 1 by omega)]

theorem mir_zero (C : Nat) (cs : ByteArray) (N : Nat) (w : World) (t : TypeId) (k : Nat) (hk : k = w.heap.size) : (w.alloc (.cells (madeCells #[.int .u8 0] N) t)).rowIs k t N (byV (mirF C cs 0)) := by
  subst hk
  refine rowIs_made _ _ _ _ fun i _ => ?_
  simp [Nat.mod_one, byV, mirF]

/-- What stands while the carts are mirrored. -/
structure MirEnv (w : World) (ro bu : Int) (C m b cap : Nat) (cs : ByteArray) (rb zb gb : Nat) (FR TT : Nat → Int) (j : Nat) (ac : Option Addr) (cc : Nat) (wr : World) : Prop where
  y : ∀ o, wr.cell? ⟨w.heap.size, o, none⟩ = #[Value.int .i64 ro, .int .i64 (C : Nat), .string cs, .slice (some ⟨b, 0, none⟩) m cap, .int .i64 bu][o]?
  res : ∀ o, wr.cell? ⟨rb, o, none⟩ = #[Value.int .i64 0, .int .i64 0, .string ⟨#[]⟩, .slice none 0 0, .int .i64 0][o]?
  resf : ∀ o, wr.frozen? ⟨rb, o, none⟩ = false
  z : ∀ o, wr.cell? ⟨zb, o, none⟩ = #[Value.int .i64 ro, .int .i64 (C : Nat), .string (mirS C cs), .slice ac j cc, .int .i64 bu][o]?
  zf : ∀ o, wr.frozen? ⟨zb, o, none⟩ = false
  own : wr.ownsRow (gb + 1) 49 2 (.slice ac j cc) j (cartCells FR TT j)
  below : Below w.heap.size w wr
  size : gb + 1 ≤ wr.heap.size

/-- One more cart is stored. -/
theorem MirEnv.add {w : World} {ro bu : Int} {C m b cap : Nat} {cs : ByteArray} {rb zb gb : Nat} {FR TT : Nat → Int} {j : Nat} {ac : Option Addr} {cc : Nat} {wr wx : World} {g1 c1 : Nat} (e : MirEnv w ro bu C m b cap cs rb zb gb FR TT j ac cc wr) (l1 : w.heap.size < rb) (l2 : rb < zb) (l3 : zb < gb) (hb : Below (gb + 1) wr wx) (ho : wx.ownsRow (gb + 1) 49 2 (.slice (some ⟨g1, 0, none⟩) (j + 1) c1) (j + 1) (cartCells FR TT (j + 1))) :
    MirEnv w ro bu C m b cap cs rb zb gb FR TT (j + 1) (some ⟨g1, 0, none⟩) c1 (wx.setCell ⟨zb, 3, none⟩ (.slice (some ⟨g1, 0, none⟩) (j + 1) c1)) := by
  refine ⟨fun o => (cell_aside (by show w.heap.size ≠ zb; omega)).trans ((hb.cell (p := ⟨w.heap.size, o, none⟩) (by show w.heap.size < _; omega)).trans (e.y o)), fun o => (cell_aside (by show rb ≠ zb; omega)).trans ((hb.cell (p := ⟨rb, o, none⟩) (by show rb < _; omega)).trans (e.res o)),
    fun o => by rw [World.frozen?_setCell]; exact (hb.frozen (p := ⟨rb, o, none⟩) (by show rb < _; omega)).trans (e.resf o), box_set (fun o => (hb.cell (p := ⟨zb, o, none⟩) (by show zb < _; omega)).trans (e.z o)) (by simp) rfl,
    fun o => by rw [World.frozen?_setCell]; exact (hb.frozen (p := ⟨zb, o, none⟩) (by show zb < _; omega)).trans (e.zf o), own_aside ho (by omega), (e.below.trans (hb.mono (by omega))).setCell (by show w.heap.size ≤ zb; omega) _, by simp only [World.setCell]; have := hb.size; have := e.size; simpa using (by omega : gb + 1 ≤ wx.heap.size)⟩

/-- What mirrored tells. -/
def MirTold (w w' : World) (ro bu : Int) (C m : Nat) (cs : ByteArray) (fr tt : Nat → Int) (v : Value) : Prop :=
  ∃ (g cc : Nat), v = .agg #[.int .i64 ro, .int .i64 (C : Nat), .string (mirS C cs), .slice (some ⟨g, 0, none⟩) m cc, .int .i64 bu] ∧ m ≤ cc ∧ CartsIn w' g 0 m (fun i => (mirC C (fr (m - 1 - i)).toNat : Nat)) (fun i => (mirC C (tt (m - 1 - i)).toNat : Nat)) ∧ Below w.heap.size w w'

set_option maxRecDepth 100000 in
set_option maxHeartbeats 8000000 in
theorem mirrored_any (ro bu : Int) (R C : Nat) (cs : ByteArray) (b m cap : Nat) (fr tt : Nat → Int) (w : World) (hs : cs.size ≤ 36) (h1 : 1 ≤ C) (h2 : C ≤ 6) (hsz : cs.size = R * C) (hm1 : 1 ≤ m) (hm4 : m ≤ 4) (hcs : CartsIn w b 0 m fr tt) (hfr : ∀ i, i < m → freeB cs (fr i) = true ∧ freeB cs (tt i) = true) :
    Calls Tryd.prog 20 #[.agg #[.int .i64 ro, .int .i64 (C : Nat), .string cs, .slice (some ⟨b, 0, none⟩) m cap, .int .i64 bu]] w fun e w' => ∃ v, e = .returned v ∧ MirTold w w' ro bu C m cs fr tt v := by
  have HCS := Hid.mk hcs
  have HFR := Hid.mk hfr
  have hC : 0 < C := h1
  have TU : Hid (∀ (u : World) (c : Nat), c < cs.size → Calls Tryd.prog 42 #[.agg #[.int .i64 ro, .int .i64 (C : Nat), .string cs, .slice (some ⟨b, 0, none⟩) m cap, .int .i64 bu], .int .i64 (c : Nat)] u fun e w' => e = .returned (.int .i64 (mirC C c : Nat)) ∧ Below u.heap.size u w') := fun u c hc => turned_any ro bu C c cs _ u h1 h2 (by omega)
  have ML : Hid (∀ c, c < cs.size → mirC C c < cs.size) := fun c hc => by rw [hsz] at hc ⊢; exact mir_lt hC hc
  have HSZ := Hid.mk hsz
  clear hcs hfr hsz
  go_enter Tryd.func20, Tryd.ntmps20
  go_wp2_with (at_make; go_must (refine wpList_make_all _ rfl _ _ 83 rfl 5 _ _ _ Tryd.underlying83 Tryd.infoByte _ _ _ _ cs.size rfl rfl rfl rfl (by omega) (by omega) ?_))
  obtain ⟨w3, hw3⟩ : ∃ q, q = (((w.alloc (Obj.cells #[Value.int IntKind.i64 ro, Value.int IntKind.i64 (C : Nat), Value.string cs, Value.slice (some ⟨b, 0, none⟩) m cap, Value.int IntKind.i64 bu] 28)).alloc (Obj.cells #[Value.int IntKind.i64 0, Value.int IntKind.i64 0, Value.string ⟨#[]⟩, Value.slice none 0 0, Value.int IntKind.i64 0] 28)).alloc (Obj.cells #[Value.int IntKind.i64 ro, Value.int IntKind.i64 (C : Nat), Value.string ⟨#[]⟩, Value.slice none 0 0, Value.int IntKind.i64 bu] 28)).alloc (Obj.cells (madeCells #[Value.int IntKind.u8 0] cs.size) 5) := ⟨_, rfl⟩
  have ROW3 : Hid (w3.rowIs (w.heap.size + 3) 5 cs.size (byV (mirF C cs 0))) := by unfold Hid; rw [hw3]; exact mir_zero C cs cs.size _ 5 _ (by simp)
  have B3 : Hid (Below w.heap.size w w3) := by unfold Hid; rw [hw3]; exact ((((Below.refl _ w).alloc (Nat.le_refl _) _).alloc (by simp) _).alloc (by simp; omega) _).alloc (by simp; omega) _
  have Y3 : Hid (∀ o, w3.cell? ⟨w.heap.size, o, none⟩ = #[Value.int .i64 ro, .int .i64 (C : Nat), .string cs, .slice (some ⟨b, 0, none⟩) m cap, .int .i64 bu][o]?) := by
    unfold Hid; intro o; rw [hw3]; go_simp
  have R3 : Hid (∀ o, w3.cell? ⟨w.heap.size + 1, o, none⟩ = #[Value.int .i64 0, .int .i64 0, .string ⟨#[]⟩, .slice none 0 0, .int .i64 0][o]?) := by
    unfold Hid; intro o; rw [hw3]; go_simp
  have F3 : Hid (∀ o, w3.frozen? ⟨w.heap.size + 1, o, none⟩ = false) := by
    unfold Hid; intro o; rw [hw3]; go_simp
  have Z3 : Hid (∀ o, w3.cell? ⟨w.heap.size + 2, o, none⟩ = #[Value.int .i64 ro, .int .i64 (C : Nat), .string ⟨#[]⟩, .slice none 0 0, .int .i64 bu][o]?) := by
    unfold Hid; intro o; rw [hw3]; go_simp
  have G3 : Hid (∀ o, w3.frozen? ⟨w.heap.size + 2, o, none⟩ = false) := by
    unfold Hid; intro o; rw [hw3]; go_simp
  have hz3 : w3.heap.size = w.heap.size + 4 := by rw [hw3]; simp
  try rw [← hw3]
  clear hw3
  obtain ⟨gb, hgb⟩ : ∃ q, q = w.heap.size + 1 + 1 + 1 := ⟨_, rfl⟩
  obtain ⟨zb, hzb⟩ : ∃ q, q = w.heap.size + 1 + 1 := ⟨_, rfl⟩
  obtain ⟨rb, hrb⟩ : ∃ q, q = w.heap.size + 1 := ⟨_, rfl⟩
  rw [← hgb, ← hzb, ← hrb]
  rw [show w.heap.size + 3 = gb by omega] at ROW3
  rw [show w.heap.size + 1 = rb by omega] at R3 F3
  rw [show w.heap.size + 2 = zb by omega] at Z3 G3
  have hgz : w3.heap.size = gb + 1 := by omega
  have l1 : w.heap.size < rb := by omega
  have l2 : rb < zb := by omega
  have l3 : zb < gb := by omega
  clear hgb hzb hrb hz3
  have n1 : gb ≠ w.heap.size := by omega
  have n2 : w.heap.size ≠ gb := by omega
  go_loopw [5] (fun v5 wr => ∃ k : Nat, v5 = .int .i64 k ∧ k ≤ cs.size ∧ wr.rowIs (gb) 5 cs.size (byV (mirF C cs k)) ∧ Below (gb) w3 wr) (fun v5 _ => cs.size - (intOf v5).toNat)
  case atStart => exact ⟨0, rfl, Nat.zero_le _, ROW3.out, Below.refl _ _⟩
  case round =>
    obtain ⟨w4, rfl⟩ : ∃ q, q = wr := ⟨_, rfl⟩
    obtain ⟨k, rfl, hk, hrow, hb4⟩ := hrel
    have ROW := Hid.mk hrow
    have B4 := Hid.mk hb4
    have hz4 := hb4.size
    have Y4 : Hid (∀ o, w4.cell? ⟨w.heap.size, o, none⟩ = #[Value.int .i64 ro, .int .i64 (C : Nat), .string cs, .slice (some ⟨b, 0, none⟩) m cap, .int .i64 bu][o]?) := fun o => (B4.out.cell (p := ⟨w.heap.size, o, none⟩) (by show w.heap.size < _; omega)).trans (Y3.out o)
    have y40 := Y4.out 0
    have y41 := Y4.out 1
    have y42 := Y4.out 2
    have y43 := Y4.out 3
    have y44 := Y4.out 4
    simp only [List.getElem?_toArray, List.getElem?_cons_zero, List.getElem?_cons_succ] at y40 y41 y42 y43 y44
    have hzw : w.heap.size < w4.heap.size := by omega
    have hgw : gb < w4.heap.size := by omega
    by_cases hlt : k < cs.size
    · have hkI : (k : Int) < (cs.size : Int) := by omega
      have TU4 : Hid (Calls Tryd.prog 42 #[.agg #[.int .i64 ro, .int .i64 (C : Nat), .string cs, .slice (some ⟨b, 0, none⟩) m cap, .int .i64 bu], .int .i64 (k : Nat)] w4.drew fun e w' => e = .returned (.int .i64 (mirC C k : Nat)) ∧ Below w4.heap.size w4.drew w') := TU.out w4.drew k hlt
      have hmc := ML.out k hlt
      obtain ⟨z, hz⟩ : ∃ z, z = mirC C k := ⟨_, rfl⟩
      rw [← hz] at hmc TU4
      have x1 := hrow.cell (i := z) hmc
      have x3 := hrow.frozen z
      have HZ := Hid.mk hz
      have hzI : (z : Int) < (cs.size : Int) := by omega
      clear hrow hb4 hz
      go_upto_region 6 with fail
      go_region_held3 (fun w' => w'.cell? ⟨w.heap.size, 0, none⟩ = some (.int .i64 ro) ∧ w'.cell? ⟨w.heap.size, 1, none⟩ = some (.int .i64 (C : Nat)) ∧ w'.cell? ⟨w.heap.size, 2, none⟩ = some (.string cs) ∧ w'.cell? ⟨w.heap.size, 3, none⟩ = some (.slice (some ⟨b, 0, none⟩) m cap) ∧ w'.cell? ⟨w.heap.size, 4, none⟩ = some (.int .i64 bu)) (go_keep)
        (first
          | (go_at_call 42; refine (TU4.out).mono ?_; rintro e w5 ⟨rfl, hb5⟩; have q0 : w5.cell? ⟨w.heap.size, 0, none⟩ = some (.int .i64 ro) := (hb5.cell (p := ⟨w.heap.size, 0, none⟩) hzw).trans y40; have q1 : w5.cell? ⟨w.heap.size, 1, none⟩ = some (.int .i64 (C : Nat)) := (hb5.cell (p := ⟨w.heap.size, 1, none⟩) hzw).trans y41; have q2 : w5.cell? ⟨w.heap.size, 2, none⟩ = some (.string cs) := (hb5.cell (p := ⟨w.heap.size, 2, none⟩) hzw).trans y42; have q3 : w5.cell? ⟨w.heap.size, 3, none⟩ = some (.slice (some ⟨b, 0, none⟩) m cap) := (hb5.cell (p := ⟨w.heap.size, 3, none⟩) hzw).trans y43; have q4 : w5.cell? ⟨w.heap.size, 4, none⟩ = some (.int .i64 bu) := (hb5.cell (p := ⟨w.heap.size, 4, none⟩) hzw).trans y44; have x5 : w5.cell? ⟨gb, z, none⟩ = some (byV (mirF C cs k) z) := (hb5.cell (p := ⟨gb, z, none⟩) hgw).trans x1; have f5 : w5.frozen? ⟨gb, z, none⟩ = false := (hb5.frozen (p := ⟨gb, z, none⟩) hgw).trans x3; have B5 : Hid (Below w4.heap.size w4 w5) := (Below.refl _ w4).drew.trans hb5; clear hb5))
      all_goals (try go_wp2_with fail)
      all_goals go_roundw
      repeat (case rel =>
        have hv : ((cs[k].toNat : Nat) : Int) = ((cB cs k).toNat : Int) := by unfold cB; rw [dif_pos hlt]
        refine ⟨k + 1, by go_num, by omega, ?_, (B4.out.trans (B5.out.mono (by omega))).setCell (Nat.le_refl _) _⟩
        rw [HZ.out]
        exact mir_store hC (rowIs_below ROW.out B5.out) _ hv)
      repeat (case measure => simp [intOf]; omega)
    · have hd : k = cs.size := by omega
      subst hd
      have hkI : ¬ (cs.size : Int) < (cs.size : Int) := by omega
      have hlen : (mirL C cs).length = cs.size := by simp [mirL]
      have hcv : (convert 83 9 (.slice (some ⟨gb, 0, none⟩) (mirL C cs).length cs.size)).run Tryd.prog w4 = .ok (.string (mirS C cs)) w4 :=
        run_convert_bytes_back w4 83 9 5 ⟨gb, 0, none⟩ cs.size (mirL C cs) Tryd.underlying83 Tryd.underlying5 Tryd.underlying9 (fun j hj => by
          have hjk : j < cs.size := by rw [hlen] at hj; exact hj
          have e1 : (⟨gb, 0, none⟩ : Addr).add j = ⟨gb, j, none⟩ := by unfold Addr.add; split <;> simp_all
          rw [e1, hrow.cell hjk]
          simp [byV, mirF, ML.out j hjk, mirL])
      rw [hlen] at hcv
      have z4 : Hid (∀ o, w4.cell? ⟨zb, o, none⟩ = #[Value.int .i64 ro, .int .i64 (C : Nat), .string ⟨#[]⟩, .slice none 0 0, .int .i64 bu][o]?) := fun o => (B4.out.cell (p := ⟨zb, o, none⟩) (by show zb < _; omega)).trans (Z3.out o)
      have g4 : Hid (∀ o, w4.frozen? ⟨zb, o, none⟩ = false) := fun o => (B4.out.frozen (p := ⟨zb, o, none⟩) (by show zb < _; omega)).trans (G3.out o)
      have z42 := z4.out 2
      have g42 := g4.out 2
      simp only [List.getElem?_toArray, List.getElem?_cons_zero, List.getElem?_cons_succ] at z42
      clear hrow hb4
      go_upto_region 8 with fail
      obtain ⟨w5, hw5⟩ : ∃ q, q = w4.setCell ⟨zb, 2, none⟩ (.string (mirS C cs)) := ⟨_, rfl⟩
      rw [← hw5]
      obtain ⟨FR, hFR⟩ : ∃ f : Nat → Int, f = fun i => ((mirC C (fr (m - 1 - i)).toNat : Nat) : Int) := ⟨_, rfl⟩
      obtain ⟨TT, hTT⟩ : ∃ f : Nat → Int, f = fun i => ((mirC C (tt (m - 1 - i)).toNat : Nat) : Int) := ⟨_, rfl⟩
      have HFRe := Hid.mk hFR
      have HTTe := Hid.mk hTT
      have E5 : Hid (MirEnv w ro bu C m b cap cs rb zb gb FR TT 0 none 0 w5) := by
        have hb : Below zb w4 w5 := by rw [hw5]; exact (Below.refl zb w4).setCell (p := ⟨zb, 2, none⟩) (Nat.le_refl _) _
        refine ⟨fun o => (hb.cell (p := ⟨w.heap.size, o, none⟩) (by show w.heap.size < _; omega)).trans (Y4.out o), fun o => (hb.cell (p := ⟨rb, o, none⟩) (by show rb < _; omega)).trans ((B4.out.cell (p := ⟨rb, o, none⟩) (by show rb < _; omega)).trans (R3.out o)),
          fun o => (hb.frozen (p := ⟨rb, o, none⟩) (by show rb < _; omega)).trans ((B4.out.frozen (p := ⟨rb, o, none⟩) (by show rb < _; omega)).trans (F3.out o)), by rw [hw5]; exact box_set z4.out (by simp) rfl,
          fun o => by rw [hw5, World.frozen?_setCell]; exact g4.out o, ⟨rfl, .inl ⟨rfl, rfl⟩⟩, B3.out.trans ((B4.out.mono (by omega)).trans (hb.mono (by omega))), by rw [hw5]; simp [World.setCell]; omega⟩
      clear hw5 hFR hTT y40 y41 y42 y43 y44 z42 g42 hcv ROW hlen
      have y53 := E5.out.y 3
      simp only [List.getElem?_toArray, List.getElem?_cons_zero, List.getElem?_cons_succ] at y53
      have hm1I : IntKind.i64.wrap ((m : Int) - 1) = (m : Int) - 1 := by rw [IntKind.wrap_i64]; omega
      obtain ⟨i0, hi0, hi1, hi2, hi3⟩ := info_parts Tryd.infoCart
      go_wp2_with fail
      go_loopw [6] (fun v6 wr => ∃ (j : Nat) (I : Int) (ac : Option Addr) (cc : Nat), v6 = .int .i64 I ∧ I = (m : Int) - 1 - (j : Int) ∧ j ≤ m ∧ MirEnv w ro bu C m b cap cs rb zb gb FR TT j ac cc wr) (fun v6 _ => (intOf v6 + 1).toNat)
      case atStart => exact ⟨0, _, none, 0, rfl, by simp, Nat.zero_le _, E5.out⟩
      case round =>
        obtain ⟨w6, rfl⟩ : ∃ q, q = wr := ⟨_, rfl⟩
        obtain ⟨j, I, ac, cc, rfl, hI, hj, he⟩ := hrel
        have E6 := Hid.mk he
        have hz6 := he.size
        clear he E5 y53
        by_cases hlt : j < m
        · obtain ⟨k, hk⟩ : ∃ k : Nat, k = m - 1 - j := ⟨_, rfl⟩
          have hIk : I = (k : Int) := by omega
          subst hIk
          have hkm : k < m := by omega
          have hkI : (0 : Int) ≤ (k : Int) := by omega
          have hkmI : (k : Int) < (m : Int) := by omega
          obtain ⟨c0, c1⟩ := HCS.out k hkm
          have c0 := cell_later E6.out.below c0
          have c1 := cell_later E6.out.below c1
          simp only [Nat.zero_add] at c0 c1
          obtain ⟨f, ef, hf⟩ := free_nat (HFR.out k hkm).1
          obtain ⟨t, et, ht⟩ := free_nat (HFR.out k hkm).2
          rw [ef] at c0
          rw [et] at c1
          have hbl : b < w.heap.size := World.block_lt_of_cell? (a := ⟨b, 0 + k * 2, none⟩) w (HCS.out k hkm).1
          have EF : Hid (FR j = ((mirC C f : Nat) : Int)) := by rw [HFRe.out]; show ((mirC C (fr (m - 1 - j)).toNat : Nat) : Int) = _; rw [← hk, ef]; rfl
          have ET : Hid (TT j = ((mirC C t : Nat) : Int)) := by rw [HTTe.out]; show ((mirC C (tt (m - 1 - j)).toNat : Nat) : Int) = _; rw [← hk, et]; rfl
          have HK := Hid.mk hk
          have HII := Hid.mk hI
          clear hk hI ef et
          have C0 := Hid.mk c0
          have C1 := Hid.mk c1
          have SALL : Hid (∀ u : World, Below (gb + 1) w6 u → (∀ o, u.cell? ⟨w.heap.size, o, none⟩ = #[Value.int .i64 ro, .int .i64 (C : Nat), .string cs, .slice (some ⟨b, 0, none⟩) m cap, .int .i64 bu][o]?) ∧ u.cell? ⟨zb, 3, none⟩ = some (.slice ac j cc) ∧ u.cell? ⟨b, k * 2, none⟩ = some (.int .i64 (f : Nat)) ∧ u.cell? ⟨b, k * 2 + 1, none⟩ = some (.int .i64 (t : Nat))) := fun u hu =>
            ⟨fun o => (hu.cell (p := ⟨w.heap.size, o, none⟩) (by show w.heap.size < _; omega)).trans (E6.out.y o), (hu.cell (p := ⟨zb, 3, none⟩) (by show zb < _; omega)).trans (E6.out.z 3), (hu.cell (p := ⟨b, k * 2, none⟩) (by show b < _; omega)).trans C0.out, (hu.cell (p := ⟨b, k * 2 + 1, none⟩) (by show b < _; omega)).trans C1.out⟩
          have HS := SALL.out w6.drew ((Below.refl _ w6).drew)
          clear c0 c1
          go_upto_region 11 with fail
          refine wp_region_any (by kernel_rfl) ?_
          change wpAny _ _ _ _ _ _ _ (World.drew _)
          refine wpAny_take (i := 0) (v := (.pointer (some ⟨zb, 3, none⟩))) rfl (by kernel_rfl) (by kernel_rfl) (by kernel_rfl) (fun _ _ _ h => h) (Or.inl ⟨by rfl, fun u => by go_simp⟩) ?_
          refine wpAny_take (i := 3) (v := (.pointer (some ⟨w.heap.size, 3, none⟩))) rfl (by kernel_rfl) (by kernel_rfl) (by kernel_rfl) (fun _ _ _ h => h) (Or.inl ⟨by rfl, fun u => by go_simp⟩) ?_
          refine wpAny_take (i := 5) (v := (.int .i64 (k : Nat))) rfl (by kernel_rfl) (by kernel_rfl) (by kernel_rfl) (fun _ _ _ h => h) (Or.inl ⟨by rfl, fun u => by go_simp⟩) ?_
          refine wpAny_take (i := 11) (v := (.pointer (some ⟨w.heap.size, 3, none⟩))) rfl (by kernel_rfl) (by kernel_rfl) (by kernel_rfl) (fun _ _ _ h => h) (Or.inl ⟨by rfl, fun u => by go_simp⟩) ?_
          refine wpAny_take (i := 13) (v := (.int .i64 (k : Nat))) rfl (by kernel_rfl) (by kernel_rfl) (by kernel_rfl) (fun _ _ _ h => h) (Or.inl ⟨by rfl, fun u => by go_simp⟩) ?_
          refine LM.any_of_L (late := LM.lateOf [21, 22]) (S := (fun u : World => (∀ o, u.cell? ⟨w.heap.size, o, none⟩ = #[Value.int .i64 ro, .int .i64 (C : Nat), .string cs, .slice (some ⟨b, 0, none⟩) m cap, .int .i64 bu][o]?) ∧ u.cell? ⟨zb, 3, none⟩ = some (.slice ac j cc) ∧ u.cell? ⟨b, k * 2, none⟩ = some (.int .i64 (f : Nat)) ∧ u.cell? ⟨b, k * 2 + 1, none⟩ = some (.int .i64 (t : Nat)))) _ _ _ _ ?_
          refine LM.L_take (i := 1) (v := (.slice ac j cc)) rfl (by kernel_rfl) (by kernel_rfl) (by kernel_rfl) (by kernel_rfl) (fun _ _ _ h => h) (Or.inl ⟨by rfl, fun u hu => by have h5 := hu.2.1; go_simp⟩) HS ?_
          refine LM.L_take (i := 2) (v := (.agg #[.int .i64 ro, .int .i64 (C : Nat), .string cs, .slice (some ⟨b, 0, none⟩) m cap, .int .i64 bu])) rfl (by kernel_rfl) (by kernel_rfl) (by kernel_rfl) (by kernel_rfl) (fun _ _ _ h => h) (Or.inl ⟨by rfl, fun u hu => by have a0 := hu.1 0; have a1 := hu.1 1; have a2 := hu.1 2; have a3 := hu.1 3; have a4 := hu.1 4; simp only [List.getElem?_toArray, List.getElem?_cons_zero, List.getElem?_cons_succ] at a0 a1 a2 a3 a4; go_simp⟩) HS ?_
          refine LM.L_take (i := 4) (v := (.slice (some ⟨b, 0, none⟩) m cap)) rfl (by kernel_rfl) (by kernel_rfl) (by kernel_rfl) (by kernel_rfl) (fun _ _ _ h => h) (Or.inl ⟨by rfl, fun u hu => by have a3 := hu.1 3; simp only [List.getElem?_toArray, List.getElem?_cons_zero, List.getElem?_cons_succ] at a3; go_simp⟩) HS ?_
          refine LM.L_take (i := 6) (v := (.pointer (some ⟨b, k * 2, none⟩))) rfl (by kernel_rfl) (by kernel_rfl) (by kernel_rfl) (by kernel_rfl) (fun _ _ _ h => h) (Or.inl ⟨by rfl, fun u _ => by go_simp⟩) HS ?_
          refine LM.L_take (i := 7) (v := (.pointer (some ⟨b, k * 2, none⟩))) rfl (by kernel_rfl) (by kernel_rfl) (by kernel_rfl) (by kernel_rfl) (fun _ _ _ h => h) (Or.inl ⟨by rfl, fun u _ => by go_simp⟩) HS ?_
          refine LM.L_take (i := 8) (v := (.int .i64 (f : Nat))) rfl (by kernel_rfl) (by kernel_rfl) (by kernel_rfl) (by kernel_rfl) (fun _ _ _ h => h) (Or.inl ⟨by rfl, fun u hu => by have h5 := hu.2.2.1; go_simp⟩) HS ?_
          refine LM.L_take (i := 10) (v := (.agg #[.int .i64 ro, .int .i64 (C : Nat), .string cs, .slice (some ⟨b, 0, none⟩) m cap, .int .i64 bu])) rfl (by kernel_rfl) (by kernel_rfl) (by kernel_rfl) (by kernel_rfl) (fun _ _ _ h => h) (Or.inl ⟨by rfl, fun u hu => by have a0 := hu.1 0; have a1 := hu.1 1; have a2 := hu.1 2; have a3 := hu.1 3; have a4 := hu.1 4; simp only [List.getElem?_toArray, List.getElem?_cons_zero, List.getElem?_cons_succ] at a0 a1 a2 a3 a4; go_simp⟩) HS ?_
          refine LM.L_take (i := 12) (v := (.slice (some ⟨b, 0, none⟩) m cap)) rfl (by kernel_rfl) (by kernel_rfl) (by kernel_rfl) (by kernel_rfl) (fun _ _ _ h => h) (Or.inl ⟨by rfl, fun u hu => by have a3 := hu.1 3; simp only [List.getElem?_toArray, List.getElem?_cons_zero, List.getElem?_cons_succ] at a3; go_simp⟩) HS ?_
          refine LM.L_take (i := 14) (v := (.pointer (some ⟨b, k * 2, none⟩))) rfl (by kernel_rfl) (by kernel_rfl) (by kernel_rfl) (by kernel_rfl) (fun _ _ _ h => h) (Or.inl ⟨by rfl, fun u _ => by go_simp⟩) HS ?_
          refine LM.L_take (i := 15) (v := (.pointer (some ⟨b, k * 2 + 1, none⟩))) rfl (by kernel_rfl) (by kernel_rfl) (by kernel_rfl) (by kernel_rfl) (fun _ _ _ h => h) (Or.inl ⟨by rfl, fun u _ => by go_simp⟩) HS ?_
          refine LM.L_take (i := 16) (v := (.int .i64 (t : Nat))) rfl (by kernel_rfl) (by kernel_rfl) (by kernel_rfl) (by kernel_rfl) (fun _ _ _ h => h) (Or.inl ⟨by rfl, fun u hu => by have h5 := hu.2.2.2; go_simp⟩) HS ?_
          refine LM.L_one (i := 9) rfl (by kernel_rfl) rfl (fun K hK => ?_)
          go_simp
          refine (TU.out _ f hf).mono ?_
          rintro e w7 ⟨rfl, hb7⟩
          have B7 : Hid (Below w6.heap.size w6 w7) := (Below.refl _ w6).drew.trans hb7
          have HS : (fun u : World => (∀ o, u.cell? ⟨w.heap.size, o, none⟩ = #[Value.int .i64 ro, .int .i64 (C : Nat), .string cs, .slice (some ⟨b, 0, none⟩) m cap, .int .i64 bu][o]?) ∧ u.cell? ⟨zb, 3, none⟩ = some (.slice ac j cc) ∧ u.cell? ⟨b, k * 2, none⟩ = some (.int .i64 (f : Nat)) ∧ u.cell? ⟨b, k * 2 + 1, none⟩ = some (.int .i64 (t : Nat))) w7 := SALL.out w7 (B7.out.mono hz6)
          have hz7 := B7.out.size
          clear hb7
          refine hK _ _ HS ?_
          clear hK K
          refine LM.L_one (i := 17) rfl (by kernel_rfl) rfl (fun K hK => ?_)
          go_simp
          refine (TU.out _ t ht).mono ?_
          rintro e w8 ⟨rfl, hb8⟩
          have B8 : Hid (Below w6.heap.size w6 w8) := B7.out.trans (hb8.mono hz7)
          have HS : (fun u : World => (∀ o, u.cell? ⟨w.heap.size, o, none⟩ = #[Value.int .i64 ro, .int .i64 (C : Nat), .string cs, .slice (some ⟨b, 0, none⟩) m cap, .int .i64 bu][o]?) ∧ u.cell? ⟨zb, 3, none⟩ = some (.slice ac j cc) ∧ u.cell? ⟨b, k * 2, none⟩ = some (.int .i64 (f : Nat)) ∧ u.cell? ⟨b, k * 2 + 1, none⟩ = some (.int .i64 (t : Nat))) w8 := SALL.out w8 (B8.out.mono hz6)
          have hz8 := B8.out.size
          clear hb8
          refine hK _ _ HS ?_
          clear hK K
          refine LM.L_take (i := 18) (v := .agg #[.int .i64 (mirC C f : Nat), .int .i64 (mirC C t : Nat)]) rfl (by kernel_rfl) (by kernel_rfl) (by kernel_rfl) (by kernel_rfl) (fun _ _ _ h => h) (Or.inl ⟨by rfl, fun u _ => by go_simp⟩) HS ?_
          refine LM.L_one (i := 19) rfl (by kernel_rfl) rfl (fun K hK => ?_)
          go_simp
          have B9 : Hid (Below w6.heap.size w6 (w8.alloc (.cells #[.int .i64 (mirC C f : Nat), .int .i64 (mirC C t : Nat)] 49))) := B8.out.alloc hz8 _
          have HS : (fun u : World => (∀ o, u.cell? ⟨w.heap.size, o, none⟩ = #[Value.int .i64 ro, .int .i64 (C : Nat), .string cs, .slice (some ⟨b, 0, none⟩) m cap, .int .i64 bu][o]?) ∧ u.cell? ⟨zb, 3, none⟩ = some (.slice ac j cc) ∧ u.cell? ⟨b, k * 2, none⟩ = some (.int .i64 (f : Nat)) ∧ u.cell? ⟨b, k * 2 + 1, none⟩ = some (.int .i64 (t : Nat))) (w8.alloc (.cells #[.int .i64 (mirC C f : Nat), .int .i64 (mirC C t : Nat)] 49)) := SALL.out _ (B9.out.mono hz6)
          have NW : ∀ q u, [Value.int .i64 (mirC C f : Nat), .int .i64 (mirC C t : Nat)][q]? = some u → ((w8.alloc (.cells #[.int .i64 (mirC C f : Nat), .int .i64 (mirC C t : Nat)] 49))).cell? ((⟨w8.heap.size, 0, none⟩ : Addr).add q) = some u := cell_two_new w8 _ _ _
          have hz9 : ((w8.alloc (.cells #[.int .i64 (mirC C f : Nat), .int .i64 (mirC C t : Nat)] 49))).heap.size = w8.heap.size + 1 := by show (w8.alloc _).heap.size = _; simp
          refine hK _ (w8.alloc (.cells #[.int .i64 (mirC C f : Nat), .int .i64 (mirC C t : Nat)] 49)) HS ?_
          clear hK K
          generalize (w8.alloc (.cells #[.int .i64 (mirC C f : Nat), .int .i64 (mirC C t : Nat)] 49)) = w9 at *
          have OW9 : Hid (w9.ownsRow (gb + 1) 49 2 (.slice ac j cc) j (cartCells FR TT j)) := own_later E6.out.own B9.out
          have NWH := Hid.mk NW
          have D9 : ∀ q, Value.ownBlock (.slice ac j cc) = some q → gb + 1 ≤ q := fun q hq => (E6.out.own.lt q hq).1
          have hbase9 : gb + 1 ≤ w9.heap.size := by have := B9.out.size; omega
          clear NW
          refine LM.L_one (i := 20) rfl (by kernel_rfl) rfl (fun K hK => ?_)
          refine wp_append_lies w9 (.tmp 46) (.tmp 64) 26 rfl (gb + 1) 49 i0 _ 2 16 Tryd.underlying26 hi0 hi1 hi2 hi3 rfl (by omega) (.slice ac j cc) j (cartCells FR TT j) (by go_simp) OW9.out ⟨w8.heap.size, 0, none⟩ 1 1 [.int .i64 (mirC C f : Nat), .int .i64 (mirC C t : Nat)] (by go_simp) rfl NWH.out (two_oneCell _ _) (by omega) (by unfold maxLen; omega) (by omega) hbase9 (w8.heap.size + 1) hz9 ?_
          intro g10 c10 w10 ho10 hg10 hl10 _
          have B10 : Hid (Below (gb + 1) w6 w10) := (B9.out.mono hz6).grown hg10 hbase9 D9
          have HS : (fun u : World => (∀ o, u.cell? ⟨w.heap.size, o, none⟩ = #[Value.int .i64 ro, .int .i64 (C : Nat), .string cs, .slice (some ⟨b, 0, none⟩) m cap, .int .i64 bu][o]?) ∧ u.cell? ⟨zb, 3, none⟩ = some (.slice ac j cc) ∧ u.cell? ⟨b, k * 2, none⟩ = some (.int .i64 (f : Nat)) ∧ u.cell? ⟨b, k * 2 + 1, none⟩ = some (.int .i64 (t : Nat))) w10 := SALL.out _ B10.out
          have f10 : w10.frozen? ⟨zb, 3, none⟩ = false := (B10.out.frozen (p := ⟨zb, 3, none⟩) (by show zb < _; omega)).trans (E6.out.zf 3)
          have OW10 := Hid.mk ho10
          clear ho10 hg10 hl10
          refine hK _ _ HS ?_
          clear hK K
          refine LM.L_rest (by kernel_rfl) ?_
          refine wpAny_take (i := 21) (v := (.pointer (some ⟨zb, 3, none⟩))) rfl (by kernel_rfl) (by kernel_rfl) (by kernel_rfl) (fun _ _ _ h => h) (Or.inl ⟨by rfl, fun u => by go_simp⟩) ?_
          refine LM.any_one (i := 22) rfl (by kernel_rfl) rfl (fun K hK => ?_)
          have z10 := HS.2.1
          go_simp
          refine hK _ _ ?_
          refine wpAny_done (by kernel_rfl) ?_ _
          clear hK K
          have E11 : Hid (MirEnv w ro bu C m b cap cs rb zb gb FR TT (j + 1) (some ⟨g10, 0, none⟩) c10 (w10.setCell ⟨zb, 3, none⟩ (.slice (some ⟨g10, 0, none⟩) (j + 1) c10))) := by
            refine E6.out.add l1 l2 l3 B10.out ?_
            show w10.ownsRow _ _ _ _ _ (cartCells FR TT j ++ [.int .i64 (FR j), .int .i64 (TT j)])
            rw [EF.out, ET.out]
            exact OW10.out
          clear z10 f10 HS
          generalize w10.setCell ⟨zb, 3, none⟩ (.slice (some ⟨g10, 0, none⟩) (j + 1) c10) = w11 at *
          go_wp2_with fail
          go_roundw
          case rel => exact ⟨j + 1, _, some ⟨g10, 0, none⟩, c10, rfl, by have := HII.out; omega, by omega, E11.out⟩
          case measure => simp [intOf]
        · have hd : j = m := by omega
          subst hd
          have hI1 : I = -1 := by omega
          subst hI1
          have hkI : ¬ (0 : Int) ≤ -1 := by decide
          have q0 := E6.out.z 0
          have q1 := E6.out.z 1
          have q2 := E6.out.z 2
          have q3 := E6.out.z 3
          have q4 := E6.out.z 4
          have x1 := E6.out.res
          have x2 := E6.out.resf
          simp only [List.getElem?_toArray, List.getElem?_cons_zero, List.getElem?_cons_succ] at q0 q1 q2 q3 q4
          go_wp2_with fail
          refine bodyPost_ret (v := .agg #[.int .i64 ro, .int .i64 (C : Nat), .string (mirS C cs), .slice ac j cc, .int .i64 bu]) (by simp [results, Tryd.results20]; go_simp) rfl ?_
          obtain ⟨g, rfl, hcar⟩ := own_carts E6.out.own (by omega)
          have hgl := (E6.out.own.lt g rfl).1
          rw [HFRe.out, HTTe.out] at hcar
          refine ⟨_, rfl, g, cc, rfl, own2_cap E6.out.own, ?_, ?_⟩
          · intro i hi
            obtain ⟨d0, d1⟩ := hcar i hi
            refine ⟨?_, ?_⟩
            · iterate 5 rw [cell_aside (by show g ≠ rb; omega)]
              exact d0
            · iterate 5 rw [cell_aside (by show g ≠ rb; omega)]
              exact d1
          · iterate 5 refine Below.setCell ?_ (by show w.heap.size ≤ rb; omega) _
            exact E6.out.below

end Go.Proofs.YtnkgpinadgacgabDoor
