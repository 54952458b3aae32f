/- Several texts in one: Dg. -/
import Derived.Test.YtnkgpinadgacgabDoorMkzf
import Derived.Deep.RegionWith
import Derived.Deep.RegionHeld3
namespace Go.Proofs.YtnkgpinadgacgabDoor
open Go.RowKit M
/-- All that a ground holds lies below the world's size. -/
theorem GroundIn.top {w : World} {gm k : Nat} {G C : Nat → Nat} {ro co : Int} {cs : ByteArray} (h : GroundIn w gm k G C ro co cs) : gm < w.heap.size ∧ ∀ j, j < k → freeB cs j = true → G j < w.heap.size := by
  refine ⟨h.row.lt, fun j h1 h2 => ?_⟩
  have hl := mvL_len (ro := ro) (co := co) (cs := cs) (c := (j : Int))
  have h3 := h.lists j h1 h2 0 (by omega)
  have hs : (ints (mvL ro co cs j))[0]? = some ((ints (mvL ro co cs j))[0]'(by simp [ints]; omega)) := List.getElem?_eq_getElem _
  rw [hs] at h3
  exact World.block_lt_of_cell? _ _ h3

theorem GroundIn.alloc {w : World} {gm k : Nat} {o : Obj} {G C : Nat → Nat} {ro co : Int} {cs : ByteArray} (h : GroundIn w gm k G C ro co cs) : GroundIn (w.alloc o) gm k G C ro co cs := h.below ((Below.refl _ _).alloc (Nat.le_refl _) _)

theorem GroundIn.put {w : World} {gm k b o N : Nat} {v : Value} {G C : Nat → Nat} {ro co : Int} {cs : ByteArray} (hN : gm < N ∧ ∀ j, j < k → freeB cs j = true → G j < N) (hb : b < gm ∨ N ≤ b) (h : GroundIn w gm k G C ro co cs) : GroundIn (w.setCell ⟨b, o, none⟩ v) gm k G C ro co cs := by
  refine ⟨h.row.setOther (by show gm ≠ b; omega) _, fun j h1 h2 i hi => ?_, h.low⟩
  have hl := h.low j h1 h2
  have hl2 := hN.2 j h1 h2
  rw [World.cell?_setCell_other _ _ _ _ (by intro hh; have := congrArg Addr.block hh; simp at this; omega)]
  exact h.lists j h1 h2 i hi

/-- A position of m carts, each of them on a free cell. -/
def Good (cs : ByteArray) (m : Nat) (q : List Nat) : Prop := q.length = m ∧ ∀ k, k < m → q.getD k 0 < cs.size ∧ freeB cs (q.getD k 0 : Nat) = true

theorem Good.small {cs : ByteArray} {m : Nat} {q : List Nat} (h : Good cs m q) (hs : cs.size ≤ 36) : Small q := by
  intro k
  by_cases e : k < m
  · have := (h.2 k e).1; omega
  · rw [List.getD_eq_getElem?_getD, List.getElem?_eq_none (by rw [h.1]; omega)]; simp

theorem Good.next {ro co : Int} {cs : ByteArray} {m : Nat} {p q : List Nat} (h : Good cs m p) (hq : q ∈ growL (mvN ro co cs) p m) : Good cs m q := by
  obtain ⟨h1, h2⟩ := growL_mem.1 hq
  refine ⟨h1, fun k hk => ?_⟩
  obtain ⟨r, hr, e⟩ := List.mem_iff_getElem.1 (h2 k hk).1
  have := mvN_at (ro := ro) (co := co) (h.2 k hk).2 hr
  rw [e] at this
  exact this.2

set_option linter.unusedSimpArgs false in
set_option maxRecDepth 100000 in
set_option maxHeartbeats 20000000 in
theorem reached_any (ro co bu : Int) (cs : ByteArray) (b off m cc : Nat) (fr tt : Nat → Int) (w : World) (hs : cs.size ≤ 36) (r1 : 1 ≤ ro) (r2 : ro ≤ 6) (h1 : 1 ≤ co) (h2 : co ≤ 6) (hm : m ≤ 4) (hbu : bu ≤ 1000000) (hsd : SidesIn w) (hcs : CartsIn w b off m fr tt) (hf : ∀ k, k < m → 0 ≤ fr k ∧ freeB cs (fr k) = true) :
    Calls Tryd.prog 54 #[.agg #[.int .i64 ro, .int .i64 co, .string cs, .slice (some ⟨b, off, none⟩) m cc, .int .i64 bu]] w fun e w' => ∃ bm L i, e = .returned (.map (some bm)) ∧ Work (fun p q => q ∈ growL (mvN ro co cs) p m) (cellsOf fr m) L i ∧ (i = L.length ∨ bu < L.length) ∧ (∀ q, q ∈ L → Good cs m q) ∧ (L.length ≤ 1 ∨ L.length ≤ bu.toNat + 625) ∧ PosSet w' bm m L ∧ w.heap.size ≤ bm ∧ Below w.heap.size w w' := by
  have HSD := Hid.mk hsd
  have HCS := Hid.mk hcs
  have HF := Hid.mk hf
  have hf2 : ∀ k, k < m → 0 ≤ fr k ∧ fr k < 256 := fun k hk => by
    obtain ⟨n, e1, e2⟩ := free_nat (hf k hk).2
    have := (hf k hk).1
    omega
  obtain ⟨s, hs0⟩ : ∃ s, s = cellsOf fr m := ⟨_, rfl⟩
  obtain ⟨s0, e0⟩ : ∃ v, v = s.getD 0 0 := ⟨_, rfl⟩
  obtain ⟨s1, e1⟩ : ∃ v, v = s.getD 1 0 := ⟨_, rfl⟩
  obtain ⟨s2, e2⟩ : ∃ v, v = s.getD 2 0 := ⟨_, rfl⟩
  obtain ⟨s3, e3⟩ : ∃ v, v = s.getD 3 0 := ⟨_, rfl⟩
  have ST : Hid (∀ u : World, CartsIn u b off m fr tt → Calls Tryd.prog 59 #[.agg #[.int .i64 ro, .int .i64 co, .string cs, .slice (some ⟨b, off, none⟩) m cc, .int .i64 bu]] u fun e w' => e = .returned (.agg #[.int .u8 (s0 : Nat), .int .u8 (s1 : Nat), .int .u8 (s2 : Nat), .int .u8 (s3 : Nat)]) ∧ Below u.heap.size u w') := fun u hu => by
    have h := starts_any ro co bu cs b off m cc fr tt u hm hu hf2
    unfold posV at h
    rw [← hs0, ← e0, ← e1, ← e2, ← e3] at h
    exact h
  have HS := Hid.mk hs0
  have HSS := Hid.mk (And.intro e0 (And.intro e1 (And.intro e2 e3)))
  clear hsd hcs hf hs0 e0 e1 e2 e3 hf2
  go_enter Tryd.func54, Tryd.ntmps54
  go_upto_region 1 with fail
  have yc : ∀ o, (w.alloc (Obj.cells #[Value.int IntKind.i64 ro, Value.int IntKind.i64 co, Value.string cs, .slice (some ⟨b, off, none⟩) m cc, Value.int IntKind.i64 bu] 28)).cell? ⟨w.heap.size, o, none⟩ = #[Value.int .i64 ro, .int .i64 co, .string cs, .slice (some ⟨b, off, none⟩) m cc, .int .i64 bu][o]? := by
    intro o; go_simp
  have B1 : Hid (Below w.heap.size w (w.alloc (Obj.cells #[Value.int IntKind.i64 ro, Value.int IntKind.i64 co, Value.string cs, .slice (some ⟨b, off, none⟩) m cc, Value.int IntKind.i64 bu] 28))) := (Below.refl _ w).alloc (Nat.le_refl _) _
  have hz1 : (w.alloc (Obj.cells #[Value.int IntKind.i64 ro, Value.int IntKind.i64 co, Value.string cs, .slice (some ⟨b, off, none⟩) m cc, Value.int IntKind.i64 bu] 28)).heap.size = w.heap.size + 1 := by simp
  generalize w.alloc (Obj.cells #[Value.int IntKind.i64 ro, Value.int IntKind.i64 co, Value.string cs, .slice (some ⟨b, off, none⟩) m cc, Value.int IntKind.i64 bu] 28) = w1 at *
  have hl1 : w.heap.size < w1.heap.size := by omega
  have nl1 : w1.heap.size ≠ w.heap.size := by omega
  have nr1 : w.heap.size ≠ w1.heap.size := by omega
  have nl2 : w1.heap.size + 1 ≠ w.heap.size := by omega
  have nr2 : w.heap.size ≠ w1.heap.size + 1 := by omega
  have nl3 : w.heap.size + 1 + 1 ≠ w.heap.size := by omega
  have nr3 : w.heap.size ≠ w.heap.size + 1 + 1 := by omega
  have y0 := yc 0
  have y1 := yc 1
  have y2 := yc 2
  have y3 := yc 3
  have y4 := yc 4
  go_cut [3, 4] (fun v3 v4 wx => ∃ B3 B4 gm G C, v3 = .pointer (some ⟨B3, 0, none⟩) ∧ v4 = .pointer (some ⟨B4, 0, none⟩) ∧ B3 ≠ B4 ∧ w.heap.size + 1 ≤ B3 ∧ w.heap.size + 1 ≤ B4 ∧
      wx.cell? ⟨B3, 0, none⟩ = some (.int .i64 m) ∧ wx.cell? ⟨B3, 1, none⟩ = some (.slice (some ⟨gm, 0, none⟩) cs.size cs.size) ∧ wx.cell? ⟨B4, 0, none⟩ = some (.int .u8 (s0 : Nat)) ∧ wx.cell? ⟨B4, 1, none⟩ = some (.int .u8 (s1 : Nat)) ∧ wx.cell? ⟨B4, 2, none⟩ = some (.int .u8 (s2 : Nat)) ∧ wx.cell? ⟨B4, 3, none⟩ = some (.int .u8 (s3 : Nat)) ∧ GroundIn wx gm cs.size G C ro co cs ∧ Below (w.heap.size + 1) w1 wx)
  case first =>
    go_region_held3 (fun w' => w'.cell? ⟨w.heap.size, 0, none⟩ = some (Value.int .i64 ro) ∧ w'.cell? ⟨w.heap.size, 1, none⟩ = some (.int .i64 co) ∧ w'.cell? ⟨w.heap.size, 2, none⟩ = some (.string cs) ∧ w'.cell? ⟨w.heap.size, 3, none⟩ = some (.slice (some ⟨b, off, none⟩) m cc) ∧ w'.cell? ⟨w.heap.size, 4, none⟩ = some (.int .i64 bu)) (go_keep)
      (first
        | (go_at_call_of 78 (Value.int IntKind.i64 ro); refine (newGround_any ro co bu cs _ m cc _ hs r1 r2 h1 h2 (HSD.out.below (by first | exact B1.out.drew | exact (B1.out.alloc (by omega) _).drew | exact ((B1.out.alloc (by omega) _).alloc (by simp; omega) _).drew))).mono ?_; rintro e w4 ⟨gm, G, C, rfl, hgm, hgr, hb4⟩; have BW4 : Hid (Below w.heap.size w w4) := Below.trans (by first | exact B1.out.drew | exact (B1.out.alloc (by omega) _).drew | exact ((B1.out.alloc (by omega) _).alloc (by simp; omega) _).drew) (hb4.mono (by first | (simp [hz1] <;> fail "x") | (simp [hz1]; omega) | omega)); have BV4 : Hid (Below (w.heap.size + 1) w1 w4) := Below.trans (by first | exact (Below.refl _ w1).drew | exact (((Below.refl _ w1).alloc (by omega) _).drew) | exact ((((Below.refl _ w1).alloc (by omega) _).alloc (by simp; omega) _).drew)) (hb4.mono (by first | (simp [hz1] <;> fail "x") | (simp [hz1]; omega) | omega)); have HG4 := Hid.mk hgr; have TOP := Hid.mk hgr.top; clear hgr; simp [hz1] at hgm; have hs4 := hb4.size; have hlw4 : w.heap.size < w4.heap.size := (by first | omega | (simp [hz1] at hs4; omega)); simp [hz1] at hs4; (try (have ua0 : w.heap.size + 1 < w4.heap.size := (by omega); have ub0 : w.heap.size + 1 ≠ w4.heap.size := (by omega); have uc0 : w4.heap.size ≠ w.heap.size + 1 := (by omega); have ud0 := ua0; have ue0 := ub0; have ug0 := uc0); (try simp only [hz1] at ud0 ue0 ug0)); (try (have ua1 : w.heap.size + 1 + 1 < w4.heap.size := (by omega); have ub1 : w.heap.size + 1 + 1 ≠ w4.heap.size := (by omega); have uc1 : w4.heap.size ≠ w.heap.size + 1 + 1 := (by omega); have ud1 := ua1; have ue1 := ub1; have ug1 := uc1); (try simp only [hz1] at ud1 ue1 ug1)); have nlw4 : w4.heap.size ≠ w.heap.size := (by omega); have nrw4 : w.heap.size ≠ w4.heap.size := (by omega); have nsw4 : w4.heap.size + 1 ≠ w.heap.size := (by omega); have ntw4 : w.heap.size ≠ w4.heap.size + 1 := (by omega); have q0 : w4.cell? ⟨w.heap.size, 0, none⟩ = some (Value.int .i64 ro) := (hb4.cell (p := ⟨w.heap.size, 0, none⟩) (by first | (simp [hz1] <;> fail "x") | (simp [hz1]; omega) | omega)).trans (by first | exact y0 | (go_simp <;> fail "x") | simp [*]); have q1 : w4.cell? ⟨w.heap.size, 1, none⟩ = some (.int .i64 co) := (hb4.cell (p := ⟨w.heap.size, 1, none⟩) (by first | (simp [hz1] <;> fail "x") | (simp [hz1]; omega) | omega)).trans (by first | exact y1 | (go_simp <;> fail "x") | simp [*]); have q2 : w4.cell? ⟨w.heap.size, 2, none⟩ = some (.string cs) := (hb4.cell (p := ⟨w.heap.size, 2, none⟩) (by first | (simp [hz1] <;> fail "x") | (simp [hz1]; omega) | omega)).trans (by first | exact y2 | (go_simp <;> fail "x") | simp [*]); have q3 : w4.cell? ⟨w.heap.size, 3, none⟩ = some (.slice (some ⟨b, off, none⟩) m cc) := (hb4.cell (p := ⟨w.heap.size, 3, none⟩) (by first | (simp [hz1] <;> fail "x") | (simp [hz1]; omega) | omega)).trans (by first | exact y3 | (go_simp <;> fail "x") | simp [*]); have q4 : w4.cell? ⟨w.heap.size, 4, none⟩ = some (.int .i64 bu) := (hb4.cell (p := ⟨w.heap.size, 4, none⟩) (by first | (simp [hz1] <;> fail "x") | (simp [hz1]; omega) | omega)).trans (by first | exact y4 | (go_simp <;> fail "x") | simp [*]); (try (have qc0 : ∀ o, w4.cell? ⟨w.heap.size + 1, o, none⟩ = #[Value.int .i64 0, .slice none 0 0][o]? := (fun o => (hb4.cell (p := ⟨w.heap.size + 1, o, none⟩) (by first | (simp [hz1] <;> fail "x") | (simp [hz1]; omega) | omega)).trans (by first | (go_simp <;> fail "x") | (simp [*] <;> fail "x") | fail "x")))); (try (have qd0 : ∀ o, w4.cell? ⟨w.heap.size + 1, o, none⟩ = #[Value.int .u8 0, .int .u8 0, .int .u8 0, .int .u8 0][o]? := (fun o => (hb4.cell (p := ⟨w.heap.size + 1, o, none⟩) (by first | (simp [hz1] <;> fail "x") | (simp [hz1]; omega) | omega)).trans (by first | (go_simp <;> fail "x") | (simp [*] <;> fail "x") | fail "x")))); (try (have qf0 : ∀ o, w4.frozen? ⟨w.heap.size + 1, o, none⟩ = false := (fun o => (hb4.frozen (p := ⟨w.heap.size + 1, o, none⟩) (by first | (simp [hz1] <;> fail "x") | (simp [hz1]; omega) | omega)).trans (by first | (go_simp <;> fail "x") | (simp [*] <;> fail "x") | fail "x")))); (try (have qc1 : ∀ o, w4.cell? ⟨w.heap.size + 1 + 1, o, none⟩ = #[Value.int .i64 0, .slice none 0 0][o]? := (fun o => (hb4.cell (p := ⟨w.heap.size + 1 + 1, o, none⟩) (by first | (simp [hz1] <;> fail "x") | (simp [hz1]; omega) | omega)).trans (by first | (go_simp <;> fail "x") | (simp [*] <;> fail "x") | fail "x")))); (try (have qd1 : ∀ o, w4.cell? ⟨w.heap.size + 1 + 1, o, none⟩ = #[Value.int .u8 0, .int .u8 0, .int .u8 0, .int .u8 0][o]? := (fun o => (hb4.cell (p := ⟨w.heap.size + 1 + 1, o, none⟩) (by first | (simp [hz1] <;> fail "x") | (simp [hz1]; omega) | omega)).trans (by first | (go_simp <;> fail "x") | (simp [*] <;> fail "x") | fail "x")))); (try (have qf1 : ∀ o, w4.frozen? ⟨w.heap.size + 1 + 1, o, none⟩ = false := (fun o => (hb4.frozen (p := ⟨w.heap.size + 1 + 1, o, none⟩) (by first | (simp [hz1] <;> fail "x") | (simp [hz1]; omega) | omega)).trans (by first | (go_simp <;> fail "x") | (simp [*] <;> fail "x") | fail "x")))))
        | (go_at_call_of 59 (Value.int IntKind.i64 ro); refine (ST.out _ (HCS.out.below (by first | exact BW4.out | exact BW4.out.alloc (by omega) _ | exact (BW4.out.alloc (by omega) _).alloc (by simp; omega) _))).mono ?_; rintro e w5 ⟨rfl, hb5⟩; have BV5 : Hid (Below (w.heap.size + 1) w1 w5) := Below.trans (by first | exact BV4.out | exact BV4.out.alloc (by omega) _ | exact (BV4.out.alloc (by omega) _).alloc (by simp; omega) _) (hb5.mono (by first | (simp [hz1] <;> fail "x") | (simp [hz1]; omega) | omega)); have HG5 : Hid (GroundIn w5 gm cs.size G C ro co cs) := HG4.out.below (Below.trans (by first | exact Below.refl _ _ | exact (Below.refl _ _).alloc (Nat.le_refl _) _ | exact ((Below.refl _ _).alloc (Nat.le_refl _) _).alloc (by simp) _) (hb5.mono (by first | (simp [hz1] <;> fail "x") | (simp [hz1]; omega) | omega))); have hs5 := hb5.size; have hlw5 : w.heap.size < w5.heap.size := (by first | omega | (simp [hz1] at hs5; omega)); (try simp [hz1] at hs5); (try (have ua0 : w4.heap.size < w5.heap.size := (by omega); have ub0 : w4.heap.size ≠ w5.heap.size := (by omega); have uc0 : w5.heap.size ≠ w4.heap.size := (by omega); have ud0 := ua0; have ue0 := ub0; have ug0 := uc0); (try simp only [hz1] at ud0 ue0 ug0)); (try (have ua1 : w4.heap.size + 1 < w5.heap.size := (by omega); have ub1 : w4.heap.size + 1 ≠ w5.heap.size := (by omega); have uc1 : w5.heap.size ≠ w4.heap.size + 1 := (by omega); have ud1 := ua1; have ue1 := ub1; have ug1 := uc1); (try simp only [hz1] at ud1 ue1 ug1)); (try (have ua2 : w.heap.size + 1 < w5.heap.size := (by omega); have ub2 : w.heap.size + 1 ≠ w5.heap.size := (by omega); have uc2 : w5.heap.size ≠ w.heap.size + 1 := (by omega); have ud2 := ua2; have ue2 := ub2; have ug2 := uc2); (try simp only [hz1] at ud2 ue2 ug2)); (try (have ua3 : w.heap.size + 1 + 1 < w5.heap.size := (by omega); have ub3 : w.heap.size + 1 + 1 ≠ w5.heap.size := (by omega); have uc3 : w5.heap.size ≠ w.heap.size + 1 + 1 := (by omega); have ud3 := ua3; have ue3 := ub3; have ug3 := uc3); (try simp only [hz1] at ud3 ue3 ug3)); have nlw5 : w5.heap.size ≠ w.heap.size := (by omega); have nrw5 : w.heap.size ≠ w5.heap.size := (by omega); have nsw5 : w5.heap.size + 1 ≠ w.heap.size := (by omega); have ntw5 : w.heap.size ≠ w5.heap.size + 1 := (by omega); have p0 : w5.cell? ⟨w.heap.size, 0, none⟩ = some (Value.int .i64 ro) := (hb5.cell (p := ⟨w.heap.size, 0, none⟩) (by first | (simp [hz1] <;> fail "x") | (simp [hz1]; omega) | omega)).trans (by first | exact q0 | (go_simp <;> fail "x") | simp [*]); have p1 : w5.cell? ⟨w.heap.size, 1, none⟩ = some (.int .i64 co) := (hb5.cell (p := ⟨w.heap.size, 1, none⟩) (by first | (simp [hz1] <;> fail "x") | (simp [hz1]; omega) | omega)).trans (by first | exact q1 | (go_simp <;> fail "x") | simp [*]); have p2 : w5.cell? ⟨w.heap.size, 2, none⟩ = some (.string cs) := (hb5.cell (p := ⟨w.heap.size, 2, none⟩) (by first | (simp [hz1] <;> fail "x") | (simp [hz1]; omega) | omega)).trans (by first | exact q2 | (go_simp <;> fail "x") | simp [*]); have p3 : w5.cell? ⟨w.heap.size, 3, none⟩ = some (.slice (some ⟨b, off, none⟩) m cc) := (hb5.cell (p := ⟨w.heap.size, 3, none⟩) (by first | (simp [hz1] <;> fail "x") | (simp [hz1]; omega) | omega)).trans (by first | exact q3 | (go_simp <;> fail "x") | simp [*]); have p4 : w5.cell? ⟨w.heap.size, 4, none⟩ = some (.int .i64 bu) := (hb5.cell (p := ⟨w.heap.size, 4, none⟩) (by first | (simp [hz1] <;> fail "x") | (simp [hz1]; omega) | omega)).trans (by first | exact q4 | (go_simp <;> fail "x") | simp [*]); (try (have pc0 : ∀ o, w5.cell? ⟨w.heap.size + 1, o, none⟩ = #[Value.int .i64 0, .slice none 0 0][o]? := (fun o => (hb5.cell (p := ⟨w.heap.size + 1, o, none⟩) (by first | (simp [hz1] <;> fail "x") | (simp [hz1]; omega) | omega)).trans (by first | exact qc0 o | (go_simp <;> fail "x") | (simp [*] <;> fail "x") | fail "x")))); (try (have pd0 : ∀ o, w5.cell? ⟨w.heap.size + 1, o, none⟩ = #[Value.int .u8 0, .int .u8 0, .int .u8 0, .int .u8 0][o]? := (fun o => (hb5.cell (p := ⟨w.heap.size + 1, o, none⟩) (by first | (simp [hz1] <;> fail "x") | (simp [hz1]; omega) | omega)).trans (by first | exact qd0 o | (go_simp <;> fail "x") | (simp [*] <;> fail "x") | fail "x")))); (try (have pf0 : ∀ o, w5.frozen? ⟨w.heap.size + 1, o, none⟩ = false := (fun o => (hb5.frozen (p := ⟨w.heap.size + 1, o, none⟩) (by first | (simp [hz1] <;> fail "x") | (simp [hz1]; omega) | omega)).trans (by first | exact qf0 o | (go_simp <;> fail "x") | (simp [*] <;> fail "x") | fail "x")))); (try (have pc1 : ∀ o, w5.cell? ⟨w.heap.size + 1 + 1, o, none⟩ = #[Value.int .i64 0, .slice none 0 0][o]? := (fun o => (hb5.cell (p := ⟨w.heap.size + 1 + 1, o, none⟩) (by first | (simp [hz1] <;> fail "x") | (simp [hz1]; omega) | omega)).trans (by first | exact qc1 o | (go_simp <;> fail "x") | (simp [*] <;> fail "x") | fail "x")))); (try (have pd1 : ∀ o, w5.cell? ⟨w.heap.size + 1 + 1, o, none⟩ = #[Value.int .u8 0, .int .u8 0, .int .u8 0, .int .u8 0][o]? := (fun o => (hb5.cell (p := ⟨w.heap.size + 1 + 1, o, none⟩) (by first | (simp [hz1] <;> fail "x") | (simp [hz1]; omega) | omega)).trans (by first | exact qd1 o | (go_simp <;> fail "x") | (simp [*] <;> fail "x") | fail "x")))); (try (have pf1 : ∀ o, w5.frozen? ⟨w.heap.size + 1 + 1, o, none⟩ = false := (fun o => (hb5.frozen (p := ⟨w.heap.size + 1 + 1, o, none⟩) (by first | (simp [hz1] <;> fail "x") | (simp [hz1]; omega) | omega)).trans (by first | exact qf1 o | (go_simp <;> fail "x") | (simp [*] <;> fail "x") | fail "x")))); (try (have pc2 : ∀ o, w5.cell? ⟨w4.heap.size, o, none⟩ = #[Value.int .i64 0, .slice none 0 0][o]? := (fun o => (hb5.cell (p := ⟨w4.heap.size, o, none⟩) (by first | (simp [hz1] <;> fail "x") | (simp [hz1]; omega) | omega)).trans (by first | (go_simp <;> fail "x") | (simp [*] <;> fail "x") | fail "x")))); (try (have pd2 : ∀ o, w5.cell? ⟨w4.heap.size, o, none⟩ = #[Value.int .u8 0, .int .u8 0, .int .u8 0, .int .u8 0][o]? := (fun o => (hb5.cell (p := ⟨w4.heap.size, o, none⟩) (by first | (simp [hz1] <;> fail "x") | (simp [hz1]; omega) | omega)).trans (by first | (go_simp <;> fail "x") | (simp [*] <;> fail "x") | fail "x")))); (try (have pf2 : ∀ o, w5.frozen? ⟨w4.heap.size, o, none⟩ = false := (fun o => (hb5.frozen (p := ⟨w4.heap.size, o, none⟩) (by first | (simp [hz1] <;> fail "x") | (simp [hz1]; omega) | omega)).trans (by first | (go_simp <;> fail "x") | (simp [*] <;> fail "x") | fail "x")))); (try (have pc3 : ∀ o, w5.cell? ⟨w4.heap.size + 1, o, none⟩ = #[Value.int .i64 0, .slice none 0 0][o]? := (fun o => (hb5.cell (p := ⟨w4.heap.size + 1, o, none⟩) (by first | (simp [hz1] <;> fail "x") | (simp [hz1]; omega) | omega)).trans (by first | (go_simp <;> fail "x") | (simp [*] <;> fail "x") | fail "x")))); (try (have pd3 : ∀ o, w5.cell? ⟨w4.heap.size + 1, o, none⟩ = #[Value.int .u8 0, .int .u8 0, .int .u8 0, .int .u8 0][o]? := (fun o => (hb5.cell (p := ⟨w4.heap.size + 1, o, none⟩) (by first | (simp [hz1] <;> fail "x") | (simp [hz1]; omega) | omega)).trans (by first | (go_simp <;> fail "x") | (simp [*] <;> fail "x") | fail "x")))); (try (have pf3 : ∀ o, w5.frozen? ⟨w4.heap.size + 1, o, none⟩ = false := (fun o => (hb5.frozen (p := ⟨w4.heap.size + 1, o, none⟩) (by first | (simp [hz1] <;> fail "x") | (simp [hz1]; omega) | omega)).trans (by first | (go_simp <;> fail "x") | (simp [*] <;> fail "x") | fail "x")))))
        | (fail "none"))
    all_goals (go_wp2_with fail)
    all_goals go_meet
    all_goals (case rel => first
      | (refine ⟨_, _, gm, G, C, rfl, rfl, by omega, by omega, by omega, by go_simp, by go_simp, by go_simp, by go_simp, by go_simp, by go_simp, ?_, ?_⟩
         · repeat' (first | with_reducible exact HG5.out | with_reducible refine GroundIn.put TOP.out ?_ ?_ | with_reducible refine GroundIn.alloc ?_ | omega)
         · repeat' (first | with_reducible exact BV5.out | with_reducible refine Below.setCell ?_ ?_ _ | with_reducible refine Below.alloc ?_ ?_ _ | omega | (dsimp only; omega) | (simp [World.setCell]; omega) | (simp [World.setCell])))
      | (trace_state; fail "rel"))
  case rest =>
    obtain ⟨wx, rfl⟩ : ∃ q, q = wc := ⟨_, rfl⟩
    obtain ⟨B3, B4, gm, G, C, rfl, rfl, hne, hB3, hB4, c30, c31, c40, c41, c42, c43, hg, hb⟩ := hcut
    have HG := Hid.mk hg
    have HB := Hid.mk hb
    have C30 := Hid.mk c30
    have C31 := Hid.mk c31
    have hB3l : B3 < wx.heap.size := World.block_lt_of_cell? _ _ c30
    have hgml : gm < wx.heap.size := hg.row.lt
    have yb : wx.cell? ⟨w.heap.size, 4, none⟩ = some (.int .i64 bu) := (hb.cell (p := ⟨w.heap.size, 4, none⟩) (by show w.heap.size < w.heap.size + 1; omega)).trans y4
    have YB := Hid.mk yb
    have hwl : w.heap.size < wx.heap.size := World.block_lt_of_cell? _ _ yb
    have hB4l : B4 < wx.heap.size := World.block_lt_of_cell? _ _ c40
    have nb4 : B4 ≠ wx.heap.size := by omega
    have nb5 : wx.heap.size ≠ B4 := by omega
    have hmm := @run_makeMap Tryd.prog
    have PV : Hid (Value.agg #[.int .u8 (s0 : Nat), .int .u8 (s1 : Nat), .int .u8 (s2 : Nat), .int .u8 (s3 : Nat)] = posV s) := by unfold Hid posV; rw [← HSS.out.1, ← HSS.out.2.1, ← HSS.out.2.2.1, ← HSS.out.2.2.2]
    have GS : Hid (Good cs m s) := by
      refine ⟨by rw [HS.out, cellsOf_len], fun k hk => ?_⟩
      obtain ⟨n, e1, e2⟩ := free_nat (HF.out k hk).2
      rw [HS.out, cellsOf_at hk, e1]
      exact ⟨by simpa using e2, by rw [← e1]; simpa [e1] using (HF.out k hk).2⟩
    have SM := Hid.mk (GS.out.small hs)
    have M0 : Hid (PosSet (wx.alloc (.map #[] 0)) wx.heap.size m []) := posSet_made _ _ _ rfl
    clear hg hb yc y0 y1 y2 y3 y4 yb c30 c31
    go_wp2_with (refine wpList_ins_pos rfl _ _ _ rfl wx.heap.size m [] rfl M0.out (by unfold maxLen; simp) hm s (by exact PV.out) rfl GS.out.1 SM.out (by simp) ?_; intro w6 hm6 hg6; have O6 : Below wx.heap.size wx w6 := ((Below.refl _ wx).alloc (Nat.le_refl _) _).trans ⟨hg6.os, hg6.tape, hg6.output, hg6.size, fun k hk => (Only.of_grown hg6).block k (by simp; omega) (by omega)⟩; have e0 := cell_later O6 c40; have e1 := cell_later O6 c41; have e2 := cell_later O6 c42; have e3 := cell_later O6 c43)
    have OW6 : Hid (Below wx.heap.size wx w6) := O6
    have hz6 : wx.heap.size + 1 ≤ w6.heap.size := by have := hg6.size; simpa using this
    have M6 := Hid.mk hm6
    have B7 : Hid (Below w6.heap.size w6 (w6.alloc (Obj.cells #[Value.int .u8 (s0 : Nat), .int .u8 (s1 : Nat), .int .u8 (s2 : Nat), .int .u8 (s3 : Nat)] 102))) := (Below.refl _ _).alloc (Nat.le_refl _) _
    have L7 : Hid (OwnP (w6.alloc (Obj.cells #[Value.int .u8 (s0 : Nat), .int .u8 (s1 : Nat), .int .u8 (s2 : Nat), .int .u8 (s3 : Nat)] 102)) w6.heap.size (.slice (some ⟨w6.heap.size, 0, none⟩) 1 1) [s]) := by
      have h := own_oneP w6 s _ rfl
      rw [← HSS.out.1, ← HSS.out.2.1, ← HSS.out.2.2.1, ← HSS.out.2.2.2] at h
      exact h
    generalize (w6.alloc (Obj.cells #[Value.int .u8 (s0 : Nat), .int .u8 (s1 : Nat), .int .u8 (s2 : Nat), .int .u8 (s3 : Nat)] 102)) = w7 at *
    have hz7 := B7.out.size
    clear O6 hm6 hg6 e0 e1 e2 e3 c40 c41 c42 c43
    obtain ⟨S, hS⟩ : ∃ S : List Nat → List Nat → Prop, S = fun p q => q ∈ growL (mvN ro co cs) p m := ⟨_, rfl⟩
    have HSp := Hid.mk hS
    clear hS
    go_loopw [6, 7] (fun v6 v7 wr => ∃ (L : List (List Nat)) (i : Nat) (V : Value), V = v6 ∧ v7 = .int .i64 i ∧ Work S s L i ∧ (∀ q, q ∈ L → Good cs m q) ∧ (L.length ≤ 1 ∨ L.length ≤ bu.toNat + 625) ∧ PosSet wr wx.heap.size m L ∧ OwnP wr w6.heap.size V L ∧ Below wx.heap.size wx wr) (fun _ v7 _ => (bu.toNat + 700) - (intOf v7).toNat)
    case atStart => exact ⟨[s], 0, _, rfl, rfl, Work.one, fun q hq => by simp at hq; subst hq; exact GS.out, .inl (by simp), M6.out.below B7.out, L7.out, OW6.out.trans (B7.out.mono (by omega))⟩
    case round =>
      obtain ⟨w8, rfl⟩ : ∃ q, q = wr := ⟨_, rfl⟩
      obtain ⟨L, i, v6, rfl, rfl, hwk, hgd, hlen, hps, hol, hb8⟩ := hrel
      have WK := Hid.mk hwk
      have GD := Hid.mk hgd
      have PS := Hid.mk hps
      have OL := Hid.mk hol
      have B8 := Hid.mk hb8
      have hil := hwk.le
      have hz8 := hb8.size
      obtain ⟨a6, cap6, rfl, ha6, hcap6⟩ := hol.form
      have y8 := cell_later hb8 YB.out
      clear hwk hgd hps hol hb8
      by_cases hlt : i < L.length
      · by_cases hbl : (L.length : Int) ≤ bu
        · obtain ⟨g6, rfl⟩ := ha6 (by omega)
          obtain ⟨p, hp⟩ : ∃ p, p = L[i] := ⟨_, rfl⟩
          have HP := Hid.mk hp
          have GP : Hid (Good cs m p) := by rw [hp]; exact GD.out _ (List.getElem_mem hlt)
          obtain ⟨c0, c1, c2, c3⟩ := OL.out.cells hlt
          rw [← hp] at c0 c1 c2 c3
          obtain ⟨p0, hp0⟩ : ∃ v, v = p.getD 0 0 := ⟨_, rfl⟩
          obtain ⟨p1, hp1⟩ : ∃ v, v = p.getD 1 0 := ⟨_, rfl⟩
          obtain ⟨p2, hp2⟩ : ∃ v, v = p.getD 2 0 := ⟨_, rfl⟩
          obtain ⟨p3, hp3⟩ : ∃ v, v = p.getD 3 0 := ⟨_, rfl⟩
          rw [← hp0] at c0
          rw [← hp1] at c1
          rw [← hp2] at c2
          rw [← hp3] at c3
          have NX : Hid (∀ u : World, GroundIn u gm cs.size G C ro co cs → Calls Tryd.prog 79 #[.agg #[.int .i64 m, .slice (some ⟨gm, 0, none⟩) cs.size cs.size], .agg #[.int .u8 (p0 : Nat), .int .u8 (p1 : Nat), .int .u8 (p2 : Nat), .int .u8 (p3 : Nat)]] u fun e w' => ∃ v, e = .returned v ∧ OwnP w' u.heap.size v (growL (mvN ro co cs) p m) ∧ Below u.heap.size u w') := fun u hu => by
            have h := jnexts_any m gm G C ro co cs p u hm hs GP.out.2 hu
            unfold posV at h
            rw [← hp0, ← hp1, ← hp2, ← hp3] at h
            exact h
          have d0 := cell_later B8.out C30.out
          have d1 := cell_later B8.out C31.out
          have HG8 := Hid.mk (HG.out.below B8.out)
          have hg6l : g6 < w8.heap.size := World.block_lt_of_cell? _ _ c0
          have hB38 : B3 < w8.heap.size := by omega
          clear hp hp0 hp1 hp2 hp3 ha6
          go_upto_region 7 with fail
          go_region_held3 (fun w' => w'.cell? ⟨B3, 0, none⟩ = some (.int .i64 m) ∧ w'.cell? ⟨B3, 1, none⟩ = some (.slice (some ⟨gm, 0, none⟩) cs.size cs.size) ∧ w'.cell? ⟨g6, i * 4, none⟩ = some (.int .u8 (p0 : Nat)) ∧ w'.cell? ⟨g6, i * 4 + 1, none⟩ = some (.int .u8 (p1 : Nat)) ∧ w'.cell? ⟨g6, i * 4 + 2, none⟩ = some (.int .u8 (p2 : Nat)) ∧ w'.cell? ⟨g6, i * 4 + 3, none⟩ = some (.int .u8 (p3 : Nat))) (go_keep)
            (first
              | (go_at_call 79; refine (NX.out _ (HG8.out.below (by exact (Below.refl _ _).drew))).mono ?_; rintro e w9 ⟨v9, rfl, hov9, hb9⟩; obtain ⟨an, capn, rfl, han, hcapn⟩ := hov9.form; have HOV := Hid.mk hov9; have HAN := Hid.mk han; have HB9 := Hid.mk hb9; have q0 : w9.cell? ⟨B3, 0, none⟩ = some (.int .i64 m) := (hb9.cell (p := ⟨B3, 0, none⟩) hB38).trans d0; have q1 : w9.cell? ⟨B3, 1, none⟩ = some (.slice (some ⟨gm, 0, none⟩) cs.size cs.size) := (hb9.cell (p := ⟨B3, 1, none⟩) hB38).trans d1; have q2 : w9.cell? ⟨g6, i * 4, none⟩ = some (.int .u8 (p0 : Nat)) := (hb9.cell (p := ⟨g6, i * 4, none⟩) hg6l).trans c0; have q3 : w9.cell? ⟨g6, i * 4 + 1, none⟩ = some (.int .u8 (p1 : Nat)) := (hb9.cell (p := ⟨g6, i * 4 + 1, none⟩) hg6l).trans c1; have q4 : w9.cell? ⟨g6, i * 4 + 2, none⟩ = some (.int .u8 (p2 : Nat)) := (hb9.cell (p := ⟨g6, i * 4 + 2, none⟩) hg6l).trans c2; have q5 : w9.cell? ⟨g6, i * 4 + 3, none⟩ = some (.int .u8 (p3 : Nat)) := (hb9.cell (p := ⟨g6, i * 4 + 3, none⟩) hg6l).trans c3; clear hov9 han hb9)
              | (fail "none"))
          obtain ⟨N, hN⟩ : ∃ N, N = growL (mvN ro co cs) p m := ⟨_, rfl⟩
          have HNN := Hid.mk hN
          have hN6 : N.length ≤ 625 := by
            have h1 := growL_len (p := p) (mvN_le ro co cs) m
            have h2 : 5 ^ m ≤ 5 ^ 4 := Nat.pow_le_pow_right (by omega) (by omega)
            rw [hN]; omega
          have HB98 : Below w8.heap.size w8 w9 := ((Below.refl _ w8).drew).trans (by exact HB9.out)
          have OL9 : Hid (OwnP w9 w6.heap.size (.slice (some ⟨g6, 0, none⟩) L.length cap6) L) := OL.out.below HB98
          have PS9 : Hid (PosSet w9 wx.heap.size m L) := PS.out.below HB98
          have B9 : Hid (Below wx.heap.size wx w9) := B8.out.trans (HB98.mono hz8)
          have HNV : Hid (OwnP w9 w8.heap.size (.slice an N.length capn) N) := by rw [hN]; exact HOV.out
          have HDJ : Hid (∀ gn, an = some (⟨gn, 0, none⟩ : Addr) → (Value.slice (some ⟨g6, 0, none⟩) L.length cap6).ownBlock ≠ some gn) := by
            intro gn hgn hh
            have e : g6 = gn := Option.some.inj hh
            have h := HNV.out.lt gn (by rw [hgn]; rfl)
            have := h.1
            omega
          have HPP : Hid (i < L.length ∧ L.getD i [] = p) := ⟨hlt, by rw [List.getD_eq_getElem?_getD, List.getElem?_eq_getElem hlt, HP.out]; rfl⟩
          rw [← hN]
          rw [← hN] at HAN
          clear hN q0 q1 q2 q3 q4 q5 c0 c1 c2 c3 d0 d1
          go_wp2
          go_loopw [6, 42] (fun v6 v42 wr => ∃ (L2 : List (List Nat)) (t : Nat) (V : Value), V = v6 ∧ v42 = .int .i64 t ∧ t ≤ N.length ∧ Work S s L2 i ∧ (i < L2.length ∧ L2.getD i [] = p) ∧ (∀ q, q ∈ L2 → Good cs m q) ∧ L2.length ≤ L.length + t ∧ (∀ k, k < t → N.getD k [] ∈ L2) ∧ PosSet wr wx.heap.size m L2 ∧ OwnP wr w6.heap.size V L2 ∧ OwnP wr w8.heap.size (.slice an N.length capn) N ∧ (∀ gn, an = some (⟨gn, 0, none⟩ : Addr) → V.ownBlock ≠ some gn) ∧ Below wx.heap.size wx wr) (fun _ v42 _ => N.length - (intOf v42).toNat)
          case atStart => exact ⟨L, 0, _, rfl, rfl, Nat.zero_le _, WK.out, HPP.out, GD.out, by omega, fun k hk => absurd hk (Nat.not_lt_zero k), PS9.out, OL9.out, HNV.out, HDJ.out, B9.out⟩
          case round =>
            obtain ⟨wa, rfl⟩ : ∃ q, q = wr := ⟨_, rfl⟩
            obtain ⟨L2, t, v6, rfl, rfl, htn, hwk, hip, hgd, hl2, hall, hps, hol, hov, hdj, hba⟩ := hrel
            have WK2 := Hid.mk hwk
            have IP2 := Hid.mk hip
            have GD2 := Hid.mk hgd
            have AL2 := Hid.mk hall
            have PS2 := Hid.mk hps
            have OL2 := Hid.mk hol
            have OV2 := Hid.mk hov
            have DJ2 := Hid.mk hdj
            have BA := Hid.mk hba
            have hza := hba.size
            clear hwk hip hgd hall hps hol hov hdj hba
            by_cases htl : t < N.length
            · obtain ⟨gn, rfl⟩ := HAN.out (by omega)
              obtain ⟨q, hq⟩ : ∃ q, q = N[t] := ⟨_, rfl⟩
              obtain ⟨c0, c1, c2, c3⟩ := OV2.out.cells htl
              rw [← hq] at c0 c1 c2 c3
              have hqN : q ∈ growL (mvN ro co cs) p m := by rw [← HNN.out, hq]; exact List.getElem_mem htl
              have GQ : Hid (Good cs m q) := GP.out.next hqN
              have SQ := Hid.mk (GQ.out.small hs)
              have hSq : Hid (S (L2[i]'IP2.out.1) q) := by
                have h := IP2.out.2
                rw [List.getD_eq_getElem?_getD, List.getElem?_eq_getElem IP2.out.1] at h
                unfold Hid
                rw [show L2[i]'IP2.out.1 = p from h, HSp.out]
                exact hqN
              have ALN : ∀ L3 : List (List Nat), (∀ x, x ∈ L2 → x ∈ L3) → q ∈ L3 → ∀ k, k < t + 1 → N.getD k [] ∈ L3 := fun L3 h1 h2 k hk => by
                by_cases e : k = t
                · rw [e, List.getD_eq_getElem?_getD, List.getElem?_eq_getElem htl]
                  simpa [← hq] using h2
                · exact h1 _ (AL2.out k (by omega))
              have ALNH := Hid.mk ALN
              obtain ⟨q0, hq0⟩ : ∃ v, v = q.getD 0 0 := ⟨_, rfl⟩
              obtain ⟨q1, hq1⟩ : ∃ v, v = q.getD 1 0 := ⟨_, rfl⟩
              obtain ⟨q2, hq2⟩ : ∃ v, v = q.getD 2 0 := ⟨_, rfl⟩
              obtain ⟨q3, hq3⟩ : ∃ v, v = q.getD 3 0 := ⟨_, rfl⟩
              rw [← hq0] at c0
              rw [← hq1] at c1
              rw [← hq2] at c2
              rw [← hq3] at c3
              have PVq : Hid (Value.agg #[.int .u8 (q0 : Nat), .int .u8 (q1 : Nat), .int .u8 (q2 : Nat), .int .u8 (q3 : Nat)] = posV q) := by unfold Hid posV; rw [← hq0, ← hq1, ← hq2, ← hq3]
              have HQQ := Hid.mk (And.intro hq0 (And.intro hq1 (And.intro hq2 hq3)))
              clear ALN hq hqN hq0 hq1 hq2 hq3
              go_upto_region 10 with fail
              clear c0 c1 c2 c3
              have BQ : Hid (Below wa.heap.size wa (wa.alloc (Obj.cells #[Value.int .u8 (q0 : Nat), .int .u8 (q1 : Nat), .int .u8 (q2 : Nat), .int .u8 (q3 : Nat)] 102))) := (Below.refl _ _).alloc (Nat.le_refl _) _
              have k0 : (wa.alloc (Obj.cells #[Value.int .u8 (q0 : Nat), .int .u8 (q1 : Nat), .int .u8 (q2 : Nat), .int .u8 (q3 : Nat)] 102)).cell? ⟨wa.heap.size, 0, none⟩ = some (.int .u8 (q0 : Nat)) := by go_simp
              have k1 : (wa.alloc (Obj.cells #[Value.int .u8 (q0 : Nat), .int .u8 (q1 : Nat), .int .u8 (q2 : Nat), .int .u8 (q3 : Nat)] 102)).cell? ⟨wa.heap.size, 1, none⟩ = some (.int .u8 (q1 : Nat)) := by go_simp
              have k2 : (wa.alloc (Obj.cells #[Value.int .u8 (q0 : Nat), .int .u8 (q1 : Nat), .int .u8 (q2 : Nat), .int .u8 (q3 : Nat)] 102)).cell? ⟨wa.heap.size, 2, none⟩ = some (.int .u8 (q2 : Nat)) := by go_simp
              have k3 : (wa.alloc (Obj.cells #[Value.int .u8 (q0 : Nat), .int .u8 (q1 : Nat), .int .u8 (q2 : Nat), .int .u8 (q3 : Nat)] 102)).cell? ⟨wa.heap.size, 3, none⟩ = some (.int .u8 (q3 : Nat)) := by go_simp
              have hzb : (wa.alloc (Obj.cells #[Value.int .u8 (q0 : Nat), .int .u8 (q1 : Nat), .int .u8 (q2 : Nat), .int .u8 (q3 : Nat)] 102)).heap.size = wa.heap.size + 1 := by simp
              generalize (wa.alloc (Obj.cells #[Value.int .u8 (q0 : Nat), .int .u8 (q1 : Nat), .int .u8 (q2 : Nat), .int .u8 (q3 : Nat)] 102)) = wb at *
              have PSb := Hid.mk (PS2.out.below BQ.out)
              have OLb := Hid.mk (OL2.out.below BQ.out)
              have OVb := Hid.mk (OV2.out.below BQ.out)
              have BB : Hid (Below wx.heap.size wx wb) := BA.out.trans (BQ.out.mono hza)
              obtain ⟨T, hT⟩ : ∃ T, T = wa.heap.size := ⟨_, rfl⟩
              have HT : Hid (T < wb.heap.size ∧ wa.heap.size ≤ T) := ⟨by omega, by omega⟩
              have DT : Hid (v6.ownBlock ≠ some T) := fun hh => by have := (OL2.out.lt _ hh).2; omega
              rw [← hT] at k0 k1 k2 k3 ⊢
              clear hT
              have hT1 : T < wb.heap.size := HT.out.1
              have hT2 : T ≠ wb.heap.size := by omega
              have hT3 : wb.heap.size ≠ T := by omega
              have BC : Hid (Below wb.heap.size wb (wb.alloc (Obj.cells #[] 90))) := (Below.refl _ _).alloc (Nat.le_refl _) _
              have BBC : Hid (Below wx.heap.size wx (wb.alloc (Obj.cells #[] 90))) := BB.out.trans (BC.out.mono BB.out.size)
              have PSc := Hid.mk (PSb.out.below BC.out)
              have OLc := Hid.mk (OLb.out.below BC.out)
              have OVc := Hid.mk (OVb.out.below BC.out)
              by_cases hin : q ∈ L2
              · have hdq : decide (q ∈ L2) = true := decide_eq_true hin
                go_wp2_with (at_lookup; refine wpList_look_pos rfl _ _ rfl wx.heap.size m L2 rfl PSb.out q (by exact PVq.out) GQ.out.1 SQ.out ?_; rw [hdq])
                go_roundw
                case rel => exact ⟨L2, t + 1, _, rfl, by go_num, by omega, WK2.out, IP2.out, GD2.out, by omega, ALNH.out L2 (fun _ h => h) hin, PSc.out, OLc.out, OVc.out, DJ2.out, BBC.out⟩
                case measure => simp [intOf]; omega
              · have hdq : decide (q ∈ L2) = false := decide_eq_false hin
                have hl2m : Hid (L2.length < maxLen) := by unfold Hid maxLen; omega
                have hl2m2 : Hid (L2.length ≤ 100000000) := by unfold Hid; omega
                go_upto_region 12 with (at_lookup; refine wpList_look_pos rfl _ _ rfl wx.heap.size m L2 rfl PSb.out q (by exact PVq.out) GQ.out.1 SQ.out ?_; rw [hdq])
                have K0 := cell_later BC.out k0
                have K1 := cell_later BC.out k1
                have K2 := cell_later BC.out k2
                have K3 := cell_later BC.out k3
                have hzc : (wb.alloc (Obj.cells #[] 90)).heap.size = wb.heap.size + 1 := by simp
                generalize (wb.alloc (Obj.cells #[] 90)) = wc at *
                clear k0 k1 k2 k3
                go_upto_region 13 with (at_mapUpdate; refine wpList_put_pos rfl _ _ _ rfl wx.heap.size m L2 rfl PSc.out hl2m.out hm q (by exact PVq.out) rfl GQ.out.1 SQ.out hin ?_; intro wd hmd hgd)
                have h6c : w6.heap.size ≤ wc.heap.size := by
                  obtain ⟨a7, cap7, hv7, ha7, _⟩ := OLc.out.form
                  obtain ⟨g7, hg7⟩ := ha7 (by have := IP2.out.1; omega)
                  have := OLc.out.lt g7 (by rw [hv7, hg7]; rfl)
                  omega
                have ON := Only.of_grown hgd
                have hwx : wx.heap.size < wa.heap.size := PS2.out.lt
                have hT4 := HT.out.2
                have hzd := ON.size
                have MD := Hid.mk hmd
                have K0 := (ON.cell (p := ⟨T, 0, none⟩) (by show T < wc.heap.size; omega) (by show ¬ T = wx.heap.size; omega)).trans K0
                have K1 := (ON.cell (p := ⟨T, 1, none⟩) (by show T < wc.heap.size; omega) (by show ¬ T = wx.heap.size; omega)).trans K1
                have K2 := (ON.cell (p := ⟨T, 2, none⟩) (by show T < wc.heap.size; omega) (by show ¬ T = wx.heap.size; omega)).trans K2
                have K3 := (ON.cell (p := ⟨T, 3, none⟩) (by show T < wc.heap.size; omega) (by show ¬ T = wx.heap.size; omega)).trans K3
                have OLd : Hid (OwnP wd w6.heap.size v6 L2) := own_keep OLc.out fun g hgb hg _ => ON.block g hg (by omega)
                have OVd : Hid (OwnP wd w8.heap.size (.slice (some ⟨gn, 0, none⟩) N.length capn) N) := own_keep OVc.out fun g hgb hg _ => ON.block g hg (by have := PS.out.lt; omega)
                have BD : Hid (Below wx.heap.size wx wd) := BBC.out.trans ⟨ON.os, ON.tape, ON.output, ON.size, fun k hk => ON.block k (by omega) (by omega)⟩
                clear hmd hgd ON
                go_wp2_with (at_builtin; go_must (refine wpList_pushP rfl _ _ rfl w6.heap.size v6 L2 q _ _ _ _ HQQ.out.1 HQQ.out.2.1 HQQ.out.2.2.1 HQQ.out.2.2.2 rfl OLd.out (by omega) _ rfl hl2m2.out ?_; intro g9 c9 we hoe hone hge))
                go_roundw
                case rel =>
                  have el : (L2 ++ [q]).length = L2.length + 1 := by simp
                  rw [el] at hoe
                  have hown : ∀ k, v6.ownBlock = some k → w6.heap.size ≤ k ∧ k < wd.heap.size := fun k hk => OLd.out.lt k hk
                  refine ⟨L2 ++ [q], t + 1, _, rfl, by go_num, by omega, WK2.out.add IP2.out.1 hSq.out hin, ⟨by rw [el]; have := IP2.out.1; omega, ?_⟩, fun x hx => ?_, by rw [el]; omega, ALNH.out _ (fun x hx => List.mem_append_left _ hx) (by simp), ?_, hoe, ?_, ?_, ?_⟩
                  · have h := IP2.out.2
                    rw [List.getD_eq_getElem?_getD] at h ⊢
                    rw [List.getElem?_append_left IP2.out.1]; exact h
                  · rcases List.mem_append.1 hx with hx | hx
                    · exact GD2.out x hx
                    · simp at hx; subst hx; exact GQ.out
                  · exact MD.out.block (hone.block _ (by omega) fun hk => by have := (hown _ hk).1; omega)
                  · exact own_keep OVd.out fun g hgb hg hgv => hone.block g hg fun hk => DJ2.out g (by have e : gn = g := Option.some.inj hgv; rw [e]) hk
                  · intro gn2 hgn2 hh
                    have e : g9 = gn2 := Option.some.inj hh
                    rcases hge with h | h
                    · exact DJ2.out gn2 hgn2 (by rw [h, e])
                    · have e2 : gn = gn2 := by have := Option.some.inj hgn2; exact congrArg Addr.block this
                      have h3 := (OVd.out.lt gn rfl).2
                      omega
                  · refine BD.out.trans ⟨hone.os, hone.tape, hone.output, hone.size, fun k hk => hone.block k (by omega) fun hh => ?_⟩
                    have := (hown _ hh).1
                    omega
                case measure => simp [intOf]; omega
            · have hd : t = N.length := by omega
              have WKN : Hid (Work S s L2 (i + 1)) := by
                refine WK2.out.next IP2.out.1 fun q hq => ?_
                have e : L2[i]'IP2.out.1 = p := by
                  have h := IP2.out.2
                  rw [List.getD_eq_getElem?_getD, List.getElem?_eq_getElem IP2.out.1] at h
                  exact h
                rw [e, HSp.out] at hq
                have hq2 : q ∈ N := by rw [HNN.out]; exact hq
                obtain ⟨k, hk, rfl⟩ := List.mem_iff_getElem.1 hq2
                have h := AL2.out k (by omega)
                rw [List.getD_eq_getElem?_getD, List.getElem?_eq_getElem hk] at h
                exact h
              go_wp2
              go_roundw
              case rel => exact ⟨L2, i + 1, _, rfl, by go_num, WKN.out, GD2.out, .inr (by omega), PS2.out, OL2.out, BA.out⟩
              case measure => simp [intOf]; omega
        · have RES : Hid (Work (fun p q => q ∈ growL (mvN ro co cs) p m) (cellsOf fr m) L i ∧ (i = L.length ∨ bu < L.length) ∧ (∀ q, q ∈ L → Good cs m q) ∧ (L.length ≤ 1 ∨ L.length ≤ bu.toNat + 625) ∧ PosSet w8 wx.heap.size m L ∧ w.heap.size ≤ wx.heap.size ∧ Below w.heap.size w w8) :=
            ⟨by rw [← HSp.out, ← HS.out]; exact WK.out, .inr (by omega), GD.out, hlen, PS.out, by omega, (B1.out.trans (HB.out.mono (by omega))).trans (B8.out.mono (by omega))⟩
          go_wp2
          go_ret
          first | exact ⟨wx.heap.size, L, i, rfl, RES.out⟩ | exact ⟨wx.heap.size, rfl, L, i, RES.out⟩
      · have RES : Hid (Work (fun p q => q ∈ growL (mvN ro co cs) p m) (cellsOf fr m) L i ∧ (i = L.length ∨ bu < L.length) ∧ (∀ q, q ∈ L → Good cs m q) ∧ (L.length ≤ 1 ∨ L.length ≤ bu.toNat + 625) ∧ PosSet w8 wx.heap.size m L ∧ w.heap.size ≤ wx.heap.size ∧ Below w.heap.size w w8) :=
            ⟨by rw [← HSp.out, ← HS.out]; exact WK.out, .inl (by omega), GD.out, hlen, PS.out, by omega, (B1.out.trans (HB.out.mono (by omega))).trans (B8.out.mono (by omega))⟩
        go_wp2
        go_ret
        first | exact ⟨wx.heap.size, L, i, rfl, RES.out⟩ | exact ⟨wx.heap.size, rfl, L, i, RES.out⟩

end Go.Proofs.YtnkgpinadgacgabDoor
