/- Walks of keepLeadingToEnd and of the two functions in it. -/
import Derived.Test.YtnkgpinadgacgaaDoorEe
import Derived.Deep.RegionHeld3
namespace Go.Proofs.YtnkgpinadgacgaaDoor
open Go.RowKit Go.Maps M

set_option maxHeartbeats 1000000 in
theorem end1_any (x T1 tt : Nat) (w : World) (h : w.cell? ⟨T1, 6, none⟩ = some (.int .i64 (tt : Int))) :
    Calls Tryd.prog 161 #[.int .i64 (x : Int), .agg #[], .pointer (some ⟨T1, 0, none⟩)] w fun e w' => e = .returned (.bool (!(x == tt))) ∧ Below w.heap.size w w' := by
  have hl : T1 < w.heap.size := World.block_lt_of_cell? _ _ h
  go_enter Tryd.func161, Tryd.ntmps161
  go_wp2
  go_ret
  refine ⟨ret_bool ?_, (Below.refl _ _).alloc (Nat.le_refl _) _⟩
  rw [Bool.eq_iff_iff]
  simp
  try omega

set_option maxRecDepth 100000 in
set_option maxHeartbeats 4000000 in
theorem lead2_any (ro co bu : Int) (cs : ByteArray) (ac : Option Addr) (mc cc : Nat) (f c S : Int) (bs bt n x at' T1 T2 T3 gl nn cl bn : Nat) (R : Nat → RuleM) (f2 : Nat → Bool) (w : World) (hsd : SidesIn w) (r1 : 1 ≤ ro) (r2 : ro ≤ 6) (r3 : 1 ≤ co) (r4 : co ≤ 6) (hs : cs.size ≤ 36) (hsz : (cs.size : Int) = ro * co) (ht : at' ≤ 1000) (hb : BansIn w bs bt cs.size n R)
    (hx : x < cs.size) (hxf : freeB cs x = true) (h1 : ∀ o, w.cell? ⟨T1, o, none⟩ = #[Value.int IntKind.i64 ro, Value.int IntKind.i64 co, Value.string cs, Value.slice ac mc cc, Value.int IntKind.i64 bu, Value.int IntKind.i64 f, Value.int IntKind.i64 c, Value.map (some bs), Value.map (some bt), Value.int IntKind.i64 S][o]?) (h2 : w.cell? ⟨T2, 0, none⟩ = some (.slice (some ⟨gl, 0, none⟩) nn cl)) (h3 : w.cell? ⟨T3, 0, none⟩ = some (.int .i64 (at' : Int))) (hn : at' + 1 < nn) (h4 : w.cell? ⟨gl, at' + 1, none⟩ = some (.map (some bn))) (hc : CellSet w bn f2) :
    Calls Tryd.prog 162 #[.int .i64 (x : Int), .agg #[], .pointer (some ⟨T1, 0, none⟩), .pointer (some ⟨T2, 0, none⟩), .pointer (some ⟨T3, 0, none⟩)] w fun e w' => e = .returned (.bool (!anyB (fun z => f2 z && goesM co cs n R x z at') cs.size)) ∧ Below w.heap.size w w' := by
  obtain ⟨rb, hrb⟩ : ∃ rb, rb = anyB (fun z => f2 z && goesM co cs n R x z at') cs.size := ⟨_, rfl⟩
  have LI : Hid (∀ u : World, Below w.heap.size w u → Calls Tryd.prog 163 #[.agg #[Value.int IntKind.i64 ro, Value.int IntKind.i64 co, Value.string cs, Value.slice ac mc cc, Value.int IntKind.i64 bu, Value.int IntKind.i64 f, Value.int IntKind.i64 c, Value.map (some bs), Value.map (some bt), Value.int IntKind.i64 S], .map (some bn), .agg #[.int .i64 (x : Int), .int .i64 (at' : Int)]] u fun e w' => e = .returned (.bool rb) ∧ Below u.heap.size u w') := fun u hu => by
    rw [hrb]
    have h := leadsInto_any ro co bu cs ac mc cc f c S bs bt n bn x at' R f2 u (hsd.below hu) r1 r2 r3 r4 hs hsz ht (hb.below hu) (hc.below hu) hx hxf
    unfold tripV at h
    exact h
  have HRB := Hid.mk hrb
  have H1 := Hid.mk h1
  have H2 := Hid.mk h2
  have H3 := Hid.mk h3
  have H4 := Hid.mk h4
  clear hrb hsd hb hc h1 h2 h3 h4
  go_enter Tryd.func162, Tryd.ntmps162
  go_upto_region 1 with fail
  have B0 : Hid (Below w.heap.size w (w.alloc (Obj.cells #[] 171))) := (Below.refl _ w).alloc (Nat.le_refl _) _
  have y0 := cell_later B0.out (H1.out 0)
  have y1 := cell_later B0.out (H1.out 1)
  have y2 := cell_later B0.out (H1.out 2)
  have y3 := cell_later B0.out (H1.out 3)
  have y4 := cell_later B0.out (H1.out 4)
  have y5 := cell_later B0.out (H1.out 5)
  have y6 := cell_later B0.out (H1.out 6)
  have y7 := cell_later B0.out (H1.out 7)
  have y8 := cell_later B0.out (H1.out 8)
  have y9 := cell_later B0.out (H1.out 9)
  have z2 := cell_later B0.out H2.out
  have z3 := cell_later B0.out H3.out
  have z4 := cell_later B0.out H4.out
  have hnI : ((at' : Nat) : Int) + 1 < (nn : Int) := by omega
  have hwr : IntKind.i64.wrap (((at' : Nat) : Int) + 1) = ((at' : Nat) : Int) + 1 := wrap_mid (by omega) (by omega)
  have hge : 0 ≤ ((at' : Nat) : Int) + 1 := by omega
  have htn : (((at' : Nat) : Int) + 1).toNat = at' + 1 := by omega
  generalize (w.alloc (Obj.cells #[] 171)) = w0 at *
  go_region_held3 (fun w' => w'.cell? ⟨T1, 0, none⟩ = some (Value.int .i64 ro) ∧ w'.cell? ⟨T1, 1, none⟩ = some (.int .i64 co) ∧ w'.cell? ⟨T1, 2, none⟩ = some (.string cs) ∧ w'.cell? ⟨T1, 3, none⟩ = some (.slice ac mc cc) ∧ w'.cell? ⟨T1, 4, none⟩ = some (.int .i64 bu) ∧ w'.cell? ⟨T1, 5, none⟩ = some (.int .i64 f) ∧ w'.cell? ⟨T1, 6, none⟩ = some (.int .i64 c) ∧ w'.cell? ⟨T1, 7, none⟩ = some (.map (some bs)) ∧ w'.cell? ⟨T1, 8, none⟩ = some (.map (some bt)) ∧ w'.cell? ⟨T1, 9, none⟩ = some (.int .i64 S) ∧ w'.cell? ⟨T2, 0, none⟩ = some (.slice (some ⟨gl, 0, none⟩) nn cl) ∧ w'.cell? ⟨T3, 0, none⟩ = some (.int .i64 (at' : Int)) ∧ w'.cell? ⟨gl, at' + 1, none⟩ = some (.map (some bn))) (go_keep)
    (first
      | (go_at_call 163; refine (LI.out _ (by first | exact B0.out.drew | exact B0.out)).mono ?_; rintro e w4 ⟨rfl, hb4⟩; have HB4 := Hid.mk hb4; have p0 : w4.cell? ⟨T1, 0, none⟩ = some (Value.int .i64 ro) := cell_later hb4 y0; have p1 : w4.cell? ⟨T1, 1, none⟩ = some (.int .i64 co) := cell_later hb4 y1; have p2 : w4.cell? ⟨T1, 2, none⟩ = some (.string cs) := cell_later hb4 y2; have p3 : w4.cell? ⟨T1, 3, none⟩ = some (.slice ac mc cc) := cell_later hb4 y3; have p4 : w4.cell? ⟨T1, 4, none⟩ = some (.int .i64 bu) := cell_later hb4 y4; have p5 : w4.cell? ⟨T1, 5, none⟩ = some (.int .i64 f) := cell_later hb4 y5; have p6 : w4.cell? ⟨T1, 6, none⟩ = some (.int .i64 c) := cell_later hb4 y6; have p7 : w4.cell? ⟨T1, 7, none⟩ = some (.map (some bs)) := cell_later hb4 y7; have p8 : w4.cell? ⟨T1, 8, none⟩ = some (.map (some bt)) := cell_later hb4 y8; have p9 : w4.cell? ⟨T1, 9, none⟩ = some (.int .i64 S) := cell_later hb4 y9; have p10 : w4.cell? ⟨T2, 0, none⟩ = some (.slice (some ⟨gl, 0, none⟩) nn cl) := cell_later hb4 z2; have p11 : w4.cell? ⟨T3, 0, none⟩ = some (.int .i64 (at' : Int)) := cell_later hb4 z3; have p12 : w4.cell? ⟨gl, at' + 1, none⟩ = some (.map (some bn)) := cell_later hb4 z4; clear hb4)
      | (fail "none"))
  have hb04 : Hid (Below w0.heap.size w0 w4) := (Below.refl _ w0).drew.trans (by exact HB4.out)
  have BW4 : Hid (Below w.heap.size w w4) := B0.out.trans (hb04.out.mono B0.out.size)
  clear y0 y1 y2 y3 y4 y5 y6 y7 y8 y9 z2 z3 z4 p0 p1 p2 p3 p4 p5 p6 p7 p8 p9 p10 p11 p12
  go_wp2
  go_ret
  exact ⟨ret_bool (by rw [HRB.out]), BW4.out⟩

/-- A list of sets of cells in memory. -/
structure LaysIn (w : World) (gl n : Nat) (B : Nat → Nat) (F : Nat → Nat → Bool) : Prop where
  cells : ∀ t, t < n → w.cell? ⟨gl, t, none⟩ = some (.map (some (B t)))
  sets : ∀ t, t < n → CellSet w (B t) (F t)
  inj : ∀ s t, s < n → t < n → B s = B t → s = t
  ne : ∀ t, t < n → B t ≠ gl

theorem LaysIn.lt {w : World} {gl n : Nat} {B : Nat → Nat} {F : Nat → Nat → Bool} (h : LaysIn w gl n B F) (hn : 0 < n) : gl < w.heap.size := World.block_lt_of_cell? (a := ⟨gl, 0, none⟩) w (h.cells 0 hn)

theorem LaysIn.below {w w' : World} {gl n : Nat} {B : Nat → Nat} {F : Nat → Nat → Bool} (h : LaysIn w gl n B F) (hb : Below w.heap.size w w') : LaysIn w' gl n B F :=
  ⟨fun t ht => cell_later hb (h.cells t ht), fun t ht => (h.sets t ht).below hb, h.inj, h.ne⟩

/-- One of the sets has turned. -/
theorem LaysIn.turn {w w' : World} {gl n s : Nat} {B : Nat → Nat} {F : Nat → Nat → Bool} {f' : Nat → Bool} (h : LaysIn w gl n B F) (hs : s < n) (ho : Only (fun k => k = B s) w w') (hc : CellSet w' (B s) f') : LaysIn w' gl n B (fun t => if t = s then f' else F t) := by
  have hgl := h.lt (by omega)
  refine ⟨fun t ht => (cell_block (ho.block gl hgl (fun e => h.ne s hs e.symm))).trans (h.cells t ht), fun t ht => ?_, h.inj, h.ne⟩
  by_cases e : t = s
  · rw [if_pos e, e]; exact hc
  · rw [if_neg e]
    exact (h.sets t ht).block (ho.block _ (h.sets t ht).lt (fun hh => e (h.inj t s ht hs hh)))

theorem LaysIn.same {w : World} {gl n : Nat} {B : Nat → Nat} {F F' : Nat → Nat → Bool} (h : LaysIn w gl n B F) (e : ∀ t, t < n → ∀ c, c < 36 → F t c = F' t c) : LaysIn w gl n B F' :=
  ⟨h.cells, fun t ht => (h.sets t ht).same (e t ht), h.inj, h.ne⟩

/-- From the end backwards: j instants ahead of it, the cells from which one comes to a cell at the end. -/
def keepJ (N T tt : Nat) (F : Nat → Nat → Bool) (go : Nat → Nat → Nat → Bool) : Nat → Nat → Bool
  | 0, z => F T z && z == tt
  | j + 1, z => F (T - (j + 1)) z && anyB (fun y => keepJ N T tt F go j y && go z y (T - (j + 1))) N

end Go.Proofs.YtnkgpinadgacgaaDoor
