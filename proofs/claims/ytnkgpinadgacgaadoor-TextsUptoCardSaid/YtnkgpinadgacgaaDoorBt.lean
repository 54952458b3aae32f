/- Walk of shaped: a good yard out of a raw one. -/
import Derived.Test.YtnkgpinadgacgaaDoorBf
import Derived.Test.YtnkgpinadgacgaaDoorBi
import Derived.Deep.RegionHeld3
import Derived.Deep.RegionLaw
import Derived.Deep.AppendLies
import Derived.Deep.DeepCutAuto
import Derived.Test.YtnkgpinadgacgaaDoorOp
namespace Go.Proofs.YtnkgpinadgacgaaDoor
open Go.RowKit M

/-- Numbers of a list that came in. -/
def IntsIn (w : World) (a : Option Addr) (n : Nat) (x : Nat → Int) : Prop :=
  (∀ i, i < n → (Lit.int .i64 (x i)).wf = true) ∧ (0 < n → ∃ b off, a = some ⟨b, off, none⟩ ∧ ∀ i, i < n → w.cell? ⟨b, off + i, none⟩ = some (.int .i64 (x i)))

/-- A list of carts that the call made. -/
theorem own_carts {w : World} {base m cc : Nat} {e : TypeId} {ac : Option Addr} {fr tt : Nat → Int} (h : w.ownsRow base e 2 (.slice ac m cc) m (cartCells fr tt m)) (hm : 0 < m) : ∃ g, ac = some ⟨g, 0, none⟩ ∧ CartsIn w g 0 m fr tt := by
  rcases h.2 with ⟨_, e2⟩ | ⟨g, cap', cur, hv, _, hh, h4, _, h6, h7⟩
  · omega
  · cases hv
    refine ⟨g, rfl, fun i hi => ?_⟩
    have hcc : (cartCells fr tt m)[i * 2]? = some (.int .i64 (fr i)) ∧ (cartCells fr tt m)[i * 2 + 1]? = some (.int .i64 (tt i)) := cartCells_at hi
    obtain ⟨c1, c2⟩ := hcc
    rw [← h7, List.getElem?_take, if_pos (by omega), Array.getElem?_toList] at c1 c2
    exact ⟨by simpa [World.cell?, hh] using c1, by simpa [World.cell?, hh] using c2⟩

theorem carts_set {w : World} {b off n b' o : Nat} {fr tt : Nat → Int} {v : Value} (h : CartsIn w b off n fr tt) (hne : b ≠ b') : CartsIn (w.setCell ⟨b', o, none⟩ v) b off n fr tt := by
  intro i hi
  obtain ⟨h1, h2⟩ := h i hi
  exact ⟨by rw [World.cell?_setCell_other _ _ _ _ (by intro hh; cases hh; exact hne rfl)]; exact h1, by rw [World.cell?_setCell_other _ _ _ _ (by intro hh; cases hh; exact hne rfl)]; exact h2⟩

/-- What stands while the carts are chosen: the raw yard, the place of the result, the yard, old memory. -/
structure Env (w : World) (rr rc rb : Int) (s : ByteArray) (a : Option Addr) (n cap : Nat) (R C U : Nat) (cs : ByteArray) (wr : World) (ac : Option Addr) (m cc : Nat) : Prop where
  raw : ∀ o, wr.cell? ⟨w.heap.size, o, none⟩ = #[Value.int .i64 rr, .int .i64 rc, .string s, .slice a n cap, .int .i64 rb][o]?
  res : ∀ o, wr.cell? ⟨w.heap.size + 1, o, none⟩ = #[Value.int .i64 0, .int .i64 0, .string ⟨#[]⟩, .slice none 0 0, .int .i64 0][o]?
  resf : ∀ o, wr.frozen? ⟨w.heap.size + 1, o, none⟩ = false
  y : ∀ o, wr.cell? ⟨w.heap.size + 2, o, none⟩ = #[Value.int .i64 (R : Int), .int .i64 (C : Int), .string cs, .slice ac m cc, .int .i64 (U : Int)][o]?
  yf : ∀ o, wr.frozen? ⟨w.heap.size + 2, o, none⟩ = false
  below : Below w.heap.size w wr
  size : w.heap.size + 3 ≤ wr.heap.size

theorem Env.keep {w wr wx : World} {rr rc rb : Int} {s : ByteArray} {a : Option Addr} {n cap R C U : Nat} {cs : ByteArray} {ac : Option Addr} {m cc : Nat} (h : Env w rr rc rb s a n cap R C U cs wr ac m cc) (hb : Below (w.heap.size + 3) wr wx) : Env w rr rc rb s a n cap R C U cs wx ac m cc :=
  ⟨fun o => (hb.cell (p := ⟨w.heap.size, o, none⟩) (by show w.heap.size < _; omega)).trans (h.raw o), fun o => (hb.cell (p := ⟨w.heap.size + 1, o, none⟩) (by show w.heap.size + 1 < _; omega)).trans (h.res o),
   fun o => (hb.frozen (p := ⟨w.heap.size + 1, o, none⟩) (by show w.heap.size + 1 < _; omega)).trans (h.resf o), fun o => (hb.cell (p := ⟨w.heap.size + 2, o, none⟩) (by show w.heap.size + 2 < _; omega)).trans (h.y o),
   fun o => (hb.frozen (p := ⟨w.heap.size + 2, o, none⟩) (by show w.heap.size + 2 < _; omega)).trans (h.yf o), h.below.trans (hb.mono (by omega)), Nat.le_trans h.size hb.size⟩

/-- The yard's list of carts is stored. -/
theorem Env.store {w wr : World} {rr rc rb : Int} {s : ByteArray} {a : Option Addr} {n cap R C U : Nat} {cs : ByteArray} {ac : Option Addr} {m cc : Nat} (h : Env w rr rc rb s a n cap R C U cs wr ac m cc) (ac' : Option Addr) (m' cc' : Nat) :
    Env w rr rc rb s a n cap R C U cs (wr.setCell ⟨w.heap.size + 2, 3, none⟩ (.slice ac' m' cc')) ac' m' cc' := by
  have hb : Below (w.heap.size + 2) wr (wr.setCell ⟨w.heap.size + 2, 3, none⟩ (.slice ac' m' cc')) := (Below.refl (w.heap.size + 2) wr).setCell (by show w.heap.size + 2 ≤ w.heap.size + 2; omega) _
  exact ⟨fun o => (hb.cell (p := ⟨w.heap.size, o, none⟩) (by show w.heap.size < _; omega)).trans (h.raw o), fun o => (hb.cell (p := ⟨w.heap.size + 1, o, none⟩) (by show w.heap.size + 1 < _; omega)).trans (h.res o),
   fun o => (hb.frozen (p := ⟨w.heap.size + 1, o, none⟩) (by show w.heap.size + 1 < _; omega)).trans (h.resf o), box_set h.y (by simp) rfl, fun o => by rw [World.frozen?_setCell]; exact h.yf o, h.below.trans (hb.mono (by omega)), Nat.le_trans h.size hb.size⟩

/-- What stands when a cart was added. -/
structure Mid (w : World) (rr rc rb : Int) (s : ByteArray) (a : Option Addr) (n cap : Nat) (R C U : Nat) (cs : ByteArray) (wr wx : World) (a4 : Option Addr) (c4 : Nat) (Lf : List Int) (a5 : Option Addr) (c5 : Nat) (Lt : List Int) (g1 cc1 m : Nat) (fr tt : Nat → Int) : Prop where
  carts : wx.ownsRow (w.heap.size + 3) 87 2 (.slice (some ⟨g1, 0, none⟩) (m + 1) cc1) (m + 1) (cartCells fr tt (m + 1))
  lf : wx.ownsRow (w.heap.size + 3) 3 1 (.slice a4 Lf.length c4) Lf.length (ints Lf)
  lt : wx.ownsRow (w.heap.size + 3) 3 1 (.slice a5 Lt.length c5) Lt.length (ints Lt)
  env : Env w rr rc rb s a n cap R C U cs wx (some ⟨g1, 0, none⟩) (m + 1) cc1
  size : wr.heap.size ≤ wx.heap.size

theorem mid_mk {w : World} {rr rc rb : Int} {s : ByteArray} {a : Option Addr} {n cap R C U : Nat} {cs : ByteArray} {wr pre w9 : World} {a4 a5 ac : Option Addr} {c4 c5 cc m g1 cc1 : Nat} {Lf Lt : List Int} {fr tt : Nat → Int} {u v : Int}
    (EN : Env w rr rc rb s a n cap R C U cs wr ac m cc) (O4 : wr.ownsRow (w.heap.size + 3) 3 1 (.slice a4 Lf.length c4) Lf.length (ints Lf)) (O5 : wr.ownsRow (w.heap.size + 3) 3 1 (.slice a5 Lt.length c5) Lt.length (ints Lt))
    (OC : wr.ownsRow (w.heap.size + 3) 87 2 (.slice ac m cc) m (cartCells fr tt m))
    (DIS : ∀ g, Value.ownBlock (.slice ac m cc) = some g → Value.ownBlock (.slice a4 Lf.length c4) ≠ some g ∧ Value.ownBlock (.slice a5 Lt.length c5) ≠ some g)
    (hp : Below wr.heap.size wr pre) (ho : w9.ownsRow (w.heap.size + 3) 87 2 (.slice (some ⟨g1, 0, none⟩) (m + 1) cc1) (m + 1) (cartCells fr tt m ++ [.int .i64 u, .int .i64 v])) (hg : pre.grownBy w9 (Value.ownBlock (.slice ac m cc))) :
    Mid w rr rc rb s a n cap R C U cs wr (w9.setCell ⟨w.heap.size + 2, 3, none⟩ (.slice (some ⟨g1, 0, none⟩) (m + 1) cc1)) a4 c4 Lf a5 c5 Lt g1 cc1 m (ext fr m u) (ext tt m v) := by
  have hsz := EN.size
  have hb9 : Below (w.heap.size + 3) wr w9 := (hp.mono hsz).grown hg (Nat.le_trans hsz hp.size) (fun k hk => (OC.lt k hk).1)
  have hset : ∀ k, w.heap.size + 3 ≤ k → (w9.setCell ⟨w.heap.size + 2, 3, none⟩ (.slice (some ⟨g1, 0, none⟩) (m + 1) cc1)).heap[k]? = w9.heap[k]? := fun k hk => Below.heap_setCell _ _ _ _ (by show k ≠ w.heap.size + 2; omega)
  refine ⟨?_, ?_, ?_, (EN.keep hb9).store _ _ _, ?_⟩
  · rw [cartCells_ext]
    exact own_keep ho fun k hk _ _ => hset k hk
  · refine own_keep O4 fun k hk hkl hk2 => (hset k hk).trans ((hg.block k (Nat.lt_of_lt_of_le hkl hp.size) (fun e => (DIS k e.symm).1 hk2)).trans (hp.block k hkl))
  · refine own_keep O5 fun k hk hkl hk2 => (hset k hk).trans ((hg.block k (Nat.lt_of_lt_of_le hkl hp.size) (fun e => (DIS k e.symm).2 hk2)).trans (hp.block k hkl))
  · have := hb9.size
    simpa [World.setCell] using this

theorem wrap_small {p : Nat} (h : p < 20000) : IntKind.i64.wrap (1 + (p : Int)) = 1 + (p : Int) := by rw [IntKind.wrap_i64]; omega

theorem pick6 (c : Int) (w : World) (hc : (Lit.int .i64 c).wf = true) :
    Calls Tryd.prog 50 #[.int .i64 c, .int .i64 6] w fun e w' => ∃ r : Nat, r < 6 ∧ e = .returned (.int .i64 r) ∧ w' = w := pick_any c 6 w (by decide) (by decide) hc

theorem pickB (c : Int) (w : World) (hc : (Lit.int .i64 c).wf = true) :
    Calls Tryd.prog 50 #[.int .i64 c, .int .i64 20000] w fun e w' => ∃ r : Nat, r < 20000 ∧ e = .returned (.int .i64 r) ∧ w' = w := pick_any c 20000 w (by decide) (by decide) hc

set_option maxRecDepth 100000 in
set_option maxHeartbeats 2000000 in
theorem shaped_any (rr rc rb : Int) (s : ByteArray) (a : Option Addr) (n cap : Nat) (x : Nat → Int) (w : World) (_hs : s.size ≤ maxLen) (hn : n ≤ 17592186044415)
    (wr0 : (Lit.int .i64 rr).wf = true) (wc0 : (Lit.int .i64 rc).wf = true) (wb0 : (Lit.int .i64 rb).wf = true) (hx : IntsIn w a n x) :
    Calls Tryd.prog 47 #[.agg #[.int .i64 rr, .int .i64 rc, .string s, .slice a n cap, .int .i64 rb]] w fun e w' =>
      ∃ (R C U m cc g : Nat) (cs : ByteArray) (fr tt : Nat → Int), e = .returned (.agg #[.int .i64 (R : Int), .int .i64 (C : Int), .string cs, .slice (some ⟨g, 0, none⟩) m cc, .int .i64 (U : Int)]) ∧
        1 ≤ m ∧ m ≤ 4 ∧ m ≤ cc ∧ CartsIn w' g 0 m fr tt ∧ checkM R C cs m fr tt U = (0, 0) ∧ freeB cs 0 = true ∧ cs.size ≤ 36 ∧ Below w.heap.size w w' := by
  have HX := Hid.mk hx
  clear hx
  obtain ⟨i0, hi0, hi1, hi2, hi3⟩ := info_parts Tryd.infoCart
  go_enter Tryd.func47, Tryd.ntmps47
  go_upto_region 1 with fail
  have hB2 : Hid (Below w.heap.size w ((w.alloc (Obj.cells #[Value.int IntKind.i64 rr, Value.int IntKind.i64 rc, Value.string s, Value.slice a n cap, Value.int IntKind.i64 rb] 79)).alloc (Obj.cells #[Value.int IntKind.i64 0, Value.int IntKind.i64 0, Value.string ⟨#[]⟩, Value.slice none 0 0, Value.int IntKind.i64 0] 24))) := ((Below.refl _ w).alloc (Nat.le_refl _) _).alloc (by simp) _
  have yr : ∀ o, ((w.alloc (Obj.cells #[Value.int IntKind.i64 rr, Value.int IntKind.i64 rc, Value.string s, Value.slice a n cap, Value.int IntKind.i64 rb] 79)).alloc (Obj.cells #[Value.int IntKind.i64 0, Value.int IntKind.i64 0, Value.string ⟨#[]⟩, Value.slice none 0 0, Value.int IntKind.i64 0] 24)).cell? ⟨w.heap.size, o, none⟩ = #[Value.int .i64 rr, .int .i64 rc, .string s, .slice a n cap, .int .i64 rb][o]? := by
    intro o; go_simp
  have zc : Hid (∀ o, ((w.alloc (Obj.cells #[Value.int IntKind.i64 rr, Value.int IntKind.i64 rc, Value.string s, Value.slice a n cap, Value.int IntKind.i64 rb] 79)).alloc (Obj.cells #[Value.int IntKind.i64 0, Value.int IntKind.i64 0, Value.string ⟨#[]⟩, Value.slice none 0 0, Value.int IntKind.i64 0] 24)).cell? ⟨w.heap.size + 1, o, none⟩ = #[Value.int .i64 0, .int .i64 0, .string ⟨#[]⟩, .slice none 0 0, .int .i64 0][o]?) := by
    intro o; go_simp
  have zf : Hid (∀ o, ((w.alloc (Obj.cells #[Value.int IntKind.i64 rr, Value.int IntKind.i64 rc, Value.string s, Value.slice a n cap, Value.int IntKind.i64 rb] 79)).alloc (Obj.cells #[Value.int IntKind.i64 0, Value.int IntKind.i64 0, Value.string ⟨#[]⟩, Value.slice none 0 0, Value.int IntKind.i64 0] 24)).frozen? ⟨w.heap.size + 1, o, none⟩ = false) := by
    intro o; go_simp
  have hz : ((w.alloc (Obj.cells #[Value.int IntKind.i64 rr, Value.int IntKind.i64 rc, Value.string s, Value.slice a n cap, Value.int IntKind.i64 rb] 79)).alloc (Obj.cells #[Value.int IntKind.i64 0, Value.int IntKind.i64 0, Value.string ⟨#[]⟩, Value.slice none 0 0, Value.int IntKind.i64 0] 24)).heap.size = w.heap.size + 2 := by simp
  generalize (w.alloc (Obj.cells #[Value.int IntKind.i64 rr, Value.int IntKind.i64 rc, Value.string s, Value.slice a n cap, Value.int IntKind.i64 rb] 79)).alloc (Obj.cells #[Value.int IntKind.i64 0, Value.int IntKind.i64 0, Value.string ⟨#[]⟩, Value.slice none 0 0, Value.int IntKind.i64 0] 24) = w2 at *
  have r0 : w2.cell? ⟨w.heap.size, 0, none⟩ = some (.int .i64 rr) := by rw [yr]; rfl
  have r1 : w2.cell? ⟨w.heap.size, 1, none⟩ = some (.int .i64 rc) := by rw [yr]; rfl
  have r4 : w2.cell? ⟨w.heap.size, 4, none⟩ = some (.int .i64 rb) := by rw [yr]; rfl
  have Yr := Hid.mk yr
  clear yr
  have n0 := World.new_ne w2 _ r0
  have n1 := World.new_ne w2 _ r1
  have n4 := World.new_ne w2 _ r4
  go_cut [3] (fun s3 wx => ∃ p1 p2 p3 : Nat, p1 < 6 ∧ p2 < 6 ∧ p3 < 20000 ∧ s3 = .pointer (some ⟨w.heap.size + 2, 0, none⟩) ∧ ∃ nq, wx = ((w2.alloc (Obj.cells #[Value.int IntKind.i64 (1 + (p1 : Int)), Value.int IntKind.i64 (1 + (p2 : Int)), Value.string ⟨#[]⟩, Value.slice none 0 0, Value.int IntKind.i64 (1 + (p3 : Int))] 24)).drewN nq))
  case first =>
    go_region_held3 (fun w' => w'.cell? ⟨w.heap.size, 0, none⟩ = some (.int .i64 rr) ∧ w'.cell? ⟨w.heap.size, 1, none⟩ = some (.int .i64 rc) ∧ w'.cell? ⟨w.heap.size, 4, none⟩ = some (.int .i64 rb)) (go_keep)
      (first
        | (go_at_call_of 50 (Value.int IntKind.i64 rr); refine (pick6 rr _ wr0).mono ?_; rintro e w' ⟨p1, hp1, rfl, rfl⟩)
        | (go_at_call_of 50 (Value.int IntKind.i64 rc); refine (pick6 rc _ wc0).mono ?_; rintro e w' ⟨p2, hp2, rfl, rfl⟩)
        | (go_at_call_of 50 (Value.int IntKind.i64 rb); refine (pickB rb _ wb0).mono ?_; rintro e w' ⟨p3, hp3, rfl, rfl⟩))
    all_goals (go_wp2_with fail)
    all_goals go_meet
    all_goals (case rel => exact ⟨p1, p2, p3, hp1, hp2, hp3, rfl, 1, by rw [wrap_small (show p1 < 20000 by omega), wrap_small (show p2 < 20000 by omega), wrap_small (show p3 < 20000 by omega)]; rfl⟩)
  case rest =>
    obtain ⟨p1, p2, p3, hp1, hp2, hp3, rfl, nq, rfl⟩ := hcut
    have hBq : Below w2.heap.size w2 ((w2.alloc (Obj.cells #[Value.int IntKind.i64 (1 + (p1 : Int)), Value.int IntKind.i64 (1 + (p2 : Int)), Value.string ⟨#[]⟩, Value.slice none 0 0, Value.int IntKind.i64 (1 + (p3 : Int))] 24)).drewN nq) := below_drewN ((Below.refl _ _).alloc (Nat.le_refl _) _) _
    obtain ⟨R, hR⟩ : ∃ R : Nat, R = 1 + p1 := ⟨_, rfl⟩
    obtain ⟨C, hC⟩ : ∃ C : Nat, C = 1 + p2 := ⟨_, rfl⟩
    obtain ⟨U, hU⟩ : ∃ U : Nat, U = 1 + p3 := ⟨_, rfl⟩
    have yq : ∀ o, ((w2.alloc (Obj.cells #[Value.int IntKind.i64 (1 + (p1 : Int)), Value.int IntKind.i64 (1 + (p2 : Int)), Value.string ⟨#[]⟩, Value.slice none 0 0, Value.int IntKind.i64 (1 + (p3 : Int))] 24)).drewN nq).cell? ⟨w.heap.size + 2, o, none⟩ = #[Value.int .i64 (R : Int), .int .i64 (C : Int), .string ⟨#[]⟩, .slice none 0 0, .int .i64 (U : Int)][o]? := by
      intro o
      show (w2.alloc _).cell? _ = _
      rw [World.cell?_alloc_at _ _ _ _ hz.symm, show (1 + (p1 : Int)) = (R : Int) by omega, show (1 + (p2 : Int)) = (C : Int) by omega, show (1 + (p3 : Int)) = (U : Int) by omega]
    have yqf : ∀ o, ((w2.alloc (Obj.cells #[Value.int IntKind.i64 (1 + (p1 : Int)), Value.int IntKind.i64 (1 + (p2 : Int)), Value.string ⟨#[]⟩, Value.slice none 0 0, Value.int IntKind.i64 (1 + (p3 : Int))] 24)).drewN nq).frozen? ⟨w.heap.size + 2, o, none⟩ = false := by
      intro o
      show (w2.alloc _).frozen? _ = _
      rw [← hz]; go_simp
    have hzq : ((w2.alloc (Obj.cells #[Value.int IntKind.i64 (1 + (p1 : Int)), Value.int IntKind.i64 (1 + (p2 : Int)), Value.string ⟨#[]⟩, Value.slice none 0 0, Value.int IntKind.i64 (1 + (p3 : Int))] 24)).drewN nq).heap.size = w.heap.size + 3 := by show (w2.alloc _).heap.size = _; simp; omega
    have rq : ∀ o, ((w2.alloc (Obj.cells #[Value.int IntKind.i64 (1 + (p1 : Int)), Value.int IntKind.i64 (1 + (p2 : Int)), Value.string ⟨#[]⟩, Value.slice none 0 0, Value.int IntKind.i64 (1 + (p3 : Int))] 24)).drewN nq).cell? ⟨w.heap.size, o, none⟩ = #[Value.int .i64 rr, .int .i64 rc, .string s, .slice a n cap, .int .i64 rb][o]? := fun o => (hBq.cell (p := ⟨w.heap.size, o, none⟩) (by show w.heap.size < _; omega)).trans (Yr.out o)
    have zq : Hid (∀ o, ((w2.alloc (Obj.cells #[Value.int IntKind.i64 (1 + (p1 : Int)), Value.int IntKind.i64 (1 + (p2 : Int)), Value.string ⟨#[]⟩, Value.slice none 0 0, Value.int IntKind.i64 (1 + (p3 : Int))] 24)).drewN nq).cell? ⟨w.heap.size + 1, o, none⟩ = #[Value.int .i64 0, .int .i64 0, .string ⟨#[]⟩, .slice none 0 0, .int .i64 0][o]?) := fun o => (hBq.cell (p := ⟨w.heap.size + 1, o, none⟩) (by show w.heap.size + 1 < _; omega)).trans (zc.out o)
    have zqf : Hid (∀ o, ((w2.alloc (Obj.cells #[Value.int IntKind.i64 (1 + (p1 : Int)), Value.int IntKind.i64 (1 + (p2 : Int)), Value.string ⟨#[]⟩, Value.slice none 0 0, Value.int IntKind.i64 (1 + (p3 : Int))] 24)).drewN nq).frozen? ⟨w.heap.size + 1, o, none⟩ = false) := fun o => (hBq.frozen (p := ⟨w.heap.size + 1, o, none⟩) (by show w.heap.size + 1 < _; omega)).trans (zf.out o)
    have hBw : Hid (Below w.heap.size w ((w2.alloc (Obj.cells #[Value.int IntKind.i64 (1 + (p1 : Int)), Value.int IntKind.i64 (1 + (p2 : Int)), Value.string ⟨#[]⟩, Value.slice none 0 0, Value.int IntKind.i64 (1 + (p3 : Int))] 24)).drewN nq)) := hB2.out.trans (hBq.mono (by omega))
    clear r0 r1 r4 n0 n1 n4 hBq zc zf Yr hB2
    generalize (w2.alloc (Obj.cells #[Value.int IntKind.i64 (1 + (p1 : Int)), Value.int IntKind.i64 (1 + (p2 : Int)), Value.string ⟨#[]⟩, Value.slice none 0 0, Value.int IntKind.i64 (1 + (p3 : Int))] 24)).drewN nq = wq at *
    have hRC : 1 ≤ R ∧ R ≤ 6 ∧ 1 ≤ C ∧ C ≤ 6 ∧ 1 ≤ U ∧ U ≤ 20000 := by omega
    clear hR hC hU hp1 hp2 hp3 hz
    obtain ⟨R1, R2, C1, C2, U1, U2⟩ := hRC
    obtain ⟨m1, m2⟩ := mul_bd (a := (R : Int)) (b := (C : Int)) (by omega) (by omega) (by omega) (by omega)
    go_wp2_with fail
    rw [show (R : Int) * (C : Int) = ((R * C : Nat) : Int) from (Int.natCast_mul R C).symm] at m1 m2 ⊢
    refine (walls_any _ _ _ s _ (R * C) _ (by omega)).mono ?_
    rintro e w5 ⟨rfl, hb5⟩
    obtain ⟨cs, hcs⟩ : ∃ cs, cs = wallS s (R * C) := ⟨_, rfl⟩
    rw [← hcs]
    have hN : cs.size = R * C := by rw [hcs, wallS_size]
    have HCS := Hid.mk hcs
    have hN36 : cs.size ≤ 36 := by omega
    have hN1 : 1 ≤ cs.size := by omega
    have HN := Hid.mk hN
    have y5 : ∀ o, w5.cell? ⟨w.heap.size + 2, o, none⟩ = #[Value.int .i64 (R : Int), .int .i64 (C : Int), .string ⟨#[]⟩, .slice none 0 0, .int .i64 (U : Int)][o]? := fun o => (hb5.cell (p := ⟨w.heap.size + 2, o, none⟩) (by show w.heap.size + 2 < _; omega)).trans (yq o)
    have y5f : ∀ o, w5.frozen? ⟨w.heap.size + 2, o, none⟩ = false := fun o => (hb5.frozen (p := ⟨w.heap.size + 2, o, none⟩) (by show w.heap.size + 2 < _; omega)).trans (yqf o)
    have hsz5 := hb5.size
    have R5 : Hid (∀ o, (w5.setCell ⟨w.heap.size + 2, 2, none⟩ (.string cs)).cell? ⟨w.heap.size, o, none⟩ = #[Value.int .i64 rr, .int .i64 rc, .string s, .slice a n cap, .int .i64 rb][o]?) := fun o => ((hb5.mono (by omega : w.heap.size + 2 ≤ _)).setCell (Nat.le_refl _) (.string cs) |>.cell (p := ⟨w.heap.size, o, none⟩) (by show w.heap.size < _; omega)).trans (rq o)
    have Z5 : Hid (∀ o, (w5.setCell ⟨w.heap.size + 2, 2, none⟩ (.string cs)).cell? ⟨w.heap.size + 1, o, none⟩ = #[Value.int .i64 0, .int .i64 0, .string ⟨#[]⟩, .slice none 0 0, .int .i64 0][o]?) := fun o => ((hb5.mono (by omega : w.heap.size + 2 ≤ _)).setCell (Nat.le_refl _) (.string cs) |>.cell (p := ⟨w.heap.size + 1, o, none⟩) (by show w.heap.size + 1 < _; omega)).trans (zq.out o)
    have ZF5 : Hid (∀ o, (w5.setCell ⟨w.heap.size + 2, 2, none⟩ (.string cs)).frozen? ⟨w.heap.size + 1, o, none⟩ = false) := fun o => ((hb5.mono (by omega : w.heap.size + 2 ≤ _)).setCell (Nat.le_refl _) (.string cs) |>.frozen (p := ⟨w.heap.size + 1, o, none⟩) (by show w.heap.size + 1 < _; omega)).trans (zqf.out o)
    have B5 : Hid (Below w.heap.size w (w5.setCell ⟨w.heap.size + 2, 2, none⟩ (.string cs))) := (hBw.out.trans (hb5.mono (by omega))).setCell (by show w.heap.size ≤ w.heap.size + 2; omega) _
    have Y6 : Hid (∀ o, (w5.setCell ⟨w.heap.size + 2, 2, none⟩ (.string cs)).cell? ⟨w.heap.size + 2, o, none⟩ = #[Value.int .i64 (R : Int), .int .i64 (C : Int), .string cs, .slice none 0 0, .int .i64 (U : Int)][o]?) := box_set y5 (by simp) rfl
    have YF6 : Hid (∀ o, (w5.setCell ⟨w.heap.size + 2, 2, none⟩ (.string cs)).frozen? ⟨w.heap.size + 2, o, none⟩ = false) := fun o => by rw [World.frozen?_setCell]; exact y5f o
    have hsz6 : (w5.setCell ⟨w.heap.size + 2, 2, none⟩ (.string cs)).heap.size = w5.heap.size := by simp [World.setCell]
    clear yq yqf rq hb5 hBw zq zqf hcs hN
    go_wp2_with fail
    clear y5 y5f
    generalize w5.setCell ⟨w.heap.size + 2, 2, none⟩ (.string cs) = w6 at *
    have E6 : Hid (Env w rr rc rb s a n cap R C U cs w6 none 0 0) := ⟨R5.out, Z5.out, ZF5.out, Y6.out, YF6.out, B5.out, by omega⟩
    have hsz60 : w.heap.size + 3 ≤ w6.heap.size := by omega
    clear R5 Z5 ZF5 Y6 YF6 B5 hsz6 hzq hsz5
    refine (kfree_any _ _ _ cs _ _ hN36).mono ?_
    rintro e w7 ⟨v4, rfl, ho4, hb7⟩
    have hs7 : w6.heap.size ≤ w7.heap.size := hb7.size
    have E7 : Hid (Env w rr rc rb s a n cap R C U cs w7 none 0 0) := E6.out.keep (hb7.mono hsz60)
    have O4 := Hid.mk ho4
    have y7 := E7.out.y
    clear ho4 hb7
    go_wp2_with fail
    refine (kfree_any _ _ _ cs _ _ hN36).mono ?_
    rintro e w8 ⟨v5, rfl, ho5, hb8⟩
    have hs8 : w7.heap.size ≤ w8.heap.size := hb8.size
    have E8 : Hid (Env w rr rc rb s a n cap R C U cs w8 none 0 0) := E7.out.keep (hb8.mono (by omega))
    have O5 := Hid.mk ho5
    have O4' := Hid.mk (own_below O4.out hb8)
    clear ho5 hb8 y7 E6 E7 O4
    obtain ⟨a4, c4, rfl, h4, h4c⟩ := own_form O4'.out
    obtain ⟨a5, c5, rfl, h5, h5c⟩ := own_form O5.out
    have hlen0 := freeTo_len cs cs.size
    have H45 := Hid.mk (And.intro h4 (And.intro h5 hlen0))
    clear h4 h5 h4c h5c hlen0
    go_wp2
    go_loopw [4, 5, 6] (fun v4 v5 s6 wr => ∃ (Lf Lt : List Int) (a4 a5 ac : Option Addr) (c4 c5 cc i m : Nat) (fr tt : Nat → Int), v4 = .slice a4 Lf.length c4 ∧ v5 = .slice a5 Lt.length c5 ∧ s6 = .int .i64 i ∧ i ≤ n + 1 ∧ Lf.length ≤ 36 ∧ Shape cs Lf Lt m fr tt ∧
      wr.ownsRow (w.heap.size + 3) 3 1 (.slice a4 Lf.length c4) Lf.length (ints Lf) ∧ wr.ownsRow (w.heap.size + 3) 3 1 (.slice a5 Lt.length c5) Lt.length (ints Lt) ∧ wr.ownsRow (w.heap.size + 3) 87 2 (.slice ac m cc) m (cartCells fr tt m) ∧
      (∀ g, Value.ownBlock (.slice ac m cc) = some g → Value.ownBlock (.slice a4 Lf.length c4) ≠ some g ∧ Value.ownBlock (.slice a5 Lt.length c5) ≠ some g) ∧ Env w rr rc rb s a n cap R C U cs wr ac m cc) (fun _ _ s6 _ => n + 2 - (intOf s6).toNat)
    case atStart =>
      refine ⟨freeTo cs cs.size, freeTo cs cs.size, a4, a5, none, c4, c5, 0, 0, 0, fun _ => 0, fun _ => 0, rfl, rfl, rfl, by omega, by have := freeTo_len cs cs.size; omega, shape_zero _ _ _, ?_, ?_, ?_, ?_, ?_⟩
      · exact own_base O4'.out (by omega)
      · exact own_base O5.out (by omega)
      · exact ⟨rfl, .inl ⟨rfl, rfl⟩⟩
      · intro g hg; simp [Value.ownBlock] at hg
      · exact E8.out
    case round =>
      obtain ⟨Lf, Lt, a4, a5, ac, c4, c5, cc, i, m, fr, tt, rfl, rfl, rfl, hi, hl36, hsh, o4, o5, oc, hdis, henv⟩ := hrel
      have SH := Hid.mk hsh
      have O4r := Hid.mk o4
      have O5r := Hid.mk o5
      have OC := Hid.mk oc
      have DIS := Hid.mk hdis
      have EN := Hid.mk henv
      have HLEN := Hid.mk hsh.len
      have hm4 := hsh.m4
      have y1 := henv.y
      have q1 := henv.raw
      have hszr := henv.size
      clear hsh o4 o5 oc hdis henv E8 O4' O5 H45
      by_cases hA : i + 1 < n
      · by_cases hB : m < 4
        · by_cases hC : 0 < Lf.length
          · obtain ⟨b, off, rfl, hxc⟩ := HX.out.2 (by omega)
            have hx0 : wr.cell? ⟨b, off + i, none⟩ = some (.int .i64 (x i)) := cell_later EN.out.below (hxc i (by omega))
            have hx1 : wr.cell? ⟨b, off + (i + 1), none⟩ = some (.int .i64 (x (i + 1))) := cell_later EN.out.below (hxc (i + 1) (by omega))
            have wf0 := HX.out.1 i (by omega)
            have wf1 := HX.out.1 (i + 1) (by omega)
            have hC5 : 0 < Lt.length := by have := HLEN.out; omega
            have hl5 : Lt.length ≤ 36 := by have := HLEN.out; omega
            obtain ⟨g4, rfl⟩ : ∃ g, a4 = some ⟨g, 0, none⟩ := by
              obtain ⟨a', c', e', h', _⟩ := own_form O4r.out
              cases e'; exact h' hC
            obtain ⟨g5, rfl⟩ : ∃ g, a5 = some ⟨g, 0, none⟩ := by
              obtain ⟨a', c', e', h', _⟩ := own_form O5r.out
              cases e'; exact h' hC5
            clear hxc
            go_wp2_with fail
            refine (pick_any (x i) Lf.length _ hC (by omega) wf0).mono ?_
            rintro e w5 ⟨p4, hp4, rfl, hw5⟩
            have hw5 := hw5.symm
            subst hw5
            go_wp2_with fail
            refine (pick_any (x (i + 1)) Lt.length _ hC5 (by omega) wf1).mono ?_
            rintro e w5 ⟨p5, hp5, rfl, hw5⟩
            have hw5 := hw5.symm
            subst hw5
            clear hx0 hx1 wf0 wf1 q1
            have d4 : wr.cell? ⟨g4, p4, none⟩ = some (.int .i64 (Lf.getD p4 0)) := by rw [own_cell O4r.out hp4, ints_at' hp4]
            have d5 : wr.cell? ⟨g5, p5, none⟩ = some (.int .i64 (Lt.getD p5 0)) := by rw [own_cell O5r.out hp5, ints_at' hp5]
            have d3 : wr.cell? ⟨w.heap.size + 2, 3, none⟩ = some (.slice ac m cc) := by rw [y1]; rfl
            have d3f : wr.frozen? ⟨w.heap.size + 2, 3, none⟩ = false := EN.out.yf 3
            have i4 : (0 : Int) ≤ (p4 : Int) ∧ (p4 : Int) < (Lf.length : Int) := by omega
            have i5 : (0 : Int) ≤ (p5 : Int) ∧ (p5 : Int) < (Lt.length : Int) := by omega
            obtain ⟨i41, i42⟩ := i4
            obtain ⟨i51, i52⟩ := i5
            obtain ⟨u, hu⟩ : ∃ u, u = Lf.getD p4 0 := ⟨_, rfl⟩
            obtain ⟨v, hv⟩ : ∃ v, v = Lt.getD p5 0 := ⟨_, rfl⟩
            rw [← hu] at d4
            rw [← hv] at d5
            have HU := Hid.mk hu
            have HV := Hid.mk hv
            have D3 : ∀ k, Value.ownBlock (.slice ac m cc) = some k → w.heap.size + 2 ≠ k := fun k hk => by have := (OC.out.lt k hk).1; omega
            have D4 : ∀ k, Value.ownBlock (.slice ac m cc) = some k → g4 ≠ k := fun k hk e => (DIS.out k hk).1 (by rw [← e]; rfl)
            have D5 : ∀ k, Value.ownBlock (.slice ac m cc) = some k → g5 ≠ k := fun k hk e => (DIS.out k hk).2 (by rw [← e]; rfl)
            have n3 := World.new_ne wr _ d3
            have n4 := World.new_ne wr _ d4
            have n5 := World.new_ne wr _ d5
            clear y1 hu hv
            have l2 : w.heap.size + 2 < wr.heap.size := by omega
            have l4 : g4 < wr.heap.size := (own_lt O4r.out).2
            have l5 : g5 < wr.heap.size := (own_lt O5r.out).2
            go_upto_region 10 with fail
            go_cut [] (fun wx => ∃ g1 cc1, Mid w rr rc rb s (some ⟨b, off, none⟩) n cap R C U cs wr wx (some ⟨g4, 0, none⟩) c4 Lf (some ⟨g5, 0, none⟩) c5 Lt g1 cc1 m (ext fr m u) (ext tt m v))
            case first =>
              go_region_law ((refine step_append_lies _ (by rfl) _ _ 22 (by rfl) (w.heap.size + 3) 87 _ _ 2 16 Tryd.underlying22 hi0 hi1 hi2 hi3 rfl (by omega) (.slice ac m cc) m (cartCells fr tt m) (by rfl) (by exact own_keep OC.out (fun g _ hg _ => Below.heap_alloc _ _ _ hg)) _ 1 _ [.int .i64 u, .int .i64 v] (by rfl) (by rfl) (by exact cell_two_new _ _ _ _) (two_oneCell u v) (by omega) (by unfold maxLen; omega) (by omega) (by simp; omega) (wr.heap.size + 1) (by simp) ?_; intro g1 cc1 w9 ho9 hgrow hat9 hl9; have hpre := grown_pre hgrow (by first | exact ((Below.refl _ wr).alloc (Nat.le_refl _) _).drew | exact (Below.refl _ wr).alloc (Nat.le_refl _) _); have e93 := grow_cell d3 hpre.1 hgrow D3; have e94 := grow_cell d4 hpre.1 hgrow D4; have e95 := grow_cell d5 hpre.1 hgrow D5; have hf9 := grow_frozen d3f (by omega) hpre.1 hgrow D3))
              all_goals (try go_wp2_with fail)
              all_goals go_meet
              all_goals (case rel => exact ⟨g1, cc1, mid_mk EN.out O4r.out O5r.out OC.out DIS.out hpre.1 ho9 hgrow⟩)
            case rest =>
              obtain ⟨g1, cc1, hmid⟩ := hcut
              have MID := Hid.mk hmid
              clear hmid
              clear d3 d3f d4 d5 D3 D4 D5 n3 n4 n5 l2 l4 l5
              go_wp2_with fail
              refine (without_any g4 c4 (w.heap.size + 3) Lf p4 _ hl36 hp4 MID.out.lf).mono ?_
              rintro e w5 ⟨v5, rfl, ho5, hb5⟩
              have N4 := Hid.mk ho5
              have L5 := Hid.mk (own_below MID.out.lt hb5)
              have C5' := Hid.mk (own_later MID.out.carts hb5)
              have E5 := Hid.mk (MID.out.env.keep (hb5.mono MID.out.env.size))
              have hzx := MID.out.env.size
              have hz5 := hb5.size
              clear ho5 hb5
              go_wp2_with fail
              refine (without_any g5 c5 (w.heap.size + 3) Lt p5 _ hl5 hp5 L5.out).mono ?_
              rintro e w6 ⟨v6, rfl, ho6, hb6⟩
              have N5 := Hid.mk ho6
              have N4' := Hid.mk (own_below N4.out hb6)
              have C6 := Hid.mk (own_later C5'.out hb6)
              have E6 := Hid.mk (E5.out.keep (hb6.mono E5.out.size))
              have hz6 := hb6.size
              have SS := Hid.mk (shape_step SH.out hp4 hp5 hB)
              rw [← HU.out, ← HV.out] at SS
              have LW := Hid.mk (woTo_len Lf p4 Lf.length)
              clear ho6 hb6
              go_wp2
              go_roundw
              case rel =>
                obtain ⟨a4', c4', rfl, _, _⟩ := own_form N4'.out
                obtain ⟨a5', c5', rfl, _, _⟩ := own_form N5.out
                refine ⟨woTo Lf p4 Lf.length, woTo Lt p5 Lt.length, a4', a5', some ⟨g1, 0, none⟩, c4', c5', cc1, i + 2, m + 1, ext fr m u, ext tt m v, rfl, rfl, by go_num, by omega, ?_, SS.out, ?_, ?_, C6.out, ?_, E6.out⟩
                · rw [LW.out]; split <;> omega
                · exact own_le N4'.out (by omega)
                · exact own_le N5.out (by omega)
                · intro g hg
                  have hgc := (MID.out.carts.lt g hg).2
                  refine ⟨fun e => ?_, fun e => ?_⟩
                  · have := (N4'.out.lt g e).1; omega
                  · have := (N5.out.lt g e).1; omega
              case measure => simp [intOf]; omega
          · have hC' : decide ((0 : Int) < (Lf.length : Int)) = false := decide_eq_false (by omega)
            by_cases hm0 : m = 0
            · have hm0' : ((m : Int) == 0) = true := by simp [hm0]
              have hc1 : m + 1 ≤ maxLen := by unfold maxLen; omega
              have HM0 := Hid.mk hm0
              have yf1 := EN.out.yf
              clear hm0
              go_wp2_with (at_builtin; go_must (refine wpList_append_lies _ rfl _ _ 22 (by rfl) (w.heap.size + 3) 87 _ _ 2 16 Tryd.underlying22 hi0 hi1 hi2 hi3 rfl (by omega) (.slice ac m cc) m (cartCells fr tt m) (by rfl) (by exact own_keep OC.out (fun g _ hg _ => Below.heap_alloc _ _ _ hg)) _ 1 _ [.int .i64 0, .int .i64 0] (by rfl) (by rfl) (by exact cell_two_new _ _ _ _) (by simp [Value.oneCell']) (by omega) hc1 (by omega) (by simp; omega) (wr.heap.size + 1) (by simp) ?_))
              intro g1 cc1 w9 ho9 hg9 _ hl9
              have HO9 := Hid.mk ho9
              have hb9 : Hid (Below (w.heap.size + 3) wr w9) := ((Below.refl _ wr).alloc hszr _).grown hg9 (by simp; omega) (fun k hk => (OC.out.lt k hk).1)
              have E9 := Hid.mk (EN.out.keep hb9.out)
              have E10 := Hid.mk (E9.out.store (some ⟨g1, 0, none⟩) (m + 1) cc1)
              have y9 := E9.out.y
              have yf9 := E9.out.yf
              have z91 := E9.out.res
              have z92 := E9.out.resf
              have hszz : w.heap.size + 3 ≤ w9.heap.size := E9.out.size
              clear ho9 hg9 yf1 y1 q1
              go_wp2_with fail
              refine bodyPost_ret (v := .agg #[.int .i64 (R : Int), .int .i64 (C : Int), .string cs, .slice (some ⟨g1, 0, none⟩) (m + 1) cc1, .int .i64 (U : Int)]) (by simp [results, Tryd.results47]; go_simp) rfl ?_
              have hmz := HM0.out
              subst hmz
              obtain ⟨g2, hg2, hc2⟩ := own_carts (fr := fun _ => 0) (show w9.ownsRow (w.heap.size + 3) 87 2 (.slice (some ⟨g1, 0, none⟩) 1 cc1) 1 (cartCells (fun _ => 0) (fun _ => 0) 1) from HO9.out) (by omega)
              cases hg2
              have hgl := HO9.out.lt g1 rfl
              refine ⟨R, C, U, 1, cc1, g1, cs, fun _ => 0, fun _ => 0, rfl, by omega, by omega, own2_cap HO9.out, ?_, ?_, ?_, hN36, ?_⟩
              · iterate 6 refine carts_set ?_ (by omega)
                exact hc2
              · exact shape_check (shape_one (by rw [HCS.out]; exact wall_free_zero s (by omega))) (by omega) (by omega) (by omega) (by omega) (by omega) (by rw [HN.out, Int.natCast_mul]) (by rw [HCS.out]; exact wall_good s _) (by omega) (by omega)
              · rw [HCS.out]; exact wall_free_zero s (by omega)
              · iterate 5 refine Below.setCell ?_ (by show w.heap.size ≤ w.heap.size + 1; omega) _
                exact E10.out.below
            · have hm0' : ((m : Int) == 0) = false := by simpa using hm0
              have z1 := EN.out.res
              have z2 := EN.out.resf
              go_wp2_with fail
              refine bodyPost_ret (v := .agg #[.int .i64 (R : Int), .int .i64 (C : Int), .string cs, .slice ac m cc, .int .i64 (U : Int)]) (by simp [results, Tryd.results47]; go_simp) rfl ?_
              obtain ⟨g1, hg1, hc2⟩ := own_carts OC.out (by omega)
              subst hg1
              have hgl := OC.out.lt g1 rfl
              refine ⟨R, C, U, m, cc, g1, cs, fr, tt, rfl, by omega, by omega, own2_cap OC.out, ?_, ?_, ?_, hN36, ?_⟩
              · iterate 5 refine carts_set ?_ (by omega)
                exact hc2
              · exact shape_check SH.out (by omega) (by omega) (by omega) (by omega) (by omega) (by rw [HN.out, Int.natCast_mul]) (by rw [HCS.out]; exact wall_good s _) (by omega) (by omega)
              · rw [HCS.out]; exact wall_free_zero s (by omega)
              · iterate 5 refine Below.setCell ?_ (by show w.heap.size ≤ w.heap.size + 1; omega) _
                exact EN.out.below
        · have hB' : decide ((m : Int) < 4) = false := by simp; omega
          by_cases hm0 : m = 0
          · have hm0' : ((m : Int) == 0) = true := by simp [hm0]
            have hc1 : m + 1 ≤ maxLen := by unfold maxLen; omega
            have HM0 := Hid.mk hm0
            have yf1 := EN.out.yf
            clear hm0
            go_wp2_with (at_builtin; go_must (refine wpList_append_lies _ rfl _ _ 22 (by rfl) (w.heap.size + 3) 87 _ _ 2 16 Tryd.underlying22 hi0 hi1 hi2 hi3 rfl (by omega) (.slice ac m cc) m (cartCells fr tt m) (by rfl) (by exact own_keep OC.out (fun g _ hg _ => Below.heap_alloc _ _ _ hg)) _ 1 _ [.int .i64 0, .int .i64 0] (by rfl) (by rfl) (by exact cell_two_new _ _ _ _) (by simp [Value.oneCell']) (by omega) hc1 (by omega) (by simp; omega) (wr.heap.size + 1) (by simp) ?_))
            intro g1 cc1 w9 ho9 hg9 _ hl9
            have HO9 := Hid.mk ho9
            have hb9 : Hid (Below (w.heap.size + 3) wr w9) := ((Below.refl _ wr).alloc hszr _).grown hg9 (by simp; omega) (fun k hk => (OC.out.lt k hk).1)
            have E9 := Hid.mk (EN.out.keep hb9.out)
            have E10 := Hid.mk (E9.out.store (some ⟨g1, 0, none⟩) (m + 1) cc1)
            have y9 := E9.out.y
            have yf9 := E9.out.yf
            have z91 := E9.out.res
            have z92 := E9.out.resf
            have hszz : w.heap.size + 3 ≤ w9.heap.size := E9.out.size
            clear ho9 hg9 yf1 y1 q1
            go_wp2_with fail
            refine bodyPost_ret (v := .agg #[.int .i64 (R : Int), .int .i64 (C : Int), .string cs, .slice (some ⟨g1, 0, none⟩) (m + 1) cc1, .int .i64 (U : Int)]) (by simp [results, Tryd.results47]; go_simp) rfl ?_
            have hmz := HM0.out
            subst hmz
            obtain ⟨g2, hg2, hc2⟩ := own_carts (fr := fun _ => 0) (show w9.ownsRow (w.heap.size + 3) 87 2 (.slice (some ⟨g1, 0, none⟩) 1 cc1) 1 (cartCells (fun _ => 0) (fun _ => 0) 1) from HO9.out) (by omega)
            cases hg2
            have hgl := HO9.out.lt g1 rfl
            refine ⟨R, C, U, 1, cc1, g1, cs, fun _ => 0, fun _ => 0, rfl, by omega, by omega, own2_cap HO9.out, ?_, ?_, ?_, hN36, ?_⟩
            · iterate 6 refine carts_set ?_ (by omega)
              exact hc2
            · exact shape_check (shape_one (by rw [HCS.out]; exact wall_free_zero s (by omega))) (by omega) (by omega) (by omega) (by omega) (by omega) (by rw [HN.out, Int.natCast_mul]) (by rw [HCS.out]; exact wall_good s _) (by omega) (by omega)
            · rw [HCS.out]; exact wall_free_zero s (by omega)
            · iterate 5 refine Below.setCell ?_ (by show w.heap.size ≤ w.heap.size + 1; omega) _
              exact E10.out.below
          · have hm0' : ((m : Int) == 0) = false := by simpa using hm0
            have z1 := EN.out.res
            have z2 := EN.out.resf
            go_wp2_with fail
            refine bodyPost_ret (v := .agg #[.int .i64 (R : Int), .int .i64 (C : Int), .string cs, .slice ac m cc, .int .i64 (U : Int)]) (by simp [results, Tryd.results47]; go_simp) rfl ?_
            obtain ⟨g1, hg1, hc2⟩ := own_carts OC.out (by omega)
            subst hg1
            have hgl := OC.out.lt g1 rfl
            refine ⟨R, C, U, m, cc, g1, cs, fr, tt, rfl, by omega, by omega, own2_cap OC.out, ?_, ?_, ?_, hN36, ?_⟩
            · iterate 5 refine carts_set ?_ (by omega)
              exact hc2
            · exact shape_check SH.out (by omega) (by omega) (by omega) (by omega) (by omega) (by rw [HN.out, Int.natCast_mul]) (by rw [HCS.out]; exact wall_good s _) (by omega) (by omega)
            · rw [HCS.out]; exact wall_free_zero s (by omega)
            · iterate 5 refine Below.setCell ?_ (by show w.heap.size ≤ w.heap.size + 1; omega) _
              exact EN.out.below
      · have hA' : decide ((i : Int) + 1 < (n : Int)) = false := by simp; omega
        by_cases hm0 : m = 0
        · have hm0' : ((m : Int) == 0) = true := by simp [hm0]
          have hc1 : m + 1 ≤ maxLen := by unfold maxLen; omega
          have HM0 := Hid.mk hm0
          have yf1 := EN.out.yf
          clear hm0
          go_wp2_with (at_builtin; go_must (refine wpList_append_lies _ rfl _ _ 22 (by rfl) (w.heap.size + 3) 87 _ _ 2 16 Tryd.underlying22 hi0 hi1 hi2 hi3 rfl (by omega) (.slice ac m cc) m (cartCells fr tt m) (by rfl) (by exact own_keep OC.out (fun g _ hg _ => Below.heap_alloc _ _ _ hg)) _ 1 _ [.int .i64 0, .int .i64 0] (by rfl) (by rfl) (by exact cell_two_new _ _ _ _) (by simp [Value.oneCell']) (by omega) hc1 (by omega) (by simp; omega) (wr.heap.size + 1) (by simp) ?_))
          intro g1 cc1 w9 ho9 hg9 _ hl9
          have HO9 := Hid.mk ho9
          have hb9 : Hid (Below (w.heap.size + 3) wr w9) := ((Below.refl _ wr).alloc hszr _).grown hg9 (by simp; omega) (fun k hk => (OC.out.lt k hk).1)
          have E9 := Hid.mk (EN.out.keep hb9.out)
          have E10 := Hid.mk (E9.out.store (some ⟨g1, 0, none⟩) (m + 1) cc1)
          have y9 := E9.out.y
          have yf9 := E9.out.yf
          have z91 := E9.out.res
          have z92 := E9.out.resf
          have hszz : w.heap.size + 3 ≤ w9.heap.size := E9.out.size
          clear ho9 hg9 yf1 y1 q1
          go_wp2_with fail
          refine bodyPost_ret (v := .agg #[.int .i64 (R : Int), .int .i64 (C : Int), .string cs, .slice (some ⟨g1, 0, none⟩) (m + 1) cc1, .int .i64 (U : Int)]) (by simp [results, Tryd.results47]; go_simp) rfl ?_
          have hmz := HM0.out
          subst hmz
          obtain ⟨g2, hg2, hc2⟩ := own_carts (fr := fun _ => 0) (show w9.ownsRow (w.heap.size + 3) 87 2 (.slice (some ⟨g1, 0, none⟩) 1 cc1) 1 (cartCells (fun _ => 0) (fun _ => 0) 1) from HO9.out) (by omega)
          cases hg2
          have hgl := HO9.out.lt g1 rfl
          refine ⟨R, C, U, 1, cc1, g1, cs, fun _ => 0, fun _ => 0, rfl, by omega, by omega, own2_cap HO9.out, ?_, ?_, ?_, hN36, ?_⟩
          · iterate 6 refine carts_set ?_ (by omega)
            exact hc2
          · exact shape_check (shape_one (by rw [HCS.out]; exact wall_free_zero s (by omega))) (by omega) (by omega) (by omega) (by omega) (by omega) (by rw [HN.out, Int.natCast_mul]) (by rw [HCS.out]; exact wall_good s _) (by omega) (by omega)
          · rw [HCS.out]; exact wall_free_zero s (by omega)
          · iterate 5 refine Below.setCell ?_ (by show w.heap.size ≤ w.heap.size + 1; omega) _
            exact E10.out.below
        · have hm0' : ((m : Int) == 0) = false := by simpa using hm0
          have z1 := EN.out.res
          have z2 := EN.out.resf
          go_wp2_with fail
          refine bodyPost_ret (v := .agg #[.int .i64 (R : Int), .int .i64 (C : Int), .string cs, .slice ac m cc, .int .i64 (U : Int)]) (by simp [results, Tryd.results47]; go_simp) rfl ?_
          obtain ⟨g1, hg1, hc2⟩ := own_carts OC.out (by omega)
          subst hg1
          have hgl := OC.out.lt g1 rfl
          refine ⟨R, C, U, m, cc, g1, cs, fr, tt, rfl, by omega, by omega, own2_cap OC.out, ?_, ?_, ?_, hN36, ?_⟩
          · iterate 5 refine carts_set ?_ (by omega)
            exact hc2
          · exact shape_check SH.out (by omega) (by omega) (by omega) (by omega) (by omega) (by rw [HN.out, Int.natCast_mul]) (by rw [HCS.out]; exact wall_good s _) (by omega) (by omega)
          · rw [HCS.out]; exact wall_free_zero s (by omega)
          · iterate 5 refine Below.setCell ?_ (by show w.heap.size ≤ w.heap.size + 1; omega) _
            exact EN.out.below

end Go.Proofs.YtnkgpinadgacgaaDoor

/- A raw yard opened; shaped gives a good yard. -/
namespace Go.Proofs.YtnkgpinadgacgaaDoor
open Go.ChangeShapes Go.WideShapes Go.ChangeAt Go.RowKit Go.Deep Go.Joins

theorem Tryd.cellsInts : Tryd.prog.cellsOf 26 = 1 := by kernel_rfl
theorem Tryd.cellsRaw : Tryd.prog.cellsOf 79 = 5 := by kernel_rfl
theorem Tryd.bytesInt : Tryd.prog.bytesOf 3 = 8 := by kernel_rfl

set_option maxRecDepth 100000 in
theorem open_raw {H : Type} {enc : TypeId × Value → H} {W : World} {r : Reach} {b0 : Nat} {v : Value} {d : DataW H} {p : List MemPlace}
    (hv : Value.okWide Tryd.prog W r b0 79 v) (h : DataW.Trod enc Tryd.prog W 0 (fun _ => true) true 79 v d p) (hsz : (DataW.weights Tryd.prog 79 d).all (· ≤ reachBytes) = true) :
    ∃ (rr rc rb : Int) (s : ByteArray) (a : Option Addr) (n cap : Nat) (x : Nat → Int), v = .agg #[.int .i64 rr, .int .i64 rc, .string s, .slice a n cap, .int .i64 rb] ∧ s.size ≤ maxLen ∧ n ≤ 17592186044415 ∧
      (Lit.int .i64 rr).wf = true ∧ (Lit.int .i64 rc).wf = true ∧ (Lit.int .i64 rb).wf = true ∧
      ((∀ i, i < n → (Lit.int .i64 (x i)).wf = true) ∧ (0 < n → ∃ b off, a = some ⟨b, off, none⟩ ∧ ∀ i, i < n → W.cell? ⟨b, off + i, none⟩ = some (.int .i64 (x i)))) := by
  obtain ⟨cs, rfl, hcs⟩ := okWide_struct Tryd.underlying79 hv
  obtain ⟨c0, c1, c2, c3, c4, rfl⟩ := array5 (hcs.trans Tryd.cellsRaw)
  obtain ⟨fuel, hf⟩ := h
  obtain ⟨xs, m, _, hx, _, hxl, hfs⟩ := DataW.trod_struct Tryd.underlying79 hf
  obtain ⟨x0, x1, x2, x3, x4, rfl⟩ := list5 hxl
  have g0 := hfs 0 _ rfl
  have g1 := hfs 1 _ rfl
  have g2 := hfs 2 _ rfl
  have g3 := hfs 3 _ rfl
  have g4 := hfs 4 _ rfl
  simp [Value.cells, Tryd.cellsInt, Tryd.cellsString, Tryd.cellsInts] at g0 g1 g2 g3 g4
  obtain ⟨rr, e0, _, w0⟩ := DataW.trod_int Tryd.underlying3 g0
  obtain ⟨rc, e1, _, w1⟩ := DataW.trod_int Tryd.underlying3 g1
  obtain ⟨s, e2, _, hs⟩ := DataW.trod_string Tryd.underlying9 g2
  obtain ⟨rb, e4, _, w4⟩ := DataW.trod_int Tryd.underlying3 g4
  simp only [List.cons.injEq, and_true] at e0 e1 e2 e4
  subst e0 e1 e2 e4
  rcases open_slice1 Tryd.underlying26 Tryd.cellsInt g3 with ⟨e3, _⟩ | ⟨a, len, cap, q, k, V, D, P, e3, _, hl, hm, hq, hx3, hall⟩
  · simp only [List.cons.injEq, and_true] at e3
    subst e3
    exact ⟨rr, rc, rb, s, none, 0, 0, fun _ => 0, rfl, hs, by omega, w0, w1, w4, fun i h => absurd h (Nat.not_lt_zero i), fun h => absurd h (Nat.lt_irrefl 0)⟩
  · simp only [List.cons.injEq, and_true] at e3
    subst e3
    simp only [ite_true] at hq
    subst hq
    have hw : (len + (q - len)) * 8 ≤ reachBytes := by
      simp only [Prod.mk.injEq] at hx
      have hmem : (len + (q - len)) * 8 ∈ DataW.weights Tryd.prog 79 d := by
        rw [hx.1]
        simp [DataW.weights, DataW.weightsEach, Tryd.underlying79, Tryd.underlying26, hx3, Tryd.bytesInt]
      have := List.all_eq_true.1 hsz _ hmem
      simpa using this
    have hints : ∀ i, i < q → ∃ x : Int, V i = .int .i64 x ∧ (Lit.int .i64 x).wf = true := by
      intro i hi
      obtain ⟨_, t0⟩ := hall i hi
      obtain ⟨f, e0, _, wf⟩ := DataW.trod_int Tryd.underlying3 t0
      exact ⟨f, by simpa using e0, wf⟩
    obtain ⟨X, hX⟩ := choose_lt hints
    refine ⟨rr, rc, rb, s, some a, len, q, X, rfl, hs, by unfold reachBytes at hw; omega, w0, w1, w4, fun i hi => (hX i (by omega)).2, fun h0 => ?_⟩
    obtain ⟨b, off, spot⟩ := a
    have hc0 := (hall 0 (by omega)).1
    simp only [Addr.add, if_true] at hc0
    have hspot := World.cell?_spot hc0
    subst hspot
    refine ⟨b, off, rfl, fun i hi => ?_⟩
    have h1 := (hall i (by omega)).1
    rw [add_plain] at h1
    rw [(hX i (by omega)).1] at h1
    exact h1

theorem shapes : Shapes := fun rr rc rb s a n cap x w hs hn h0 h1 h2 hx => shaped_any rr rc rb s a n cap x w hs hn h0 h1 h2 hx

end Go.Proofs.YtnkgpinadgacgaaDoor
