/- Tj, Tk. -/
import Derived.Test.YtnkgpinadgacgaaGreatDoorQi
set_option maxRecDepth 1000000
set_option maxHeartbeats 1000000
namespace Go.Proofs.YtnkgpinadgacgaaGreatDoor
section
open Go.RowKit Go.Shelf Go.Deep M
theorem results_cell_tmp3 {fn : Func} {p q r : Tmp} {ty : TypeId} (h : fn.results = #[.cell p ty, .tmp q, .tmp r]) (tmps : Array Value) (P : Program) (w : World) {b o : Nat} {v : Value} (hp : tmps.getD p undef = .pointer (some ⟨b, o, none⟩)) (hl : (loadVar ty ⟨b, o, none⟩).run P w = .ok v w) :
 (results fn tmps).run P w = .ok (.tuple #[v, tmps.getD q undef, tmps.getD r undef]) w := by
 simp only [results, h]; have ha : (asAddr (tmps.getD p undef)).run P w = .ok ⟨b, o, none⟩ w := by rw [hp]; rfl
 simp only [Array.getD_eq_getD_getElem?] at ha ⊢; simp [Sem.run_bind, Result.andThen, ha, hl]
def yardV (t : TX.Told) (g cap : Nat) : Value := .agg #[.int .i64 (t.R : Int), .int .i64 (t.C : Int), .string ⟨t.cs.toArray⟩, .slice (some ⟨g, 0, none⟩) t.carts.length cap, .int .i64 (t.U : Int)]
def yard0 : Value := .agg #[.int .i64 0, .int .i64 0, .string ⟨#[]⟩, .slice none 0 0, .int .i64 0]
theorem rd_new (w : World) (o1 : Obj) (s : ByteArray) (t : TypeId) (o3 : Obj) : Rd (((w.alloc o1).alloc (.cells #[.string s, .int .i64 0] t)).alloc o3) (w.heap.size + 1) s 0 := by
 have h := box_new3b w o1 #[.string s, .int .i64 0] t o3; exact ⟨h.c 0, h.c 1, h.fz, h.lt, Nat.zero_le _⟩
theorem rest_zero (s : ByteArray) : restS s 0 = s.data.toList := rfl
theorem rows_bound {l r : List UInt8} {cs : List UInt8} {n C : Nat} (h : TX.rowsP l = (r, some (cs, n, C))) : 1 <= n ∧ 1 <= C ∧ n * C <= l.length := by
 unfold TX.rowsP at h; obtain ⟨c1, c2, c3, _⟩ := TX.cellsP_form l.length l; by_cases he : (TX.cellsP l.length l).1 = []
 . rw [if_pos he] at h; cases h
 . rw [if_neg he] at h; obtain ⟨m1, d1, h⟩ := TX.okP_some h; obtain ⟨a, m2, d2, h⟩ := TX.andP_some h; obtain ⟨acs, an⟩ := a; cases h; obtain ⟨rows, f1, f2, f3, f4⟩ := TX.rows_form _ _ _ _ _ d2; have hrl : 1 <= (TX.cellsP l.length l).1.length := by
    cases hq : (TX.cellsP l.length l).1 with
    | nil => exact absurd hq he
    | cons _ _ => simp
   refine ⟨by omega, hrl, ?_⟩; have hlen := congrArg List.length c1; rw [TX.take_form d1, f1] at hlen; have hsum : ∀ (C : Nat) (q : List (List UInt8)), (∀ x ∈ q, TX.RowC C x) -> q.length * C <= (TX.rowsT q).length := by
    intro C q; induction q with
    | nil => intro _; simp
    | cons x xs ih =>
      intro hx; have := ih (fun y hy => hx y (by simp [hy])); rw [TX.rowsT_cons, List.length_append, List.length_cons, (hx x (by simp)).1, List.length_cons, Nat.succ_mul]; omega
   have hs := hsum _ rows f2; rw [List.length_append, List.length_cons, List.length_append] at hlen; rw [f4, Nat.add_mul, Nat.one_mul]; omega
theorem tread_any (s : ByteArray) (w : World) (hs : s.size <= 2000000) :
 Calls Tryz.prog 16 #[.string s] w fun e w' => Below w.heap.size w w' ∧
  ((∃ (t : TX.Told) (g cap : Nat), TX.readT s.data.toList = ([], some t) ∧ e = .returned (.tuple #[yardV t g cap, .int .i64 0, .bool true]) ∧ CartsO w' g cap t.carts.length (frL t.carts) (ttL t.carts) ∧ w.heap.size <= g ∧ t.carts.length <= cap ∧ t.carts.length <= s.size) ∨
   (∃ k, TX.readT s.data.toList = (restS s k, none) ∧ k <= s.size ∧ e = .returned (.tuple #[yard0, .int .i64 k, .bool false]))) := by
 have B3 : Hid (∀ o1 o2 o3, Below w.heap.size w (((w.alloc o1).alloc o2).alloc o3)) := fun o1 o2 o3 => (((Below.refl _ w).alloc zl o1).alloc (by simp) o2).alloc (by simp; omega) o3
 go_enter Tryz.func16, Tryz.ntmps16; have Z3 : Hid (Box (((w.alloc (.cells #[.int .i64 0, .int .i64 0, .string ⟨#[]⟩, .slice none 0 0, .int .i64 0] 34)).alloc (.cells #[.string s, .int .i64 0] 91)).alloc (.cells #[.int .i64 0, .int .i64 0, .string ⟨#[]⟩, .slice none 0 0, .int .i64 0] 34)) w.heap.size #[.int .i64 0, .int .i64 0, .string ⟨#[]⟩, .slice none 0 0, .int .i64 0]) := box_new3a w _ _ _ _
 have R3 : Hid (Rd (((w.alloc (.cells #[.int .i64 0, .int .i64 0, .string ⟨#[]⟩, .slice none 0 0, .int .i64 0] 34)).alloc (.cells #[.string s, .int .i64 0] 91)).alloc (.cells #[.int .i64 0, .int .i64 0, .string ⟨#[]⟩, .slice none 0 0, .int .i64 0] 34)) (w.heap.size + 1) s 0) := rd_new w _ s _ _
 have Y3 : Hid (Box (((w.alloc (.cells #[.int .i64 0, .int .i64 0, .string ⟨#[]⟩, .slice none 0 0, .int .i64 0] 34)).alloc (.cells #[.string s, .int .i64 0] 91)).alloc (.cells #[.int .i64 0, .int .i64 0, .string ⟨#[]⟩, .slice none 0 0, .int .i64 0] 34)) (w.heap.size + 1 + 1) #[.int .i64 0, .int .i64 0, .string ⟨#[]⟩, .slice none 0 0, .int .i64 0]) := box_new3c w _ _ _ _
 have O3 : Hid (Only (fun x => w.heap.size <= x) w (((w.alloc (.cells #[.int .i64 0, .int .i64 0, .string ⟨#[]⟩, .slice none 0 0, .int .i64 0] 34)).alloc (.cells #[.string s, .int .i64 0] 91)).alloc (.cells #[.int .i64 0, .int .i64 0, .string ⟨#[]⟩, .slice none 0 0, .int .i64 0] 34))) := only_ge (B3.out _ _ _)
 have hz3 : (((w.alloc (.cells #[.int .i64 0, .int .i64 0, .string ⟨#[]⟩, .slice none 0 0, .int .i64 0] 34)).alloc (.cells #[.string s, .int .i64 0] 91)).alloc (.cells #[.int .i64 0, .int .i64 0, .string ⟨#[]⟩, .slice none 0 0, .int .i64 0] 34)).heap.size = w.heap.size + 1 + 1 + 1 := by simp
 go_upto_region 3 with fail; generalize (((w.alloc (.cells #[.int .i64 0, .int .i64 0, .string ⟨#[]⟩, .slice none 0 0, .int .i64 0] 34)).alloc (.cells #[.string s, .int .i64 0] 91)).alloc (.cells #[.int .i64 0, .int .i64 0, .string ⟨#[]⟩, .slice none 0 0, .int .i64 0] 34)) = w3 at *
 go_cut [15] (fun v15 wx => Box wx w.heap.size #[.int .i64 0, .int .i64 0, .string ⟨#[]⟩, .slice none 0 0, .int .i64 0] ∧ Only (fun x => w.heap.size <= x) w wx ∧ w3.heap.size <= wx.heap.size ∧ ((∃ (t : TX.Told) (g cap : Nat), v15 = .bool true ∧ TX.readT s.data.toList = ([], some t) ∧ Box wx (w.heap.size + 1 + 1) #[.int .i64 (t.R : Int), .int .i64 (t.C : Int), .string ⟨t.cs.toArray⟩, .slice (some ⟨g, 0, none⟩) t.carts.length cap, .int .i64 (t.U : Int)] ∧ CartsO wx g cap t.carts.length (frL t.carts) (ttL t.carts) ∧ w3.heap.size <= g ∧ t.carts.length <= cap ∧ t.carts.length <= s.size) ∨ (∃ k, v15 = .bool false ∧ TX.readT s.data.toList = (restS s k, none) ∧ k <= s.size ∧ Rd wx (w.heap.size + 1) s k)))
 case first =>
  go_wp2_with fail; refine (budget_any (w.heap.size + 1) (w.heap.size + 1 + 1) 0 s _ _ _ _ _ w3 hs (by omega) R3.out Y3.out).mono ?_; rintro e w4 ⟨k4, u, ok4, rfl, hb4, hr4, hy4, ho4⟩; have R4 := zx hr4; have P4 := zx hb4; have Y4 := zx hy4; have Z4 : Hid (Box w4 w.heap.size #[.int .i64 0, .int .i64 0, .string ⟨#[]⟩, .slice none 0 0, .int .i64 0]) := Z3.out.only ho4 (fun e => by omega); have O4 : Hid (Only (fun x => w.heap.size <= x) w w4) := O3.out.trans ho4 (fun _ _ h => by omega); have z4 : w3.heap.size <= w4.heap.size := ho4.size; have k4l := hr4.le; clear hb4 hr4 hy4 ho4
  cases ok4
  . have hf : TX.readT s.data.toList = (restS s k4, none) := by
     unfold TX.readT; rw [<- rest_zero s, show TX.budgetP (restS s 0) = (restS s k4, none) from P4.out]; rfl
    have HF := zx hf; clear hf; go_wp2; go_meet; case rel => exact ⟨Z4.out, O4.out, z4, .inr ⟨k4, rfl, HF.out, k4l, R4.out⟩⟩
  . have P4' : Hid (TX.readT s.data.toList = TX.andP (TX.rowsP (restS s k4)) fun q l2 => TX.andP (TX.cartsP q.2.1 q.2.2 (l2.length + 1) l2 []) fun cs l3 => (l3, some ⟨q.2.1, q.2.2, q.1, cs, u⟩)) := by
     unfold Hid TX.readT; rw [<- rest_zero s, show TX.budgetP (restS s 0) = (restS s k4, some u) from P4.out]; rfl
    clear P4; go_wp2_with fail; refine (rows_any (w.heap.size + 1) (w.heap.size + 1 + 1) k4 s _ _ _ _ _ w4 hs (by omega) R4.out (Y4.out trivial)).mono ?_; rintro e w5 ⟨k5, n, C, cs, ok5, rfl, hb5, hr5, hy5, ho5⟩; have R5 := zx hr5; have P5 := zx hb5; have Y5 := zx hy5; have Z5 : Hid (Box w5 w.heap.size #[.int .i64 0, .int .i64 0, .string ⟨#[]⟩, .slice none 0 0, .int .i64 0]) := Z4.out.only ho5 (fun e => by omega); have O5 : Hid (Only (fun x => w.heap.size <= x) w w5) := O4.out.trans ho5 (fun _ _ h => by omega); have z5 : w3.heap.size <= w5.heap.size := Nat.le_trans z4 ho5.size
    have k5l := hr5.le; clear hb5 hr5 hy5 ho5; cases ok5
    . have hf : TX.readT s.data.toList = (restS s k5, none) := by
       rw [P4'.out, show TX.rowsP (restS s k4) = (restS s k5, none) from P5.out]; rfl
      have HF := zx hf; clear hf; go_wp2; go_meet; case rel => exact ⟨Z5.out, O5.out, z5, .inr ⟨k5, rfl, HF.out, k5l, R5.out⟩⟩
    . have P5' : Hid (TX.readT s.data.toList = TX.andP (TX.cartsP n C ((restS s k5).length + 1) (restS s k5) []) fun cs' l3 => (l3, some ⟨n, C, cs, cs', u⟩)) := by
       unfold Hid; rw [P4'.out, show TX.rowsP (restS s k4) = (restS s k5, some (cs, n, C)) from P5.out]; rfl
      obtain ⟨n1, C1, nC⟩ := rows_bound (show TX.rowsP (restS s k4) = (restS s k5, some (cs, n, C)) from P5.out); rw [rest_len] at nC; clear P5; go_wp2_with fail; refine (rcarts_any (w.heap.size + 1) (w.heap.size + 1 + 1) k5 n C s _ _ w5 hs (by omega) n1 C1 (by omega) R5.out (Y5.out trivial)).mono ?_; rintro e w6 ⟨k6, acc, ok6, rfl, hb6, hr6, hy6, ho6⟩; have R6 := zx hr6; have P6 := zx hb6; have Y6 := zx hy6; have Z6 : Hid (Box w6 w.heap.size #[.int .i64 0, .int .i64 0, .string ⟨#[]⟩, .slice none 0 0, .int .i64 0]) := Z5.out.only ho6 (fun e => by omega)
      have O6 : Hid (Only (fun x => w.heap.size <= x) w w6) := O5.out.trans ho6 (fun _ _ h => by omega); have z6 : w3.heap.size <= w6.heap.size := Nat.le_trans z5 ho6.size; have k6l := hr6.le; clear hb6 hr6 hy6 ho6; cases ok6
      . have hf : TX.readT s.data.toList = (restS s k6, none) := by
         rw [P5'.out, show TX.cartsP n C ((restS s k5).length + 1) (restS s k5) [] = (restS s k6, none) from P6.out]; rfl
        have HF := zx hf; clear hf; go_wp2; go_meet; case rel => exact ⟨Z6.out, O6.out, z6, .inr ⟨k6, rfl, HF.out, k6l, R6.out⟩⟩
      . have hf : TX.readT s.data.toList = ([], some ⟨n, C, cs, acc, u⟩) := by
         have hc : TX.cartsP n C ((restS s k5).length + 1) (restS s k5) [] = (restS s k6, some acc) := P6.out; have hnil := (TX.carts_form n C _ _ _ (Nat.lt_succ_self _) hc).1; rw [hnil] at hc; rw [P5'.out, hc]; rfl
        have HF := zx hf; obtain ⟨g, cap, hbx, hci, hg, hcap, hal⟩ := Y6.out rfl; have YB := zx hbx; have CI := zx hci; clear hf hbx hci; go_wp2; go_meet; case rel => exact ⟨Z6.out, O6.out, z6, .inl ⟨⟨n, C, cs, acc, u⟩, g, cap, rfl, HF.out, YB.out, CI.out, Nat.le_trans z5 hg, hcap, hal⟩⟩
 case rest =>
  obtain ⟨wx, rfl⟩ : ∃ q, q = wc := ⟨_, rfl⟩
  obtain ⟨hz, ho, hzx, hrest⟩ := hcut; have ZX := zx hz; have OX := zx ho; have fz := hz.fz; have z0 := hz.c 0; have z1 := hz.c 1; have z2 := hz.c 2; have z3 := hz.c 3; have z4 := hz.c 4; simp only [zA, zB, zC] at z0 z1 z2 z3 z4; clear hz ho; rcases hrest with ⟨t, g, cap, rfl, hf, hb, hc, hg, hcap, hal⟩ | ⟨k, rfl, hf, hk, hr⟩
  . have HF := zx hf; have YB := zx hb; have CI := zx hc; have y0 := hb.c 0; have y1 := hb.c 1; have y2 := hb.c 2; have y3 := hb.c 3; have y4 := hb.c 4; simp only [zA, zB, zC] at y0 y1 y2 y3 y4; clear hf hb hc; go_wp2; have hcar : ∀ (o : Nat) (v : Value) (u : World), CartsO u g cap t.carts.length (frL t.carts) (ttL t.carts) -> CartsO (u.setCell ⟨w.heap.size, o, none⟩ v) g cap t.carts.length (frL t.carts) (ttL t.carts) := fun o v u h => cartsO_set h (by omega)
    have hbel : ∀ (o : Nat) (v : Value) (u : World), Only (fun x => w.heap.size <= x) w u -> Only (fun x => w.heap.size <= x) w (u.setCell ⟨w.heap.size, o, none⟩ v) := fun o v u h => Only.setCell (S := fun x => w.heap.size <= x) h (p := ⟨w.heap.size, o, none⟩) (fun _ => zl) v
    refine bodyPost_ret (results_cell_tmp3 Tryz.results16 _ _ _ (b := w.heap.size) (o := 0) rfl (load_yard ((((((ZX.out).set (i := 0) (by simp) (v' := #[.int .i64 (t.R : Int), .int .i64 0, .string ⟨#[]⟩, .slice none 0 0, .int .i64 0]) rfl).set (i := 1) (by simp) (v' := #[.int .i64 (t.R : Int), .int .i64 (t.C : Int), .string ⟨#[]⟩, .slice none 0 0, .int .i64 0]) rfl).set (i := 2) (by simp) (v' := #[.int .i64 (t.R : Int), .int .i64 (t.C : Int), .string ⟨t.cs.toArray⟩, .slice none 0 0, .int .i64 0]) rfl).set (i := 3) (by simp) (v' := #[.int .i64 (t.R : Int), .int .i64 (t.C : Int), .string ⟨t.cs.toArray⟩, .slice (some ⟨g, 0, none⟩) t.carts.length cap, .int .i64 0]) rfl).set (i := 4) (by simp) (v' := #[.int .i64 (t.R : Int), .int .i64 (t.C : Int), .string ⟨t.cs.toArray⟩, .slice (some ⟨g, 0, none⟩) t.carts.length cap, .int .i64 (t.U : Int)]) rfl))) rfl ⟨?_, .inl ⟨t, g, cap, HF.out, rfl, hcar _ _ _ (hcar _ _ _ (hcar _ _ _ (hcar _ _ _ (hcar _ _ _ CI.out)))), by omega, hcap, hal⟩⟩
    exact (hbel _ _ _ (hbel _ _ _ (hbel _ _ _ (hbel _ _ _ (hbel _ _ _ OX.out))))).below zl (fun _ h => h)
  . have HF := zx hf; have RX := zx hr; have c1 := hr.c1; have hbel : ∀ (o : Nat) (v : Value) (u : World), Only (fun x => w.heap.size <= x) w u -> Only (fun x => w.heap.size <= x) w (u.setCell ⟨w.heap.size, o, none⟩ v) := fun o v u h => Only.setCell (S := fun x => w.heap.size <= x) h (p := ⟨w.heap.size, o, none⟩) (fun _ => zl) v
    have HB := zx hbel; clear hf hr hbel; go_wp2; go_region
    all_goals go_wp2
    refine bodyPost_ret (results_cell_tmp3 Tryz.results16 _ _ _ (b := w.heap.size) (o := 0) rfl (load_yard (((((((ZX.out).set (i := 0) (x := .int .i64 0) (by simp) (v' := #[.int .i64 0, .int .i64 0, .string ⟨#[]⟩, .slice none 0 0, .int .i64 0]) rfl).set (i := 1) (x := .int .i64 0) (by simp) (v' := #[.int .i64 0, .int .i64 0, .string ⟨#[]⟩, .slice none 0 0, .int .i64 0]) rfl).set (i := 2) (x := .string ⟨#[]⟩) (by simp) (v' := #[.int .i64 0, .int .i64 0, .string ⟨#[]⟩, .slice none 0 0, .int .i64 0]) rfl).set (i := 3) (x := .slice none 0 0) (by simp) (v' := #[.int .i64 0, .int .i64 0, .string ⟨#[]⟩, .slice none 0 0, .int .i64 0]) rfl).set (i := 4) (x := .int .i64 0) (by simp) (v' := #[.int .i64 0, .int .i64 0, .string ⟨#[]⟩, .slice none 0 0, .int .i64 0]) rfl).drewN 1))) rfl ⟨?_, .inr ⟨k, HF.out, hk, rfl⟩⟩
    exact ((HB.out _ _ _ (HB.out _ _ _ (HB.out _ _ _ (HB.out _ _ _ (HB.out _ _ _ OX.out))))).drewN 1).below zl (fun _ h => h)
end
section
open Go.RowKit Go.Shelf Go.Deep M
def chkT (t : TX.Told) : Int × Int := checkM (t.R : Int) (t.C : Int) ⟨t.cs.toArray⟩ t.carts.length (frL t.carts) (ttL t.carts) (t.U : Int)
theorem readT_bound {l r : List UInt8} {t : TX.Told} (h : TX.readT l = (r, some t)) : t.cs.length <= l.length ∧ t.R * t.C <= l.length := by
 have hw := TX.write_read h; have hb : t.R * t.C <= l.length := by
  unfold TX.readT at h; obtain ⟨u, l1, h1, h⟩ := TX.andP_some h; obtain ⟨q, l2, h2, h⟩ := TX.andP_some h; obtain ⟨cs, l3, h3, h⟩ := TX.andP_some h; obtain ⟨qc, qn, qC⟩ := q; cases h; show qn * qC <= l.length; unfold TX.budgetP at h1; obtain ⟨k1, b1, h1⟩ := TX.okP_some h1; obtain ⟨n, k2, b2, h1⟩ := TX.andP_some h1; obtain ⟨k3, b3, h1⟩ := TX.okP_some h1; cases h1; have e1 : qn * qC <= _ := (rows_bound h2).2.2; rw [TX.takes_form b1, (TX.number_form b2).1, TX.take_form b3]; simp only [List.length_append, List.length_cons]; omega
 exact ⟨by rw [hw.2.2.2.1]; exact hb, hb⟩
theorem yreadO_any (s : ByteArray) (w : World) (hs : s.size <= 2000000) :
 Calls Tryz.prog 7 #[.string s] w fun e w' => Below w.heap.size w w' ∧
  ((∃ (t : TX.Told) (g cap : Nat), TX.readT s.data.toList = ([], some t) ∧ (chkT t).1 = 0 ∧ e = .returned (.tuple #[yardV t g cap, .int .i64 0, .int .i64 0]) ∧ CartsO w' g cap t.carts.length (frL t.carts) (ttL t.carts) ∧ w.heap.size <= g ∧ t.carts.length <= cap ∧ t.carts.length <= s.size) ∨
   (∃ t : TX.Told, TX.readT s.data.toList = ([], some t) ∧ (chkT t).1 ≠ 0 ∧ e = .returned (.tuple #[yard0, .int .i64 (chkT t).1, .int .i64 (chkT t).2])) ∨
   (∃ k, TX.readT s.data.toList = (restS s k, none) ∧ k <= s.size ∧ e = .returned (.tuple #[yard0, .int .i64 11, .int .i64 k]))) := by
 have hsl : s.data.toList.length = s.size := by rw [Array.length_toList]; rfl
 go_enter Tryz.func7, Tryz.ntmps7; have Z1 : Hid (Box (w.alloc (.cells #[.int .i64 0, .int .i64 0, .string ⟨#[]⟩, .slice none 0 0, .int .i64 0] 34)) w.heap.size #[.int .i64 0, .int .i64 0, .string ⟨#[]⟩, .slice none 0 0, .int .i64 0]) := box_new _ _; have O1 : Hid (Only (fun x => w.heap.size <= x) w (w.alloc (.cells #[.int .i64 0, .int .i64 0, .string ⟨#[]⟩, .slice none 0 0, .int .i64 0] 34))) := (Only.refl _ w).alloc _; have hz1 : (w.alloc (.cells #[.int .i64 0, .int .i64 0, .string ⟨#[]⟩, .slice none 0 0, .int .i64 0] 34)).heap.size = w.heap.size + 1 := by simp
 have HB : Hid (∀ (o : Nat) (v : Value) (u : World), Only (fun x => w.heap.size <= x) w u -> Only (fun x => w.heap.size <= x) w (u.setCell ⟨w.heap.size, o, none⟩ v)) := fun o v u h => Only.setCell (S := fun x => w.heap.size <= x) h (p := ⟨w.heap.size, o, none⟩) (fun _ => zl) v
 go_wp2_with fail; refine (tread_any s _ hs).mono ?_; rintro e w1 ⟨hb1, hway⟩; generalize (w.alloc (.cells #[.int .i64 0, .int .i64 0, .string ⟨#[]⟩, .slice none 0 0, .int .i64 0] 34)) = w0 at *; have Z2 := zx (Z1.out.belowB hb1 (by omega)); have O2 : Hid (Only (fun x => w.heap.size <= x) w w1) := O1.out.trans (Only.of_below (S := fun _ => False) hb1) (fun _ _ h => h.elim); have hz2 : w0.heap.size <= w1.heap.size := hb1.size; clear hb1; rcases hway with ⟨t, g, cap, hf, rfl, hci, hg, hcap, hal⟩ | ⟨k, hf, hk, rfl⟩
 . obtain ⟨hcl, hRC⟩ := readT_bound hf; have HF := zx hf; have CI := zx hci; have hwr := TX.write_read hf; have hcsz : (⟨t.cs.toArray⟩ : ByteArray).size <= maxLen := by
    show t.cs.toArray.size <= maxLen; rw [List.size_toArray]; unfold maxLen; omega
   have hn : t.carts.length <= maxLen := by unfold maxLen; omega
   have CA : Hid (∀ o, CartsO (w1.alloc o) g cap t.carts.length (frL t.carts) (ttL t.carts)) := fun o => CI.out.below ((Below.refl _ w1).alloc zl o)
   have ZA : Hid (∀ o, Box (w1.alloc o) w.heap.size #[.int .i64 0, .int .i64 0, .string ⟨#[]⟩, .slice none 0 0, .int .i64 0]) := fun o => box_alloc Z2.out o
   have OA : Hid (∀ o, Only (fun x => w.heap.size <= x) w (w1.alloc o)) := fun o => O2.out.alloc o
   have YA : Hid (Box (w1.alloc (.cells #[.int .i64 (t.R : Int), .int .i64 (t.C : Int), .string ⟨t.cs.toArray⟩, .slice (some ⟨g, 0, none⟩) t.carts.length cap, .int .i64 (t.U : Int)] 34)) w1.heap.size #[.int .i64 (t.R : Int), .int .i64 (t.C : Int), .string ⟨t.cs.toArray⟩, .slice (some ⟨g, 0, none⟩) t.carts.length cap, .int .i64 (t.U : Int)]) := box_new _ _; clear hf hci hwr; unfold yardV; obtain ⟨F, hF⟩ : ∃ F : ByteArray, F = ⟨t.cs.toArray⟩ := ⟨_, rfl⟩
   rw [<- hF] at hcsz YA; have HFF := zx hF; rw [<- hF]; clear hF; go_wp2_with fail; refine (gcheck_any _ _ _ F (some ⟨g, 0, none⟩) t.carts.length cap (frL t.carts) (ttL t.carts) _ hcsz hn hcap (fun _ => ⟨g, 0, rfl, (CA.out _).c⟩)).mono ?_; rintro e w3 ⟨rfl, hb3⟩; have hch : checkM (t.R : Int) (t.C : Int) F t.carts.length (frL t.carts) (ttL t.carts) (t.U : Int) = chkT t := by unfold chkT; rw [HFF.out]
   rw [hch]; have Z3 : Hid (Box w3 w.heap.size #[.int .i64 0, .int .i64 0, .string ⟨#[]⟩, .slice none 0 0, .int .i64 0]) := (ZA.out _).belowB hb3 (by have := Z2.out.lt; simp; omega); have O3 : Hid (Only (fun x => w.heap.size <= x) w w3) := (OA.out _).trans (Only.of_below (S := fun _ => False) hb3) (fun _ _ h => h.elim); have Y3 := zx (YA.out.belowB hb3 (by simp)); have C3 : Hid (CartsO w3 g cap t.carts.length (frL t.carts) (ttL t.carts)) := (CA.out _).below hb3; have fz := Z3.out.fz; have z0 := Z3.out.c 0; have z1 := Z3.out.c 1; have z2 := Z3.out.c 2; have z3 := Z3.out.c 3
   have z4 := Z3.out.c 4; have y0 := Y3.out.c 0; have y1 := Y3.out.c 1; have y2 := Y3.out.c 2; have y3 := Y3.out.c 3; have y4 := Y3.out.c 4; simp only [zA, zB, zC] at z0 z1 z2 z3 z4 y0 y1 y2 y3 y4; have hgw : w.heap.size < g := by omega
   clear hb3 hch; obtain ⟨c1, hc1⟩ : ∃ c, c = (chkT t).1 := ⟨_, rfl⟩
   obtain ⟨c2, hc2⟩ : ∃ c, c = (chkT t).2 := ⟨_, rfl⟩
   rw [<- hc1, <- hc2]; have HC1 := zx hc1; have HC2 := zx hc2; clear hc1 hc2; by_cases hz : c1 = 0
   . have e0 : (c1 != 0) = false := by simp [hz]
     have HZ := zx hz; clear hz; have hcar : Hid (∀ (o : Nat) (v : Value) (u : World), CartsO u g cap t.carts.length (frL t.carts) (ttL t.carts) -> CartsO (u.setCell ⟨w.heap.size, o, none⟩ v) g cap t.carts.length (frL t.carts) (ttL t.carts)) := fun o v u h => cartsO_set h (by omega)
     go_wp2
     refine bodyPost_ret (results_cell_tmp3 Tryz.results7 _ _ _ (b := w.heap.size) (o := 0) rfl (load_yard ((((((Z3.out).set (i := 0) (x := .int .i64 (t.R : Int)) (by simp) (v' := #[.int .i64 (t.R : Int), .int .i64 0, .string ⟨#[]⟩, .slice none 0 0, .int .i64 0]) rfl).set (i := 1) (x := .int .i64 (t.C : Int)) (by simp) (v' := #[.int .i64 (t.R : Int), .int .i64 (t.C : Int), .string ⟨#[]⟩, .slice none 0 0, .int .i64 0]) rfl).set (i := 2) (x := .string F) (by simp) (v' := #[.int .i64 (t.R : Int), .int .i64 (t.C : Int), .string F, .slice none 0 0, .int .i64 0]) rfl).set (i := 3) (x := .slice (some ⟨g, 0, none⟩) t.carts.length cap) (by simp) (v' := #[.int .i64 (t.R : Int), .int .i64 (t.C : Int), .string F, .slice (some ⟨g, 0, none⟩) t.carts.length cap, .int .i64 0]) rfl).set (i := 4) (x := .int .i64 (t.U : Int)) (by simp) (v' := #[.int .i64 (t.R : Int), .int .i64 (t.C : Int), .string F, .slice (some ⟨g, 0, none⟩) t.carts.length cap, .int .i64 (t.U : Int)]) rfl))) rfl ⟨?_, .inl ⟨t, g, cap, HF.out, by rw [<- HC1.out]; exact HZ.out, by unfold yardV; rw [<- HFF.out]; rfl, hcar.out _ _ _ (hcar.out _ _ _ (hcar.out _ _ _ (hcar.out _ _ _ (hcar.out _ _ _ C3.out)))), by omega, hcap, hal⟩⟩
     exact (HB.out _ _ _ (HB.out _ _ _ (HB.out _ _ _ (HB.out _ _ _ (HB.out _ _ _ O3.out))))).below zl (fun _ h => h)
   . have e0 : (c1 != 0) = true := by simp [hz]
     have HZ := zx hz; clear hz; go_wp2
     refine bodyPost_ret (results_cell_tmp3 Tryz.results7 _ _ _ (b := w.heap.size) (o := 0) rfl (load_yard ((((((Z3.out).set (i := 0) (x := .int .i64 0) (by simp) (v' := #[.int .i64 0, .int .i64 0, .string ⟨#[]⟩, .slice none 0 0, .int .i64 0]) rfl).set (i := 1) (x := .int .i64 0) (by simp) (v' := #[.int .i64 0, .int .i64 0, .string ⟨#[]⟩, .slice none 0 0, .int .i64 0]) rfl).set (i := 2) (x := .string ⟨#[]⟩) (by simp) (v' := #[.int .i64 0, .int .i64 0, .string ⟨#[]⟩, .slice none 0 0, .int .i64 0]) rfl).set (i := 3) (x := .slice none 0 0) (by simp) (v' := #[.int .i64 0, .int .i64 0, .string ⟨#[]⟩, .slice none 0 0, .int .i64 0]) rfl).set (i := 4) (x := .int .i64 0) (by simp) (v' := #[.int .i64 0, .int .i64 0, .string ⟨#[]⟩, .slice none 0 0, .int .i64 0]) rfl))) rfl ⟨?_, .inr (.inl ⟨t, HF.out, by rw [<- HC1.out]; exact HZ.out, by rw [<- HC1.out, <- HC2.out]; rfl⟩)⟩
     exact (HB.out _ _ _ (HB.out _ _ _ (HB.out _ _ _ (HB.out _ _ _ (HB.out _ _ _ O3.out))))).below zl (fun _ h => h)
 . have HF := zx hf; have fz := Z2.out.fz; have z0 := Z2.out.c 0; have z1 := Z2.out.c 1; have z2 := Z2.out.c 2; have z3 := Z2.out.c 3; have z4 := Z2.out.c 4; simp only [zA, zB, zC] at z0 z1 z2 z3 z4; have hlt : w.heap.size < w1.heap.size := Z2.out.lt; have ZA : Hid (∀ o, Box (w1.alloc o) w.heap.size #[.int .i64 0, .int .i64 0, .string ⟨#[]⟩, .slice none 0 0, .int .i64 0]) := fun o => box_alloc Z2.out o
   have OA : Hid (∀ o, Only (fun x => w.heap.size <= x) w (w1.alloc o)) := fun o => O2.out.alloc o
   clear hf; unfold yard0; go_wp2
   refine bodyPost_ret (results_cell_tmp3 Tryz.results7 _ _ _ (b := w.heap.size) (o := 0) rfl (load_yard (box_alloc ((((((Z2.out).set (i := 0) (x := .int .i64 0) (by simp) (v' := #[.int .i64 0, .int .i64 0, .string ⟨#[]⟩, .slice none 0 0, .int .i64 0]) rfl).set (i := 1) (x := .int .i64 0) (by simp) (v' := #[.int .i64 0, .int .i64 0, .string ⟨#[]⟩, .slice none 0 0, .int .i64 0]) rfl).set (i := 2) (x := .string ⟨#[]⟩) (by simp) (v' := #[.int .i64 0, .int .i64 0, .string ⟨#[]⟩, .slice none 0 0, .int .i64 0]) rfl).set (i := 3) (x := .slice none 0 0) (by simp) (v' := #[.int .i64 0, .int .i64 0, .string ⟨#[]⟩, .slice none 0 0, .int .i64 0]) rfl).set (i := 4) (x := .int .i64 0) (by simp) (v' := #[.int .i64 0, .int .i64 0, .string ⟨#[]⟩, .slice none 0 0, .int .i64 0]) rfl) _))) rfl ⟨?_, .inr (.inr ⟨k, HF.out, hk, rfl⟩)⟩
   exact ((HB.out _ _ _ (HB.out _ _ _ (HB.out _ _ _ (HB.out _ _ _ (HB.out _ _ _ O2.out))))).alloc _).below zl (fun _ h => h)
theorem yread_any (s : ByteArray) (w : World) (hs : s.size <= 2000000) :
 Calls Tryz.prog 7 #[.string s] w fun e w' => Below w.heap.size w w' ∧
  ((∃ (t : TX.Told) (g cap : Nat), TX.readT s.data.toList = ([], some t) ∧ (chkT t).1 = 0 ∧ e = .returned (.tuple #[yardV t g cap, .int .i64 0, .int .i64 0]) ∧ CartsIn w' g 0 t.carts.length (frL t.carts) (ttL t.carts) ∧ w.heap.size <= g ∧ t.carts.length <= cap ∧ t.carts.length <= s.size) ∨
   (∃ t : TX.Told, TX.readT s.data.toList = ([], some t) ∧ (chkT t).1 ≠ 0 ∧ e = .returned (.tuple #[yard0, .int .i64 (chkT t).1, .int .i64 (chkT t).2])) ∨
   (∃ k, TX.readT s.data.toList = (restS s k, none) ∧ k <= s.size ∧ e = .returned (.tuple #[yard0, .int .i64 11, .int .i64 k]))) :=
 (yreadO_any s w hs).mono fun _ _ ⟨hb, h⟩ => ⟨hb, h.imp (fun ⟨t, g, cap, a, b, c, d, r⟩ => ⟨t, g, cap, a, b, c, d.c, r⟩) id⟩
end
end Go.Proofs.YtnkgpinadgacgaaGreatDoor
