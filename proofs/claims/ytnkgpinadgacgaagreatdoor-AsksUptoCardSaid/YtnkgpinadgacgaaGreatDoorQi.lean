/- Be, Bf, Bh, Bi, Op, Bt, Ti. -/
import Derived.Laws.CopyRow
import Derived.Laws.IdiomStrings
import Derived.Deep.AppendLies
import Derived.BigRegion
import Derived.ProofKit
import Derived.SizedLaws
import Derived.Deep.SlicePairs
import Derived.Deep.Fields
import Derived.Lib.SmallJoins
import Derived.Test.YtnkgpinadgacgaaGreatDoorQh
set_option maxRecDepth 1000000
set_option maxHeartbeats 1000000
namespace Go.Proofs.YtnkgpinadgacgaaGreatDoor
section
open Go.RowKit M
end
section
open Go.RowKit M
end
section
open Go.RowKit M
theorem fault_any (ro co bu : Int) (cs : ByteArray) (a : Option Addr) (n cap : Nat) (fr tt : Nat -> Int) (w : World) (hs : cs.size <= maxLen) (hn : n <= maxLen) (hcap : n <= cap)
 (ha : 0 < n -> ∃ b off, a = some ⟨b, off, none⟩ ∧ CartsIn w b off n fr tt) :
 Calls Tryz.prog 46 #[.agg #[.int .i64 ro, .int .i64 co, .string cs, .slice a n cap, .int .i64 bu]] w fun e w' =>
  e = .returned (.int .i64 (checkM ro co cs n fr tt bu).1) ∧ Below w.heap.size w w' := by
 go_enter Tryz.func46, Tryz.ntmps46; go_wp2_with fail; refine (gcheck_any _ _ _ _ _ _ _ fr tt _ hs hn hcap (by exact opt_below ha ((Below.refl _ _).alloc zl _))).mono ?_; rintro e w1 ⟨rfl, hb1⟩; go_wp2; go_ret; exact ⟨rfl, ((Below.refl _ _).alloc zl _).trans (hb1.mono (by simp))⟩
end
section
open Go.RowKit M
end
namespace M
end M
section
open Go.RowKit M
end
section
open Go.RowKit M
def kmay (co : Int) (cs : ByteArray) (a b : Int) : Bool := freeB cs b && nearM co a b
end
section
open Go.RowKit M
end
section
open M
def cartCells (fr tt : Nat -> Int) : Nat -> List Value
 | 0 => []
 | m + 1 => cartCells fr tt m ++ [.int .i64 (fr m), .int .i64 (tt m)]
theorem cartCells_len (fr tt : Nat -> Int) : ∀ m, (cartCells fr tt m).length = m * 2
 | 0 => rfl
 | m + 1 => by simp [cartCells, cartCells_len fr tt m]; omega
theorem cartCells_at {fr tt : Nat -> Int} : ∀ {m i : Nat}, i < m -> (cartCells fr tt m)[i * 2]? = some (.int .i64 (fr i)) ∧ (cartCells fr tt m)[i * 2 + 1]? = some (.int .i64 (tt i))
 | m + 1, i, h => by
   have hl := cartCells_len fr tt m; by_cases e : i = m
   . subst e; simp only [cartCells]; rw [List.getElem?_append_right (by omega), List.getElem?_append_right (by omega), hl]; simp
   . have ih := cartCells_at (fr := fr) (tt := tt) (m := m) (i := i) (by omega); simp only [cartCells]; rw [List.getElem?_append_left (by omega), List.getElem?_append_left (by omega)]; exact ih
theorem cartCells_congr {fr tt fr' tt' : Nat -> Int} : ∀ {m : Nat}, (∀ i, i < m -> fr i = fr' i ∧ tt i = tt' i) -> cartCells fr tt m = cartCells fr' tt' m
 | 0, _ => rfl
 | m + 1, h => by
   simp only [cartCells]; rw [cartCells_congr (m := m) fun i hi => h i (by omega), (h m (by omega)).1, (h m (by omega)).2]
end
section
open Go.RowKit M
end
section
open Go.RowKit M
end
section
open Go.RowKit M
end
section
open Go.RowKit M
def boolV (f : Nat -> Bool) : Nat -> Value := fun i => .bool (f i)
theorem Tryz.infoBool : (Tryz.prog.info? 4).map (fun i => (i.zero, i.size, i.bytes)) = some (some (.bool false), 1, 1) := by kernel_rfl
theorem brow_zero (N : Nat) (w : World) (t : TypeId) (k : Nat) (hk : k = w.heap.size) : (w.alloc (.cells (madeCells #[.bool false] N) t)).rowIs k t N (boolV (fun _ => false)) := by
 subst hk; refine rowIs_made _ _ _ _ fun i _ => ?_
 simp [Nat.mod_one, boolV]
theorem brow_store {w : World} {g N : Nat} {t : TypeId} {f f' : Nat -> Bool} (h : w.rowIs g t N (boolV f)) (i : Nat) (v : Bool) (he : ∀ j, j < N -> (if j = i then v else f j) = f' j) : (w.setCell ⟨g, i, none⟩ (.bool v)).rowIs g t N (boolV f') := by
 refine (h.set i _).congr fun j hj => ?_
 unfold boolV; rw [<- he j hj]; split <;> rfl
end
section
open Go.RowKit M
end
section
open Go.RowKit M
end
section
open Go.RowKit M
theorem wrap_mid {x : Int} (h1 : -9223372036854775808 <= x) (h2 : x <= 9223372036854775807) : IntKind.i64.wrap x = x := by rw [IntKind.wrap_i64]; omega
end
namespace M
section
variable {N : Nat} {rch : Nat → Nat → Bool} {goes : Nat → Nat → Nat → Bool} {fr tt : Nat} {S : Int} {st : Nat → Int}
end
end M
namespace M
abbrev Spot := Nat × Nat
section
variable {key : Spot → Int} {n : Nat} {it : Nat → Spot}
end
end M
section
open M Go.RowKit
end
section
open Go.RowKit
theorem own_form {w : World} {base n : Nat} {e : TypeId} {size : Nat} {v : Value} {xs : List Value} (h : w.ownsRow base e size v n xs) : ∃ a cap, v = .slice a n cap ∧ (0 < n -> ∃ g, a = some ⟨g, 0, none⟩) ∧ n <= cap := by
 rcases h.2 with ⟨e1, e2⟩ | ⟨g, cap', cur, e1, e2, _, h4, _⟩
 . subst e2; exact ⟨none, 0, e1, fun h0 => absurd h0 (Nat.lt_irrefl 0), Nat.le_refl 0⟩
 . exact ⟨_, cap', e1, fun _ => ⟨g, rfl⟩, h4⟩
theorem own_keep {w w' : World} {base n : Nat} {e : TypeId} {size : Nat} {v : Value} {xs : List Value} (h : w.ownsRow base e size v n xs) (hk : ∀ g, base <= g -> g < w.heap.size -> v.ownBlock = some g -> w'.heap[g]? = w.heap[g]?) : w'.ownsRow base e size v n xs := by
 refine ⟨h.1, ?_⟩; rcases h.2 with h0 | ⟨g, cap, cur, hv, hg, hh, r⟩
 . exact .inl h0
 . refine .inr ⟨g, cap, cur, hv, hg, ?_, r⟩; rw [hk g hg (h.lt g (by rw [hv]; rfl)).2 (by rw [hv]; rfl)]; exact hh
theorem own_later {w w' : World} {base n : Nat} {e : TypeId} {size : Nat} {v : Value} {xs : List Value} (h : w.ownsRow base e size v n xs) (hb : Below w.heap.size w w') : w'.ownsRow base e size v n xs := own_keep h fun g _ hg _ => hb.block g hg
theorem own_le {w : World} {base base' n : Nat} {e : TypeId} {size : Nat} {v : Value} {xs : List Value} (h : w.ownsRow base e size v n xs) (hb : base' <= base) : w.ownsRow base' e size v n xs :=
 ⟨h.1, h.2.elim Or.inl (fun ⟨g, cap, cur, hv, hg, r⟩ => Or.inr ⟨g, cap, cur, hv, Nat.le_trans hb hg, r⟩)⟩
theorem grow_cell {w pre w1 : World} {row : Option Nat} {b o : Nat} {v : Value} (h : w.cell? ⟨b, o, none⟩ = some v) (hp : Below w.heap.size w pre) (hg : pre.grownBy w1 row) (n : ∀ k, row = some k -> b ≠ k) : w1.cell? ⟨b, o, none⟩ = some v := by
 have h2 := zj hp h; rw [World.cell?_of_block (w := pre) (a := ⟨b, o, none⟩) (hg.block _ (World.block_lt_of_cell? _ _ h2) (fun e => n _ e.symm rfl))]; exact h2
theorem grow_frozen {w pre w1 : World} {row : Option Nat} {b o : Nat} (h : w.frozen? ⟨b, o, none⟩ = false) (hb : b < w.heap.size) (hp : Below w.heap.size w pre) (hg : pre.grownBy w1 row) (n : ∀ k, row = some k -> b ≠ k) : w1.frozen? ⟨b, o, none⟩ = false := by
 rw [World.frozen?_of_block (w := pre) (a := ⟨b, o, none⟩) (hg.block _ (Nat.lt_of_lt_of_le hb hp.size) (fun e => n _ e.symm rfl)), hp.frozen (p := ⟨b, o, none⟩) hb]; exact h
theorem two_oneCell (u v : Int) : ∀ x ∈ [Value.int .i64 u, Value.int .i64 v], x.oneCell' = true := by
 intro x hx; simp at hx; rcases hx with rfl | rfl <;> rfl
end
section
open Go.RowKit M
end
section
open Go.RowKit M
end
section
open Go.RowKit M
end
section
open Go.RowKit M
end
section
open Go.ChangeShapes Go.WideShapes Go.ChangeAt Go.RowKit Go.Deep Go.Joins
theorem Tryz.cellsString : Tryz.prog.cellsOf 9 = 1 := by kernel_rfl
end
section
open Go.RowKit M
theorem own_carts {w : World} {base m cc : Nat} {e : TypeId} {ac : Option Addr} {fr tt : Nat -> Int} (h : w.ownsRow base e 2 (.slice ac m cc) m (cartCells fr tt m)) (hm : 0 < m) : ∃ g, ac = some ⟨g, 0, none⟩ ∧ CartsIn w g 0 m fr tt := by
 rcases h.2 with ⟨_, e2⟩ | ⟨g, cap', cur, hv, _, hh, h4, _, h6, h7⟩
 . omega
 . cases hv; refine ⟨g, rfl, fun i hi => ?_⟩; have hcc : (cartCells fr tt m)[i * 2]? = some (.int .i64 (fr i)) ∧ (cartCells fr tt m)[i * 2 + 1]? = some (.int .i64 (tt i)) := cartCells_at hi; obtain ⟨c1, c2⟩ := hcc; rw [<- h7, List.getElem?_take, if_pos (by omega), Array.getElem?_toList] at c1 c2; exact ⟨by simpa [World.cell?, hh] using c1, by simpa [World.cell?, hh] using c2⟩
theorem carts_set {w : World} {b off n b' o : Nat} {fr tt : Nat -> Int} {v : Value} (h : CartsIn w b off n fr tt) (hne : b ≠ b') : CartsIn (w.setCell ⟨b', o, none⟩ v) b off n fr tt := by
 intro i hi; obtain ⟨h1, h2⟩ := h i hi; exact ⟨by rw [World.cell?_setCell_other _ _ _ _ (by intro hh; cases hh; exact hne rfl)]; exact h1, by rw [World.cell?_setCell_other _ _ _ _ (by intro hh; cases hh; exact hne rfl)]; exact h2⟩
end
section
open Go.ChangeShapes Go.WideShapes Go.ChangeAt Go.RowKit Go.Deep Go.Joins
end
section
open Go.RowKit Go.Shelf Go.Deep M
def frL (acc : List (Int × Int)) (i : Nat) : Int := (acc.getD i (0, 0)).1
def ttL (acc : List (Int × Int)) (i : Nat) : Int := (acc.getD i (0, 0)).2
theorem cartCells_snoc (acc : List (Int × Int)) (v : Int × Int) : cartCells (frL (acc ++ [v])) (ttL (acc ++ [v])) (acc.length + 1) = cartCells (frL acc) (ttL acc) acc.length ++ [.int .i64 v.1, .int .i64 v.2] := by
 have h1 : ∀ i, i < acc.length -> (acc ++ [v]).getD i (0, 0) = acc.getD i (0, 0) := fun i hi => by
  rw [zg, zg, List.getElem?_append_left hi]
 have h2 : (acc ++ [v]).getD acc.length (0, 0) = v := by
  rw [zg, List.getElem?_append_right zl]; simp
 simp only [cartCells]; rw [cartCells_congr (fr := frL (acc ++ [v])) (tt := ttL (acc ++ [v])) (fr' := frL acc) (tt' := ttL acc) (m := acc.length) fun i hi => by unfold frL ttL; rw [h1 i hi]; exact ⟨rfl, rfl⟩]; unfold frL ttL; rw [h2]
theorem cartP_lt {R C : Nat} {l r : List UInt8} {v : Int × Int} (h : TX.cartP R C l = (r, some v)) : r.length < l.length := by
 obtain ⟨a, b, c, d, e, _⟩ := TX.line4_form h; rw [e, List.length_append]; have : 1 <= (TX.lineT [a, b, c, d]).length := by simp [TX.lineT]
 omega
theorem own_only {w w' : World} {base n : Nat} {e : TypeId} {size : Nat} {v : Value} {xs : List Value} {S : Nat -> Prop} (h : w.ownsRow base e size v n xs) (ho : Only S w w') (hs : ∀ i, base <= i -> v.ownBlock = some i -> ¬ S i) : w'.ownsRow base e size v n xs := by
 refine ⟨h.1, ?_⟩; rcases h.2 with h0 | ⟨g, cap, cur, hv, hg, hh, r⟩
 . exact .inl h0
 . refine .inr ⟨g, cap, cur, hv, hg, ?_, r⟩; exact (ho.block g (h.lt g (by rw [hv]; rfl)).2 (hs g hg (by rw [hv]; rfl))).trans hh
structure CartsO (w : World) (g cap n : Nat) (fr tt : Nat -> Int) : Prop where
 c : CartsIn w g 0 n fr tt
 o : w.ownsRow g 75 2 (.slice (some ⟨g, 0, none⟩) n cap) n (cartCells fr tt n)
theorem own_self {w : World} {base n g cap sz : Nat} {e : TypeId} {xs : List Value} (h : w.ownsRow base e sz (.slice (some ⟨g, 0, none⟩) n cap) n xs) : w.ownsRow g e sz (.slice (some ⟨g, 0, none⟩) n cap) n xs :=
 ⟨h.1, h.2.elim Or.inl (fun ⟨g', cap', cur, hv, _, r⟩ => Or.inr ⟨g', cap', cur, hv, (by cases hv; exact zl), r⟩)⟩
theorem CartsO.below {w w' : World} {g cap n : Nat} {fr tt : Nat -> Int} (h : CartsO w g cap n fr tt) (hb : Below w.heap.size w w') : CartsO w' g cap n fr tt := ⟨h.c.below hb, own_later h.o hb⟩
theorem cartsO_set {w : World} {g cap n b' o : Nat} {fr tt : Nat -> Int} {v : Value} (h : CartsO w g cap n fr tt) (hne : g ≠ b') : CartsO (w.setCell ⟨b', o, none⟩ v) g cap n fr tt :=
 ⟨carts_set h.c hne, own_only h.o (Only.setCell (S := fun x => x = b') (Only.refl _ w) (p := ⟨b', o, none⟩) (fun _ => rfl) v) (fun i _ e e2 => by
  have h1 : g = i := by simpa [Value.ownBlock] using e
  exact hne (h1.trans e2))⟩
theorem Tryz.infoCartT : (Tryz.prog.info? 75).map (fun i => (i.zero, i.size, i.bytes)) = some (some (.agg #[.int .i64 0, .int .i64 0]), 2, 16) := by kernel_rfl
theorem rcarts_any (b yb k R C : Nat) (s cs : ByteArray) (bu : Int) (w : World) (hs : s.size <= 2000000) (hne : yb ≠ b) (hR : 1 <= R) (hC : 1 <= C) (hRC : R * C <= 2000000) (h : Rd w b s k) (hy : Box w yb #[.int .i64 R, .int .i64 C, .string cs, .slice none 0 0, .int .i64 bu]) :
 Calls Tryz.prog 40 #[.pointer (some ⟨b, 0, none⟩), .pointer (some ⟨yb, 0, none⟩)] w fun e w' =>
  ∃ (k' : Nat) (acc : List (Int × Int)) (ok : Bool), e = .returned (.bool ok) ∧ TX.cartsP R C ((restS s k).length + 1) (restS s k) [] = (restS s k', if ok then some acc else none) ∧ Rd w' b s k' ∧
   (ok = true -> ∃ g cap, Box w' yb #[.int .i64 R, .int .i64 C, .string cs, .slice (some ⟨g, 0, none⟩) acc.length cap, .int .i64 bu] ∧ CartsO w' g cap acc.length (frL acc) (ttL acc) ∧ w.heap.size <= g ∧ acc.length <= cap ∧ acc.length <= s.size) ∧ Only (fun x => x = b ∨ x = yb) w w' := by
 obtain ⟨i0, hi0, hi1, hi2, hi3⟩ := info_parts Tryz.infoCartT; have HR := zx h; have HY := zx hy; have hlb := h.lt; have hly := hy.lt; have hk := h.le; clear h hy; go_enter Tryz.func40, Tryz.ntmps40; go_wp2
 go_loopg [] ((restS s k).length + 1) (fun f wr => ∃ (kk : Nat) (acc : List (Int × Int)) (av : Option Addr) (cap : Nat), Rd wr b s kk ∧ Box wr yb #[.int .i64 R, .int .i64 C, .string cs, .slice av acc.length cap, .int .i64 bu] ∧ wr.ownsRow w.heap.size 75 2 (.slice av acc.length cap) acc.length (cartCells (frL acc) (ttL acc) acc.length) ∧ Only (fun x => x = b ∨ x = yb ∨ w.heap.size <= x) w wr ∧ s.size - kk < f ∧ TX.cartsP R C f (restS s kk) acc = TX.cartsP R C ((restS s k).length + 1) (restS s k) [] ∧ acc.length + (s.size - kk) <= s.size)
 case atStart => exact ⟨k, [], none, 0, HR.out, HY.out, ⟨rfl, .inl ⟨rfl, rfl⟩⟩, Only.refl _ _, by rw [rest_len]; omega, rfl, by simp⟩
 case round =>
  obtain ⟨kk, acc, av, cap, hr, hy, how, ho, hf, hm, hacc⟩ := hrel; obtain ⟨wo, rfl⟩ : ∃ x, x = wr := ⟨_, rfl⟩
  have RO := zx hr; have YO := zx hy; have WO := zx how; have OO := zx ho; have MO := zx hm; obtain ⟨f0, hf0⟩ : ∃ f0, gk = f0 + 1 := ⟨gk - 1, by omega⟩
  have GF := zx hf0; have hkk := hr.le; have c0 := hr.c0; have c1 := hr.c1; have y3 := hy.c 3; simp only [zA, zB, zC] at y3; clear hr hy how ho hm hf0; go_upto_region 1 with fail; go_cut [24] (fun v24 wx => v24 = .bool (acc.isEmpty || decide (kk < s.size)) ∧ ∃ n, wx = wo.drewN n)
  case first =>
   by_cases ha : acc = []
   . have e0 : ((acc.length : Int) == 0) = true := by rw [ha]; rfl
     have HA := zx ha; clear ha; go_quiet (fail); go_wp2; go_meet; case rel => exact ⟨by rw [HA.out]; rfl, nq, rfl⟩
   . have e0 : ((acc.length : Int) == 0) = false := by
      have : acc.length ≠ 0 := fun h => ha (List.length_eq_zero_iff.1 h)
      simp; omega
     have hie : acc.isEmpty = false := by
      cases acc with
      | nil => exact absurd rfl ha
      | cons _ _ => rfl
     have HIE := zx hie; clear ha hie; by_cases hlt : kk < s.size
     . have e1 : decide (((kk : Nat) : Int) < (s.size : Int)) = true := by simp; omega
       go_quiet (fail); go_wp2; go_meet; case rel => exact ⟨by rw [HIE.out, decide_eq_true hlt]; rfl, nq, rfl⟩
     . have e1 : decide (((kk : Nat) : Int) < (s.size : Int)) = false := by simp; omega
       go_quiet (fail); go_wp2; go_meet; case rel => exact ⟨by rw [HIE.out, decide_eq_false hlt]; rfl, nq, rfl⟩
  case rest =>
   obtain ⟨wx, rfl⟩ : ∃ q, q = wc := ⟨_, rfl⟩
   obtain ⟨rfl, nd, rfl⟩ := hcut; have RD : Hid (Rd (wo.drewN nd) b s kk) := RO.out.drewN nd; have YD : Hid (Box (wo.drewN nd) yb #[.int .i64 R, .int .i64 C, .string cs, .slice av acc.length cap, .int .i64 bu]) := YO.out.drewN nd; have WD : Hid ((wo.drewN nd).ownsRow w.heap.size 75 2 (.slice av acc.length cap) acc.length (cartCells (frL acc) (ttL acc) acc.length)) := own_only WO.out ((Only.refl (fun _ => False) wo).drewN nd) (fun _ _ _ e => e); have OD : Hid (Only (fun x => x = b ∨ x = yb ∨ w.heap.size <= x) w (wo.drewN nd)) := OO.out.drewN nd; clear c0 c1 y3
   obtain ⟨tb, htb⟩ : ∃ x, x = (acc.isEmpty || decide (kk < s.size)) := ⟨_, rfl⟩
   have HT := zx htb; rw [<- htb]; clear htb; apply_assumption; cases tb
   . have hfin : acc ≠ [] ∧ ¬ kk < s.size := by
      have h := HT.out.symm; rw [Bool.or_eq_false_iff] at h; exact ⟨(fun e => by rw [e] at h; cases h.1), of_decide_eq_false h.2⟩
     have hans : TX.cartsP R C ((restS s k).length + 1) (restS s k) [] = (restS s kk, some acc) := by
      rw [<- MO.out, GF.out]; show (if acc ≠ [] ∧ restS s kk = [] then _ else _) = _; rw [if_pos ⟨hfin.1, rest_nil (by omega)⟩]
     have hal : 0 < acc.length := List.length_pos_iff.2 hfin.1; have AN := zx hans; have HFI := zx hfin; clear hans hfin; go_wp2; go_ret; obtain ⟨g, rfl, hci⟩ := own_carts WD.out hal; have hg := (WD.out.lt g rfl).1; have hcap : acc.length <= cap := by
      obtain ⟨_, cap', e, _, h2⟩ := own_form WD.out; cases e; exact h2
     exact ⟨kk, acc, true, rfl, AN.out, RD.out, (fun _ => ⟨g, cap, YD.out, ⟨hci, own_self WD.out⟩, hg, hcap, by omega⟩), OD.out.mono (fun i hi h => h.elim .inl (fun h => h.elim .inr (fun h => absurd h (by omega))))⟩
   . have hun : TX.cartsP R C ((restS s k).length + 1) (restS s k) [] = TX.andP (TX.cartP R C (restS s kk)) fun c l1 => TX.cartsP R C f0 l1 (acc ++ [c]) := by
      rw [<- MO.out, GF.out]; show (if acc ≠ [] ∧ restS s kk = [] then _ else _) = _; rw [if_neg]; rintro ⟨h1, h2⟩; have h := HT.out; have h3 : acc.isEmpty = false := by
       cases acc with
       | nil => exact absurd rfl h1
       | cons _ _ => rfl
      rw [h3, Bool.false_or] at h; have h4 : kk < s.size := of_decide_eq_true h.symm; have h5 := congrArg List.length h2; rw [rest_len] at h5; simp at h5; omega
     have UN := zx hun; have y0 := YD.out.c 0; have y1 := YD.out.c 1; have y2 := YD.out.c 2; have y3 := YD.out.c 3; have y4 := YD.out.c 4; simp only [zA, zB, zC] at y0 y1 y2 y3 y4; clear hun; go_wp2_with fail; refine (rcart_any b kk R C s cs _ bu _ hs hR hC hRC RD.out).mono ?_; rintro e w4 ⟨k4, v, ok4, rfl, hcp, hr4, ho4⟩; have R4 := zx hr4; have CP := zx hcp; have Y4 : Hid (Box w4 yb #[.int .i64 R, .int .i64 C, .string cs, .slice av acc.length cap, .int .i64 bu]) := YD.out.only ho4 hne
     have W4 : Hid (w4.ownsRow w.heap.size 75 2 (.slice av acc.length cap) acc.length (cartCells (frL acc) (ttL acc) acc.length)) := own_only WD.out ho4 (fun i hi _ e => by omega); have O4 : Hid (Only (fun x => x = b ∨ x = yb ∨ w.heap.size <= x) w w4) := OD.out.trans ho4 (fun _ _ h => .inl h); have hz4 : w.heap.size <= w4.heap.size := O4.out.size; have hk4 := hr4.le; clear hcp hr4 ho4 y0 y1 y2 y3 y4; cases ok4
     . have hans : TX.cartsP R C ((restS s k).length + 1) (restS s k) [] = (restS s k4, none) := by
        rw [UN.out, show TX.cartP R C (restS s kk) = (restS s k4, none) from CP.out]; rfl
       have AN := zx hans; clear hans; go_wp2; go_ret; exact ⟨k4, [], false, rfl, AN.out, R4.out.below ((Below.refl _ w4).alloc zl _), (fun h => by cases h), (O4.out.alloc _).mono (fun i hi h => h.elim .inl (fun h => h.elim .inr (fun h => absurd h (by omega))))⟩
     . have hcpe : TX.cartP R C (restS s kk) = (restS s k4, some v) := CP.out; have hlt4 := cartP_lt hcpe; rw [rest_len, rest_len] at hlt4; have hstep : TX.cartsP R C f0 (restS s k4) (acc ++ [v]) = TX.cartsP R C ((restS s k).length + 1) (restS s k) [] := by
        rw [UN.out, hcpe]; rfl
       have ST := zx hstep; clear hcpe hstep; go_wp2_with fail; have Y5 : Hid (Box (w4.alloc (.cells #[.int .i64 v.1, .int .i64 v.2] 75)) yb #[Value.int .i64 R, .int .i64 C, .string cs, .slice av acc.length cap, .int .i64 bu]) := box_alloc Y4.out _; have Z5 : Hid (Box (w4.alloc (.cells #[.int .i64 v.1, .int .i64 v.2] 75)) w4.heap.size #[.int .i64 v.1, .int .i64 v.2]) := box_new _ _; have R5 : Hid (Rd (w4.alloc (.cells #[.int .i64 v.1, .int .i64 v.2] 75)) b s k4) := R4.out.below ((Below.refl _ w4).alloc zl _)
       have W5 : Hid ((w4.alloc (.cells #[.int .i64 v.1, .int .i64 v.2] 75)).ownsRow w.heap.size 75 2 (.slice av acc.length cap) acc.length (cartCells (frL acc) (ttL acc) acc.length)) := own_later W4.out ((Below.refl _ w4).alloc zl _); have D5 : Hid (∀ g, Value.ownBlock (.slice av acc.length cap) = some g -> w.heap.size <= g ∧ g < w4.heap.size) := fun g hg => W4.out.lt g hg
       have O5 : Hid (Only (fun x => x = b ∨ x = yb ∨ w.heap.size <= x) w (w4.alloc (.cells #[.int .i64 v.1, .int .i64 v.2] 75))) := O4.out.alloc _; have hz5 : (w4.alloc (.cells #[.int .i64 v.1, .int .i64 v.2] 75)).heap.size = w4.heap.size + 1 := by simp
       generalize (w4.alloc (.cells #[.int .i64 v.1, .int .i64 v.2] 75)) = w5 at *; have SALL : Hid (∀ u : World, Below w5.heap.size w5 u -> (fun u : World => u.cell? ⟨yb, 3, none⟩ = some (.slice av acc.length cap) ∧ u.cell? ⟨w4.heap.size, 0, none⟩ = some (.int .i64 v.1) ∧ u.cell? ⟨w4.heap.size, 1, none⟩ = some (.int .i64 v.2)) u) := fun u hu => ⟨(hu.cell (p := ⟨yb, 3, none⟩) Y5.out.lt).trans (Y5.out.c 3), (hu.cell (p := ⟨w4.heap.size, 0, none⟩) Z5.out.lt).trans (Z5.out.c 0), (hu.cell (p := ⟨w4.heap.size, 1, none⟩) Z5.out.lt).trans (Z5.out.c 1)⟩
       have HS := SALL.out w5.drew ((Below.refl _ w5).drew); refine wp_region_any (by kernel_rfl) ?_; change wpAny _ _ _ _ _ _ _ (World.drew _); refine LM.T 0 (.pointer (some ⟨yb, 0, none⟩)) rfl ?_; refine LM.T 1 (.pointer (some ⟨yb, 0, none⟩)) rfl ?_; refine LM.T 2 (.pointer (some ⟨yb, 0, none⟩)) rfl ?_; refine LM.T 3 (.pointer (some ⟨yb, 3, none⟩)) rfl ?_
       refine LM.any_of_L (late := LM.lateOf [8, 9, 10]) (S := (fun u : World => u.cell? ⟨yb, 3, none⟩ = some (.slice av acc.length cap) ∧ u.cell? ⟨w4.heap.size, 0, none⟩ = some (.int .i64 v.1) ∧ u.cell? ⟨w4.heap.size, 1, none⟩ = some (.int .i64 v.2))) _ _ _ _ ?_; refine LM.TL 4 (.slice av acc.length cap) rfl (Or.inl ⟨by rfl, fun u hu => by have a0 := hu.1; clear hu; go_simp⟩) HS ?_; refine LM.TL 5 (.agg #[.int .i64 v.1, .int .i64 v.2]) rfl (Or.inl ⟨by rfl, fun u hu => by have a0 := hu.2.1; have a1 := hu.2.2; clear hu; go_simp⟩) HS ?_; refine LM.L_one (i := 6) rfl (by kernel_rfl) rfl (fun K hK => ?_)
       go_simp; have B9 : Hid (Below w5.heap.size w5 (w5.alloc (.cells #[.int .i64 v.1, .int .i64 v.2] 75)).drew) := ((Below.refl _ w5).alloc zl _).drew; have HS : (fun u : World => u.cell? ⟨yb, 3, none⟩ = some (.slice av acc.length cap) ∧ u.cell? ⟨w4.heap.size, 0, none⟩ = some (.int .i64 v.1) ∧ u.cell? ⟨w4.heap.size, 1, none⟩ = some (.int .i64 v.2)) (w5.alloc (.cells #[.int .i64 v.1, .int .i64 v.2] 75)).drew := SALL.out _ B9.out
       have NW : ∀ q u, [Value.int .i64 v.1, .int .i64 v.2][q]? = some u -> (w5.alloc (.cells #[.int .i64 v.1, .int .i64 v.2] 75)).drew.cell? ((⟨w4.heap.size + 1, 0, none⟩ : Addr).add q) = some u := by
        have h := cell_two_new w5 (.int .i64 v.1) (.int .i64 v.2) 75; rw [hz5] at h; exact h
       have hz9 : (w5.alloc (.cells #[.int .i64 v.1, .int .i64 v.2] 75)).drew.heap.size = w4.heap.size + 1 + 1 := by show (w5.alloc _).heap.size = _; simp [hz5]
       refine hK _ ((w5.alloc (.cells #[.int .i64 v.1, .int .i64 v.2] 75)).drew) HS ?_; clear hK K; generalize (w5.alloc (.cells #[.int .i64 v.1, .int .i64 v.2] 75)).drew = w9 at *; have W9 : Hid (w9.ownsRow w.heap.size 75 2 (.slice av acc.length cap) acc.length (cartCells (frL acc) (ttL acc) acc.length)) := own_later W5.out B9.out; have NWH := zx NW; clear NW; refine LM.L_one (i := 7) rfl (by kernel_rfl) rfl (fun K hK => ?_)
       refine wp_append_lies w9 (.tmp 39) (.tmp 41) 32 rfl w.heap.size 75 i0 _ 2 16 Tryz.underlying32 hi0 hi1 hi2 hi3 rfl (by omega) (.slice av acc.length cap) acc.length (cartCells (frL acc) (ttL acc) acc.length) (by go_simp) W9.out ⟨w4.heap.size + 1, 0, none⟩ 1 1 [.int .i64 v.1, .int .i64 v.2] (by go_simp) rfl NWH.out (two_oneCell _ _) (by omega) (by unfold maxLen; omega) (by omega) (by omega) (w4.heap.size + 1 + 1) hz9 ?_; intro g10 c10 w10 ho10 hg10 hl10 _; have G10 : Hid (w9.grownBy w10 (Value.ownBlock (.slice av acc.length cap))) := hg10
       have X10 : Hid (Only (fun x => Value.ownBlock (.slice av acc.length cap) = some x) w9 w10) := ⟨hg10.os, hg10.tape, hg10.output, hg10.size, fun k hk hn => hg10.block k hk (fun e => hn e.symm)⟩
       have hy9 : yb < w9.heap.size := Nat.lt_of_lt_of_le Y5.out.lt B9.out.size; have XY : ¬ (Value.ownBlock (.slice av acc.length cap) = some yb) := fun e => by have := D5.out yb e; omega
       have XB : ¬ (Value.ownBlock (.slice av acc.length cap) = some b) := fun e => by have := D5.out b e; omega
       have XC : ¬ (Value.ownBlock (.slice av acc.length cap) = some w4.heap.size) := fun e => by have := D5.out _ e; omega
       have Y9 : Hid (Box w9 yb #[Value.int .i64 R, .int .i64 C, .string cs, .slice av acc.length cap, .int .i64 bu]) := Y5.out.only (Only.of_below (S := fun _ => False) B9.out) (fun e => e); have Z9 : Hid (Box w9 w4.heap.size #[.int .i64 v.1, .int .i64 v.2]) := Z5.out.only (Only.of_below (S := fun _ => False) B9.out) (fun e => e); have R9 : Hid (Rd w9 b s k4) := R5.out.below B9.out; have O9 : Hid (Only (fun x => x = b ∨ x = yb ∨ w.heap.size <= x) w w9) := O5.out.trans (Only.of_below (S := fun _ => False) B9.out) (fun _ _ h => h.elim)
       have Y10 : Hid (Box w10 yb #[Value.int .i64 R, .int .i64 C, .string cs, .slice av acc.length cap, .int .i64 bu]) := Y9.out.only X10.out XY; have Z10 : Hid (Box w10 w4.heap.size #[.int .i64 v.1, .int .i64 v.2]) := Z9.out.only X10.out XC; have R10 : Hid (Rd w10 b s k4) := R9.out.only X10.out XB; have O10 : Hid (Only (fun x => x = b ∨ x = yb ∨ w.heap.size <= x) w w10) := O9.out.trans X10.out (fun i _ h => .inr (.inr (D5.out i h).1)); have OW10 := zx ho10
       have HS : (fun u : World => u.cell? ⟨yb, 3, none⟩ = some (.slice av acc.length cap) ∧ u.cell? ⟨w4.heap.size, 0, none⟩ = some (.int .i64 v.1) ∧ u.cell? ⟨w4.heap.size, 1, none⟩ = some (.int .i64 v.2)) w10 := ⟨Y10.out.c 3, Z10.out.c 0, Z10.out.c 1⟩
       have y10 : w10.cell? ⟨yb, 3, none⟩ = some (.slice av acc.length cap) := Y10.out.c 3; have f10 : w10.frozen? ⟨yb, 3, none⟩ = false := Y10.out.fz 3; have hg10b : w.heap.size <= g10 := by
        rcases hl10 with e | e
        . exact (D5.out g10 e).1
        . omega
       clear ho10 hg10 hl10; refine hK _ _ HS ?_; clear hK K; refine LM.L_rest (by kernel_rfl) ?_; refine LM.T 8 (.pointer (some ⟨yb, 0, none⟩)) rfl ?_; refine LM.T 9 (.pointer (some ⟨yb, 3, none⟩)) rfl ?_; refine LM.any_one (i := 10) rfl (by kernel_rfl) rfl (fun K hK => ?_); go_simp; refine hK _ _ ?_; refine wpAny_done (by kernel_rfl) ?_ _; clear hK K; have Y11 : Hid (Box (w10.setCell ⟨yb, 3, none⟩ (.slice (some ⟨g10, 0, none⟩) (acc.length + 1) c10)) yb #[Value.int .i64 R, .int .i64 C, .string cs, .slice (some ⟨g10, 0, none⟩) (acc ++ [v]).length c10, .int .i64 bu]) := by
        have h := Y10.out.set (i := 3) (x := .slice (some ⟨g10, 0, none⟩) (acc.length + 1) c10) (by simp) (v' := #[Value.int .i64 R, .int .i64 C, .string cs, .slice (some ⟨g10, 0, none⟩) (acc ++ [v]).length c10, .int .i64 bu]) (by simp); exact h
       have R11 : Hid (Rd (w10.setCell ⟨yb, 3, none⟩ (.slice (some ⟨g10, 0, none⟩) (acc.length + 1) c10)) b s k4) := R10.out.setOther hne; have O11 : Hid (Only (fun x => x = b ∨ x = yb ∨ w.heap.size <= x) w (w10.setCell ⟨yb, 3, none⟩ (.slice (some ⟨g10, 0, none⟩) (acc.length + 1) c10))) := Only.setCell (S := fun x => x = b ∨ x = yb ∨ w.heap.size <= x) O10.out (p := ⟨yb, 3, none⟩) (fun _ => .inr (.inl rfl)) _
       have OW11 : Hid ((w10.setCell ⟨yb, 3, none⟩ (.slice (some ⟨g10, 0, none⟩) (acc.length + 1) c10)).ownsRow w.heap.size 75 2 (.slice (some ⟨g10, 0, none⟩) (acc ++ [v]).length c10) (acc ++ [v]).length (cartCells (frL (acc ++ [v])) (ttL (acc ++ [v])) (acc ++ [v]).length)) := by
        have h := own_only OW10.out (Only.setCell (S := fun x => x = yb) (Only.refl _ w10) (p := ⟨yb, 3, none⟩) (fun _ => rfl) (.slice (some ⟨g10, 0, none⟩) (acc.length + 1) c10)) (fun i hi _ e => by omega); rw [<- cartCells_snoc] at h; unfold Hid; simpa using h
       go_wp2; go_roundg f0
       case rel => exact ⟨k4, acc ++ [v], some ⟨g10, 0, none⟩, c10, R11.out, Y11.out, OW11.out, O11.out, (by have := GF.out; omega), ST.out, (by rw [List.length_append]; simp; omega)⟩
       all_goals (have := GF.out; omega)
end
end Go.Proofs.YtnkgpinadgacgaaGreatDoor
