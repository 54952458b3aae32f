/- Several texts in one: Tt, Tu, Bq. -/
import Derived.Test.YtnkgpinadgacgabDoorMks
import Derived.Test.YtnkgpinadgacgabDoorMkt
import Derived.Test.YtnkgpinadgacgabDoorMkzw
import Derived.Test.YtnkgpinadgacgabDoorMkzq
import Derived.Test.YtnkgpinadgacgabDoorMkk
import Derived.Test.YtnkgpinadgacgabDoorMkl
import Derived.Deep.DeepCutAuto
import Derived.Test.YtnkgpinadgacgabDoorMkd
import Derived.Deep.CutBlock
namespace Go.Proofs.YtnkgpinadgacgabDoor
open Go.RowKit Go.Shelf Go.Deep M SM

def manyT : List UInt8 := [109, 97, 110, 121, 10]
def noneT : List UInt8 := [110, 111, 110, 101, 10]

theorem cartM_range (cs : ByteArray) (fr tt : Nat → Int) (i : Nat) : 0 ≤ cartM cs fr tt i ∧ cartM cs fr tt i ≤ 5 := by
  unfold cartM
  by_cases h : (freeB cs (fr i) && freeB cs (tt i)) = true
  · rw [if_pos h]; split <;> exact ⟨by decide, by decide⟩
  · rw [if_neg h]; exact ⟨by decide, by decide⟩

theorem chk_range (t : TX.Told) : 0 ≤ (chkT t).1 ∧ (chkT t).1 ≤ 6 := by
  unfold chkT checkM
  split
  · exact ⟨by simp, by simp⟩
  · split
    · exact ⟨by simp, by simp⟩
    · split
      · exact ⟨by simp, by simp⟩
      · split
        · have h := cartM_range ⟨t.cs.toArray⟩ (frL t.carts) (ttL t.carts) (firstOf (fun i => !(cartM ⟨t.cs.toArray⟩ (frL t.carts) (ttL t.carts) i == 0)) t.carts.length)
          exact ⟨h.1, by show cartM _ _ _ _ ≤ 6; omega⟩
        · split <;> exact ⟨by simp, by simp⟩

/-- What Told says of a yard that a text tells. -/
def toldT (t : TX.Told) (n : Nat) (d : Bool) : Prop := M.Told (stepP (t.R : Int) (t.C : Int) ⟨t.cs.toArray⟩ t.carts.length) (cellsOf (frL t.carts) t.carts.length) (cellsOf (ttL t.carts) t.carts.length) (t.U : Int) n d

/-- The answer to a request. -/
def ansR (F0 : Nat) (r : ByteArray) (A : List UInt8) : Prop :=
  (∃ k, TX.readT r.data.toList = (restS r k, none) ∧ k ≤ r.size ∧ A = errT 11 k) ∨
  (∃ t, TX.readT r.data.toList = ([], some t) ∧ (chkT t).1 ≠ 0 ∧ A = errT (chkT t).1.toNat (chkT t).2.toNat) ∨
  (∃ t, TX.readT r.data.toList = ([], some t) ∧ (chkT t).1 = 0 ∧ ∃ (n : Nat) (d : Bool), toldT t n d ∧
    (((t.U : Int) < n ∧ A = manyT) ∨ (¬ (t.U : Int) < n ∧ d = false ∧ A = noneT) ∨ (¬ (t.U : Int) < n ∧ d = true ∧ A = planT t.C (planK F0 (t.R : Int) (t.C : Int) ⟨t.cs.toArray⟩ t.carts.length (frL t.carts) (ttL t.carts)) (costY F0 (t.R : Int) (t.C : Int) ⟨t.cs.toArray⟩ t.carts.length (frL t.carts) (ttL t.carts)))))

theorem ansR_det {F0 : Nat} {r : ByteArray} {A B : List UInt8} (ha : ansR F0 r A) (hb : ansR F0 r B) : A = B := by
  rcases ha with ⟨k, h1, h2, rfl⟩ | ⟨t, h1, h2, rfl⟩ | ⟨t, h1, h2, n, d, h3, h4⟩
  · rcases hb with ⟨k', g1, g2, rfl⟩ | ⟨t', g1, _⟩ | ⟨t', g1, _⟩
    · rw [h1] at g1
      have g3 := congrArg List.length (congrArg Prod.fst g1)
      rw [rest_len, rest_len] at g3
      rw [show k = k' by omega]
    · rw [h1] at g1; have g2 := congrArg Prod.snd g1; cases g2
    · rw [h1] at g1; have g2 := congrArg Prod.snd g1; cases g2
  · rcases hb with ⟨k', g1, _⟩ | ⟨t', g1, g2, rfl⟩ | ⟨t', g1, g2, _⟩
    · rw [h1] at g1; have g2 := congrArg Prod.snd g1; cases g2
    · rw [h1] at g1; cases g1; rfl
    · rw [h1] at g1; cases g1; exact absurd g2 h2
  · rcases hb with ⟨k', g1, _⟩ | ⟨t', g1, g2, _⟩ | ⟨t', g1, g2, n', d', g3, g4⟩
    · rw [h1] at g1; have g2 := congrArg Prod.snd g1; cases g2
    · rw [h1] at g1; cases g1; exact absurd h2 g2
    · rw [h1] at g1
      cases g1
      obtain ⟨e1, e2⟩ := M.Told.all h3 g3
      rcases h4 with ⟨p1, rfl⟩ | ⟨p1, p2, rfl⟩ | ⟨p1, p2, rfl⟩
      · rcases g4 with ⟨_, rfl⟩ | ⟨q1, _, _⟩ | ⟨q1, _, _⟩
        · rfl
        · exact absurd (e1.1 p1) q1
        · exact absurd (e1.1 p1) q1
      · rcases g4 with ⟨q1, _⟩ | ⟨_, _, rfl⟩ | ⟨q1, q2, _⟩
        · exact absurd (e1.2 q1) p1
        · rfl
        · have := (e2 p1).2; rw [p2, q2] at this; cases this
      · rcases g4 with ⟨q1, _⟩ | ⟨q1, q2, _⟩ | ⟨_, _, rfl⟩
        · exact absurd (e1.2 q1) p1
        · have := (e2 p1).2; rw [p2, q2] at this; cases this
        · rfl

theorem ansR_ne {F0 : Nat} {r : ByteArray} {A : List UInt8} (h : ansR F0 r A) : A ≠ [] := by
  rcases h with ⟨k, _, _, rfl⟩ | ⟨t, _, _, rfl⟩ | ⟨t, _, _, n, d, _, h4⟩
  · simp [errT, headE]
  · simp [errT, headE]
  · rcases h4 with ⟨_, rfl⟩ | ⟨_, _, rfl⟩ | ⟨_, _, rfl⟩
    · simp [manyT]
    · simp [noneT]
    · simp [planT, headP]

set_option maxRecDepth 100000 in
set_option maxHeartbeats 1000000 in
theorem ask_any (F0 : Nat) (hF0 : 200400000 ≤ F0) (sp : Value) (r : ByteArray) (w : World) (hr : r.size ≤ 2000000) (hT : Lib.TabBelow Tryd.prog w.heap.size w "internal/strconv.uint64pow10" .u64 Lib.pow10Tab) (hsd : SidesIn w) :
    Calls Tryd.prog 28 #[sp, .string r] w fun e w' => ∃ F : ByteArray, e = .returned (.string F) ∧ ansR F0 r F.data.toList ∧ Below w.heap.size w w' := by
  have HT : Hid (∀ u, Below w.heap.size w u → Lib.TabBelow Tryd.prog u.heap.size u "internal/strconv.uint64pow10" .u64 Lib.pow10Tab) := fun u hu v hv => hT v (hu.trans (hv.mono hu.size))
  have HSD := Hid.mk hsd
  have hrl : r.data.toList.length = r.size := (Lib.size_eq r).symm
  clear hT hsd
  go_enter Tryd.func28, Tryd.ntmps28
  go_wp2_with fail
  refine (yread_any r w hr).mono ?_
  rintro e w1 ⟨hb1, hway⟩
  have B1 := Hid.mk hb1
  have BF : Hid (∀ o, Below w.heap.size w (w1.alloc o)) := fun o => B1.out.alloc B1.out.size o
  clear hb1
  rcases hway with ⟨t, g, cap, hf, hc, rfl, hci, hg, hcap, hal⟩ | ⟨t, hf, hc, rfl⟩ | ⟨k, hf, hk, rfl⟩
  · obtain ⟨E, hE⟩ : ∃ E : ByteArray, E = ⟨t.cs.toArray⟩ := ⟨_, rfl⟩
    obtain ⟨m, hm⟩ : ∃ m, m = t.carts.length := ⟨_, rfl⟩
    have hck : (checkM (t.R : Int) (t.C : Int) E m (frL t.carts) (ttL t.carts) (t.U : Int)).1 = 0 := by rw [hE, hm]; exact hc
    have GY := Hid.mk (chk_form hck)
    have CK := Hid.mk hck
    have HF := Hid.mk hf
    have HC := Hid.mk hc
    have HE := Hid.mk hE
    have HM := Hid.mk hm
    have hle := Nat.mul_le_mul GY.out.r2 GY.out.c2
    have hE36 : E.size ≤ 36 := by rw [GY.out.sz]; exact hle
    have hm4 := GY.out.m2
    have hC1 := GY.out.c1
    unfold yardV
    rw [← hE, ← hm]
    rw [← hm] at hci hcap
    have Y2 : Hid (Box (w1.alloc (.cells #[.int .i64 (t.R : Int), .int .i64 (t.C : Int), .string E, .slice (some ⟨g, 0, none⟩) m cap, .int .i64 (t.U : Int)] 28)) w1.heap.size #[.int .i64 (t.R : Int), .int .i64 (t.C : Int), .string E, .slice (some ⟨g, 0, none⟩) m cap, .int .i64 (t.U : Int)]) := box_new _ _
    have B2 : Hid (Below w.heap.size w (w1.alloc (.cells #[.int .i64 (t.R : Int), .int .i64 (t.C : Int), .string E, .slice (some ⟨g, 0, none⟩) m cap, .int .i64 (t.U : Int)] 28))) := BF.out _
    have C2 : Hid (CartsIn (w1.alloc (.cells #[.int .i64 (t.R : Int), .int .i64 (t.C : Int), .string E, .slice (some ⟨g, 0, none⟩) m cap, .int .i64 (t.U : Int)] 28)) g 0 m (frL t.carts) (ttL t.carts)) := hci.below ((Below.refl _ w1).alloc (Nat.le_refl _) _)
    clear hck hf hc hE hm hci hle
    go_wp2_with fail
    generalize (w1.alloc (.cells #[.int .i64 (t.R : Int), .int .i64 (t.C : Int), .string E, .slice (some ⟨g, 0, none⟩) m cap, .int .i64 (t.U : Int)] 28)) = w2 at *
    refine (solve_any F0 hF0 _ _ _ E (some ⟨g, 0, none⟩) m cap (frL t.carts) (ttL t.carts) w2 (by unfold maxLen; omega) (by unfold maxLen; omega) hcap (HSD.out.below B2.out) (fun _ => ⟨g, 0, rfl, C2.out⟩)).mono ?_
    rintro e w3 ⟨x, y, z, rfl, hsol, hb3⟩
    have B3 : Hid (Below w.heap.size w w3) := B2.out.trans (hb3.mono B2.out.size)
    have Y3 : Hid (Box w3 w1.heap.size #[.int .i64 (t.R : Int), .int .i64 (t.C : Int), .string E, .slice (some ⟨g, 0, none⟩) m cap, .int .i64 (t.U : Int)]) := Y2.out.belowB hb3 Y2.out.lt
    clear hb3
    rcases hsol with ⟨hne, _⟩ | ⟨_, n, d, htold, hsol⟩
    · exact absurd CK.out hne
    · have TD : Hid (toldT t n d) := by
        unfold Hid toldT
        rw [← HE.out, ← HM.out]
        exact htold
      clear htold
      rcases hsol with ⟨hq, rfl, rfl, rfl⟩ | ⟨hq, hd, rfl, rfl, rfl⟩ | ⟨hq, hd, rfl, L, k, b, s', hW, hnL, hgL, hso, hk, rfl, hpl⟩
      · have AN : Hid (ansR F0 r manyT) := .inr (.inr ⟨t, HF.out, HC.out, n, d, TD.out, .inl ⟨hq, rfl⟩⟩)
        clear hq
        go_wp2
        go_ret
        exact ⟨_, rfl, AN.out, B3.out⟩
      · have AN : Hid (ansR F0 r noneT) := .inr (.inr ⟨t, HF.out, HC.out, n, d, TD.out, .inr (.inl ⟨hq, hd, rfl⟩)⟩)
        clear hq hd
        go_wp2
        go_ret
        exact ⟨_, rfl, AN.out, B3.out⟩
      · have hb20 := GY.out.u2
        have eK : k = costY F0 (t.R : Int) (t.C : Int) E m (frL t.carts) (ttL t.carts) := by
          rw [hk]
          unfold costY
          rw [hso]
        have ePl : planL m (SM.wayF s'.seen k b) = planK F0 (t.R : Int) (t.C : Int) E m (frL t.carts) (ttL t.carts) := by
          unfold planK
          rw [hso, hk]
        rw [ePl] at hpl
        obtain ⟨l1, l2, hG, l4⟩ := sol_plan hF0 CK.out hW hgL (by omega) hso
        have hsum : k ≤ 4000000 := by
          rw [hk, l4]
          have key : ∀ j, j ≤ m → sumN (fun i => ((planK F0 (t.R : Int) (t.C : Int) E m (frL t.carts) (ttL t.carts)).getD i []).length - 1) j ≤ 1000000 * j := by
            intro j
            induction j with
            | zero => intro _; simp [sumN]
            | succ j ih =>
              intro hj
              have h1 := ih (by omega)
              obtain ⟨_, _, _, _, _, _, h2⟩ := hG.path j (by omega)
              simp only [sumN]
              omega
          have := key m (Nat.le_refl _)
          omega
        have AN : Hid (ansR F0 r (planT t.C (planK F0 (t.R : Int) (t.C : Int) E m (frL t.carts) (ttL t.carts)) k)) := .inr (.inr ⟨t, HF.out, HC.out, n, d, TD.out, .inr (.inr ⟨hq, hd, by rw [eK, ← HE.out, ← HM.out]⟩)⟩)
        obtain ⟨Ls, hLs⟩ : ∃ Ls, Ls = planK F0 (t.R : Int) (t.C : Int) E m (frL t.carts) (ttL t.carts) := ⟨_, rfl⟩
        rw [← hLs] at hpl l1 l2 hG AN
        obtain ⟨gp, A, rfl, _, hrow, hown, _, _⟩ := hpl
        have key : ∀ i, ∃ hh c, i < m → A i = .slice (some ⟨hh, 0, none⟩) (Ls.getD i []).length c := by
          intro i
          by_cases hi : i < m
          · obtain ⟨a, cp, e, ha, _⟩ := (hown i (by rw [l1]; exact hi)).form
            obtain ⟨bb, rfl⟩ := ha (l2 i hi)
            exact ⟨bb, cp, fun _ => e⟩
          · exact ⟨0, 0, fun h => absurd h hi⟩
        obtain ⟨hh, k1⟩ := Classical.axiomOfChoice key
        obtain ⟨c, k2⟩ := Classical.axiomOfChoice k1
        have PL : Hid (∀ u, Below w3.heap.size w3 u → Calls Tryd.prog 49 #[.agg #[.int .i64 (t.R : Int), .int .i64 (t.C : Int), .string E, .slice (some ⟨g, 0, none⟩) m cap, .int .i64 (t.U : Int)], .slice (some ⟨gp, 0, none⟩) Ls.length Ls.length, .int .i64 (k : Int)] u fun e w' => ∃ F : ByteArray, e = .returned (.string F) ∧ F.data.toList = planT t.C Ls k ∧ Below u.heap.size u w') := fun u hu =>
          tplan_any t.R t.C t.U k gp E _ Ls hh c u (HT.out u (B3.out.trans (hu.mono B3.out.size))) hC1 (by omega) (by omega)
            (fun i hi => by
              obtain ⟨_, _, _, _, _, _, h2⟩ := hG.path i (by omega)
              have := l2 i (by omega)
              exact ⟨this, by omega⟩)
            (fun i hi s hs => by
              obtain ⟨_, _, _, _, _, h3, h2⟩ := hG.path i (by omega)
              have h4 := h3 s (by omega)
              have h5 : (Ls.getD i []).getD s 0 < E.size := h4
              omega)
            (fun i hi => by
              refine cell_later hu ?_
              rw [hrow.cell hi, k2 i (by omega)])
            (fun i hi s hs => by
              refine cell_later hu ?_
              have h1 := hown i hi
              rw [k2 i (by omega)] at h1
              exact h1.cell hs)
        have y0 := Y3.out.c 0
        have y1 := Y3.out.c 1
        have y2 := Y3.out.c 2
        have y3 := Y3.out.c 3
        have y4 := Y3.out.c 4
        simp only [List.getElem?_toArray, List.getElem?_cons_zero, List.getElem?_cons_succ] at y0 y1 y2 y3 y4
        clear hq hd hW hnL hgL hso hk eK ePl l1 l2 hG l4 hLs hrow hown key k1 k2 hb20
        go_wp2_with fail
        refine (PL.out w3 (Below.refl _ _)).mono ?_
        rintro e w5 ⟨F, rfl, hF, hb5⟩
        have AN3 : Hid (ansR F0 r F.data.toList) := by rw [hF]; exact AN.out
        have B5 : Hid (Below w.heap.size w w5) := B3.out.trans (hb5.mono B3.out.size)
        clear hF hb5
        go_wp2
        go_ret
        exact ⟨F, rfl, AN3.out, B5.out⟩
  · have hpl := chk_place hf (readT_carts hf)
    have hrg := chk_range t
    rw [hrl] at hpl
    have hans : ansR F0 r (errT (chkT t).1.toNat (chkT t).2.toNat) := .inr (.inl ⟨t, hf, hc, rfl⟩)
    have AN := Hid.mk hans
    obtain ⟨c1, hc1⟩ : ∃ c : Nat, c = (chkT t).1.toNat := ⟨_, rfl⟩
    obtain ⟨c2, hc2⟩ : ∃ c : Nat, c = (chkT t).2.toNat := ⟨_, rfl⟩
    have i1 : (chkT t).1 = (c1 : Int) := by omega
    have i2 : (chkT t).2 = (c2 : Int) := by omega
    have AN2 : Hid (ansR F0 r (errT c1 c2)) := by rw [hc1, hc2]; exact AN.out
    rw [i1, i2]
    rw [i1] at hc hrg
    rw [i2] at hpl
    have e0 : ((c1 : Int) != 0) = true := by simp only [bne_iff_ne, ne_eq]; exact hc
    have l1 : c1 ≤ 1000000000 := by omega
    have l2 : c2 ≤ 1000000000 := by omega
    clear hf hc hans hc1 hc2 i1 i2 hpl hrg
    unfold yard0
    go_wp2_with fail
    refine (error_any c1 c2 _ (HT.out _ (BF.out _)) l1 l2).mono ?_
    rintro e w3 ⟨F, rfl, hF, hb3⟩
    have AN3 : Hid (ansR F0 r F.data.toList) := by rw [hF]; exact AN2.out
    have B3 : Hid (Below w.heap.size w w3) := (BF.out _).trans (hb3.mono (BF.out _).size)
    clear hF hb3
    go_wp2
    go_ret
    exact ⟨F, rfl, AN3.out, B3.out⟩
  · have AN2 : Hid (ansR F0 r (errT 11 k)) := .inl ⟨k, hf, hk, rfl⟩
    clear hf
    unfold yard0
    go_wp2_with fail
    refine (error_any 11 k _ (HT.out _ (BF.out _)) (by omega) (by omega)).mono ?_
    rintro e w3 ⟨F, rfl, hF, hb3⟩
    have AN3 : Hid (ansR F0 r F.data.toList) := by rw [hF]; exact AN2.out
    have B3 : Hid (Below w.heap.size w w3) := (BF.out _).trans (hb3.mono (BF.out _).size)
    clear hF hb3
    go_wp2
    go_ret
    exact ⟨F, rfl, AN3.out, B3.out⟩

end Go.Proofs.YtnkgpinadgacgabDoor

namespace Go.Proofs.YtnkgpinadgacgabDoor
open Go.RowKit Go.Shelf Go.Deep M SM

set_option maxRecDepth 100000 in
theorem open_any (w : World) : Calls Tryd.prog 27 #[] w fun e w' => (∃ a, e = .returned (.pointer (some a))) ∧ Below w.heap.size w w' := by
  go_enter Tryd.func27, Tryd.ntmps27
  go_wp2
  go_ret
  exact ⟨⟨_, rfl⟩, (Below.refl _ w).alloc (Nat.le_refl _) _⟩

theorem bytes_eq {F G : ByteArray} (h : F.data.toList = G.data.toList) : F = G := ByteArray.ext (Array.toList_inj.1 h)

/-- The ways of an answer's beginning. -/
def BeginsR (f : Int) (A : List UInt8) : Prop := (f = 10 ∧ A = manyT) ∨ (f = 9 ∧ A = noneT) ∨ (f = 0 ∧ 5 < A.length ∧ A.take 5 = headP)

set_option maxRecDepth 100000 in
set_option maxHeartbeats 1000000 in
theorem begins_any (F : ByteArray) (f : Int) (w : World) (h : BeginsR f F.data.toList) :
    Calls Tryd.prog 29 #[.string F, .int .i64 f] w fun e w' => e = .returned (.bool true) ∧ w' = w := by
  rcases h with ⟨rfl, h⟩ | ⟨rfl, h⟩ | ⟨rfl, h1, h2⟩
  · obtain rfl : F = ⟨#[109, 97, 110, 121, 10]⟩ := bytes_eq h
    go_enter Tryd.func29, Tryd.ntmps29
    go_wp2
    go_ret
    exact ⟨rfl, rfl⟩
  · obtain rfl : F = ⟨#[110, 111, 110, 101, 10]⟩ := bytes_eq h
    go_enter Tryd.func29, Tryd.ntmps29
    go_wp2
    go_ret
    exact ⟨rfl, rfl⟩
  · have hs : 5 < F.size := by rw [Lib.size_eq]; exact h1
    have hsI : decide ((5 : Int) < (F.size : Int)) = true := by simp; omega
    have he : F.extract 0 5 = ⟨#[112, 108, 97, 110, 32]⟩ := bytes_eq (by
      rw [Lib.extract_data]
      exact h2)
    have h5 : (5 : Int) ≤ (F.size : Int) := by omega
    clear h1 h2
    go_enter Tryd.func29, Tryd.ntmps29
    go_wp2
    go_ret
    exact ⟨rfl, rfl⟩

theorem planT_begins (C : Nat) (Ls : List (List Nat)) (k : Nat) : 5 < (planT C Ls k).length ∧ (planT C Ls k).take 5 = headP := by
  refine ⟨?_, ?_⟩
  · simp [planT, headP, TX.lineT]
    omega
  · unfold planT
    show List.take headP.length _ = _
    exact List.take_left

theorem cellsOf_pairs (fr tt : Nat → Int) (m : Nat) : cellsOf (frL (pairsL fr tt m)) (pairsL fr tt m).length = cellsOf fr m ∧ cellsOf (ttL (pairsL fr tt m)) (pairsL fr tt m).length = cellsOf tt m := by
  rw [pairs_len]
  unfold cellsOf
  exact ⟨List.map_congr_left fun i hi => by rw [(pairs_at (List.mem_range.1 hi)).1], List.map_congr_left fun i hi => by rw [(pairs_at (List.mem_range.1 hi)).2]⟩

/-- The verdict that Solve gives begins the answer. -/
theorem ans_begins {F0 R C U m n : Nat} {d : Bool} {cs W : ByteArray} {fr tt : Nat → Int} {f : Int} {A : List UInt8} (hck : checkM (R : Int) (C : Int) cs m fr tt (U : Int) = (0, 0)) (hW : W.data.toList = textY R C U m cs fr tt)
    (ht : M.Told (stepP (R : Int) (C : Int) cs m) (cellsOf fr m) (cellsOf tt m) (U : Int) n d) (hf : ((U : Int) < n ∧ f = 10) ∨ (¬ (U : Int) < n ∧ d = false ∧ f = 9) ∨ (¬ (U : Int) < n ∧ d = true ∧ f = 0)) (ha : ansR F0 W A) : BeginsR f A := by
  have hrt := read_text (chk_form (by rw [hck] : (checkM (R : Int) (C : Int) cs m fr tt (U : Int)).1 = 0))
  rw [← hW] at hrt
  have hc : chkT ⟨R, C, cs.data.toList, pairsL fr tt m, U⟩ = (0, 0) := by rw [chk_text]; exact hck
  rcases ha with ⟨k, g1, _⟩ | ⟨t, g1, g2, _⟩ | ⟨t, g1, g2, n', d', g3, g4⟩
  · rw [hrt] at g1; have g2 := congrArg Prod.snd g1; cases g2
  · rw [hrt] at g1; cases g1; rw [hc] at g2; exact absurd rfl g2
  · rw [hrt] at g1
    cases g1
    have g5 : M.Told (stepP (R : Int) (C : Int) cs m) (cellsOf fr m) (cellsOf tt m) (U : Int) n' d' := by
      have h := g3
      unfold toldT at h
      rw [(cellsOf_pairs fr tt m).1, (cellsOf_pairs fr tt m).2] at h
      have e : (⟨cs.data.toList.toArray⟩ : ByteArray) = cs := by simp
      have h' : M.Told (stepP (R : Int) (C : Int) ⟨cs.data.toList.toArray⟩ (pairsL fr tt m).length) (cellsOf fr m) (cellsOf tt m) (U : Int) n' d' := h
      rw [e, pairs_len] at h'
      exact h'
    obtain ⟨e1, e2⟩ := M.Told.all ht g5
    have g4' : ((U : Int) < n' ∧ A = manyT) ∨ (¬ (U : Int) < n' ∧ d' = false ∧ A = noneT) ∨ (¬ (U : Int) < n' ∧ d' = true ∧ ∃ Ls k, A = planT C Ls k) := by
      rcases g4 with g | g | ⟨a, b, c⟩
      · exact .inl g
      · exact .inr (.inl g)
      · exact .inr (.inr ⟨a, b, _, _, c⟩)
    rcases hf with ⟨p1, rfl⟩ | ⟨p1, p2, rfl⟩ | ⟨p1, p2, rfl⟩
    · rcases g4' with ⟨_, rfl⟩ | ⟨q1, _⟩ | ⟨q1, _⟩
      · exact .inl ⟨rfl, rfl⟩
      · exact absurd (e1.1 p1) q1
      · exact absurd (e1.1 p1) q1
    · rcases g4' with ⟨q1, _⟩ | ⟨_, _, rfl⟩ | ⟨_, q2, _⟩
      · exact absurd (e1.2 q1) p1
      · exact .inr (.inl ⟨rfl, rfl⟩)
      · have := (e2 p1).2; rw [p2, q2] at this; cases this
    · rcases g4' with ⟨q1, _⟩ | ⟨_, q2, _⟩ | ⟨_, _, Ls, k, rfl⟩
      · exact absurd (e1.2 q1) p1
      · have := (e2 p1).2; rw [p2, q2] at this; cases this
      · exact .inr (.inr ⟨rfl, planT_begins C Ls k⟩)

end Go.Proofs.YtnkgpinadgacgabDoor

namespace Go.Proofs.YtnkgpinadgacgabDoor
open Go.RowKit M
set_option maxHeartbeats 1000000 in
theorem kmay_int (ro co bu : Int) (a : Nat) (b : Int) (cs : ByteArray) (ca : Value) (w : World) (hs : cs.size ≤ 36) (h1 : 1 ≤ co) (h2 : co ≤ 6) (ha : a < cs.size) :
    Calls Tryd.prog 51 #[.agg #[.int .i64 ro, .int .i64 co, .string cs, ca, .int .i64 bu], .int .i64 a, .int .i64 b] w fun e w' => e = .returned (.bool (kmay co cs a b)) ∧ Below w.heap.size w w' := by
  by_cases h0 : 0 ≤ b
  · obtain ⟨b', rfl⟩ := Int.eq_ofNat_of_zero_le h0
    by_cases hl : b' < cs.size
    · exact kmay_any ro co bu a b' cs ca w hs h1 h2 ha hl
    · have HK : Hid (kmay co cs a (b' : Nat) = false) := by
        unfold Hid kmay
        rw [freeB_out (by omega)]; rfl
      have hlI : (cs.size : Int) ≤ (b' : Int) := by omega
      clear hl h0
      go_enter Tryd.func51, Tryd.ntmps51
      go_wp2
      go_ret
      exact ⟨ret_bool HK.out.symm, (Below.refl _ _).alloc (Nat.le_refl _) _⟩
  · have HK : Hid (kmay co cs a b = false) := by
      unfold Hid kmay
      rw [freeB_out (by omega)]; rfl
    have hl0 : b < 0 := by omega
    clear h0
    go_enter Tryd.func51, Tryd.ntmps51
    go_wp2
    go_ret
    exact ⟨ret_bool HK.out.symm, (Below.refl _ _).alloc (Nat.le_refl _) _⟩

theorem kmay_cell {co : Int} {cs : ByteArray} {a : Nat} {b : Int} (h : kmay co cs a b = true) : ∃ b' : Nat, b = b' ∧ b' < cs.size := by
  unfold kmay at h
  rw [Bool.and_eq_true] at h
  have h0 : 0 ≤ b := by
    by_cases e : 0 ≤ b
    · exact e
    · rw [freeB_out (by omega)] at h; cases h.1
  obtain ⟨b', rfl⟩ := Int.eq_ofNat_of_zero_le h0
  exact ⟨b', rfl, free_lt h.1⟩

/-- What a walk of L letters is. -/
def Walked (N L : Nat) (w w' : World) (v : Value) : Prop :=
  ∃ g cap p, v = .slice (some ⟨g, 0, none⟩) (L + 1) cap ∧ L + 1 ≤ cap ∧ (∀ j, j ≤ L → w'.cell? ⟨g, j, none⟩ = some (natV p j)) ∧ (∀ j, j ≤ L → p j < N) ∧ Below w.heap.size w w'

theorem own_snoc {w : World} {base g cap : Nat} {e : TypeId} {xs : List Int} {z : Int} (h : w.ownsRow base e 1 (.slice (some ⟨g, 0, none⟩) (xs.length + 1) cap) (xs.length + 1) (ints xs ++ [.int .i64 z])) :
    w.ownsRow base e 1 (.slice (some ⟨g, 0, none⟩) (xs ++ [z]).length cap) (xs ++ [z]).length (ints (xs ++ [z])) := by
  have e1 : (xs ++ [z]).length = xs.length + 1 := by simp
  have e2 : ints (xs ++ [z]) = ints xs ++ [.int .i64 z] := by simp [ints]
  rw [e1, e2]; exact h

theorem own_room {w : World} {base n g cap : Nat} {e : TypeId} {xs : List Value} (h : w.ownsRow base e 1 (.slice (some ⟨g, 0, none⟩) n cap) n xs) : n ≤ cap := by
  obtain ⟨a, cap', e1, _, e2⟩ := own_form h
  cases e1; exact e2

set_option maxRecDepth 100000 in
set_option maxHeartbeats 4000000 in
theorem walk_any (ro co bu : Int) (x0 : Nat) (cs s : ByteArray) (ac : Option Addr) (mc cc : Nat) (w : World) (hs : cs.size ≤ 36) (h1 : 1 ≤ co) (h2 : co ≤ 6) (hx : x0 < cs.size) (hl : s.size ≤ 1048576) :
    Calls Tryd.prog 50 #[.agg #[.int .i64 ro, .int .i64 co, .string cs, .slice ac mc cc, .int .i64 bu], .int .i64 x0, .string s] w fun e w' =>
      ∃ v, e = .returned v ∧ Walked cs.size s.size w w' v := by
  go_enter Tryd.func50, Tryd.ntmps50
  go_wp2
  have OWN0 : Hid (((w.alloc (Obj.cells #[Value.int IntKind.i64 ro, Value.int IntKind.i64 co, Value.string cs, .slice ac mc cc, Value.int IntKind.i64 bu] 28)).alloc (Obj.cells #[.int .i64 (x0 : Int)] 3)).ownsRow (w.heap.size + 1) 3 1 (.slice (some ⟨w.heap.size + 1, 0, none⟩) 1 1) 1 (ints [(x0 : Int)])) := own_built _ _ _ _ (by simp)
  have HB0 : Hid (Below w.heap.size w ((w.alloc (Obj.cells #[Value.int IntKind.i64 ro, Value.int IntKind.i64 co, Value.string cs, .slice ac mc cc, Value.int IntKind.i64 bu] 28)).alloc (Obj.cells #[.int .i64 (x0 : Int)] 3))) := ((Below.refl _ w).alloc (Nat.le_refl _) _).alloc (by simp) _
  have Y0 : Hid (∀ o, ((w.alloc (Obj.cells #[Value.int IntKind.i64 ro, Value.int IntKind.i64 co, Value.string cs, .slice ac mc cc, Value.int IntKind.i64 bu] 28)).alloc (Obj.cells #[.int .i64 (x0 : Int)] 3)).cell? ⟨w.heap.size, o, none⟩ = #[Value.int .i64 ro, .int .i64 co, .string cs, .slice ac mc cc, .int .i64 bu][o]?) := by unfold Hid; intro o; go_simp
  have Z0 : Hid (((w.alloc (Obj.cells #[Value.int IntKind.i64 ro, Value.int IntKind.i64 co, Value.string cs, .slice ac mc cc, Value.int IntKind.i64 bu] 28)).alloc (Obj.cells #[.int .i64 (x0 : Int)] 3)).heap.size = w.heap.size + 2) := by unfold Hid; simp
  generalize (w.alloc (Obj.cells #[Value.int IntKind.i64 ro, Value.int IntKind.i64 co, Value.string cs, .slice ac mc cc, Value.int IntKind.i64 bu] 28)).alloc (Obj.cells #[.int .i64 (x0 : Int)] 3) = w0 at *
  go_loopg [1, 7, 8] (s.size + 1) (fun gk v1 v7 v8 wr => ∃ (x i : Nat) (xs : List Int) (g cap : Nat), v1 = .int .i64 x ∧ v8 = .int .i64 i ∧ v7 = .slice (some ⟨g, 0, none⟩) xs.length cap ∧ xs.length = i + 1 ∧ (i + gk = s.size + 1 ∧ i ≤ s.size) ∧ x < cs.size ∧ (∀ z, z ∈ xs → ∃ b : Nat, z = b ∧ b < cs.size) ∧
    wr.ownsRow (w.heap.size + 1) 3 1 (.slice (some ⟨g, 0, none⟩) xs.length cap) xs.length (ints xs) ∧ Below (w.heap.size + 1) w0 wr ∧ w.heap.size + 2 ≤ wr.heap.size)
  case atStart =>
    refine ⟨x0, 0, [(x0 : Int)], w.heap.size + 1, 1, rfl, rfl, rfl, rfl, ⟨by omega, Nat.zero_le _⟩, hx, fun z hz => ?_, OWN0.out, Below.refl _ _, by have := Z0.out; omega⟩
    simp at hz; exact ⟨x0, hz, hx⟩
  case round =>
    obtain ⟨wo, rfl⟩ : ∃ q, q = wr := ⟨_, rfl⟩
    obtain ⟨x, i, xs, g, cap, rfl, rfl, rfl, hlen, hgk, hxN, hxs, hown, hbr, hsz⟩ := hrel
    have OWN := Hid.mk hown
    have XS := Hid.mk hxs
    have HB := Hid.mk hbr
    have GK := Hid.mk hgk
    have LEN := Hid.mk hlen
    have hz0 : w.heap.size < wo.heap.size := by omega
    have y1 : ∀ o, wo.cell? ⟨w.heap.size, o, none⟩ = #[Value.int .i64 ro, .int .i64 co, .string cs, .slice ac mc cc, .int .i64 bu][o]? := fun o => (hbr.cell (p := ⟨w.heap.size, o, none⟩) (by show w.heap.size < w.heap.size + 1; omega)).trans (Y0.out o)
    have Y1 := Hid.mk y1
    clear hown hxs hbr hgk hlen
    by_cases hlt : i < s.size
    · have hltI : (i : Int) < (s.size : Int) := by omega
      have y11 := y1 1
      simp only [List.getElem?_toArray, List.getElem?_cons_zero, List.getElem?_cons_succ] at y11
      have hco : (co == 0) = false := by simp; omega
      clear y1
      go_upto_block 2 with fail
      go_cut [9] (fun v9 wc => ∃ z : Int, v9 = .int .i64 z ∧ Below wo.heap.size wo wc)
      case first =>
        go_wp2_with fail
        all_goals (try (go_quiet (fail); go_wp2_with fail))
        all_goals go_meet
        all_goals (case rel => first | exact ⟨_, rfl, Below.refl _ _⟩ | exact ⟨_, rfl, below_drewN (Below.refl _ _) _⟩)
      case rest =>
        obtain ⟨z, rfl, hbc⟩ := hcut
        have BC := Hid.mk hbc
        have hzc : w.heap.size < wc.heap.size := Nat.lt_of_lt_of_le hz0 hbc.size
        have yc : ∀ o, wc.cell? ⟨w.heap.size, o, none⟩ = #[Value.int .i64 ro, .int .i64 co, .string cs, .slice ac mc cc, .int .i64 bu][o]? := fun o => (hbc.cell (p := ⟨w.heap.size, o, none⟩) hz0).trans (Y1.out o)
        have yc0 := yc 0
        have yc1 := yc 1
        have yc2 := yc 2
        have yc3 := yc 3
        have yc4 := yc 4
        simp only [List.getElem?_toArray, List.getElem?_cons_zero, List.getElem?_cons_succ] at yc0 yc1 yc2 yc3 yc4
        clear hbc yc y11 hco
        go_wp2_with fail
        refine (kmay_int ro co bu x z cs _ _ hs h1 h2 hxN).mono ?_
        rintro e w4 ⟨he, hb4⟩
        obtain ⟨kb, hkb⟩ : ∃ kb, kb = kmay co cs x z := ⟨_, rfl⟩
        rw [← hkb] at he
        subst he
        have KB := Hid.mk hkb
        have B4 : Hid (Below wo.heap.size wo w4) := BC.out.trans (hb4.mono BC.out.size)
        clear hkb hb4 yc0 yc1 yc2 yc3 yc4
        have OWN4 := Hid.mk (own_below OWN.out B4.out)
        have hz4 := B4.out.size
        have HBN : Hid ((xs.length + 1) * 8 ≤ 140737488355328) := by have := LEN.out; have := GK.out; unfold Hid; omega
        have HLN : Hid (xs.length + 1 ≤ maxLen) := by have := HBN.out; unfold Hid maxLen; omega
        cases kb
        · skip
          go_wp2_with (at_builtin; go_must (refine wpList_push2 rfl _ _ 22 rfl (w.heap.size + 1) 3 _ _ Tryd.underlying22 Tryd.infoInt rfl g xs.length cap (ints xs) rfl (by exact own_below OWN4.out ((Below.refl _ _).alloc (Nat.le_refl _) _)) _ _ (.int .i64 (x : Int)) rfl (by go_simp) rfl HLN.out HBN.out (by simp; omega) ?_; intro g2 cap2 w5 hown5 hg5 hloc5))
          have OWN5 := Hid.mk (own_snoc hown5)
          have HB5 : Hid (Below (w.heap.size + 1) w0 w5) := (((HB.out.trans (B4.out.mono (by omega))).alloc (by omega) _).grown hg5 (by simp; omega) (fun k hk => by cases hk; exact (own_lt OWN.out).1))
          have HZ5 : Hid (w.heap.size + 2 ≤ w5.heap.size) := by have := hg5.size; simp at this; unfold Hid; omega
          clear hown5 hg5 hloc5
          go_wp2
          go_roundg (gk - 1)
          case rel =>
            have h1 := GK.out
            have h2 := LEN.out
            refine ⟨x, i + 1, xs ++ [(x : Int)], g2, cap2, rfl, by go_num, by rw [List.length_append]; rfl, by rw [List.length_append]; simp; omega, ⟨by omega, by omega⟩, hxN, fun q hq => ?_, OWN5.out, HB5.out, HZ5.out⟩
            rcases List.mem_append.1 hq with hq | hq
            · exact XS.out q hq
            · simp at hq; exact ⟨x, hq, hxN⟩
          case measure => have h1 := GK.out; omega
        · obtain ⟨b', hb', hbN⟩ := kmay_cell KB.out.symm
          subst hb'
          go_wp2_with (at_builtin; go_must (refine wpList_push2 rfl _ _ 22 rfl (w.heap.size + 1) 3 _ _ Tryd.underlying22 Tryd.infoInt rfl g xs.length cap (ints xs) rfl (by exact own_below OWN4.out ((Below.refl _ _).alloc (Nat.le_refl _) _)) _ _ (.int .i64 (b' : Int)) rfl (by go_simp) rfl HLN.out HBN.out (by simp; omega) ?_; intro g2 cap2 w5 hown5 hg5 hloc5))
          have OWN5 := Hid.mk (own_snoc hown5)
          have HB5 : Hid (Below (w.heap.size + 1) w0 w5) := (((HB.out.trans (B4.out.mono (by omega))).alloc (by omega) _).grown hg5 (by simp; omega) (fun k hk => by cases hk; exact (own_lt OWN.out).1))
          have HZ5 : Hid (w.heap.size + 2 ≤ w5.heap.size) := by have := hg5.size; simp at this; unfold Hid; omega
          clear hown5 hg5 hloc5
          go_wp2
          go_roundg (gk - 1)
          case rel =>
            have h1 := GK.out
            have h2 := LEN.out
            refine ⟨b', i + 1, xs ++ [(b' : Int)], g2, cap2, rfl, by go_num, by rw [List.length_append]; rfl, by rw [List.length_append]; simp; omega, ⟨by omega, by omega⟩, hbN, fun q hq => ?_, OWN5.out, HB5.out, HZ5.out⟩
            rcases List.mem_append.1 hq with hq | hq
            · exact XS.out q hq
            · simp at hq; exact ⟨b', hq, hbN⟩
          case measure => have h1 := GK.out; omega
    · clear y1
      have hltI : ¬ (i : Int) < (s.size : Int) := by omega
      have hi : s.size ≤ i := by omega
      have L1 : xs.length = s.size + 1 := by have := GK.out; have := LEN.out; omega
      have hcap : Hid (s.size + 1 ≤ cap) := by have := own_room OWN.out; unfold Hid; omega
      have HW : Hid (Below w.heap.size w wo) := HB0.out.trans (HB.out.mono (by omega))
      have CELLS : Hid (∀ j, j ≤ s.size → wo.cell? ⟨g, j, none⟩ = some (natV (fun j => (xs.getD j 0).toNat) j)) := fun j hj => by
        rw [own_cell OWN.out (show j < xs.length by omega), ints_at' (by omega)]
        obtain ⟨q, hq, _⟩ := XS.out _ (at_mem (show j < xs.length by omega))
        show some (Value.int .i64 (xs.getD j 0)) = some (.int .i64 (((xs.getD j 0).toNat : Nat) : Int))
        rw [hq]; rfl
      have INS : Hid (∀ j, j ≤ s.size → (xs.getD j 0).toNat < cs.size) := fun j hj => by
        obtain ⟨q, hq, hq2⟩ := XS.out _ (at_mem (show j < xs.length by omega))
        rw [hq]; simpa using hq2
      have L2 := Hid.mk L1
      clear L1
      go_wp2
      go_ret
      exact ⟨_, rfl, g, cap, fun j => (xs.getD j 0).toNat, by rw [← L2.out]; rfl, hcap.out, CELLS.out, INS.out, HW.out⟩

end Go.Proofs.YtnkgpinadgacgabDoor
