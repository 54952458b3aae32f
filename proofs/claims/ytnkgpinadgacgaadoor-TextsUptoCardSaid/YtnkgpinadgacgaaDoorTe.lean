/- The reader's first line; a box of cells in memory. -/
import Derived.Test.YtnkgpinadgacgaaDoorTd
import Derived.Deep.LoopGhost
namespace Go.Proofs.YtnkgpinadgacgaaDoor
open Go.RowKit Go.Deep M

/-- A box in memory: its cells. -/
structure Box (w : World) (b : Nat) (v : Array Value) : Prop where
  c : ∀ o, w.cell? ⟨b, o, none⟩ = v[o]?
  fz : ∀ o, w.frozen? ⟨b, o, none⟩ = false
  lt : b < w.heap.size

theorem Box.only {w w' : World} {b : Nat} {v : Array Value} {S : Nat → Prop} (h : Box w b v) (ho : Only S w w') (hn : ¬ S b) : Box w' b v :=
  ⟨fun o => (ho.cell (p := ⟨b, o, none⟩) h.lt hn).trans (h.c o), fun o => (ho.frozen (p := ⟨b, o, none⟩) h.lt hn).trans (h.fz o), Nat.lt_of_lt_of_le h.lt ho.size⟩

theorem Box.belowB {w w' : World} {b B : Nat} {v : Array Value} (h : Box w b v) (hb : Below B w w') (hB : b < B) : Box w' b v :=
  ⟨fun o => (hb.cell (p := ⟨b, o, none⟩) hB).trans (h.c o), fun o => (hb.frozen (p := ⟨b, o, none⟩) hB).trans (h.fz o), Nat.lt_of_lt_of_le h.lt hb.size⟩

theorem Rd.belowB {w w' : World} {b B : Nat} {s : ByteArray} {k : Nat} (h : Rd w b s k) (hb : Below B w w') (hB : b < B) : Rd w' b s k :=
  ⟨(hb.cell (p := ⟨b, 0, none⟩) hB).trans h.c0, (hb.cell (p := ⟨b, 1, none⟩) hB).trans h.c1, fun o => (hb.frozen (p := ⟨b, o, none⟩) hB).trans (h.fz o), Nat.lt_of_lt_of_le h.lt hb.size, h.le⟩

theorem boxT_set {w : World} {b i : Nat} {cells cells' : Array Value} {v : Value} (h : ∀ o, w.cell? ⟨b, o, none⟩ = cells[o]?) (hi : i < cells.size) (he : cells' = cells.setIfInBounds i v) : ∀ o, (w.setCell ⟨b, i, none⟩ v).cell? ⟨b, o, none⟩ = cells'[o]? := by
  subst he
  intro o
  by_cases e : o = i
  · subst e
    rw [World.cell?_setCell_same' _ _ _ (by rw [h]; simp [hi])]
    simp [hi]
  · rw [World.cell?_setCell_other _ _ _ _ (by intro hh; cases hh; exact e rfl), h o, Array.getElem?_setIfInBounds, if_neg (fun hh => e hh.symm)]

theorem Box.set {w : World} {b i : Nat} {v v' : Array Value} {x : Value} (h : Box w b v) (hi : i < v.size) (he : v' = v.setIfInBounds i x) : Box (w.setCell ⟨b, i, none⟩ x) b v' :=
  ⟨boxT_set h.c hi he, fun o => by rw [World.frozen?_setCell]; exact h.fz o, by simpa [World.setCell] using h.lt⟩

theorem Box.drewN {w : World} {b : Nat} {v : Array Value} (h : Box w b v) (n : Nat) : Box (w.drewN n) b v := ⟨h.c, h.fz, h.lt⟩

theorem Rd.setOther {w : World} {b y i : Nat} {s : ByteArray} {k : Nat} {x : Value} (h : Rd w b s k) (hne : y ≠ b) : Rd (w.setCell ⟨y, i, none⟩ x) b s k :=
  h.only (S := fun z => z = y) (Only.setCell (S := fun z => z = y) (Only.refl _ w) (p := ⟨y, i, none⟩) (fun _ => rfl) x) (fun e => hne e.symm)

def headA : ByteArray := ⟨#[121, 97, 114, 100, 32]⟩

theorem head_drop {j : Nat} (hj : j < 5) : TX.headB.drop j = (headA[j]'hj) :: TX.headB.drop (j + 1) := by
  match j, hj with
  | 0, _ => rfl
  | 1, _ => rfl
  | 2, _ => rfl
  | 3, _ => rfl
  | 4, _ => rfl

set_option maxHeartbeats 400000 in
/-- The first line: the budget. -/
theorem budget_any (b yb k : Nat) (s : ByteArray) (x0 x1 x2 x3 x4 : Value) (w : World) (hs : s.size ≤ 2000000) (hne : yb ≠ b) (h : Rd w b s k) (hy : Box w yb #[x0, x1, x2, x3, x4]) :
    Calls Tryd.prog 143 #[.pointer (some ⟨b, 0, none⟩), .pointer (some ⟨yb, 0, none⟩)] w fun e w' =>
      ∃ (k' u : Nat) (ok : Bool), e = .returned (.bool ok) ∧ TX.budgetP (restS s k) = (restS s k', if ok then some u else none) ∧ Rd w' b s k' ∧ (ok = true → Box w' yb #[x0, x1, x2, x3, .int .i64 (u : Int)]) ∧ Only (fun x => x = b ∨ x = yb) w w' := by
  have HR := Hid.mk h
  have HY := Hid.mk hy
  have hne2 : b ≠ yb := fun e => hne e.symm
  clear h hy
  go_enter Tryd.func143, Tryd.ntmps143
  go_wp2
  go_loopw [8] (fun sj wr => ∃ j kk : Nat, sj = .int .i64 (j : Int) ∧ j ≤ 5 ∧ Rd wr b s kk ∧ Only (fun x => x = b) w wr ∧ TX.takes (TX.headB.drop j) (restS s kk) = TX.takes TX.headB (restS s k)) (fun sj _ => 5 - (intOf sj).toNat)
  case atStart => exact ⟨0, k, rfl, by omega, HR.out, Only.refl _ _, rfl⟩
  case round =>
    obtain ⟨j, kk, rfl, hj, hr, ho, hm⟩ := hrel
    obtain ⟨wo, rfl⟩ : ∃ x, x = wr := ⟨_, rfl⟩
    have HRO := Hid.mk hr
    have HO := Hid.mk ho
    have HM := Hid.mk hm
    clear hr ho hm
    by_cases hj5 : j < 5
    · have e1 : decide (((j : Nat) : Int) < 5) = true := by simp; omega
      have TK : Hid (∀ c : UInt8, c = (headA[j]'hj5) → Calls Tryd.prog 182 #[.pointer (some ⟨b, 0, none⟩), .int .u8 (c.toNat : Int)] wo fun e w' =>
          ∃ k' : Nat, ∃ ok : Bool, e = .returned (.bool ok) ∧ TX.takes TX.headB (restS s k) = (if ok then TX.takes (TX.headB.drop (j + 1)) (restS s k') else (restS s k', false)) ∧ Rd w' b s k' ∧ Only (fun x => x = b) w w') := fun c hc => by
        refine (take_any b kk s c wo hs HRO.out).mono ?_
        rintro e w' ⟨k', rfl, hr', ht, ho'⟩
        refine ⟨k', _, rfl, ?_, hr', HO.out.trans ho' (fun _ _ h => h)⟩
        rw [← HM.out, head_drop hj5, ← hc]
        show (if (TX.take c (restS s kk)).2 then TX.takes _ (TX.take c (restS s kk)).1 else ((TX.take c (restS s kk)).1, false)) = _
        rw [ht]
      go_wp2_with fail
      refine (TK.out _ rfl).mono ?_
      rintro e w3 ⟨k3, ok3, rfl, ht, hr3, ho3⟩
      have R3 := Hid.mk hr3
      have O3 := Hid.mk ho3
      have T3 := Hid.mk ht
      clear hr3 ho3 ht TK
      cases ok3
      · go_wp2
        go_ret
        refine ⟨k3, 0, false, rfl, ?_, R3.out, (fun h => by cases h), O3.out.mono (fun _ _ h => .inl h)⟩
        unfold TX.budgetP
        rw [show TX.takes TX.headB (restS s k) = (restS s k3, false) from T3.out]
        rfl
      · go_wp2
        go_round
        case rel => exact ⟨j + 1, k3, by go_num, by omega, R3.out, O3.out, (show TX.takes TX.headB (restS s k) = TX.takes (TX.headB.drop (j + 1)) (restS s k3) from T3.out).symm⟩
        case measure => simp [intOf]; omega
    · have e1 : decide (((j : Nat) : Int) < 5) = false := by simp; omega
      have hT : TX.takes TX.headB (restS s k) = (restS s kk, true) := by
        rw [← HM.out, show TX.headB.drop j = [] by have : j = 5 := by omega
                                                   subst this; rfl]
        rfl
      have T3 := Hid.mk hT
      clear hT
      have YO : Hid (Box wo yb #[x0, x1, x2, x3, x4]) := HY.out.only HO.out hne
      go_wp2_with fail
      refine (rnumber_any b kk s wo hs HRO.out).mono ?_
      rintro e w3 ⟨k3, u, ok3, rfl, hn, hu, hr3, ho3⟩
      have R3 := Hid.mk hr3
      have O3 := Hid.mk ho3
      have N3 := Hid.mk hn
      have Y3 : Hid (Box w3 yb #[x0, x1, x2, x3, x4]) := YO.out.only ho3 hne
      have c4 : w3.cell? ⟨yb, 4, none⟩ = some x4 := Y3.out.c 4
      have f4 : w3.frozen? ⟨yb, 4, none⟩ = false := Y3.out.fz 4
      clear hr3 ho3 hn
      have O4 : Hid (Only (fun x => x = b ∨ x = yb) w (w3.setCell ⟨yb, 4, none⟩ (.int .i64 (u : Int)))) := Only.setCell (S := fun x => x = b ∨ x = yb) ((HO.out.trans O3.out (fun _ _ h => h)).mono (fun _ _ h => .inl h)) (p := ⟨yb, 4, none⟩) (fun _ => .inr rfl) _
      have R4 : Hid (Rd (w3.setCell ⟨yb, 4, none⟩ (.int .i64 (u : Int))) b s k3) := R3.out.setOther hne
      have Y4 : Hid (Box (w3.setCell ⟨yb, 4, none⟩ (.int .i64 (u : Int))) yb #[x0, x1, x2, x3, .int .i64 (u : Int)]) := Y3.out.set (i := 4) (by simp) rfl
      cases ok3
      · go_wp2
        go_ret
        refine ⟨k3, 0, false, rfl, ?_, R4.out, (fun h => by cases h), O4.out⟩
        unfold TX.budgetP
        rw [T3.out, TX.okP_mk, show TX.number (restS s kk) = (restS s k3, none) from N3.out]
        rfl
      · go_wp2_with fail
        refine (take_any b k3 s 10 _ hs R4.out).mono ?_
        rintro e w5 ⟨k5, rfl, hr5, ht5, ho5⟩
        have R5 := Hid.mk hr5
        have T5 := Hid.mk ht5
        have Y5 : Hid (Box w5 yb #[x0, x1, x2, x3, .int .i64 (u : Int)]) := Y4.out.only ho5 hne
        have O5 : Hid (Only (fun x => x = b ∨ x = yb) w w5) := O4.out.trans ho5 (fun _ _ h => .inl h)
        obtain ⟨tb, htb⟩ : ∃ x, x = (TX.take 10 (restS s k3)).2 := ⟨_, rfl⟩
        have TB := Hid.mk htb
        rw [← htb]
        clear hr5 ht5 ho5 htb
        have hbud : TX.budgetP (restS s k) = (restS s k5, if tb then some u else none) := by
          unfold TX.budgetP
          rw [T3.out, TX.okP_mk, show TX.number (restS s kk) = (restS s k3, some u) from N3.out, TX.andP_mk]
          unfold TX.okP
          rw [T5.out, ← TB.out]
          cases tb <;> rfl
        have BU := Hid.mk hbud
        clear hbud
        go_wp2
        go_ret
        exact ⟨k5, u, tb, rfl, BU.out, R5.out, (fun _ => Y5.out), O5.out⟩

end Go.Proofs.YtnkgpinadgacgaaDoor
