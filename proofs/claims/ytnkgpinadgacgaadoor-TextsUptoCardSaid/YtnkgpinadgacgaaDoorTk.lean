/- yard.Read: the yard that a text tells, held against Check. -/
import Derived.Test.YtnkgpinadgacgaaDoorTj
namespace Go.Proofs.YtnkgpinadgacgaaDoor
open Go.RowKit Go.Shelf Go.Deep M

/-- What Check says of what a text tells. -/
def chkT (t : TX.Told) : Int × Int := checkM (t.R : Int) (t.C : Int) ⟨t.cs.toArray⟩ t.carts.length (frL t.carts) (ttL t.carts) (t.U : Int)

theorem readT_bound {l r : List UInt8} {t : TX.Told} (h : TX.readT l = (r, some t)) : t.cs.length ≤ l.length ∧ t.R * t.C ≤ l.length := by
  have hw := TX.write_read h
  have hb : t.R * t.C ≤ l.length := by
    unfold TX.readT at h
    obtain ⟨u, l1, h1, h⟩ := TX.andP_some h
    obtain ⟨q, l2, h2, h⟩ := TX.andP_some h
    obtain ⟨cs, l3, h3, h⟩ := TX.andP_some h
    obtain ⟨qc, qn, qC⟩ := q
    cases h
    show qn * qC ≤ l.length
    unfold TX.budgetP at h1
    obtain ⟨k1, b1, h1⟩ := TX.okP_some h1
    obtain ⟨n, k2, b2, h1⟩ := TX.andP_some h1
    obtain ⟨k3, b3, h1⟩ := TX.okP_some h1
    cases h1
    have e1 : qn * qC ≤ _ := (rows_bound h2).2.2
    rw [TX.takes_form b1, (TX.number_form b2).1, TX.take_form b3]
    simp only [List.length_append, List.length_cons]
    omega
  exact ⟨by rw [hw.2.2.2.1]; exact hb, hb⟩

set_option maxRecDepth 100000 in
set_option maxHeartbeats 1000000 in
theorem yreadO_any (s : ByteArray) (w : World) (hs : s.size ≤ 2000000) :
    Calls Tryd.prog 43 #[.string s] w fun e w' => Below w.heap.size w w' ∧
      ((∃ (t : TX.Told) (g cap : Nat), TX.readT s.data.toList = ([], some t) ∧ (chkT t).1 = 0 ∧ e = .returned (.tuple #[yardV t g cap, .int .i64 0, .int .i64 0]) ∧ CartsO w' g cap t.carts.length (frL t.carts) (ttL t.carts) ∧ w.heap.size ≤ g ∧ t.carts.length ≤ cap ∧ t.carts.length ≤ s.size) ∨
       (∃ t : TX.Told, TX.readT s.data.toList = ([], some t) ∧ (chkT t).1 ≠ 0 ∧ e = .returned (.tuple #[yard0, .int .i64 (chkT t).1, .int .i64 (chkT t).2])) ∨
       (∃ k, TX.readT s.data.toList = (restS s k, none) ∧ k ≤ s.size ∧ e = .returned (.tuple #[yard0, .int .i64 11, .int .i64 (k : Int)]))) := by
  have hsl : s.data.toList.length = s.size := by rw [Array.length_toList]; rfl
  go_enter Tryd.func43, Tryd.ntmps43
  have Z1 : Hid (Box (w.alloc (.cells #[.int .i64 0, .int .i64 0, .string ⟨#[]⟩, .slice none 0 0, .int .i64 0] 24)) w.heap.size #[.int .i64 0, .int .i64 0, .string ⟨#[]⟩, .slice none 0 0, .int .i64 0]) := box_new _ _
  have O1 : Hid (Only (fun x => w.heap.size ≤ x) w (w.alloc (.cells #[.int .i64 0, .int .i64 0, .string ⟨#[]⟩, .slice none 0 0, .int .i64 0] 24))) := (Only.refl _ w).alloc _
  have hz1 : (w.alloc (.cells #[.int .i64 0, .int .i64 0, .string ⟨#[]⟩, .slice none 0 0, .int .i64 0] 24)).heap.size = w.heap.size + 1 := by simp
  have HB : Hid (∀ (o : Nat) (v : Value) (u : World), Only (fun x => w.heap.size ≤ x) w u → Only (fun x => w.heap.size ≤ x) w (u.setCell ⟨w.heap.size, o, none⟩ v)) := fun o v u h => Only.setCell (S := fun x => w.heap.size ≤ x) h (p := ⟨w.heap.size, o, none⟩) (fun _ => Nat.le_refl _) v
  go_wp2_with fail
  refine (tread_any s _ hs).mono ?_
  rintro e w1 ⟨hb1, hway⟩
  generalize (w.alloc (.cells #[.int .i64 0, .int .i64 0, .string ⟨#[]⟩, .slice none 0 0, .int .i64 0] 24)) = w0 at *
  have Z2 : Hid (Box w1 w.heap.size #[.int .i64 0, .int .i64 0, .string ⟨#[]⟩, .slice none 0 0, .int .i64 0]) := Z1.out.belowB hb1 (by omega)
  have O2 : Hid (Only (fun x => w.heap.size ≤ x) w w1) := O1.out.trans (Only.of_below (S := fun _ => False) hb1) (fun _ _ h => h.elim)
  have hz2 : w0.heap.size ≤ w1.heap.size := hb1.size
  clear hb1
  rcases hway with ⟨t, g, cap, hf, rfl, hci, hg, hcap, hal⟩ | ⟨k, hf, hk, rfl⟩
  · obtain ⟨hcl, hRC⟩ := readT_bound hf
    have HF := Hid.mk hf
    have CI := Hid.mk hci
    have hwr := TX.write_read hf
    have hcsz : (⟨t.cs.toArray⟩ : ByteArray).size ≤ maxLen := by
      show t.cs.toArray.size ≤ maxLen
      rw [List.size_toArray]
      unfold maxLen
      omega
    have hn : t.carts.length ≤ maxLen := by unfold maxLen; omega
    have CA : Hid (∀ o, CartsO (w1.alloc o) g cap t.carts.length (frL t.carts) (ttL t.carts)) := fun o => CI.out.below ((Below.refl _ w1).alloc (Nat.le_refl _) o)
    have ZA : Hid (∀ o, Box (w1.alloc o) w.heap.size #[.int .i64 0, .int .i64 0, .string ⟨#[]⟩, .slice none 0 0, .int .i64 0]) := fun o => box_alloc Z2.out o
    have OA : Hid (∀ o, Only (fun x => w.heap.size ≤ x) w (w1.alloc o)) := fun o => O2.out.alloc o
    have YA : Hid (Box (w1.alloc (.cells #[.int .i64 (t.R : Int), .int .i64 (t.C : Int), .string ⟨t.cs.toArray⟩, .slice (some ⟨g, 0, none⟩) t.carts.length cap, .int .i64 (t.U : Int)] 24)) w1.heap.size #[.int .i64 (t.R : Int), .int .i64 (t.C : Int), .string ⟨t.cs.toArray⟩, .slice (some ⟨g, 0, none⟩) t.carts.length cap, .int .i64 (t.U : Int)]) := box_new _ _
    clear hf hci hwr
    unfold yardV
    obtain ⟨F, hF⟩ : ∃ F : ByteArray, F = ⟨t.cs.toArray⟩ := ⟨_, rfl⟩
    rw [← hF] at hcsz YA
    have HFF := Hid.mk hF
    rw [← hF]
    clear hF
    go_wp2_with fail
    refine (gcheck_any _ _ _ F (some ⟨g, 0, none⟩) t.carts.length cap (frL t.carts) (ttL t.carts) _ hcsz hn hcap (fun _ => ⟨g, 0, rfl, (CA.out _).c⟩)).mono ?_
    rintro e w3 ⟨rfl, hb3⟩
    have hch : checkM (t.R : Int) (t.C : Int) F t.carts.length (frL t.carts) (ttL t.carts) (t.U : Int) = chkT t := by unfold chkT; rw [HFF.out]
    rw [hch]
    have Z3 : Hid (Box w3 w.heap.size #[.int .i64 0, .int .i64 0, .string ⟨#[]⟩, .slice none 0 0, .int .i64 0]) := (ZA.out _).belowB hb3 (by have := Z2.out.lt; simp; omega)
    have O3 : Hid (Only (fun x => w.heap.size ≤ x) w w3) := (OA.out _).trans (Only.of_below (S := fun _ => False) hb3) (fun _ _ h => h.elim)
    have Y3 : Hid (Box w3 w1.heap.size #[.int .i64 (t.R : Int), .int .i64 (t.C : Int), .string F, .slice (some ⟨g, 0, none⟩) t.carts.length cap, .int .i64 (t.U : Int)]) := YA.out.belowB hb3 (by simp)
    have C3 : Hid (CartsO w3 g cap t.carts.length (frL t.carts) (ttL t.carts)) := (CA.out _).below hb3
    have fz := Z3.out.fz
    have z0 := Z3.out.c 0
    have z1 := Z3.out.c 1
    have z2 := Z3.out.c 2
    have z3 := Z3.out.c 3
    have z4 := Z3.out.c 4
    have y0 := Y3.out.c 0
    have y1 := Y3.out.c 1
    have y2 := Y3.out.c 2
    have y3 := Y3.out.c 3
    have y4 := Y3.out.c 4
    simp only [List.getElem?_toArray, List.getElem?_cons_zero, List.getElem?_cons_succ] at z0 z1 z2 z3 z4 y0 y1 y2 y3 y4
    have hgw : w.heap.size < g := by omega
    clear hb3 hch
    obtain ⟨c1, hc1⟩ : ∃ c, c = (chkT t).1 := ⟨_, rfl⟩
    obtain ⟨c2, hc2⟩ : ∃ c, c = (chkT t).2 := ⟨_, rfl⟩
    rw [← hc1, ← hc2]
    have HC1 := Hid.mk hc1
    have HC2 := Hid.mk hc2
    clear hc1 hc2
    by_cases hz : c1 = 0
    · have e0 : (c1 != 0) = false := by simp [hz]
      have HZ := Hid.mk hz
      clear hz
      have hcar : Hid (∀ (o : Nat) (v : Value) (u : World), CartsO u g cap t.carts.length (frL t.carts) (ttL t.carts) → CartsO (u.setCell ⟨w.heap.size, o, none⟩ v) g cap t.carts.length (frL t.carts) (ttL t.carts)) := fun o v u h => cartsO_set h (by omega)
      go_wp2
      refine bodyPost_ret (results_cell_tmp3 Tryd.results43 _ _ _ (b := w.heap.size) (o := 0) rfl (load_yard ((((((Z3.out).set (i := 0) (x := .int .i64 (t.R : Int)) (by simp) (v' := #[.int .i64 (t.R : Int), .int .i64 0, .string ⟨#[]⟩, .slice none 0 0, .int .i64 0]) rfl).set (i := 1) (x := .int .i64 (t.C : Int)) (by simp) (v' := #[.int .i64 (t.R : Int), .int .i64 (t.C : Int), .string ⟨#[]⟩, .slice none 0 0, .int .i64 0]) rfl).set (i := 2) (x := .string F) (by simp) (v' := #[.int .i64 (t.R : Int), .int .i64 (t.C : Int), .string F, .slice none 0 0, .int .i64 0]) rfl).set (i := 3) (x := .slice (some ⟨g, 0, none⟩) t.carts.length cap) (by simp) (v' := #[.int .i64 (t.R : Int), .int .i64 (t.C : Int), .string F, .slice (some ⟨g, 0, none⟩) t.carts.length cap, .int .i64 0]) rfl).set (i := 4) (x := .int .i64 (t.U : Int)) (by simp) (v' := #[.int .i64 (t.R : Int), .int .i64 (t.C : Int), .string F, .slice (some ⟨g, 0, none⟩) t.carts.length cap, .int .i64 (t.U : Int)]) rfl))) rfl ⟨?_, .inl ⟨t, g, cap, HF.out, by rw [← HC1.out]; exact HZ.out, by unfold yardV; rw [← HFF.out]; rfl, hcar.out _ _ _ (hcar.out _ _ _ (hcar.out _ _ _ (hcar.out _ _ _ (hcar.out _ _ _ C3.out)))), by omega, hcap, hal⟩⟩
      exact (HB.out _ _ _ (HB.out _ _ _ (HB.out _ _ _ (HB.out _ _ _ (HB.out _ _ _ O3.out))))).below (Nat.le_refl _) (fun _ h => h)
    · have e0 : (c1 != 0) = true := by simp [hz]
      have HZ := Hid.mk hz
      clear hz
      go_wp2
      refine bodyPost_ret (results_cell_tmp3 Tryd.results43 _ _ _ (b := w.heap.size) (o := 0) rfl (load_yard ((((((Z3.out).set (i := 0) (x := .int .i64 0) (by simp) (v' := #[.int .i64 0, .int .i64 0, .string ⟨#[]⟩, .slice none 0 0, .int .i64 0]) rfl).set (i := 1) (x := .int .i64 0) (by simp) (v' := #[.int .i64 0, .int .i64 0, .string ⟨#[]⟩, .slice none 0 0, .int .i64 0]) rfl).set (i := 2) (x := .string ⟨#[]⟩) (by simp) (v' := #[.int .i64 0, .int .i64 0, .string ⟨#[]⟩, .slice none 0 0, .int .i64 0]) rfl).set (i := 3) (x := .slice none 0 0) (by simp) (v' := #[.int .i64 0, .int .i64 0, .string ⟨#[]⟩, .slice none 0 0, .int .i64 0]) rfl).set (i := 4) (x := .int .i64 0) (by simp) (v' := #[.int .i64 0, .int .i64 0, .string ⟨#[]⟩, .slice none 0 0, .int .i64 0]) rfl))) rfl ⟨?_, .inr (.inl ⟨t, HF.out, by rw [← HC1.out]; exact HZ.out, by rw [← HC1.out, ← HC2.out]; rfl⟩)⟩
      exact (HB.out _ _ _ (HB.out _ _ _ (HB.out _ _ _ (HB.out _ _ _ (HB.out _ _ _ O3.out))))).below (Nat.le_refl _) (fun _ h => h)
  · have HF := Hid.mk hf
    have fz := Z2.out.fz
    have z0 := Z2.out.c 0
    have z1 := Z2.out.c 1
    have z2 := Z2.out.c 2
    have z3 := Z2.out.c 3
    have z4 := Z2.out.c 4
    simp only [List.getElem?_toArray, List.getElem?_cons_zero, List.getElem?_cons_succ] at z0 z1 z2 z3 z4
    have hlt : w.heap.size < w1.heap.size := Z2.out.lt
    have ZA : Hid (∀ o, Box (w1.alloc o) w.heap.size #[.int .i64 0, .int .i64 0, .string ⟨#[]⟩, .slice none 0 0, .int .i64 0]) := fun o => box_alloc Z2.out o
    have OA : Hid (∀ o, Only (fun x => w.heap.size ≤ x) w (w1.alloc o)) := fun o => O2.out.alloc o
    clear hf
    unfold yard0
    go_wp2
    refine bodyPost_ret (results_cell_tmp3 Tryd.results43 _ _ _ (b := w.heap.size) (o := 0) rfl (load_yard (box_alloc ((((((Z2.out).set (i := 0) (x := .int .i64 0) (by simp) (v' := #[.int .i64 0, .int .i64 0, .string ⟨#[]⟩, .slice none 0 0, .int .i64 0]) rfl).set (i := 1) (x := .int .i64 0) (by simp) (v' := #[.int .i64 0, .int .i64 0, .string ⟨#[]⟩, .slice none 0 0, .int .i64 0]) rfl).set (i := 2) (x := .string ⟨#[]⟩) (by simp) (v' := #[.int .i64 0, .int .i64 0, .string ⟨#[]⟩, .slice none 0 0, .int .i64 0]) rfl).set (i := 3) (x := .slice none 0 0) (by simp) (v' := #[.int .i64 0, .int .i64 0, .string ⟨#[]⟩, .slice none 0 0, .int .i64 0]) rfl).set (i := 4) (x := .int .i64 0) (by simp) (v' := #[.int .i64 0, .int .i64 0, .string ⟨#[]⟩, .slice none 0 0, .int .i64 0]) rfl) _))) rfl ⟨?_, .inr (.inr ⟨k, HF.out, hk, rfl⟩)⟩
    exact ((HB.out _ _ _ (HB.out _ _ _ (HB.out _ _ _ (HB.out _ _ _ (HB.out _ _ _ O2.out))))).alloc _).below (Nat.le_refl _) (fun _ h => h)

theorem yread_any (s : ByteArray) (w : World) (hs : s.size ≤ 2000000) :
    Calls Tryd.prog 43 #[.string s] w fun e w' => Below w.heap.size w w' ∧
      ((∃ (t : TX.Told) (g cap : Nat), TX.readT s.data.toList = ([], some t) ∧ (chkT t).1 = 0 ∧ e = .returned (.tuple #[yardV t g cap, .int .i64 0, .int .i64 0]) ∧ CartsIn w' g 0 t.carts.length (frL t.carts) (ttL t.carts) ∧ w.heap.size ≤ g ∧ t.carts.length ≤ cap ∧ t.carts.length ≤ s.size) ∨
       (∃ t : TX.Told, TX.readT s.data.toList = ([], some t) ∧ (chkT t).1 ≠ 0 ∧ e = .returned (.tuple #[yard0, .int .i64 (chkT t).1, .int .i64 (chkT t).2])) ∨
       (∃ k, TX.readT s.data.toList = (restS s k, none) ∧ k ≤ s.size ∧ e = .returned (.tuple #[yard0, .int .i64 11, .int .i64 (k : Int)]))) :=
  (yreadO_any s w hs).mono fun _ _ ⟨hb, h⟩ => ⟨hb, h.imp (fun ⟨t, g, cap, a, b, c, d, r⟩ => ⟨t, g, cap, a, b, c, d.c, r⟩) id⟩

end Go.Proofs.YtnkgpinadgacgaaDoor
