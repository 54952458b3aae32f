/- The document's numbers as they are written, its Write. -/
import Derived.Test.YtnkgpinadgacgaaDoorUi
import Derived.Laws.IdiomStrings
namespace Go.Proofs.YtnkgpinadgacgaaDoor
open Go.RowKit Go.Shelf Go.Deep M

theorem dec_step {n : Nat} (h : ¬ n < 10) : Lib.decDigits n = Lib.decDigits (n / 10) ++ Lib.decDigits (n % 10) := by
  rw [Lib.decDigits, dif_neg h]
  congr 1
  rw [Lib.decDigits, dif_pos (Nat.mod_lt n (by omega))]

theorem cell_alloc_first (w : World) (x : Value) (t : TypeId) : (w.alloc (.cells #[x] t)).cell? ((⟨w.heap.size, 0, none⟩ : Addr).add 0) = some x := by
  simp [Addr.add]

theorem dec_lenn (n : Nat) : (Lib.decDigits n).length ≤ n + 1 := by
  induction n using Nat.strongRecOn with
  | _ n ih =>
    by_cases h : n < 10
    · rw [Lib.decDigits, dif_pos h]
      simp
    · have h1 := ih (n / 10) (by omega)
      rw [Lib.decDigits, dif_neg h, List.length_append, List.length_singleton]
      omega

theorem dec_size {n : Nat} {S : ByteArray} (h : S = ⟨(Lib.decDigits n).toArray⟩) : S.size ≤ n + 1 := by
  have h1 := dec_lenn n
  rw [h]
  show (Lib.decDigits n).toArray.size ≤ _
  rw [List.size_toArray]
  exact h1

set_option maxRecDepth 100000 in
theorem shown_any : ∀ (n : Nat) (w : World), n ≤ 2000000 →
    Calls Tryd.prog 94 #[.int .i64 (n : Int)] w fun e w' => e = .returned (.string ⟨(Lib.decDigits n).toArray⟩) ∧ Below w.heap.size w w' := by
  intro n
  induction n using Nat.strongRecOn with
  | _ n ih =>
    intro w hn
    by_cases h : n < 10
    · have e1 : decide ((n : Int) < 10) = true := by simp; omega
      clear ih
      go_enter Tryd.func94, Tryd.ntmps94
      have hd1 : Lib.decDigits n = [UInt8.ofNat (48 + n)] := by rw [Lib.decDigits, dif_pos h]
      have hu : ((UInt8.ofNat (48 + n)).toNat : Int) = 48 + (n : Int) := by
        rw [UInt8.toNat_ofNat']
        omega
      have hcv : (convert 201 9 (.slice (some ⟨w.heap.size, 0, none⟩) 1 1)).run Tryd.prog (w.alloc (.cells #[.int .u8 (48 + (n : Int))] 5)) = .ok (.string ⟨(Lib.decDigits n).toArray⟩) (w.alloc (.cells #[.int .u8 (48 + (n : Int))] 5)) := by
        rw [hd1]
        refine run_convert_bytes_back (P := Tryd.prog) _ 201 9 5 ⟨w.heap.size, 0, none⟩ 1 [UInt8.ofNat (48 + n)] Tryd.underlying201 Tryd.underlying5 Tryd.underlying9 ?_
        intro j hj
        have hj0 : j = 0 := by simp at hj; exact hj
        subst hj0
        have e : ([UInt8.ofNat (48 + n)][0]'hj) = UInt8.ofNat (48 + n) := rfl
        rw [e, hu]
        exact cell_alloc_first w _ _
      clear hd1 hu
      go_wp2
      go_ret
      exact ⟨rfl, (Below.refl _ w).alloc (Nat.le_refl _) _⟩
    · have e1 : decide ((n : Int) < 10) = false := by simp; omega
      have I1 : Hid (∀ u, Calls Tryd.prog 94 #[.int .i64 ((n / 10 : Nat) : Int)] u fun e w' => e = .returned (.string ⟨(Lib.decDigits (n / 10)).toArray⟩) ∧ Below u.heap.size u w') := Hid.mk fun u => ih (n / 10) (by omega) u (by omega)
      have I2 : Hid (∀ u, Calls Tryd.prog 94 #[.int .i64 ((n % 10 : Nat) : Int)] u fun e w' => e = .returned (.string ⟨(Lib.decDigits (n % 10)).toArray⟩) ∧ Below u.heap.size u w') := Hid.mk fun u => ih (n % 10) (by omega) u (by omega)
      have hq : (n : Int).tdiv 10 = ((n / 10 : Nat) : Int) := by rw [Int.tdiv_eq_ediv_of_nonneg (by omega)]; omega
      have hr : (n : Int).tmod 10 = ((n % 10 : Nat) : Int) := by rw [Int.tmod_eq_emod_of_nonneg (by omega)]; omega
      clear ih
      go_enter Tryd.func94, Tryd.ntmps94
      go_wp2_with fail
      refine (I1.out _).mono ?_
      rintro e w1 ⟨rfl, hb1⟩
      have B1 := Hid.mk hb1
      clear hb1
      obtain ⟨S1, hS1⟩ : ∃ S : ByteArray, Hid (S = ⟨(Lib.decDigits (n / 10)).toArray⟩) := ⟨_, Hid.mk rfl⟩
      rw [← hS1.out]
      go_wp2_with fail
      refine (I2.out _).mono ?_
      rintro e w2 ⟨rfl, hb2⟩
      have B2 := Hid.mk hb2
      clear hb2
      obtain ⟨S2, hS2⟩ : ∃ S : ByteArray, Hid (S = ⟨(Lib.decDigits (n % 10)).toArray⟩) := ⟨_, Hid.mk rfl⟩
      rw [← hS2.out]
      have s1 := dec_size hS1.out
      have s2 := dec_size hS2.out
      have s3 : S1.size ≤ 2000001 := by omega
      have s4 : S2.size ≤ 2000001 := by omega
      go_wp2
      go_ret
      refine ⟨?_, B1.out.trans (B2.out.mono B1.out.size)⟩
      have e : S1 ++ S2 = ⟨(Lib.decDigits n).toArray⟩ := by
        rw [hS1.out, bytes_push, hS2.out, dec_step h]
      rw [← e]
      rfl

theorem wrapS_nat (n : Nat) (h : n ≤ 2000000) : wrap64 (n : Int) = (n : Int) := by
  unfold wrap64
  omega

/-- The row and the column of a cell, as they are written. -/
def spotB (C c : Nat) : ByteArray := ⟨(Lib.decDigits (c / C) ++ 32 :: Lib.decDigits (c % C)).toArray⟩

set_option maxRecDepth 100000 in
theorem spot_any (C c : Nat) (ro cs ca bu : Value) (w : World) (hC : 1 ≤ C) (hc : c ≤ 2000000) (hC2 : C ≤ 2000000) :
    Calls Tryd.prog 95 #[.agg #[ro, .int .i64 (C : Int), cs, ca, bu], .int .i64 (c : Int)] w fun e w' => e = .returned (.string (spotB C c)) ∧ Below w.heap.size w w' := by
  have hq1 : c / C ≤ 2000000 := Nat.le_trans (Nat.div_le_self _ _) hc
  have hr1 : c % C ≤ 2000000 := Nat.le_trans (Nat.mod_le _ _) hc
  have I1 : Hid (∀ u, Calls Tryd.prog 94 #[.int .i64 ((c : Int) / (C : Int))] u fun e w' => e = .returned (.string ⟨(Lib.decDigits (c / C)).toArray⟩) ∧ Below u.heap.size u w') := Hid.mk fun u => shown_any (c / C) u hq1
  have I2 : Hid (∀ u, Calls Tryd.prog 94 #[.int .i64 ((c : Int) % (C : Int))] u fun e w' => e = .returned (.string ⟨(Lib.decDigits (c % C)).toArray⟩) ∧ Below u.heap.size u w') := Hid.mk fun u => shown_any (c % C) u hr1
  have hB0 : Hid (∀ o, Below w.heap.size w (w.alloc o)) := Hid.mk fun o => (Below.refl _ w).alloc (Nat.le_refl _) o
  have hC0 : ((C : Int) == 0) = false := by simp; omega
  have hC3 : ¬ (C : Int) = 0 := by omega
  have hd : (c : Int).tdiv (C : Int) = (c : Int) / (C : Int) := Int.tdiv_eq_ediv_of_nonneg (by omega)
  have hm : (c : Int).tmod (C : Int) = (c : Int) % (C : Int) := Int.tmod_eq_emod_of_nonneg (by omega)
  go_enter Tryd.func95, Tryd.ntmps95
  have hw1 : wrap64 ((c : Int) / (C : Int)) = (c : Int) / (C : Int) := wrapS_nat (c / C) hq1
  go_wp2_with fail
  refine (I1.out _).mono ?_
  rintro e w1 ⟨rfl, hb1⟩
  have hw2 : w.heap.size < w1.heap.size := by have := hb1.size; simp at this; omega
  have y1 : w1.cell? ⟨w.heap.size, 1, none⟩ = some (.int .i64 (C : Int)) := by
    rw [hb1.cell (p := ⟨w.heap.size, 1, none⟩) (by simp)]
    go_simp
  have B1 : Hid (Below w.heap.size w w1) := Hid.mk ((hB0.out _).trans (hb1.mono (by simp)))
  clear hb1
  obtain ⟨S1, hS1⟩ : ∃ S : ByteArray, Hid (S = ⟨(Lib.decDigits (c / C)).toArray⟩) := ⟨_, Hid.mk rfl⟩
  rw [← hS1.out]
  go_wp2_with fail
  refine (I2.out _).mono ?_
  rintro e w2 ⟨rfl, hb2⟩
  have B2 := Hid.mk hb2
  clear hb2
  obtain ⟨S2, hS2⟩ : ∃ S : ByteArray, Hid (S = ⟨(Lib.decDigits (c % C)).toArray⟩) := ⟨_, Hid.mk rfl⟩
  rw [← hS2.out]
  have s1 := dec_size hS1.out
  have s2 := dec_size hS2.out
  have s3 : S1.size ≤ 2000001 := by omega
  have s4 : S2.size ≤ 2000001 := by omega
  go_wp2
  go_ret
  refine ⟨?_, B1.out.trans (B2.out.mono B1.out.size)⟩
  have e : S1 ++ ⟨#[32]⟩ ++ S2 = spotB C c := by
    rw [hS1.out, bytes_push, bytes_push, hS2.out]
    unfold spotB
    simp
  rw [← e]
  rfl

end Go.Proofs.YtnkgpinadgacgaaDoor
