/- Cells read; the first line, the rows, the carts. -/
import Derived.Test.YtnkgpinadgacgaaDoorTc
namespace Go.Proofs.YtnkgpinadgacgaaDoor
open Go.RowKit M

theorem cells_more {s : ByteArray} {k j M : Nat} (hj : j < M) (hb : TX.beforeCell (restS s (k + j)) = true) (h : TX.cellsP M (restS s k) = ((restS s k).take j ++ (TX.cellsP (M - j) (restS s (k + j))).1, (TX.cellsP (M - j) (restS s (k + j))).2)) :
    k + j < s.size ∧ TX.cellsP M (restS s k) = ((restS s k).take (j + 1) ++ (TX.cellsP (M - (j + 1)) (restS s (k + (j + 1)))).1, (TX.cellsP (M - (j + 1)) (restS s (k + (j + 1)))).2) := by
  have hlt : k + j < s.size := by
    rcases Nat.lt_or_ge (k + j) s.size with h1 | h1
    · exact h1
    · rw [rest_nil h1] at hb
      cases hb
  refine ⟨hlt, ?_⟩
  rw [h]
  obtain ⟨f, hf⟩ : ∃ f, M - j = f + 1 := ⟨M - j - 1, by omega⟩
  have hf' : M - (j + 1) = f := by omega
  rw [hf, hf', rest_cons hlt]
  rw [rest_cons hlt] at hb
  have e : TX.cellsP (f + 1) (s[k + j] :: restS s (k + j + 1)) = (s[k + j] :: (TX.cellsP f (restS s (k + j + 1))).1, (TX.cellsP f (restS s (k + j + 1))).2) := by
    show (if TX.isCell s[k + j] then _ else _) = _
    rw [if_pos (show TX.isCell s[k + j] = true from hb)]
  have e2 : (restS s k).take (j + 1) = (restS s k).take j ++ [s[k + j]] := by
    have hl := rest_len s k
    have h3 : (restS s k)[j]? = some s[k + j] := by
      have h4 := rest_drop s k j
      rw [rest_cons hlt] at h4
      have h5 : ((restS s k).drop j)[0]? = some s[k + j] := by rw [h4]; rfl
      rw [List.getElem?_drop] at h5
      simpa using h5
    rw [List.take_add_one, h3]
    rfl
  rw [e, e2]
  simp [Nat.add_assoc]

theorem cells_stop {s : ByteArray} {k j M : Nat} (hb : TX.beforeCell (restS s (k + j)) = false ∨ ¬ j < M) (h : TX.cellsP M (restS s k) = ((restS s k).take j ++ (TX.cellsP (M - j) (restS s (k + j))).1, (TX.cellsP (M - j) (restS s (k + j))).2)) :
    TX.cellsP M (restS s k) = ((restS s k).take j, restS s (k + j)) := by
  have e : ∀ (f : Nat) (l : List UInt8), TX.beforeCell l = false ∨ f = 0 → TX.cellsP f l = ([], l) := by
    intro f l hl
    cases f with
    | zero => rfl
    | succ f =>
      cases l with
      | nil => rfl
      | cons x t =>
        have hx : TX.isCell x = false := by simpa [TX.beforeCell] using hl
        show (if TX.isCell x then _ else _) = _
        rw [if_neg (by rw [hx]; decide)]
  rw [h, e (M - j) _ (hb.imp id (fun hh => by omega))]
  simp

theorem extract_rest (s : ByteArray) (k j : Nat) : s.extract k (k + j) = ⟨((restS s k).take j).toArray⟩ := by
  have e : (s.extract k (k + j)).data.toList = (restS s k).take j := by
    rw [ByteArray.data_extract, Array.toList_extract]
    unfold restS
    rw [List.extract_eq_take_drop]
    simp
  rw [← e]

set_option maxHeartbeats 400000 in
/-- Cells, as many as there are up to a most. -/
theorem cells_any' (b k M : Nat) (s : ByteArray) (w : World) (hs : s.size ≤ 2000000) (hM : M ≤ 2000000) (h : Rd w b s k) :
    Calls Tryd.prog 184 #[.pointer (some ⟨b, 0, none⟩), .int .i64 (M : Int)] w fun e w' =>
      ∃ k', e = .returned (.string ⟨(TX.cellsP M (restS s k)).1.toArray⟩) ∧ (TX.cellsP M (restS s k)).2 = restS s k' ∧ Rd w' b s k' ∧ Only (fun x => x = b) w w' := by
  have HR := Hid.mk h
  have c0 := h.c0
  have c1 := h.c1
  have fz := h.fz
  clear h
  go_enter Tryd.func184, Tryd.ntmps184
  go_wp2
  clear c0 c1 fz
  go_loopw [] (fun wr => ∃ j : Nat, j ≤ M ∧ Rd wr b s (k + j) ∧ Only (fun x => x = b) w wr ∧ TX.cellsP M (restS s k) = ((restS s k).take j ++ (TX.cellsP (M - j) (restS s (k + j))).1, (TX.cellsP (M - j) (restS s (k + j))).2)) (fun wr => M - (match wr.cell? ⟨b, 1, none⟩ with | some v => (intOf v).toNat - k | none => 0))
  case atStart => exact ⟨0, Nat.zero_le _, HR.out, Only.refl _ _, by simp⟩
  case round =>
    obtain ⟨j, hj, hr, ho, hm⟩ := hrel
    obtain ⟨wo, rfl⟩ : ∃ x, x = wr := ⟨_, rfl⟩
    have HRO := Hid.mk hr
    have HO := Hid.mk ho
    have HM := Hid.mk hm
    have c0 := hr.c0
    have c1 : wo.cell? ⟨b, 1, none⟩ = some (.int .i64 ((k : Int) + (j : Int))) := by rw [hr.c1]; simp
    have fz := hr.fz
    have hle := hr.le
    clear hr ho hm
    have s1 : (k : Int) + (j : Int) - (k : Int) = (j : Int) := by omega
    by_cases hjM : j < M
    · have e1 : decide (((j : Nat) : Int) < (M : Int)) = true := by simp; omega
      go_wp2_with fail
      refine (before_any b (k + j) s wo HRO.out).mono ?_
      rintro e w3 ⟨rfl, n3, rfl⟩
      obtain ⟨tb, htb⟩ : ∃ x, x = TX.beforeCell (restS s (k + j)) := ⟨_, rfl⟩
      have HT := Hid.mk htb
      rw [← htb]
      clear htb
      cases tb
      · go_wp2
        go_quiet (fail)
        go_wp2
        go_ret
        have hst := cells_stop (.inl HT.out.symm) HM.out
        refine ⟨k + j, ?_, by rw [hst], (HRO.out.drewN _).drewN _, (HO.out.drewN _).drewN _⟩
        rw [hst]
        show Ending.returned (.string (s.extract k (k + j))) = _
        rw [extract_rest]
      · obtain ⟨hlt, hmore⟩ := cells_more hjM HT.out.symm HM.out
        have HMM := Hid.mk hmore
        clear hmore
        go_wp2
        go_round
        case rel =>
          have e : (k : Int) + (j : Int) + 1 = ((k + j : Nat) : Int) + 1 := by simp
          rw [e]
          exact ⟨j + 1, by omega, (HRO.out.drewN n3).step hlt, (HO.out.drewN n3).setCell (p := ⟨b, 1, none⟩) (fun _ => rfl) _, HMM.out⟩
        case measure =>
          have e : (k : Int) + (j : Int) + 1 = ((k + j : Nat) : Int) + 1 := by simp
          have h1 := ((HRO.out.drewN n3).step hlt).c1
          rw [e, h1, c1]
          simp [intOf]
          omega
    · have e1 : decide (((j : Nat) : Int) < (M : Int)) = false := by simp; omega
      go_wp2
      go_quiet (fail)
      go_wp2
      go_ret
      have hst := cells_stop (.inr hjM) HM.out
      refine ⟨k + j, ?_, by rw [hst], HRO.out.drewN _, HO.out.drewN _⟩
      rw [hst]
      show Ending.returned (.string (s.extract k (k + j))) = _
      rw [extract_rest]

end Go.Proofs.YtnkgpinadgacgaaDoor
