/- Tc, Td, Te. -/
import Derived.Test.YtnkgpinadgacgaaGreatDoorQe
import Derived.Deep.LoopGhost
set_option maxRecDepth 1000000
set_option maxHeartbeats 400000
namespace Go.Proofs.YtnkgpinadgacgaaGreatDoor
section
open Go.RowKit M
structure Rd (w : World) (b : Nat) (s : ByteArray) (k : Nat) : Prop where
 c0 : w.cell? ⟨b, 0, none⟩ = some (.string s)
 c1 : w.cell? ⟨b, 1, none⟩ = some (.int .i64 k)
 fz : ∀ o, w.frozen? ⟨b, o, none⟩ = false
 lt : b < w.heap.size
 le : k <= s.size
def restS (s : ByteArray) (k : Nat) : List UInt8 := s.data.toList.drop k
theorem rest_cons {s : ByteArray} {k : Nat} (h : k < s.size) : restS s k = s[k] :: restS s (k + 1) := by
 unfold restS; have h' : k < s.data.toList.length := by rw [Array.length_toList]; exact h
 rw [List.drop_eq_getElem_cons h']; rfl
theorem rest_nil {s : ByteArray} {k : Nat} (h : s.size <= k) : restS s k = [] := by
 unfold restS; exact List.drop_eq_nil_of_le (by rw [Array.length_toList]; exact h)
theorem rest_len (s : ByteArray) (k : Nat) : (restS s k).length = s.size - k := by
 unfold restS; rw [List.length_drop, Array.length_toList]; rfl
theorem rest_drop (s : ByteArray) (k j : Nat) : (restS s k).drop j = restS s (k + j) := by
 unfold restS; rw [List.drop_drop]
theorem Rd.only {w w' : World} {b : Nat} {s : ByteArray} {k : Nat} {S : Nat -> Prop} (h : Rd w b s k) (ho : Only S w w') (hn : ¬ S b) : Rd w' b s k :=
 ⟨(ho.cell (p := ⟨b, 0, none⟩) h.lt hn).trans h.c0, (ho.cell (p := ⟨b, 1, none⟩) h.lt hn).trans h.c1, fun o => (ho.frozen (p := ⟨b, o, none⟩) h.lt hn).trans (h.fz o), Nat.lt_of_lt_of_le h.lt ho.size, h.le⟩
theorem Rd.below {w w' : World} {b : Nat} {s : ByteArray} {k : Nat} (h : Rd w b s k) (hb : Below w.heap.size w w') : Rd w' b s k := h.only (Only.of_below (S := fun _ => False) hb) (fun e => e.elim)
theorem Rd.step {w : World} {b : Nat} {s : ByteArray} {k : Nat} (h : Rd w b s k) (hk : k < s.size) : Rd (w.setCell ⟨b, 1, none⟩ (.int .i64 ((k : Int) + 1))) b s (k + 1) := by
 refine ⟨?_, ?_, ?_, ?_, hk⟩
 . rw [World.cell?_setCell_other _ _ _ _ (by intro e; cases e)]; exact h.c0
 . rw [World.cell?_setCell_same' _ _ _ (by rw [h.c1]; rfl)]; simp
 . intro o; rw [World.frozen?_setCell]; exact h.fz o
 . simpa [World.setCell] using h.lt
theorem Rd.drewN {w : World} {b : Nat} {s : ByteArray} {k : Nat} (h : Rd w b s k) (n : Nat) : Rd (w.drewN n) b s k := ⟨h.c0, h.c1, h.fz, h.lt, h.le⟩
theorem only_step {w : World} (b n : Nat) (v : Value) : Only (fun x => x = b) w ((w.drewN n).setCell ⟨b, 1, none⟩ v) := Only.setCell (S := fun x => x = b) ((Only.refl _ w).drewN n) (p := ⟨b, 1, none⟩) (fun _ => rfl) v
theorem toNat_ne {x c : UInt8} (h : ¬ x = c) : ¬ ((x.toNat : Nat) : Int) = ((c.toNat : Nat) : Int) := fun e => h (UInt8.toNat_inj.1 (Int.ofNat.inj e))
theorem rest_take {s : ByteArray} {k : Nat} {c : UInt8} (hk : k < s.size) (h : s[k] = c) : TX.take c (restS s k) = (restS s (k + 1), true) := by
 rw [rest_cons hk, h, TX.take_yes]
theorem rest_miss {s : ByteArray} {k : Nat} {c : UInt8} (hk : k < s.size) (h : ¬ s[k] = c) : TX.take c (restS s k) = (restS s k, false) := by
 rw [rest_cons hk]; show (if s[k] = c then _ else _) = _; rw [if_neg h]
theorem rest_end {s : ByteArray} {k : Nat} {c : UInt8} (hk : ¬ k < s.size) : TX.take c (restS s k) = (restS s k, false) := by
 rw [rest_nil (by omega)]; rfl
theorem take_any (b k : Nat) (s : ByteArray) (c : UInt8) (w : World) (hs : s.size <= 2000000) (h : Rd w b s k) :
 Calls Tryz.prog 65 #[.pointer (some ⟨b, 0, none⟩), .int .u8 (c.toNat : Int)] w fun e w' =>
  ∃ k', e = .returned (.bool (TX.take c (restS s k)).2) ∧ Rd w' b s k' ∧ restS s k' = (TX.take c (restS s k)).1 ∧ Only (fun x => x = b) w w' := by
 have HR := zx h; have c0 := h.c0; have c1 := h.c1; have fz := h.fz; have hle := h.le; clear h; go_enter Tryz.func65, Tryz.ntmps65; by_cases hk : k < s.size
 . have e0 : (((k : Nat) : Int) == (s.size : Int)) = false := by simp; omega
   by_cases hc : s[k] = c
   . have e1 : (((s[k]).toNat : Int) != (c.toNat : Int)) = false := by rw [hc]; simp
     have HC := zx hc; clear hc; go_wp2; go_quiet (fail); go_wp2; go_ret; exact ⟨k + 1, by rw [rest_take hk HC.out]; rfl, (HR.out.drewN nq).step hk, by rw [rest_take hk HC.out], only_step b nq _⟩
   . have e1 : (((s[k]).toNat : Int) != (c.toNat : Int)) = true := by
      have := toNat_ne hc; simp only [bne_iff_ne, ne_eq]; exact this
     have HC := zx hc; clear hc; go_wp2; go_quiet (fail); go_wp2; go_ret; exact ⟨k, by rw [rest_miss hk HC.out]; rfl, HR.out.drewN nq, by rw [rest_miss hk HC.out], (Only.refl _ w).drewN nq⟩
 . have e0 : (((k : Nat) : Int) == (s.size : Int)) = true := by simp; omega
   go_wp2; go_quiet (fail); go_wp2; go_ret; exact ⟨k, by rw [rest_end hk]; rfl, HR.out.drewN nq, by rw [rest_end hk], (Only.refl _ w).drewN nq⟩
def DigW (s : ByteArray) (k k' : Nat) (v : Nat) (ok : Bool) : Prop :=
 (∃ h : k < s.size, TX.isDig s[k] = true ∧ v = s[k].toNat - 48 ∧ ok = true ∧ k' = k + 1) ∨ ((∀ h : k < s.size, TX.isDig s[k] = false) ∧ v = 0 ∧ ok = false ∧ k' = k)
theorem nodig_lo {x : UInt8} (h : ¬ TX.isDig x = true) : x.toNat < 48 ∨ 57 < x.toNat := by
 unfold TX.isDig at h; simp at h; omega
theorem digit_any (b k : Nat) (s : ByteArray) (w : World) (hs : s.size <= 2000000) (h : Rd w b s k) :
 Calls Tryz.prog 90 #[.pointer (some ⟨b, 0, none⟩)] w fun e w' =>
  ∃ (k' v : Nat) (ok : Bool), e = .returned (.tuple #[.int .i64 v, .bool ok]) ∧ DigW s k k' v ok ∧ Rd w' b s k' ∧ Only (fun x => x = b) w w' := by
 have HR := zx h; have c0 := h.c0; have c1 := h.c1; have fz := h.fz; have hle := h.le; clear h; go_enter Tryz.func90, Tryz.ntmps90; by_cases hk : k < s.size
 . have e0 : (((k : Nat) : Int) == (s.size : Int)) = false := by simp; omega
   by_cases hd : TX.isDig s[k] = true
   . obtain ⟨hlo, hhi⟩ := TX.isDig_lo hd; have HD := zx hd; have hlt := UInt8.toNat_lt s[k]; have e1 : decide (((s[k]).toNat : Int) < 48) = false := by simp; omega
     have e2 : decide (57 < ((s[k]).toNat : Int)) = false := by simp; omega
     have e3 : decide ((57 : Int) < ((s[k]).toNat : Int)) = false := by simp; omega
     clear hd; have e5 : (k : Int) + 1 - 1 = (k : Int) := by omega
     go_wp2; go_quiet (fail); go_wp2; go_quiet (fail); go_wp2; go_ret2; have hv : (((s[k]).toNat : Int) - 48) = (((s[k]).toNat - 48 : Nat) : Int) := by omega
     refine ⟨k + 1, (s[k]).toNat - 48, true, ?_, .inl ⟨hk, HD.out, rfl, rfl, rfl⟩, ((HR.out.drewN _).step hk).drewN nq, (only_step b _ _).drewN nq⟩; rw [<- hv]; rfl
   . have HD := zx hd; rcases nodig_lo hd with hlo | hhi
     . have e1 : decide (((s[k]).toNat : Int) < 48) = true := by simp; omega
       clear hd; go_wp2; go_quiet (fail); go_wp2; go_ret2; exact ⟨k, 0, false, rfl, .inr ⟨fun _ => Bool.eq_false_iff.2 HD.out, rfl, rfl, rfl⟩, HR.out.drewN nq, (Only.refl _ w).drewN nq⟩
     . have e1 : decide (((s[k]).toNat : Int) < 48) = false := by simp; omega
       have e2 : decide (57 < ((s[k]).toNat : Int)) = true := by simp; omega
       clear hd; go_wp2; go_quiet (fail); go_wp2; go_ret2; exact ⟨k, 0, false, rfl, .inr ⟨fun _ => Bool.eq_false_iff.2 HD.out, rfl, rfl, rfl⟩, HR.out.drewN nq, (Only.refl _ w).drewN nq⟩
 . have e0 : (((k : Nat) : Int) == (s.size : Int)) = true := by simp; omega
   go_wp2; go_quiet (fail); go_wp2; go_ret2; exact ⟨k, 0, false, rfl, .inr ⟨fun h => absurd h hk, rfl, rfl, rfl⟩, HR.out.drewN nq, (Only.refl _ w).drewN nq⟩
theorem isCell_iff (x : UInt8) : ((((x.toNat : Nat) : Int) == 46) || (((x.toNat : Nat) : Int) == 35)) = TX.isCell x := by
 unfold TX.isCell; by_cases h1 : x.toNat = 46
 . simp [h1]
 . by_cases h2 : x.toNat = 35
   . simp [h2]
   . have n1 : ¬ ((x.toNat : Nat) : Int) = 46 := by omega
     have n2 : ¬ ((x.toNat : Nat) : Int) = 35 := by omega
     simp [h1, h2, n1, n2]
theorem before_any (b k : Nat) (s : ByteArray) (w : World) (h : Rd w b s k) :
 Calls Tryz.prog 68 #[.pointer (some ⟨b, 0, none⟩)] w fun e w' =>
  e = .returned (.bool (TX.beforeCell (restS s k))) ∧ ∃ n, w' = w.drewN n := by
 have HR := zx h; have c0 := h.c0; have c1 := h.c1; have fz := h.fz; have hle := h.le; clear h; go_enter Tryz.func68, Tryz.ntmps68; by_cases hk : k < s.size
 . have e0 : decide (((k : Nat) : Int) < (s.size : Int)) = true := by simp; omega
   have IC : Hid (∀ u, Calls Tryz.prog 70 #[.int .u8 ((s[k]).toNat : Int)] u fun e w' => e = .returned (.bool (TX.isCell s[k])) ∧ w' = u) := fun u => by rw [<- isCell_iff]; exact isCell_any _ _
   go_wp2; go_quiet ((go_at_call 70; exact Calls.quiet_of ((IC.out _).mono fun e w1 ⟨he, hw⟩ => ⟨he, 0, hw⟩))); go_wp2; go_ret; exact ⟨by rw [rest_cons hk]; rfl, nq, rfl⟩
 . have e0 : decide (((k : Nat) : Int) < (s.size : Int)) = false := by simp; omega
   go_wp2; go_quiet (fail); go_wp2; go_ret; exact ⟨by rw [rest_nil (by omega)]; rfl, nq, rfl⟩
theorem DigW.more {s : ByteArray} {k k' v : Nat} {ok : Bool} (h : DigW s k k' v ok) (j m : Nat) : TX.more (j + 1) m (restS s k) = if ok then TX.more j (10 * m + v) (restS s k') else (restS s k', m) := by
 rcases h with ⟨hk, h1, rfl, rfl, rfl⟩ | ⟨h1, rfl, rfl, h4⟩
 . rw [rest_cons hk]; show (if TX.isDig s[k] then _ else _) = _; rw [if_pos h1]; rfl
 . rw [h4]; by_cases hk : k < s.size
   . rw [rest_cons hk]; show (if TX.isDig s[k] then _ else _) = _; rw [h1 hk]; rfl
   . rw [rest_nil (by omega)]; rfl
theorem DigW.first {s : ByteArray} {k k' v : Nat} {ok : Bool} (h : DigW s k k' v ok) : TX.number (restS s k) = if ok then (if v = 0 then (restS s k', some 0) else ((TX.more 4 v (restS s k')).1, some (TX.more 4 v (restS s k')).2)) else (restS s k', none) := by
 rcases h with ⟨hk, h1, rfl, rfl, rfl⟩ | ⟨h1, rfl, rfl, h4⟩
 . rw [rest_cons hk, TX.number_cons, if_pos h1]; have h2 := TX.isDig_lo h1; by_cases h0 : (s[k]).toNat = 48
   . rw [if_pos h0, if_pos rfl, if_pos (by omega)]
   . rw [if_neg h0, if_pos rfl, if_neg (by omega)]
 . rw [h4]; by_cases hk : k < s.size
   . rw [rest_cons hk, TX.number_cons, h1 hk]; rfl
   . rw [rest_nil (by omega)]; rfl
theorem DigW.lt {s : ByteArray} {k k' v : Nat} {ok : Bool} (h : DigW s k k' v ok) : v <= 9 ∧ (ok = false -> v = 0) := by
 rcases h with ⟨hk, h1, rfl, rfl, rfl⟩ | ⟨h1, rfl, rfl, h4⟩
 . have h2 := TX.isDig_lo h1; exact ⟨by omega, fun h => by cases h⟩
 . exact ⟨by omega, fun _ => rfl⟩
theorem rnumber_any (b k : Nat) (s : ByteArray) (w : World) (hs : s.size <= 2000000) (h : Rd w b s k) :
 Calls Tryz.prog 66 #[.pointer (some ⟨b, 0, none⟩)] w fun e w' =>
  ∃ (k' v : Nat) (ok : Bool), e = .returned (.tuple #[.int .i64 v, .bool ok]) ∧ TX.number (restS s k) = (restS s k', if ok then some v else none) ∧ v <= 99999 ∧ Rd w' b s k' ∧ Only (fun x => x = b) w w' := by
 have HR := zx h; clear h; go_enter Tryz.func66, Tryz.ntmps66; go_wp2_with fail; refine (digit_any b k s w hs HR.out).mono ?_; rintro e w1 ⟨k1, v1, ok1, rfl, hd, hr1, ho1⟩; have F1 := zx hd.first; obtain ⟨hv9, hok⟩ := hd.lt; have R1 := zx hr1; have O1 := zx ho1; clear hd hr1 ho1; by_cases hv : v1 = 0
 . clear hok hv9; have e0 : (((v1 : Nat) : Int) == 0) = true := by simp; omega
   have HV := zx hv; clear hv; go_wp2; go_ret2; refine ⟨k1, 0, ok1, rfl, ?_, by omega, R1.out, O1.out⟩; rw [F1.out, HV.out]; cases ok1 <;> rfl
 . cases ok1
   . exact absurd (hok rfl) hv
   . have e0 : (((v1 : Nat) : Int) == 0) = false := by simp; omega
     clear hok; have F2 : Hid (TX.number (restS s k) = ((TX.more 4 v1 (restS s k1)).1, some (TX.more 4 v1 (restS s k1)).2)) := by
      unfold Hid; rw [F1.out, if_pos rfl, if_neg hv]
     clear F1 hv; go_wp2; go_loopw [4, 16] (fun sn sj wr => ∃ m j kk : Nat, sn = .int .i64 m ∧ sj = .int .i64 j ∧ j <= 4 ∧ Rd wr b s kk ∧ Only (fun x => x = b) w wr ∧ TX.more (4 - j) m (restS s kk) = TX.more 4 v1 (restS s k1) ∧ m <= 99999 ∧ (j <= 3 -> m <= 9999) ∧ (j <= 2 -> m <= 999) ∧ (j <= 1 -> m <= 99) ∧ (j = 0 -> m <= 9)) (fun _ sj _ => 4 - (intOf sj).toNat)
     case atStart => exact ⟨v1, 0, k1, rfl, rfl, by omega, R1.out, O1.out, rfl, by omega, by omega, by omega, by omega, by omega⟩
     case round =>
      obtain ⟨m, j, kk, rfl, rfl, hj, hr, ho, hm, hb5, hb4, hb3, hb2, hb1⟩ := hrel; obtain ⟨wo, rfl⟩ : ∃ x, x = wr := ⟨_, rfl⟩
      have HRO := zx hr; have HO := zx ho; have HM := zx hm; have HB : Hid (m <= 99999 ∧ (j <= 3 -> m <= 9999) ∧ (j <= 2 -> m <= 999) ∧ (j <= 1 -> m <= 99) ∧ (j = 0 -> m <= 9)) := ⟨hb5, hb4, hb3, hb2, hb1⟩
      clear hr ho hm hb5 hb4 hb3 hb2 hb1; by_cases hj4 : j < 4
      . have e1 : decide (((j : Nat) : Int) < 4) = true := by simp; omega
        go_wp2_with fail; refine (digit_any b kk s wo hs HRO.out).mono ?_; rintro e w3 ⟨k3, v3, ok3, rfl, hd, hr3, ho3⟩; have hmore := hd.more (4 - j - 1) m; rw [show 4 - j - 1 + 1 = 4 - j by omega] at hmore; obtain ⟨hv9', _⟩ := hd.lt; have R3 := zx hr3; have O3 : Hid (Only (fun x => x = b) w w3) := HO.out.trans ho3 (fun _ _ h => h); have M3 := zx hmore; clear hd hr3 ho3 hmore; cases ok3
        . go_wp2; go_ret2; have hmm := M3.out; rw [if_neg (by decide), HM.out] at hmm; refine ⟨k3, m, true, rfl, ?_, HB.out.1, R3.out, O3.out⟩; rw [F2.out, hmm]; rfl
        . have hmn : m <= 9999 := HB.out.2.1 (by omega); go_wp2; go_round
          case rel =>
           have hmm : TX.more (4 - j) m (restS s kk) = TX.more (4 - j - 1) (10 * m + v3) (restS s k3) := M3.out; rw [HM.out] at hmm; obtain ⟨_, b4, b3, b2, b1⟩ := HB.out; refine ⟨10 * m + v3, j + 1, k3, by go_num, by go_num, by omega, R3.out, O3.out, ?_, by omega, by omega, by omega, by omega, by omega⟩; rw [hmm, show 4 - (j + 1) = 4 - j - 1 by omega]
          case measure => simp [intOf]; omega
      . have e1 : decide (((j : Nat) : Int) < 4) = false := by simp; omega
        go_wp2; go_ret2; have hmm := HM.out; rw [show 4 - j = 0 by omega] at hmm; refine ⟨kk, m, true, rfl, ?_, HB.out.1, HRO.out, HO.out⟩; rw [F2.out, <- hmm]; rfl
end
section
open Go.RowKit M
theorem cells_more {s : ByteArray} {k j M : Nat} (hj : j < M) (hb : TX.beforeCell (restS s (k + j)) = true) (h : TX.cellsP M (restS s k) = ((restS s k).take j ++ (TX.cellsP (M - j) (restS s (k + j))).1, (TX.cellsP (M - j) (restS s (k + j))).2)) :
 k + j < s.size ∧ TX.cellsP M (restS s k) = ((restS s k).take (j + 1) ++ (TX.cellsP (M - (j + 1)) (restS s (k + (j + 1)))).1, (TX.cellsP (M - (j + 1)) (restS s (k + (j + 1)))).2) := by
 have hlt : k + j < s.size := by
  rcases Nat.lt_or_ge (k + j) s.size with h1 | h1
  . exact h1
  . rw [rest_nil h1] at hb; cases hb
 refine ⟨hlt, ?_⟩; rw [h]; obtain ⟨f, hf⟩ : ∃ f, M - j = f + 1 := ⟨M - j - 1, by omega⟩
 have hf' : M - (j + 1) = f := by omega
 rw [hf, hf', rest_cons hlt]; rw [rest_cons hlt] at hb; have e : TX.cellsP (f + 1) (s[k + j] :: restS s (k + j + 1)) = (s[k + j] :: (TX.cellsP f (restS s (k + j + 1))).1, (TX.cellsP f (restS s (k + j + 1))).2) := by
  show (if TX.isCell s[k + j] then _ else _) = _; rw [if_pos (show TX.isCell s[k + j] = true from hb)]
 have e2 : (restS s k).take (j + 1) = (restS s k).take j ++ [s[k + j]] := by
  have hl := rest_len s k; have h3 : (restS s k)[j]? = some s[k + j] := by
   have h4 := rest_drop s k j; rw [rest_cons hlt] at h4; have h5 : ((restS s k).drop j)[0]? = some s[k + j] := by rw [h4]; rfl
   rw [List.getElem?_drop] at h5; simpa using h5
  rw [List.take_add_one, h3]; rfl
 rw [e, e2]; simp [Nat.add_assoc]
theorem cells_stop {s : ByteArray} {k j M : Nat} (hb : TX.beforeCell (restS s (k + j)) = false ∨ ¬ j < M) (h : TX.cellsP M (restS s k) = ((restS s k).take j ++ (TX.cellsP (M - j) (restS s (k + j))).1, (TX.cellsP (M - j) (restS s (k + j))).2)) :
 TX.cellsP M (restS s k) = ((restS s k).take j, restS s (k + j)) := by
 have e : ∀ (f : Nat) (l : List UInt8), TX.beforeCell l = false ∨ f = 0 -> TX.cellsP f l = ([], l) := by
  intro f l hl; cases f with
  | zero => rfl
  | succ f =>
    cases l with
    | nil => rfl
    | cons x t =>
      have hx : TX.isCell x = false := by simpa [TX.beforeCell] using hl
      show (if TX.isCell x then _ else _) = _; rw [if_neg (by rw [hx]; decide)]
 rw [h, e (M - j) _ (hb.imp id (fun hh => by omega))]; simp
theorem extract_rest (s : ByteArray) (k j : Nat) : s.extract k (k + j) = ⟨((restS s k).take j).toArray⟩ := by
 have e : (s.extract k (k + j)).data.toList = (restS s k).take j := by
  rw [ByteArray.data_extract, Array.toList_extract]; unfold restS; rw [List.extract_eq_take_drop]; simp
 rw [<- e]
theorem cells_any' (b k M : Nat) (s : ByteArray) (w : World) (hs : s.size <= 2000000) (hM : M <= 2000000) (h : Rd w b s k) :
 Calls Tryz.prog 67 #[.pointer (some ⟨b, 0, none⟩), .int .i64 M] w fun e w' =>
  ∃ k', e = .returned (.string ⟨(TX.cellsP M (restS s k)).1.toArray⟩) ∧ (TX.cellsP M (restS s k)).2 = restS s k' ∧ Rd w' b s k' ∧ Only (fun x => x = b) w w' := by
 have HR := zx h; have c0 := h.c0; have c1 := h.c1; have fz := h.fz; clear h; go_enter Tryz.func67, Tryz.ntmps67; go_wp2; clear c0 c1 fz; go_loopw [] (fun wr => ∃ j : Nat, j <= M ∧ Rd wr b s (k + j) ∧ Only (fun x => x = b) w wr ∧ TX.cellsP M (restS s k) = ((restS s k).take j ++ (TX.cellsP (M - j) (restS s (k + j))).1, (TX.cellsP (M - j) (restS s (k + j))).2)) (fun wr => M - (match wr.cell? ⟨b, 1, none⟩ with | some v => (intOf v).toNat - k | none => 0))
 case atStart => exact ⟨0, Nat.zero_le _, HR.out, Only.refl _ _, by simp⟩
 case round =>
  obtain ⟨j, hj, hr, ho, hm⟩ := hrel; obtain ⟨wo, rfl⟩ : ∃ x, x = wr := ⟨_, rfl⟩
  have HRO := zx hr; have HO := zx ho; have HM := zx hm; have c0 := hr.c0; have c1 : wo.cell? ⟨b, 1, none⟩ = some (.int .i64 ((k : Int) + (j : Int))) := by rw [hr.c1]; simp
  have fz := hr.fz; have hle := hr.le; clear hr ho hm; have s1 : (k : Int) + (j : Int) - (k : Int) = (j : Int) := by omega
  by_cases hjM : j < M
  . have e1 : decide (((j : Nat) : Int) < (M : Int)) = true := by simp; omega
    go_wp2_with fail; refine (before_any b (k + j) s wo HRO.out).mono ?_; rintro e w3 ⟨rfl, n3, rfl⟩; obtain ⟨tb, htb⟩ : ∃ x, x = TX.beforeCell (restS s (k + j)) := ⟨_, rfl⟩
    have HT := zx htb; rw [<- htb]; clear htb; cases tb
    . go_wp2; go_quiet (fail); go_wp2; go_ret; have hst := cells_stop (.inl HT.out.symm) HM.out; refine ⟨k + j, ?_, by rw [hst], (HRO.out.drewN _).drewN _, (HO.out.drewN _).drewN _⟩; rw [hst]; show Ending.returned (.string (s.extract k (k + j))) = _; rw [extract_rest]
    . obtain ⟨hlt, hmore⟩ := cells_more hjM HT.out.symm HM.out; have HMM := zx hmore; clear hmore; go_wp2; go_round
      case rel =>
       have e : (k : Int) + (j : Int) + 1 = ((k + j : Nat) : Int) + 1 := by simp
       rw [e]; exact ⟨j + 1, by omega, (HRO.out.drewN n3).step hlt, (HO.out.drewN n3).setCell (p := ⟨b, 1, none⟩) (fun _ => rfl) _, HMM.out⟩
      case measure =>
       have e : (k : Int) + (j : Int) + 1 = ((k + j : Nat) : Int) + 1 := by simp
       have h1 := ((HRO.out.drewN n3).step hlt).c1; rw [e, h1, c1]; simp [intOf]
       omega
  . have e1 : decide (((j : Nat) : Int) < (M : Int)) = false := by simp; omega
    go_wp2; go_quiet (fail); go_wp2; go_ret; have hst := cells_stop (.inr hjM) HM.out; refine ⟨k + j, ?_, by rw [hst], HRO.out.drewN _, HO.out.drewN _⟩; rw [hst]; show Ending.returned (.string (s.extract k (k + j))) = _; rw [extract_rest]
end
section
open Go.RowKit Go.Deep M
structure Box (w : World) (b : Nat) (v : Array Value) : Prop where
 c : ∀ o, w.cell? ⟨b, o, none⟩ = v[o]?
 fz : ∀ o, w.frozen? ⟨b, o, none⟩ = false
 lt : b < w.heap.size
theorem Box.only {w w' : World} {b : Nat} {v : Array Value} {S : Nat -> Prop} (h : Box w b v) (ho : Only S w w') (hn : ¬ S b) : Box w' b v :=
 ⟨fun o => (ho.cell (p := ⟨b, o, none⟩) h.lt hn).trans (h.c o), fun o => (ho.frozen (p := ⟨b, o, none⟩) h.lt hn).trans (h.fz o), Nat.lt_of_lt_of_le h.lt ho.size⟩
theorem Box.belowB {w w' : World} {b B : Nat} {v : Array Value} (h : Box w b v) (hb : Below B w w') (hB : b < B) : Box w' b v :=
 ⟨fun o => (hb.cell (p := ⟨b, o, none⟩) hB).trans (h.c o), fun o => (hb.frozen (p := ⟨b, o, none⟩) hB).trans (h.fz o), Nat.lt_of_lt_of_le h.lt hb.size⟩
theorem Rd.belowB {w w' : World} {b B : Nat} {s : ByteArray} {k : Nat} (h : Rd w b s k) (hb : Below B w w') (hB : b < B) : Rd w' b s k :=
 ⟨(hb.cell (p := ⟨b, 0, none⟩) hB).trans h.c0, (hb.cell (p := ⟨b, 1, none⟩) hB).trans h.c1, fun o => (hb.frozen (p := ⟨b, o, none⟩) hB).trans (h.fz o), Nat.lt_of_lt_of_le h.lt hb.size, h.le⟩
theorem boxT_set {w : World} {b i : Nat} {cells cells' : Array Value} {v : Value} (h : ∀ o, w.cell? ⟨b, o, none⟩ = cells[o]?) (hi : i < cells.size) (he : cells' = cells.setIfInBounds i v) : ∀ o, (w.setCell ⟨b, i, none⟩ v).cell? ⟨b, o, none⟩ = cells'[o]? := by
 subst he; intro o; by_cases e : o = i
 . subst e; rw [World.cell?_setCell_same' _ _ _ (by rw [h]; simp [hi])]; simp [hi]
 . rw [World.cell?_setCell_other _ _ _ _ (by intro hh; cases hh; exact e rfl), h o, Array.getElem?_setIfInBounds, if_neg (fun hh => e hh.symm)]
theorem Box.set {w : World} {b i : Nat} {v v' : Array Value} {x : Value} (h : Box w b v) (hi : i < v.size) (he : v' = v.setIfInBounds i x) : Box (w.setCell ⟨b, i, none⟩ x) b v' :=
 ⟨boxT_set h.c hi he, fun o => by rw [World.frozen?_setCell]; exact h.fz o, by simpa [World.setCell] using h.lt⟩
theorem Box.drewN {w : World} {b : Nat} {v : Array Value} (h : Box w b v) (n : Nat) : Box (w.drewN n) b v := ⟨h.c, h.fz, h.lt⟩
theorem Rd.setOther {w : World} {b y i : Nat} {s : ByteArray} {k : Nat} {x : Value} (h : Rd w b s k) (hne : y ≠ b) : Rd (w.setCell ⟨y, i, none⟩ x) b s k :=
 h.only (S := fun z => z = y) (Only.setCell (S := fun z => z = y) (Only.refl _ w) (p := ⟨y, i, none⟩) (fun _ => rfl) x) (fun e => hne e.symm)
def headA : ByteArray := ⟨#[121, 97, 114, 100, 32]⟩
theorem head_drop {j : Nat} (hj : j < 5) : TX.headB.drop j = (headA[j]'hj) :: TX.headB.drop (j + 1) := by
 match j, hj with
 | 0, _ => rfl
 | 1, _ => rfl
 | 2, _ => rfl
 | 3, _ => rfl
 | 4, _ => rfl
theorem budget_any (b yb k : Nat) (s : ByteArray) (x0 x1 x2 x3 x4 : Value) (w : World) (hs : s.size <= 2000000) (hne : yb ≠ b) (h : Rd w b s k) (hy : Box w yb #[x0, x1, x2, x3, x4]) :
 Calls Tryz.prog 38 #[.pointer (some ⟨b, 0, none⟩), .pointer (some ⟨yb, 0, none⟩)] w fun e w' =>
  ∃ (k' u : Nat) (ok : Bool), e = .returned (.bool ok) ∧ TX.budgetP (restS s k) = (restS s k', if ok then some u else none) ∧ Rd w' b s k' ∧ (ok = true -> Box w' yb #[x0, x1, x2, x3, .int .i64 u]) ∧ Only (fun x => x = b ∨ x = yb) w w' := by
 have HR := zx h; have HY := zx hy; have hne2 : b ≠ yb := fun e => hne e.symm
 clear h hy; go_enter Tryz.func38, Tryz.ntmps38; go_wp2; go_loopw [8] (fun sj wr => ∃ j kk : Nat, sj = .int .i64 j ∧ j <= 5 ∧ Rd wr b s kk ∧ Only (fun x => x = b) w wr ∧ TX.takes (TX.headB.drop j) (restS s kk) = TX.takes TX.headB (restS s k)) (fun sj _ => 5 - (intOf sj).toNat)
 case atStart => exact ⟨0, k, rfl, by omega, HR.out, Only.refl _ _, rfl⟩
 case round =>
  obtain ⟨j, kk, rfl, hj, hr, ho, hm⟩ := hrel; obtain ⟨wo, rfl⟩ : ∃ x, x = wr := ⟨_, rfl⟩
  have HRO := zx hr; have HO := zx ho; have HM := zx hm; clear hr ho hm; by_cases hj5 : j < 5
  . have e1 : decide (((j : Nat) : Int) < 5) = true := by simp; omega
    have TK : Hid (∀ c : UInt8, c = (headA[j]'hj5) -> Calls Tryz.prog 65 #[.pointer (some ⟨b, 0, none⟩), .int .u8 (c.toNat : Int)] wo fun e w' =>
     ∃ k' : Nat, ∃ ok : Bool, e = .returned (.bool ok) ∧ TX.takes TX.headB (restS s k) = (if ok then TX.takes (TX.headB.drop (j + 1)) (restS s k') else (restS s k', false)) ∧ Rd w' b s k' ∧ Only (fun x => x = b) w w') := fun c hc => by
     refine (take_any b kk s c wo hs HRO.out).mono ?_; rintro e w' ⟨k', rfl, hr', ht, ho'⟩; refine ⟨k', _, rfl, ?_, hr', HO.out.trans ho' (fun _ _ h => h)⟩; rw [<- HM.out, head_drop hj5, <- hc]; show (if (TX.take c (restS s kk)).2 then TX.takes _ (TX.take c (restS s kk)).1 else ((TX.take c (restS s kk)).1, false)) = _; rw [ht]
    go_wp2_with fail; refine (TK.out _ rfl).mono ?_; rintro e w3 ⟨k3, ok3, rfl, ht, hr3, ho3⟩; have R3 := zx hr3; have O3 := zx ho3; have T3 := zx ht; clear hr3 ho3 ht TK; cases ok3
    . go_wp2; go_ret; refine ⟨k3, 0, false, rfl, ?_, R3.out, (fun h => by cases h), O3.out.mono (fun _ _ h => .inl h)⟩; unfold TX.budgetP; rw [show TX.takes TX.headB (restS s k) = (restS s k3, false) from T3.out]; rfl
    . go_wp2; go_round
      case rel => exact ⟨j + 1, k3, by go_num, by omega, R3.out, O3.out, (show TX.takes TX.headB (restS s k) = TX.takes (TX.headB.drop (j + 1)) (restS s k3) from T3.out).symm⟩
      case measure => simp [intOf]; omega
  . have e1 : decide (((j : Nat) : Int) < 5) = false := by simp; omega
    have hT : TX.takes TX.headB (restS s k) = (restS s kk, true) := by
     rw [<- HM.out, show TX.headB.drop j = [] by have : j = 5 := by omega
                                                 subst this; rfl]
     rfl
    have T3 := zx hT; clear hT; have YO : Hid (Box wo yb #[x0, x1, x2, x3, x4]) := HY.out.only HO.out hne; go_wp2_with fail; refine (rnumber_any b kk s wo hs HRO.out).mono ?_; rintro e w3 ⟨k3, u, ok3, rfl, hn, hu, hr3, ho3⟩; have R3 := zx hr3; have O3 := zx ho3; have N3 := zx hn; have Y3 : Hid (Box w3 yb #[x0, x1, x2, x3, x4]) := YO.out.only ho3 hne; have c4 : w3.cell? ⟨yb, 4, none⟩ = some x4 := Y3.out.c 4; have f4 : w3.frozen? ⟨yb, 4, none⟩ = false := Y3.out.fz 4; clear hr3 ho3 hn
    have O4 : Hid (Only (fun x => x = b ∨ x = yb) w (w3.setCell ⟨yb, 4, none⟩ (.int .i64 u))) := Only.setCell (S := fun x => x = b ∨ x = yb) ((HO.out.trans O3.out (fun _ _ h => h)).mono (fun _ _ h => .inl h)) (p := ⟨yb, 4, none⟩) (fun _ => .inr rfl) _; have R4 : Hid (Rd (w3.setCell ⟨yb, 4, none⟩ (.int .i64 u)) b s k3) := R3.out.setOther hne; have Y4 : Hid (Box (w3.setCell ⟨yb, 4, none⟩ (.int .i64 u)) yb #[x0, x1, x2, x3, .int .i64 u]) := Y3.out.set (i := 4) (by simp) rfl; cases ok3
    . go_wp2; go_ret; refine ⟨k3, 0, false, rfl, ?_, R4.out, (fun h => by cases h), O4.out⟩; unfold TX.budgetP; rw [T3.out, TX.okP_mk, show TX.number (restS s kk) = (restS s k3, none) from N3.out]; rfl
    . go_wp2_with fail; refine (take_any b k3 s 10 _ hs R4.out).mono ?_; rintro e w5 ⟨k5, rfl, hr5, ht5, ho5⟩; have R5 := zx hr5; have T5 := zx ht5; have Y5 : Hid (Box w5 yb #[x0, x1, x2, x3, .int .i64 u]) := Y4.out.only ho5 hne; have O5 : Hid (Only (fun x => x = b ∨ x = yb) w w5) := O4.out.trans ho5 (fun _ _ h => .inl h); obtain ⟨tb, htb⟩ : ∃ x, x = (TX.take 10 (restS s k3)).2 := ⟨_, rfl⟩
      have TB := zx htb; rw [<- htb]; clear hr5 ht5 ho5 htb; have hbud : TX.budgetP (restS s k) = (restS s k5, if tb then some u else none) := by
       unfold TX.budgetP; rw [T3.out, TX.okP_mk, show TX.number (restS s kk) = (restS s k3, some u) from N3.out, TX.andP_mk]; unfold TX.okP; rw [T5.out, <- TB.out]; cases tb <;> rfl
      have BU := zx hbud; clear hbud; go_wp2; go_ret; exact ⟨k5, u, tb, rfl, BU.out, R5.out, (fun _ => Y5.out), O5.out⟩
end
end Go.Proofs.YtnkgpinadgacgaaGreatDoor
