/- The reader of a text in memory, and its small steps: a byte taken, a digit, a number, cells. -/
import Derived.Test.YtnkgpinadgacgaaDoorBg
import Derived.Test.YtnkgpinadgacgaaDoorTb
namespace Go.Proofs.YtnkgpinadgacgaaDoor
open Go.RowKit M

/-- The reader in memory: its string, how far it has come. -/
structure Rd (w : World) (b : Nat) (s : ByteArray) (k : Nat) : Prop where
  c0 : w.cell? ⟨b, 0, none⟩ = some (.string s)
  c1 : w.cell? ⟨b, 1, none⟩ = some (.int .i64 (k : Int))
  fz : ∀ o, w.frozen? ⟨b, o, none⟩ = false
  lt : b < w.heap.size
  le : k ≤ s.size

def restS (s : ByteArray) (k : Nat) : List UInt8 := s.data.toList.drop k

theorem rest_cons {s : ByteArray} {k : Nat} (h : k < s.size) : restS s k = s[k] :: restS s (k + 1) := by
  unfold restS
  have h' : k < s.data.toList.length := by rw [Array.length_toList]; exact h
  rw [List.drop_eq_getElem_cons h']
  rfl

theorem rest_nil {s : ByteArray} {k : Nat} (h : s.size ≤ k) : restS s k = [] := by
  unfold restS
  exact List.drop_eq_nil_of_le (by rw [Array.length_toList]; exact h)

theorem rest_len (s : ByteArray) (k : Nat) : (restS s k).length = s.size - k := by
  unfold restS
  rw [List.length_drop, Array.length_toList]
  rfl

theorem rest_drop (s : ByteArray) (k j : Nat) : (restS s k).drop j = restS s (k + j) := by
  unfold restS
  rw [List.drop_drop]

theorem Rd.only {w w' : World} {b : Nat} {s : ByteArray} {k : Nat} {S : Nat → Prop} (h : Rd w b s k) (ho : Only S w w') (hn : ¬ S b) : Rd w' b s k :=
  ⟨(ho.cell (p := ⟨b, 0, none⟩) h.lt hn).trans h.c0, (ho.cell (p := ⟨b, 1, none⟩) h.lt hn).trans h.c1, fun o => (ho.frozen (p := ⟨b, o, none⟩) h.lt hn).trans (h.fz o), Nat.lt_of_lt_of_le h.lt ho.size, h.le⟩

theorem Rd.below {w w' : World} {b : Nat} {s : ByteArray} {k : Nat} (h : Rd w b s k) (hb : Below w.heap.size w w') : Rd w' b s k := h.only (Only.of_below (S := fun _ => False) hb) (fun e => e.elim)

theorem Rd.step {w : World} {b : Nat} {s : ByteArray} {k : Nat} (h : Rd w b s k) (hk : k < s.size) : Rd (w.setCell ⟨b, 1, none⟩ (.int .i64 ((k : Int) + 1))) b s (k + 1) := by
  refine ⟨?_, ?_, ?_, ?_, hk⟩
  · rw [World.cell?_setCell_other _ _ _ _ (by intro e; cases e)]
    exact h.c0
  · rw [World.cell?_setCell_same' _ _ _ (by rw [h.c1]; rfl)]
    simp
  · intro o
    rw [World.frozen?_setCell]
    exact h.fz o
  · simpa [World.setCell] using h.lt

theorem Rd.drewN {w : World} {b : Nat} {s : ByteArray} {k : Nat} (h : Rd w b s k) (n : Nat) : Rd (w.drewN n) b s k := ⟨h.c0, h.c1, h.fz, h.lt, h.le⟩

theorem only_step {w : World} (b n : Nat) (v : Value) : Only (fun x => x = b) w ((w.drewN n).setCell ⟨b, 1, none⟩ v) := Only.setCell (S := fun x => x = b) ((Only.refl _ w).drewN n) (p := ⟨b, 1, none⟩) (fun _ => rfl) v

theorem toNat_ne {x c : UInt8} (h : ¬ x = c) : ¬ ((x.toNat : Nat) : Int) = ((c.toNat : Nat) : Int) := fun e => h (UInt8.toNat_inj.1 (Int.ofNat.inj e))

theorem rest_take {s : ByteArray} {k : Nat} {c : UInt8} (hk : k < s.size) (h : s[k] = c) : TX.take c (restS s k) = (restS s (k + 1), true) := by
  rw [rest_cons hk, h, TX.take_yes]

theorem rest_miss {s : ByteArray} {k : Nat} {c : UInt8} (hk : k < s.size) (h : ¬ s[k] = c) : TX.take c (restS s k) = (restS s k, false) := by
  rw [rest_cons hk]
  show (if s[k] = c then _ else _) = _
  rw [if_neg h]

theorem rest_end {s : ByteArray} {k : Nat} {c : UInt8} (hk : ¬ k < s.size) : TX.take c (restS s k) = (restS s k, false) := by
  rw [rest_nil (by omega)]
  rfl

set_option maxHeartbeats 400000 in
/-- A byte is taken, if it is the next. -/
theorem take_any (b k : Nat) (s : ByteArray) (c : UInt8) (w : World) (hs : s.size ≤ 2000000) (h : Rd w b s k) :
    Calls Tryd.prog 182 #[.pointer (some ⟨b, 0, none⟩), .int .u8 (c.toNat : Int)] w fun e w' =>
      ∃ k', e = .returned (.bool (TX.take c (restS s k)).2) ∧ Rd w' b s k' ∧ restS s k' = (TX.take c (restS s k)).1 ∧ Only (fun x => x = b) w w' := by
  have HR := Hid.mk h
  have c0 := h.c0
  have c1 := h.c1
  have fz := h.fz
  have hle := h.le
  clear h
  go_enter Tryd.func182, Tryd.ntmps182
  by_cases hk : k < s.size
  · have e0 : (((k : Nat) : Int) == (s.size : Int)) = false := by simp; omega
    by_cases hc : s[k] = c
    · have e1 : (((s[k]).toNat : Int) != (c.toNat : Int)) = false := by rw [hc]; simp
      have HC := Hid.mk hc
      clear hc
      go_wp2
      go_quiet (fail)
      go_wp2
      go_ret
      exact ⟨k + 1, by rw [rest_take hk HC.out]; rfl, (HR.out.drewN nq).step hk, by rw [rest_take hk HC.out], only_step b nq _⟩
    · have e1 : (((s[k]).toNat : Int) != (c.toNat : Int)) = true := by
        have := toNat_ne hc
        simp only [bne_iff_ne, ne_eq]
        exact this
      have HC := Hid.mk hc
      clear hc
      go_wp2
      go_quiet (fail)
      go_wp2
      go_ret
      exact ⟨k, by rw [rest_miss hk HC.out]; rfl, HR.out.drewN nq, by rw [rest_miss hk HC.out], (Only.refl _ w).drewN nq⟩
  · have e0 : (((k : Nat) : Int) == (s.size : Int)) = true := by simp; omega
    go_wp2
    go_quiet (fail)
    go_wp2
    go_ret
    exact ⟨k, by rw [rest_end hk]; rfl, HR.out.drewN nq, by rw [rest_end hk], (Only.refl _ w).drewN nq⟩

/-- The way of a digit. -/
def DigW (s : ByteArray) (k k' : Nat) (v : Nat) (ok : Bool) : Prop :=
  (∃ h : k < s.size, TX.isDig s[k] = true ∧ v = s[k].toNat - 48 ∧ ok = true ∧ k' = k + 1) ∨ ((∀ h : k < s.size, TX.isDig s[k] = false) ∧ v = 0 ∧ ok = false ∧ k' = k)

theorem nodig_lo {x : UInt8} (h : ¬ TX.isDig x = true) : x.toNat < 48 ∨ 57 < x.toNat := by
  unfold TX.isDig at h
  simp at h
  omega

set_option maxHeartbeats 400000 in
theorem digit_any (b k : Nat) (s : ByteArray) (w : World) (hs : s.size ≤ 2000000) (h : Rd w b s k) :
    Calls Tryd.prog 209 #[.pointer (some ⟨b, 0, none⟩)] w fun e w' =>
      ∃ (k' v : Nat) (ok : Bool), e = .returned (.tuple #[.int .i64 (v : Int), .bool ok]) ∧ DigW s k k' v ok ∧ Rd w' b s k' ∧ Only (fun x => x = b) w w' := by
  have HR := Hid.mk h
  have c0 := h.c0
  have c1 := h.c1
  have fz := h.fz
  have hle := h.le
  clear h
  go_enter Tryd.func209, Tryd.ntmps209
  by_cases hk : k < s.size
  · have e0 : (((k : Nat) : Int) == (s.size : Int)) = false := by simp; omega
    by_cases hd : TX.isDig s[k] = true
    · obtain ⟨hlo, hhi⟩ := TX.isDig_lo hd
      have HD := Hid.mk hd
      have hlt := UInt8.toNat_lt s[k]
      have e1 : decide (((s[k]).toNat : Int) < 48) = false := by simp; omega
      have e2 : decide (57 < ((s[k]).toNat : Int)) = false := by simp; omega
      have e3 : decide ((57 : Int) < ((s[k]).toNat : Int)) = false := by simp; omega
      clear hd
      have e5 : (k : Int) + 1 - 1 = (k : Int) := by omega
      go_wp2
      go_quiet (fail)
      go_wp2
      go_quiet (fail)
      go_wp2
      go_ret2
      have hv : (((s[k]).toNat : Int) - 48) = (((s[k]).toNat - 48 : Nat) : Int) := by omega
      refine ⟨k + 1, (s[k]).toNat - 48, true, ?_, .inl ⟨hk, HD.out, rfl, rfl, rfl⟩, ((HR.out.drewN _).step hk).drewN nq, (only_step b _ _).drewN nq⟩
      rw [← hv]
      rfl
    · have HD := Hid.mk hd
      rcases nodig_lo hd with hlo | hhi
      · have e1 : decide (((s[k]).toNat : Int) < 48) = true := by simp; omega
        clear hd
        go_wp2
        go_quiet (fail)
        go_wp2
        go_ret2
        exact ⟨k, 0, false, rfl, .inr ⟨fun _ => Bool.eq_false_iff.2 HD.out, rfl, rfl, rfl⟩, HR.out.drewN nq, (Only.refl _ w).drewN nq⟩
      · have e1 : decide (((s[k]).toNat : Int) < 48) = false := by simp; omega
        have e2 : decide (57 < ((s[k]).toNat : Int)) = true := by simp; omega
        clear hd
        go_wp2
        go_quiet (fail)
        go_wp2
        go_ret2
        exact ⟨k, 0, false, rfl, .inr ⟨fun _ => Bool.eq_false_iff.2 HD.out, rfl, rfl, rfl⟩, HR.out.drewN nq, (Only.refl _ w).drewN nq⟩
  · have e0 : (((k : Nat) : Int) == (s.size : Int)) = true := by simp; omega
    go_wp2
    go_quiet (fail)
    go_wp2
    go_ret2
    exact ⟨k, 0, false, rfl, .inr ⟨fun h => absurd h hk, rfl, rfl, rfl⟩, HR.out.drewN nq, (Only.refl _ w).drewN nq⟩

theorem isCell_iff (x : UInt8) : ((((x.toNat : Nat) : Int) == 46) || (((x.toNat : Nat) : Int) == 35)) = TX.isCell x := by
  unfold TX.isCell
  by_cases h1 : x.toNat = 46
  · simp [h1]
  · by_cases h2 : x.toNat = 35
    · simp [h2]
    · have n1 : ¬ ((x.toNat : Nat) : Int) = 46 := by omega
      have n2 : ¬ ((x.toNat : Nat) : Int) = 35 := by omega
      simp [h1, h2, n1, n2]

set_option maxHeartbeats 400000 in
theorem before_any (b k : Nat) (s : ByteArray) (w : World) (h : Rd w b s k) :
    Calls Tryd.prog 185 #[.pointer (some ⟨b, 0, none⟩)] w fun e w' =>
      e = .returned (.bool (TX.beforeCell (restS s k))) ∧ ∃ n, w' = w.drewN n := by
  have HR := Hid.mk h
  have c0 := h.c0
  have c1 := h.c1
  have fz := h.fz
  have hle := h.le
  clear h
  go_enter Tryd.func185, Tryd.ntmps185
  by_cases hk : k < s.size
  · have e0 : decide (((k : Nat) : Int) < (s.size : Int)) = true := by simp; omega
    have IC : Hid (∀ u, Calls Tryd.prog 187 #[.int .u8 ((s[k]).toNat : Int)] u fun e w' => e = .returned (.bool (TX.isCell s[k])) ∧ w' = u) := fun u => by rw [← isCell_iff]; exact isCell_any _ _
    go_wp2
    go_quiet ((go_at_call 187; exact Calls.quiet_of ((IC.out _).mono fun e w1 ⟨he, hw⟩ => ⟨he, 0, hw⟩)))
    go_wp2
    go_ret
    exact ⟨by rw [rest_cons hk]; rfl, nq, rfl⟩
  · have e0 : decide (((k : Nat) : Int) < (s.size : Int)) = false := by simp; omega
    go_wp2
    go_quiet (fail)
    go_wp2
    go_ret
    exact ⟨by rw [rest_nil (by omega)]; rfl, nq, rfl⟩

theorem DigW.more {s : ByteArray} {k k' v : Nat} {ok : Bool} (h : DigW s k k' v ok) (j m : Nat) : TX.more (j + 1) m (restS s k) = if ok then TX.more j (10 * m + v) (restS s k') else (restS s k', m) := by
  rcases h with ⟨hk, h1, rfl, rfl, rfl⟩ | ⟨h1, rfl, rfl, h4⟩
  · rw [rest_cons hk]
    show (if TX.isDig s[k] then _ else _) = _
    rw [if_pos h1]
    rfl
  · rw [h4]
    by_cases hk : k < s.size
    · rw [rest_cons hk]
      show (if TX.isDig s[k] then _ else _) = _
      rw [h1 hk]
      rfl
    · rw [rest_nil (by omega)]
      rfl

theorem DigW.first {s : ByteArray} {k k' v : Nat} {ok : Bool} (h : DigW s k k' v ok) : TX.number (restS s k) = if ok then (if v = 0 then (restS s k', some 0) else ((TX.more 4 v (restS s k')).1, some (TX.more 4 v (restS s k')).2)) else (restS s k', none) := by
  rcases h with ⟨hk, h1, rfl, rfl, rfl⟩ | ⟨h1, rfl, rfl, h4⟩
  · rw [rest_cons hk, TX.number_cons, if_pos h1]
    have h2 := TX.isDig_lo h1
    by_cases h0 : (s[k]).toNat = 48
    · rw [if_pos h0, if_pos rfl, if_pos (by omega)]
    · rw [if_neg h0, if_pos rfl, if_neg (by omega)]
  · rw [h4]
    by_cases hk : k < s.size
    · rw [rest_cons hk, TX.number_cons, h1 hk]
      rfl
    · rw [rest_nil (by omega)]
      rfl

theorem DigW.lt {s : ByteArray} {k k' v : Nat} {ok : Bool} (h : DigW s k k' v ok) : v ≤ 9 ∧ (ok = false → v = 0) := by
  rcases h with ⟨hk, h1, rfl, rfl, rfl⟩ | ⟨h1, rfl, rfl, h4⟩
  · have h2 := TX.isDig_lo h1
    exact ⟨by omega, fun h => by cases h⟩
  · exact ⟨by omega, fun _ => rfl⟩

set_option maxHeartbeats 400000 in
/-- A number: what it is, and where it ends. -/
theorem rnumber_any (b k : Nat) (s : ByteArray) (w : World) (hs : s.size ≤ 2000000) (h : Rd w b s k) :
    Calls Tryd.prog 183 #[.pointer (some ⟨b, 0, none⟩)] w fun e w' =>
      ∃ (k' v : Nat) (ok : Bool), e = .returned (.tuple #[.int .i64 (v : Int), .bool ok]) ∧ TX.number (restS s k) = (restS s k', if ok then some v else none) ∧ v ≤ 99999 ∧ Rd w' b s k' ∧ Only (fun x => x = b) w w' := by
  have HR := Hid.mk h
  clear h
  go_enter Tryd.func183, Tryd.ntmps183
  go_wp2_with fail
  refine (digit_any b k s w hs HR.out).mono ?_
  rintro e w1 ⟨k1, v1, ok1, rfl, hd, hr1, ho1⟩
  have F1 := Hid.mk hd.first
  obtain ⟨hv9, hok⟩ := hd.lt
  have R1 := Hid.mk hr1
  have O1 := Hid.mk ho1
  clear hd hr1 ho1
  by_cases hv : v1 = 0
  · clear hok hv9
    have e0 : (((v1 : Nat) : Int) == 0) = true := by simp; omega
    have HV := Hid.mk hv
    clear hv
    go_wp2
    go_ret2
    refine ⟨k1, 0, ok1, rfl, ?_, by omega, R1.out, O1.out⟩
    rw [F1.out, HV.out]
    cases ok1 <;> rfl
  · cases ok1
    · exact absurd (hok rfl) hv
    · have e0 : (((v1 : Nat) : Int) == 0) = false := by simp; omega
      clear hok
      have F2 : Hid (TX.number (restS s k) = ((TX.more 4 v1 (restS s k1)).1, some (TX.more 4 v1 (restS s k1)).2)) := by
        unfold Hid
        rw [F1.out, if_pos rfl, if_neg hv]
      clear F1 hv
      go_wp2
      go_loopw [4, 16] (fun sn sj wr => ∃ m j kk : Nat, sn = .int .i64 (m : Int) ∧ sj = .int .i64 (j : Int) ∧ j ≤ 4 ∧ Rd wr b s kk ∧ Only (fun x => x = b) w wr ∧ TX.more (4 - j) m (restS s kk) = TX.more 4 v1 (restS s k1) ∧ m ≤ 99999 ∧ (j ≤ 3 → m ≤ 9999) ∧ (j ≤ 2 → m ≤ 999) ∧ (j ≤ 1 → m ≤ 99) ∧ (j = 0 → m ≤ 9)) (fun _ sj _ => 4 - (intOf sj).toNat)
      case atStart => exact ⟨v1, 0, k1, rfl, rfl, by omega, R1.out, O1.out, rfl, by omega, by omega, by omega, by omega, by omega⟩
      case round =>
        obtain ⟨m, j, kk, rfl, rfl, hj, hr, ho, hm, hb5, hb4, hb3, hb2, hb1⟩ := hrel
        obtain ⟨wo, rfl⟩ : ∃ x, x = wr := ⟨_, rfl⟩
        have HRO := Hid.mk hr
        have HO := Hid.mk ho
        have HM := Hid.mk hm
        have HB : Hid (m ≤ 99999 ∧ (j ≤ 3 → m ≤ 9999) ∧ (j ≤ 2 → m ≤ 999) ∧ (j ≤ 1 → m ≤ 99) ∧ (j = 0 → m ≤ 9)) := ⟨hb5, hb4, hb3, hb2, hb1⟩
        clear hr ho hm hb5 hb4 hb3 hb2 hb1
        by_cases hj4 : j < 4
        · have e1 : decide (((j : Nat) : Int) < 4) = true := by simp; omega
          go_wp2_with fail
          refine (digit_any b kk s wo hs HRO.out).mono ?_
          rintro e w3 ⟨k3, v3, ok3, rfl, hd, hr3, ho3⟩
          have hmore := hd.more (4 - j - 1) m
          rw [show 4 - j - 1 + 1 = 4 - j by omega] at hmore
          obtain ⟨hv9', _⟩ := hd.lt
          have R3 := Hid.mk hr3
          have O3 : Hid (Only (fun x => x = b) w w3) := HO.out.trans ho3 (fun _ _ h => h)
          have M3 := Hid.mk hmore
          clear hd hr3 ho3 hmore
          cases ok3
          · go_wp2
            go_ret2
            have hmm := M3.out
            rw [if_neg (by decide), HM.out] at hmm
            refine ⟨k3, m, true, rfl, ?_, HB.out.1, R3.out, O3.out⟩
            rw [F2.out, hmm]
            rfl
          · have hmn : m ≤ 9999 := HB.out.2.1 (by omega)
            go_wp2
            go_round
            case rel =>
              have hmm : TX.more (4 - j) m (restS s kk) = TX.more (4 - j - 1) (10 * m + v3) (restS s k3) := M3.out
              rw [HM.out] at hmm
              obtain ⟨_, b4, b3, b2, b1⟩ := HB.out
              refine ⟨10 * m + v3, j + 1, k3, by go_num, by go_num, by omega, R3.out, O3.out, ?_, by omega, by omega, by omega, by omega, by omega⟩
              rw [hmm, show 4 - (j + 1) = 4 - j - 1 by omega]
            case measure => simp [intOf]; omega
        · have e1 : decide (((j : Nat) : Int) < 4) = false := by simp; omega
          go_wp2
          go_ret2
          have hmm := HM.out
          rw [show 4 - j = 0 by omega] at hmm
          refine ⟨kk, m, true, rfl, ?_, HB.out.1, HRO.out, HO.out⟩
          rw [F2.out, ← hmm]
          rfl

end Go.Proofs.YtnkgpinadgacgaaDoor
