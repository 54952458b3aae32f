/- The document's lines of a text, its numbers of a line, its cell of a row and a column. -/
import Derived.Test.YtnkgpinadgacgaaDoorUd
namespace Go.Proofs.YtnkgpinadgacgaaDoor
open Go.RowKit Go.Deep M

theorem Tryd.infoStr : (Tryd.prog.info? 9).map (fun i => (i.zero, i.size, i.bytes)) = some (some (.string ⟨#[]⟩), 1, 16) := by kernel_rfl
theorem Tryd.strElem : Tryd.prog.underlying 139 = some (.slice 9) := by kernel_rfl

/-- The lines in the first bytes, and where the next begins. -/
def linesB (s : ByteArray) : Nat → List ByteArray × Nat
  | 0 => ([], 0)
  | k + 1 => if h : k < s.size then (if s[k] = 10 then ((linesB s k).1 ++ [s.extract (linesB s k).2 k], k + 1) else linesB s k) else linesB s k

theorem linesB_nl {s : ByteArray} {k : Nat} (h : k < s.size) (h1 : s[k] = 10) : linesB s (k + 1) = ((linesB s k).1 ++ [s.extract (linesB s k).2 k], k + 1) := by
  rw [linesB, dif_pos h, if_pos h1]
theorem linesB_no {s : ByteArray} {k : Nat} (h : k < s.size) (h1 : ¬ s[k] = 10) : linesB s (k + 1) = linesB s k := by
  rw [linesB, dif_pos h, if_neg h1]

theorem linesB_le (s : ByteArray) : ∀ k, (linesB s k).1.length ≤ k ∧ (linesB s k).2 ≤ k
  | 0 => ⟨Nat.le_refl _, Nat.le_refl _⟩
  | k + 1 => by
    have ih := linesB_le s k
    by_cases h : k < s.size
    · by_cases h1 : s[k] = 10
      · rw [linesB_nl h h1]
        exact ⟨by simp; omega, Nat.le_refl _⟩
      · rw [linesB_no h h1]; omega
    · rw [linesB, dif_neg h]; omega

def strs (L : List ByteArray) : List Value := L.map .string

set_option maxHeartbeats 1000000 in
theorem lines_any (s : ByteArray) (w : World) (hs : s.size ≤ 2000000) :
    Calls Tryd.prog 99 #[.string s] w fun e w' => ∃ v, e = .returned v ∧ w'.ownsRow w.heap.size 9 1 v (linesB s s.size).1.length (strs (linesB s s.size).1) ∧ Below w.heap.size w w' := by
  go_enter Tryd.func99, Tryd.ntmps99
  go_wp2
  go_loopw [3, 4, 5] (fun v sa si wr => ∃ k : Nat, k ≤ s.size ∧ si = .int .i64 (k : Int) ∧ sa = .int .i64 ((linesB s k).2 : Int) ∧ wr.ownsRow w.heap.size 9 1 v (linesB s k).1.length (strs (linesB s k).1) ∧ Below w.heap.size w wr) (fun _ _ si _ => s.size - (intOf si).toNat)
  case atStart => exact ⟨0, Nat.zero_le _, rfl, rfl, own_nil _ _ _, Below.refl _ _⟩
  case round =>
    obtain ⟨k, hk, rfl, rfl, hown, hbr⟩ := hrel
    obtain ⟨hle, hat⟩ := linesB_le s k
    have hszr := hbr.size
    have HO := Hid.mk hown
    have HB := Hid.mk hbr
    clear hown hbr
    by_cases hlt : k < s.size
    · have e1 : decide ((k : Int) < (s.size : Int)) = true := by simp; omega
      by_cases hn : s[k] = 10
      · have e2 : (((s[k].toNat : Nat) : Int) == 10) = true := byte_eq (d := 10) hn
        have E3 := Hid.mk (linesB_nl hlt hn)
        clear hn
        go_wp2_with (at_builtin; go_must (refine wpList_push rfl _ _ 139 rfl w.heap.size 9 _ _ Tryd.strElem Tryd.infoStr rfl _ _ _ rfl (by exact own_below HO.out ((Below.refl _ _).alloc (Nat.le_refl _) _)) _ _ (.string (s.extract (linesB s k).2 k)) rfl (by go_simp) rfl (by unfold maxLen; omega) (by omega) (by simp; omega) ?_))
        intro g cap w3 ho3 hg3
        have hb3 := Hid.mk (grown_below (own_below HO.out ((Below.refl _ _).alloc (Nat.le_refl _) _)) hg3 (by simp; omega))
        have HO3 := Hid.mk ho3
        clear ho3 hg3
        go_wp2
        go_roundw
        case rel => exact ⟨k + 1, by omega, by go_num, by rw [E3.out]; go_num, by rw [E3.out]; simpa [strs] using HO3.out, HB.out.trans (((Below.refl _ _).alloc (by omega) _).trans hb3.out)⟩
        case measure => simp [intOf]; omega
      · have e2 : (((s[k].toNat : Nat) : Int) == 10) = false := byte_ne (d := 10) hn
        have E3 := Hid.mk (linesB_no hlt hn)
        clear hn
        go_wp2
        go_roundw
        case rel => exact ⟨k + 1, by omega, by go_num, by rw [E3.out], by rw [E3.out]; exact HO.out, HB.out⟩
        case measure => simp [intOf]; omega
    · have e1 : decide ((k : Int) < (s.size : Int)) = false := by simp; omega
      have hd : Hid (k = s.size) := by show k = s.size; omega
      go_wp2
      go_ret
      exact ⟨_, rfl, by rw [← hd.out]; exact HO.out, HB.out⟩

theorem xcell_any (ro co r c : Nat) (cs ca bu : Value) (w : World) (hr : r ≤ 2000000) (hc : c ≤ 2000000) (hco : co ≤ 2000000) :
    Calls Tryd.prog 101 #[.agg #[.int .i64 (ro : Int), .int .i64 (co : Int), cs, ca, bu], .int .i64 (r : Int), .int .i64 (c : Int)] w fun e w' =>
      e = .returned (.int .i64 (TX.atF ro co r c)) ∧ Below w.heap.size w w' := by
  go_enter Tryd.func101, Tryd.ntmps101
  have hB0 : Hid (∀ o, Below w.heap.size w (w.alloc o)) := Hid.mk fun o => (Below.refl _ w).alloc (Nat.le_refl _) o
  have hmul : r * co ≤ 2000000 * 2000000 := Nat.mul_le_mul hr hco
  by_cases h1 : r < ro
  · have e1 : decide ((ro : Int) ≤ (r : Int)) = false := by simp; omega
    by_cases h2 : c < co
    · have e2 : decide ((co : Int) ≤ (c : Int)) = false := by simp; omega
      have hf : TX.atF ro co r c = ((r * co + c : Nat) : Int) := if_pos ⟨h1, h2⟩
      have HF := Hid.mk hf
      clear hf
      have m1 : (r : Int) * (co : Int) ≤ 4000000000000 := by
        rw [← Int.natCast_mul]
        omega
      have m2 : 0 ≤ (r : Int) * (co : Int) := by
        rw [← Int.natCast_mul]
        omega
      go_wp2
      go_ret
      exact ⟨by rw [HF.out, Int.natCast_add, Int.natCast_mul]; rfl, hB0.out _⟩
    · have e2 : decide ((co : Int) ≤ (c : Int)) = true := by simp; omega
      have hf : TX.atF ro co r c = -1 := if_neg (fun h => h2 h.2)
      have HF := Hid.mk hf
      clear hf
      go_wp2
      go_ret
      exact ⟨by rw [HF.out]; rfl, hB0.out _⟩
  · have e1 : decide ((ro : Int) ≤ (r : Int)) = true := by simp; omega
    have hf : TX.atF ro co r c = -1 := if_neg (fun h => h1 h.1)
    have HF := Hid.mk hf
    clear hf
    go_wp2
    go_ret
    exact ⟨by rw [HF.out]; rfl, hB0.out _⟩

end Go.Proofs.YtnkgpinadgacgaaDoor
