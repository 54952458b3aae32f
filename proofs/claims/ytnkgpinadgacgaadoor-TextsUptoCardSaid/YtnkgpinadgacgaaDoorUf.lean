/- The document's numbers of a line. -/
import Derived.Test.YtnkgpinadgacgaaDoorUe
import Derived.Laws.OwnMore
namespace Go.Proofs.YtnkgpinadgacgaaDoor
open Go.RowKit Go.Deep M

def numF (acc : List Nat) (b : UInt8) : List Nat := if b = 32 then acc ++ [0] else acc.set (acc.length - 1) (10 * acc.getD (acc.length - 1) 0 + (b.toNat - 48))

/-- The numbers in the first bytes. -/
def numsB (s : ByteArray) (k : Nat) : List Nat := (s.data.toList.take k).foldl numF [0]

theorem numsB_succ {s : ByteArray} {k : Nat} (h : k < s.size) : numsB s (k + 1) = numF (numsB s k) s[k] := by
  unfold numsB
  have h' : k < s.data.toList.length := by rw [Array.length_toList]; exact h
  rw [List.take_succ_eq_append_getElem h', List.foldl_append]
  rfl

theorem numF_pos {acc : List Nat} (h : 1 ≤ acc.length) (b : UInt8) : 1 ≤ (numF acc b).length ∧ (numF acc b).length ≤ acc.length + 1 := by
  unfold numF
  by_cases hb : b = 32
  · rw [if_pos hb]; simp
  · rw [if_neg hb, List.length_set]; omega

theorem numsB_len (s : ByteArray) : ∀ k, k ≤ s.size → 1 ≤ (numsB s k).length ∧ (numsB s k).length ≤ k + 1
  | 0, _ => ⟨Nat.le_refl _, Nat.le_refl _⟩
  | k + 1, h => by
    have ih := numsB_len s k (by omega)
    have h2 := numF_pos ih.1 (s[k]'h)
    rw [numsB_succ h]
    omega

def numLV (L : List Nat) : List Value := L.map fun n : Nat => Value.int .i64 (n : Int)

set_option maxHeartbeats 1000000 in
theorem numbers_any (s : ByteArray) (w : World) (hs : s.size ≤ 2000000) (hd : ∀ i (h : i < s.size), s[i] = 32 ∨ TX.isDig s[i] = true) (hB : ∀ k, k ≤ s.size → ∀ n ∈ numsB s k, n ≤ 1000000) :
    Calls Tryd.prog 100 #[.string s] w fun e w' => ∃ g cap, e = .returned (.slice (some ⟨g, 0, none⟩) (numsB s s.size).length cap) ∧ w'.ownsRow w.heap.size 3 1 (.slice (some ⟨g, 0, none⟩) (numsB s s.size).length cap) (numsB s s.size).length (numLV (numsB s s.size)) ∧ Below w.heap.size w w' := by
  go_enter Tryd.func100, Tryd.ntmps100
  have HD := Hid.mk hd
  have HBD := Hid.mk hB
  clear hd hB
  have hown0 : (w.alloc (.cells #[.int .i64 0] 3)).ownsRow w.heap.size 3 1 (.slice (some ⟨w.heap.size, 0, none⟩) 1 1) 1 [.int .i64 0] := own_built w _ _ _ rfl
  have HO0 := Hid.mk hown0
  have B0 := Hid.mk ((Below.refl _ w).alloc (Nat.le_refl _) (.cells #[.int .i64 0] 3))
  clear hown0
  go_wp2
  go_loopw [3, 4, 5] (fun v si _ wr => ∃ (k g cap : Nat), k ≤ s.size ∧ si = .int .i64 (k : Int) ∧ v = .slice (some ⟨g, 0, none⟩) (numsB s k).length cap ∧ wr.ownsRow w.heap.size 3 1 (.slice (some ⟨g, 0, none⟩) (numsB s k).length cap) (numsB s k).length (numLV (numsB s k)) ∧ Below w.heap.size w wr) (fun _ si _ _ => s.size - (intOf si).toNat)
  case atStart => exact ⟨0, w.heap.size, 1, Nat.zero_le _, rfl, rfl, HO0.out, B0.out⟩
  case round =>
    obtain ⟨k, g, cap, hk, rfl, rfl, hown, hbr⟩ := hrel
    obtain ⟨hl1, hl2⟩ := numsB_len s k hk
    have hszr := hbr.size
    have hcap := own_cap hown
    have hgl := own_lt hown
    have HO := Hid.mk hown
    have HB := Hid.mk hbr
    by_cases hlt : k < s.size
    · have e1 : decide ((k : Int) < (s.size : Int)) = true := by simp; omega
      have hsucc := numsB_succ hlt
      have hlen2 := numF_pos hl1 s[k]
      by_cases hn : s[k] = 32
      · have e2 : (((s[k].toNat : Nat) : Int) == 32) = true := byte_eq (d := 32) hn
        have hF : numsB s (k + 1) = numsB s k ++ [0] := by
          rw [hsucc]
          unfold numF
          rw [if_pos hn]
        have E3 := Hid.mk hF
        clear hn hF hsucc hlen2 hown hbr
        go_wp2_with (at_builtin; go_must (refine wpList_push rfl _ _ 26 rfl w.heap.size 3 _ _ Tryd.underlying26 Tryd.infoInt rfl _ _ _ rfl (by exact own_below HO.out ((Below.refl _ _).alloc (Nat.le_refl _) _)) _ _ (.int .i64 0) rfl (by go_simp) rfl (by unfold maxLen; omega) (by omega) (by simp; omega) ?_))
        intro g3 cap3 w3 ho3 hg3
        have hb3 := Hid.mk (grown_below (own_below HO.out ((Below.refl _ _).alloc (Nat.le_refl _) _)) hg3 (by simp; omega))
        have HO3 := Hid.mk ho3
        clear ho3 hg3
        go_wp2
        go_roundw
        case rel => exact ⟨k + 1, g3, cap3, by omega, by go_num, by rw [E3.out, List.length_append]; rfl, by rw [E3.out]; simpa [numLV] using HO3.out, HB.out.trans (((Below.refl _ _).alloc (by omega) _).trans hb3.out)⟩
        case measure => simp [intOf]; omega
      · have e2 : (((s[k].toNat : Nat) : Int) == 32) = false := byte_ne (d := 32) hn
        have hdig : TX.isDig s[k] = true := (HD.out k hlt).resolve_left hn
        obtain ⟨hlo, hhi⟩ := TX.isDig_lo hdig
        have hF : numsB s (k + 1) = (numsB s k).set ((numsB s k).length - 1) (10 * (numsB s k).getD ((numsB s k).length - 1) 0 + (s[k].toNat - 48)) := by
          rw [hsucc]
          unfold numF
          rw [if_neg hn]
        have E3 := Hid.mk hF
        have hLlt : (numsB s k).length - 1 < (numsB s k).length := by omega
        have hLi : ((numsB s k).length : Int) - 1 = (((numsB s k).length - 1 : Nat) : Int) := by omega
        obtain ⟨q, hq⟩ : ∃ q, q = (numsB s k).getD ((numsB s k).length - 1) 0 := ⟨_, rfl⟩
        have hq2 : q = (numsB s k)[(numsB s k).length - 1] := by
          rw [hq, List.getD_eq_getElem?_getD, List.getElem?_eq_getElem hLlt]
          rfl
        have hqb : q ≤ 1000000 := by
          rw [hq2]
          exact HBD.out k hk _ (List.getElem_mem _)
        have hcell : wr.cell? ⟨g, (numsB s k).length - 1, none⟩ = some (.int .i64 (q : Int)) := by
          rw [own_cell hown hLlt]
          unfold numLV
          rw [List.getElem?_map, List.getElem?_eq_getElem hLlt, hq2]
          rfl
        have hfr : wr.frozen? ⟨g, (numsB s k).length - 1, none⟩ = false := own_frozen hown _
        have hLcap : (numsB s k).length - 1 < cap := by omega
        have hdel : ((s[k].toNat : Nat) : Int) - 48 = ((s[k].toNat - 48 : Nat) : Int) := by omega
        have HQ := Hid.mk hq
        clear hn hF hsucc hlen2 hown hbr hq hq2
        go_wp2
        go_region
        go_wp2
        go_roundw
        case rel =>
          refine ⟨k + 1, g, cap, hlt, by go_num, by rw [E3.out, List.length_set], ?_, (HB.out.setCell (p := ⟨g, _, none⟩) hgl.1 _).drew⟩
          have h1 := (HO.out.stored ((numsB s k).length - 1) (.int .i64 (10 * (q : Int) + ((s[k].toNat - 48 : Nat) : Int)))).1
          rw [E3.out, List.length_set, ← HQ.out]
          have e : numLV ((numsB s k).set ((numsB s k).length - 1) (10 * q + (s[k].toNat - 48))) = (numLV (numsB s k)).set ((numsB s k).length - 1) (.int .i64 (10 * (q : Int) + ((s[k].toNat - 48 : Nat) : Int))) := by
            unfold numLV
            rw [List.map_set]
            simp
          rw [e]
          exact h1
        case measure => simp [intOf]; omega
    · have e1 : decide ((k : Int) < (s.size : Int)) = false := by simp; omega
      have hd : Hid (k = s.size) := by show k = s.size; omega
      clear hown hbr
      go_wp2
      go_ret
      exact ⟨g, cap, by rw [← hd.out]; rfl, by rw [← hd.out]; exact HO.out, HB.out⟩

end Go.Proofs.YtnkgpinadgacgaaDoor
