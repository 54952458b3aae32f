/- Walks of the small functions by which a raw yard is shaped and looked at: pick, free, without, right, may. -/
import Derived.Test.YtaldfpoolajoiaaDoorWo
import Derived.Test.YtaldfpoolajoiaaDoorMx
namespace Go.Proofs.YtaldfpoolajoiaaDoor
open Go.RowKit M

theorem ret_intx {a b : Int} (h : a = b) : Ending.returned (.int .i64 a) = .returned (.int .i64 b) := by rw [h]

set_option maxHeartbeats 400000 in
theorem pick_any (c : Int) (n : Nat) (w : World) (hn0 : 0 < n) (hn1 : n ≤ 20000) (hc : (Lit.int .i64 c).wf = true) :
    Calls Tryd.prog 28 #[.int .i64 c, .int .i64 n] w fun e w' => ∃ r : Nat, r < n ∧ e = .returned (.int .i64 r) ∧ w' = w := by
  have hb : -9223372036854775808 ≤ c ∧ c ≤ 9223372036854775807 := by simpa [Lit.wf, IntKind.min, IntKind.max, IntKind.signed, IntKind.bits] using hc
  clear hc
  obtain ⟨h1, h2⟩ := hb
  have hnz : ((n : Int) == 0) = false := by simp; omega
  by_cases h0 : c < 0
  · have q0 := Int.emod_nonneg (-(c + 1)) (show (n : Int) ≠ 0 by omega)
    have q1 := Int.emod_lt_of_pos (-(c + 1)) (show (0 : Int) < n by omega)
    have q2 : -(c + 1).tmod n = (-(c + 1)) % n := by rw [← Int.neg_tmod, Int.tmod_eq_emod_of_nonneg (by omega)]
    obtain ⟨r, hr⟩ := Int.eq_ofNat_of_zero_le q0
    have H := Hid.mk (show r < n ∧ -(c + 1).tmod n = (r : Int) from ⟨by omega, by rw [q2, hr]⟩)
    clear q0 q1 q2 hr
    go_enter Tryd.func28, Tryd.ntmps28
    go_wp2
    go_ret
    exact ⟨r, H.out.1, ret_intx H.out.2, rfl⟩
  · have q0 := Int.emod_nonneg c (show (n : Int) ≠ 0 by omega)
    have q1 := Int.emod_lt_of_pos c (show (0 : Int) < n by omega)
    obtain ⟨r, hr⟩ := Int.eq_ofNat_of_zero_le q0
    have H := Hid.mk (show r < n ∧ c % n = (r : Int) from ⟨by omega, hr⟩)
    clear q0 q1 hr
    go_enter Tryd.func28, Tryd.ntmps28
    go_wp2
    go_ret
    exact ⟨r, H.out.1, ret_intx H.out.2, rfl⟩

theorem ints_push (L : List Int) (x : Int) : ints L ++ [.int .i64 x] = ints (L ++ [x]) := by simp [ints]

set_option maxRecDepth 100000 in
set_option maxHeartbeats 1000000 in
theorem kfree_any (ro co bu : Int) (cs : ByteArray) (ca : Value) (w : World) (hs : cs.size ≤ 36) :
    Calls Tryd.prog 27 #[.agg #[.int .i64 ro, .int .i64 co, .string cs, ca, .int .i64 bu]] w fun e w' =>
      ∃ v, e = .returned v ∧ w'.ownsRow w.heap.size 3 1 v (freeTo cs cs.size).length (ints (freeTo cs cs.size)) ∧ Below w.heap.size w w' := by
  go_enter Tryd.func27, Tryd.ntmps27
  go_wp2
  have hB0 : Hid (Below w.heap.size w (w.alloc (Obj.cells #[Value.int IntKind.i64 ro, Value.int IntKind.i64 co, Value.string cs, ca, Value.int IntKind.i64 bu] 24))) := (Below.refl _ w).alloc (Nat.le_refl _) _
  have y0 : ∀ o, (w.alloc (Obj.cells #[Value.int IntKind.i64 ro, Value.int IntKind.i64 co, Value.string cs, ca, Value.int IntKind.i64 bu] 24)).cell? ⟨w.heap.size, o, none⟩ = #[Value.int .i64 ro, .int .i64 co, .string cs, ca, .int .i64 bu][o]? := by
    intro o; go_simp
  have hz0 : (w.alloc (Obj.cells #[Value.int IntKind.i64 ro, Value.int IntKind.i64 co, Value.string cs, ca, Value.int IntKind.i64 bu] 24)).heap.size = w.heap.size + 1 := by simp
  generalize w.alloc (Obj.cells #[Value.int IntKind.i64 ro, Value.int IntKind.i64 co, Value.string cs, ca, Value.int IntKind.i64 bu] 24) = w1 at *
  go_loopw [3, 4] (fun v s wr => ∃ k : Nat, k ≤ cs.size ∧ s = .int .i64 k ∧ wr.ownsRow (w.heap.size + 1) 3 1 v (freeTo cs k).length (ints (freeTo cs k)) ∧ Below (w.heap.size + 1) w1 wr) (fun _ s _ => cs.size - (intOf s).toNat)
  case atStart => exact ⟨0, Nat.zero_le _, rfl, own_nil _ _ _, Below.refl _ _⟩
  case round =>
    obtain ⟨k, hk, rfl, hown, hbr⟩ := hrel
    have y1 : ∀ o, wr.cell? ⟨w.heap.size, o, none⟩ = #[Value.int .i64 ro, .int .i64 co, .string cs, ca, .int .i64 bu][o]? := fun o => (hbr.cell (p := ⟨w.heap.size, o, none⟩) (by show w.heap.size < _; omega)).trans (y0 o)
    have hlen := freeTo_len cs k
    have hszr := hbr.size
    have HO := Hid.mk hown
    have HB := Hid.mk hbr
    clear hown hbr y0
    by_cases hlt : k < cs.size
    · have hin := freeB_in (cs := cs) (c := (k : Int)) (by omega) (by omega)
      simp only [Int.toNat_natCast] at hin
      by_cases hf : freeB cs k = true
      · have hb : ((cs[k].toNat : Int) == 46) = true := by rw [← hin]; exact hf
        have e3 : freeTo cs (k + 1) = freeTo cs k ++ [(k : Int)] := by rw [freeTo, if_pos hf]
        have E3 := Hid.mk e3
        clear hin hf e3
        go_wp2_with (at_builtin; go_must (refine wpList_push rfl _ _ 26 rfl (w.heap.size + 1) 3 _ _ Tryd.underlying26 Tryd.infoInt rfl _ _ _ rfl (by exact own_below HO.out ((Below.refl _ _).alloc (Nat.le_refl _) _)) _ _ (.int .i64 (k : Int)) rfl (by go_simp) rfl (by unfold maxLen; omega) (by omega) (by simp; omega) ?_))
        intro g cap w3 ho3 hg3
        have hb3 := Hid.mk (grown_below (own_below HO.out ((Below.refl _ _).alloc (Nat.le_refl _) _)) hg3 (by simp; omega))
        have HO3 := Hid.mk ho3
        clear ho3 hg3
        go_wp2
        go_roundw
        case rel => exact ⟨k + 1, by omega, by go_num, by rw [E3.out]; simpa [ints] using HO3.out, HB.out.trans (((Below.refl _ _).alloc (by omega) _).trans hb3.out)⟩
        case measure => simp [intOf]; omega
      · have hb : ((cs[k].toNat : Int) == 46) = false := by rw [← hin]; simpa using hf
        have E3 := Hid.mk (show freeTo cs (k + 1) = freeTo cs k by rw [freeTo, if_neg hf])
        clear hin hf
        go_wp2
        go_roundw
        case rel => exact ⟨k + 1, by omega, by go_num, by rw [E3.out]; exact HO.out, HB.out⟩
        case measure => simp [intOf]; omega
    · have hd : Hid (k = cs.size) := by show k = cs.size; omega
      go_wp2
      go_ret
      exact ⟨u3, rfl, by rw [← hd.out]; exact own_base HO.out (by omega), hB0.out.trans (HB.out.mono (by omega))⟩

set_option maxRecDepth 100000 in
set_option maxHeartbeats 1000000 in
theorem without_any (g cap base : Nat) (L : List Int) (i : Nat) (w : World) (hL : L.length ≤ 36) (hi : i < L.length) (ho : w.ownsRow base 3 1 (.slice (some ⟨g, 0, none⟩) L.length cap) L.length (ints L)) :
    Calls Tryd.prog 57 #[.slice (some ⟨g, 0, none⟩) L.length cap, .int .i64 i] w fun e w' =>
      ∃ v, e = .returned v ∧ w'.ownsRow w.heap.size 3 1 v (woTo L i L.length).length (ints (woTo L i L.length)) ∧ Below w.heap.size w w' := by
  have HL := Hid.mk ho
  clear ho
  go_enter Tryd.func57, Tryd.ntmps57
  go_wp2
  go_loopw [5, 6] (fun v s wr => ∃ k : Nat, k ≤ L.length ∧ s = .int .i64 k ∧ wr.ownsRow w.heap.size 3 1 v (woTo L i k).length (ints (woTo L i k)) ∧ Below w.heap.size w wr) (fun _ s _ => L.length - (intOf s).toNat)
  case atStart => exact ⟨0, Nat.zero_le _, rfl, own_nil _ _ _, Below.refl _ _⟩
  case round =>
    obtain ⟨k, hk, rfl, hown, hbr⟩ := hrel
    have hlen := woTo_len L i k
    have hle : (woTo L i k).length ≤ 36 := by rw [hlen]; split <;> omega
    have hszr := hbr.size
    have HO := Hid.mk hown
    have HB := Hid.mk hbr
    have HLr := Hid.mk (own_below HL.out hbr)
    clear hown hbr hlen
    by_cases hlt : k < L.length
    · by_cases hki : k = i
      · have hb : ((k : Int) != (i : Int)) = false := by simp [hki]
        have E3 := Hid.mk (show woTo L i (k + 1) = woTo L i k by rw [woTo, if_pos hki])
        clear hki
        go_wp2
        go_roundw
        case rel => exact ⟨k + 1, by omega, by go_num, by rw [E3.out]; exact HO.out, HB.out⟩
        case measure => simp [intOf]; omega
      · have hb : ((k : Int) != (i : Int)) = true := by simp; omega
        have E3 := Hid.mk (show woTo L i (k + 1) = woTo L i k ++ [L.getD k 0] by rw [woTo, if_neg hki])
        clear hki
        have hx := own_cell HLr.out hlt
        rw [ints_at' hlt] at hx
        have hgl := (own_lt HLr.out).2
        go_wp2_with (at_builtin; go_must (refine wpList_push rfl _ _ 26 rfl w.heap.size 3 _ _ Tryd.underlying26 Tryd.infoInt rfl _ _ _ rfl (by exact own_below HO.out ((Below.refl _ _).alloc (Nat.le_refl _) _)) _ _ (.int .i64 (L.getD k 0)) rfl (by go_simp) rfl (by unfold maxLen; omega) (by omega) (by simp; omega) ?_))
        intro g' cap' w3 ho3 hg3
        have hb3 := Hid.mk (grown_below (own_below HO.out ((Below.refl _ _).alloc (Nat.le_refl _) _)) hg3 (by simp; omega))
        have HO3 := Hid.mk ho3
        clear ho3 hg3
        go_wp2
        go_roundw
        case rel => exact ⟨k + 1, by omega, by go_num, by rw [E3.out, ← ints_push, List.length_append, show L.getD k 0 = L[k] from by simp [List.getD, hlt]]; exact HO3.out, HB.out.trans (((Below.refl _ _).alloc (by omega) _).trans hb3.out)⟩
        case measure => simp [intOf]; omega
    · have hd : Hid (k = L.length) := by show k = L.length; omega
      go_wp2
      go_ret
      exact ⟨u5, rfl, by rw [← hd.out]; exact HO.out, HB.out⟩

set_option maxHeartbeats 400000 in
theorem right_any (ro co bu : Int) (cs : ByteArray) (a : Option Addr) (n cap : Nat) (fr to : Nat → Int) (w : World) (hs : cs.size ≤ maxLen) (hn : n ≤ maxLen) (hcap : n ≤ cap)
    (ha : 0 < n → ∃ b off, a = some ⟨b, off, none⟩ ∧ CartsIn w b off n fr to) (hck : checkM ro co cs n fr to bu = (0, 0)) :
    Calls Tryd.prog 26 #[.agg #[.int .i64 ro, .int .i64 co, .string cs, .slice a n cap, .int .i64 bu]] w fun e w' => e = .returned (.bool true) ∧ Below w.heap.size w w' := by
  go_enter Tryd.func26, Tryd.ntmps26
  go_wp2_with fail
  refine (check_any _ _ _ _ _ _ _ fr to _ hs hn hcap (by exact opt_below ha ((Below.refl _ _).alloc (Nat.le_refl _) _))).mono ?_
  rintro e w1 ⟨rfl, hb1⟩
  rw [hck]
  go_wp2
  go_ret
  exact ⟨rfl, ((Below.refl _ _).alloc (Nat.le_refl _) _).trans (hb1.mono (by simp))⟩

end Go.Proofs.YtaldfpoolajoiaaDoor
