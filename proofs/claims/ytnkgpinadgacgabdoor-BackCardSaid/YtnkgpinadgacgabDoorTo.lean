/- yardkeep's bent: some text, no longer by more than a byte. -/
import Derived.Test.YtnkgpinadgacgabDoorTn
namespace Go.Proofs.YtnkgpinadgacgabDoor
open Go.RowKit Go.Shelf Go.Deep M

set_option maxRecDepth 100000 in
set_option maxHeartbeats 1000000 in
theorem bent_any (s : ByteArray) (xa xh xb : Int) (w : World) (hs : s.size ≤ 10000) (wa : (Lit.int .i64 xa).wf = true) (wh : (Lit.int .i64 xh).wf = true) (wb : (Lit.int .i64 xb).wf = true) :
    Calls Tryd.prog 26 #[.string s, .int .i64 xa, .int .i64 xh, .int .i64 xb] w fun e w' => ∃ T : ByteArray, e = .returned (.string T) ∧ T.size ≤ s.size + 1 ∧ Below w.heap.size w w' := by
  go_enter Tryd.func26, Tryd.ntmps26
  go_wp2_with fail
  refine (pick_any xb 256 w (by omega) (by omega) wb).mono ?_
  rintro e w1 ⟨r, hr, rfl, rfl⟩
  have hrI : (0 : Int) ≤ (r : Int) ∧ (r : Int) < 256 := by omega
  obtain ⟨hr0, hr1⟩ := hrI
  have hwr : IntKind.u8.wrap (r : Int) = (r : Int) := by rw [IntKind.wrap_u8]; omega
  have hcv : ∀ (a : Value) (hA : a = .int .u8 (r : Int)), (convert 83 9 (.slice (some ⟨w1.heap.size, 0, none⟩) 1 1)).run Tryd.prog (w1.alloc (.cells #[a] 5)) = .ok (.string ⟨#[UInt8.ofNat r]⟩) (w1.alloc (.cells #[a] 5)) := fun a hA => by
    subst hA
    refine run_convert_bytes_back (w1.alloc (.cells #[.int .u8 (r : Int)] 5)) 83 9 5 ⟨w1.heap.size, 0, none⟩ 1 [UInt8.ofNat r] Tryd.underlying83 Tryd.underlying5 Tryd.underlying9 (fun j hj => ?_)
    have hj0 : j = 0 := by simp at hj; omega
    subst hj0
    have hb := (box_new (w := w1) #[Value.int .u8 (r : Int)] 5).c 0
    have ht : (UInt8.ofNat r).toNat = r := by rw [UInt8.toNat_ofNat']; omega
    simp [Addr.add, ht]
  obtain ⟨K, hK⟩ : ∃ K : ByteArray, K = ⟨#[UInt8.ofNat r]⟩ := ⟨_, rfl⟩
  have hKs : K.size = 1 := by rw [hK]; rfl
  have hcv1 := hcv _ rfl
  rw [← hK] at hcv1
  clear hcv hK
  go_wp2_with fail
  refine (pick_any xa (s.size + 1) _ (by omega) (by omega) wa).mono ?_
  rintro e w2 ⟨q, hq, rfl, rfl⟩
  have BW : Hid (Below w1.heap.size w1 (w1.alloc (.cells #[.int .u8 (r : Int)] 5))) := (Below.refl _ w1).alloc (Nat.le_refl _) _
  clear hcv1 hwr
  generalize (w1.alloc (.cells #[.int .u8 (r : Int)] 5)) = w3 at *
  by_cases hz : s.toList = []
  · have hzE : s.toList.isEmpty = true := by rw [hz]; rfl
    have HZ := Hid.mk hz
    clear hz
    go_wp2
    go_ret
    exact ⟨_, rfl, by rw [ByteArray.size_append]; omega, BW.out⟩
  · have hzE : s.toList.isEmpty = false := by
      cases h : s.toList with
      | nil => exact absurd h hz
      | cons _ _ => rfl
    have HZ := Hid.mk hz
    clear hz
    by_cases hqs : q = s.size
    · have e0 : ((q : Int) == (s.size : Int)) = true := by rw [hqs]; simp
      have HQ := Hid.mk hqs
      clear hqs
      go_wp2
      go_ret
      exact ⟨_, rfl, by rw [ByteArray.size_append]; omega, BW.out⟩
    · have e0 : ((q : Int) == (s.size : Int)) = false := by simp; omega
      have hql : q < s.size := by omega
      have hqI : (q : Int) ≤ (s.size : Int) := by omega
      have hq1I : (q : Int) + 1 ≤ (s.size : Int) := by omega
      have e0n : ¬ (q : Int) = (s.size : Int) := by omega
      go_wp2_with fail
      refine (pick_any xh 3 _ (by omega) (by omega) wh).mono ?_
      rintro e w4 ⟨p, hp, rfl, rfl⟩
      by_cases hp0 : p = 0
      · have f0 : ((p : Int) == 0) = true := by rw [hp0]; rfl
        have HP := Hid.mk hp0
        clear hp0
        go_wp2
        go_quiet (fail)
        go_wp2
        go_ret
        refine ⟨_, rfl, ?_, ⟨BW.out.os, BW.out.tape, BW.out.output, BW.out.size, BW.out.block⟩⟩
        simp only [ByteArray.size_append, ByteArray.size_extract]
        omega
      · have f0 : ((p : Int) == 0) = false := by simp; omega
        by_cases hp1 : p = 1
        · have f1 : ((p : Int) == 1) = true := by rw [hp1]; rfl
          have HP := Hid.mk hp1
          clear hp1 hp0
          go_wp2
          go_quiet (fail)
          go_wp2
          go_ret
          refine ⟨_, rfl, ?_, ⟨BW.out.os, BW.out.tape, BW.out.output, BW.out.size, BW.out.block⟩⟩
          simp only [ByteArray.size_append, ByteArray.size_extract]
          omega
        · have f1 : ((p : Int) == 1) = false := by simp; omega
          clear hp1 hp0
          go_wp2
          go_quiet (fail)
          go_wp2
          go_ret
          refine ⟨_, rfl, ?_, ⟨BW.out.os, BW.out.tape, BW.out.output, BW.out.size, BW.out.block⟩⟩
          simp only [ByteArray.size_append, ByteArray.size_extract]
          omega

end Go.Proofs.YtnkgpinadgacgabDoor
