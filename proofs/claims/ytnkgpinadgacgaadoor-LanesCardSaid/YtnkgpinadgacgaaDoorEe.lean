/- Walks of the library's DeleteFunc over a set of cells, at each of the two functions it is given. -/
import Derived.Test.YtnkgpinadgacgaaDoorEd
namespace Go.Proofs.YtnkgpinadgacgaaDoor
open Go.RowKit Go.Maps M

/-- What is left of a set while some are struck. -/
def LeftOf (D : DataW Unit) (f0 p : Nat → Bool) (left : Lit → Bool) : Prop :=
  (∀ kl, Maps.has D kl = true → ∃ c : Nat, c < 36 ∧ kl = .int .i64 (c : Int)) ∧ ∀ c : Nat, c < 36 → Maps.has D (.int .i64 (c : Int)) = (f0 c && (left (.int .i64 (c : Int)) || !p c))

theorem LeftOf.start {D : DataW Unit} {f0 p : Nat → Bool} (h1 : ∀ kl, Maps.has D kl = true → ∃ c : Nat, c < 36 ∧ kl = .int .i64 (c : Int)) (h2 : ∀ c : Nat, c < 36 → Maps.has D (.int .i64 (c : Int)) = f0 c) : LeftOf D f0 p (Maps.has D) :=
  ⟨h1, fun c hc => by rw [h2 c hc]; cases f0 c <;> rfl⟩

theorem LeftOf.stays {D : DataW Unit} {f0 p : Nat → Bool} {left : Lit → Bool} {x : Nat} (h : LeftOf D f0 p left) (hp : p x = false) : LeftOf D f0 p (fun z => left z && !z.sameKey (.int .i64 (x : Int))) := by
  refine ⟨h.1, fun c hc => ?_⟩
  rw [h.2 c hc]
  show _ = (f0 c && ((left (.int .i64 (c : Int)) && !(Lit.int .i64 (c : Int)).sameKey (.int .i64 (x : Int))) || !p c))
  rw [sameKey_int]
  by_cases e : c = x
  · subst e; rw [hp]; simp
  · have e2 : (c == x) = false := by simpa using e
    rw [e2]; simp

theorem LeftOf.struck {D : DataW Unit} {f0 p : Nat → Bool} {left : Lit → Bool} {x : Nat} (h : LeftOf D f0 p left) (hp : p x = true) : LeftOf (D.del (.int .i64 (x : Int))) f0 p (fun z => left z && !z.sameKey (.int .i64 (x : Int))) := by
  refine ⟨fun kl hkl => ?_, fun c hc => ?_⟩
  · by_cases e : kl = .int .i64 (x : Int)
    · rw [e, has_del_same] at hkl; cases hkl
    · rw [has_del_other e] at hkl
      exact h.1 kl hkl
  · show _ = (f0 c && ((left (.int .i64 (c : Int)) && !(Lit.int .i64 (c : Int)).sameKey (.int .i64 (x : Int))) || !p c))
    rw [sameKey_int]
    by_cases e : c = x
    · subst e; rw [has_del_same, hp]; simp
    · have e2 : (c == x) = false := by simpa using e
      rw [has_del_other (by intro hh; injection hh with _ hh; exact e (by omega)), h.2 c hc, e2]; simp

set_option maxRecDepth 100000 in
set_option maxHeartbeats 4000000 in
theorem delEnd_any (T1 b : Nat) (f0 p : Nat → Bool) (w : World) (hc : CellSet w b f0)
    (hcl : ∀ c : Nat, c < 36 → f0 c = true → ∀ u : World, Only (fun k => k = b) w u → Calls Tryd.prog 161 #[.int .i64 (c : Int), .agg #[], .pointer (some ⟨T1, 0, none⟩)] u fun e u' => e = .returned (.bool (p c)) ∧ Below u.heap.size u u') :
    Calls Tryd.prog 160 #[.map (some b), .func (.func 161) #[] #[.pointer (some ⟨T1, 0, none⟩)]] w fun e w' => e = .returned (.tuple #[]) ∧ CellSet w' b (fun c => f0 c && !p c) ∧ Only (fun k => k = b) w w' := by
  obtain ⟨D, hD, hk, hDf⟩ := hc
  have HCL := Hid.mk hcl
  have HD := Hid.mk hD
  have HL0 := Hid.mk (LeftOf.start (p := p) hk hDf)
  have HDF := Hid.mk hDf
  have hbl : b < w.heap.size := own_map_lt hD
  clear hcl hD hk hDf
  go_enter Tryd.func160, Tryd.ntmps160
  go_wp2_with (first
    | (at_range; refine wpList_range_own (H := Unit) _ rfl _ 166 rfl 3 171 Tryd.lawInt Tryd.underlying166 unitElem b (Maps.size D) D rfl HD.out ?_; intro w1 hrg hg1 hs1)
    | go_in)
  go_frame
  have HRG := Hid.mk hrg
  have O1 : Hid (Only (fun k => k = b) w w1) := ⟨hg1.os, hg1.tape, hg1.output, by omega, fun k hk _ => hg1.block k hk (by simp)⟩
  clear hrg hg1 hs1
  go_loopw [4] (fun _ wr => ∃ (left : Lit → Bool) (cnt : Nat) (D2 : DataW Unit), wr.ranges Tryd.prog 3 (unitElem (H := Unit)) b w.heap.size (Maps.size D) D2 left cnt ∧ LeftOf D2 f0 p left ∧ Only (fun k => k = b) w wr) (fun _ wr => wr.rangeLeft b w.heap.size)
  case atStart => exact ⟨_, _, D, HRG.out, HL0.out, O1.out⟩
  case round =>
    obtain ⟨w2, rfl⟩ : ∃ q, q = wr := ⟨_, rfl⟩
    obtain ⟨left, cnt, D2, hrg, hlo, ho⟩ := hrel
    have HO := Hid.mk ho
    have HLO := Hid.mk hlo
    have HRG2 := Hid.mk hrg
    clear hrg hlo ho
    go_wp2_with (first
      | (at_next; refine wpList_next_cells rfl _ rfl b w.heap.size (Maps.size D) D2 left cnt rfl HRG2.out HLO.out.1 ?_ ?_)
      | go_in)
    · intro hl0
      have HLL := Hid.mk hl0
      clear hl0
      go_wp2
      go_end0
      refine ⟨rfl, ⟨D2, own_fit HRG2.out.owns, HLO.out.1, fun c hc => ?_⟩, HO.out⟩
      rw [HLO.out.2 c hc, HLL.out]; rfl
    · intro x w3 cnt3 hx hxD hlx hrg3 hlt3 hg3 hs3 hen
      have hfx : f0 x = true := by
        have h := HLO.out.2 x hx
        rw [hxD] at h
        cases hh : f0 x with
        | true => rfl
        | false => rw [hh] at h; cases h
      have O3 : Hid (Only (fun k => k = b) w w3) := HO.out.trans (Only.of_grown hg3) (fun i hi e => absurd e (by omega))
      have HRG3 := Hid.mk hrg3
      have HFX := Hid.mk hfx
      have hlt3 := hlt3
      clear hrg3 hg3 hfx hlx hxD
      go_upto_region 3 with fail
      have O4 : Hid (Only (fun k => k = b) w (w3.alloc (Obj.cells #[] 171))) := O3.out.alloc _
      have RG4 : Hid ((w3.alloc (Obj.cells #[] 171)).ranges Tryd.prog 3 (unitElem (H := Unit)) b w.heap.size (Maps.size D) D2 (fun z => left z && !z.sameKey (.int .i64 (x : Int))) cnt3) := HRG3.out.alloc _
      clear hen
      go_wp2_with fail
      refine (HCL.out x hx HFX.out _ O4.out).mono ?_
      rintro e w5 ⟨rfl, hb5⟩
      have O5 : Hid (Only (fun k => k = b) w w5) := O4.out.trans (Only.of_below hb5 : Only (fun _ => False) _ w5) (fun _ _ e => e.elim)
      have RG5 : Hid (w5.ranges Tryd.prog 3 (unitElem (H := Unit)) b w.heap.size (Maps.size D) D2 (fun z => left z && !z.sameKey (.int .i64 (x : Int))) cnt3) := RG4.out.kept (row := none) ⟨hb5.os, hb5.tape, hb5.output, hb5.size, fun i hi _ => hb5.block i hi⟩ (by simp) (by simp)
      obtain ⟨pb, hpb⟩ : ∃ pb, pb = p x := ⟨_, rfl⟩
      rw [← hpb]
      have HPB := Hid.mk hpb
      clear hpb hb5
      cases pb with
      | true =>
        go_wp2_with (first
          | (at_delete; refine wpList_delete_ranges _ rfl _ _ 166 3 rfl 171 Tryd.lawInt Tryd.underlying166 _ b w.heap.size (Maps.size D) _ _ _ rfl RG5.out _ _ rfl (cellKey (by omega)) ?_; intro w6 cnt6 hrg6 hle6 hturn; go_frame)
          | go_in)
        rw [strike_twice] at hrg6
        go_roundw
        case rel => exact ⟨_, cnt6, _, hrg6, HLO.out.struck HPB.out.symm, O5.out.trans (Only.of_grown hturn.grown) (fun _ _ e => e)⟩
        case measure => rw [hrg6.left_eq, HRG2.out.left_eq]; omega
      | false =>
        go_wp2
        go_roundw
        case rel => exact ⟨_, cnt3, _, RG5.out, HLO.out.stays HPB.out.symm, O5.out⟩
        case measure => rw [RG5.out.left_eq, HRG2.out.left_eq]; exact hlt3

set_option maxRecDepth 100000 in
set_option maxHeartbeats 4000000 in
theorem delLead_any (T1 T2 T3 b : Nat) (f0 p : Nat → Bool) (w : World) (hc : CellSet w b f0)
    (hcl : ∀ c : Nat, c < 36 → f0 c = true → ∀ u : World, Only (fun k => k = b) w u → Calls Tryd.prog 162 #[.int .i64 (c : Int), .agg #[], .pointer (some ⟨T1, 0, none⟩), .pointer (some ⟨T2, 0, none⟩), .pointer (some ⟨T3, 0, none⟩)] u fun e u' => e = .returned (.bool (p c)) ∧ Below u.heap.size u u') :
    Calls Tryd.prog 160 #[.map (some b), .func (.func 162) #[] #[.pointer (some ⟨T1, 0, none⟩), .pointer (some ⟨T2, 0, none⟩), .pointer (some ⟨T3, 0, none⟩)]] w fun e w' => e = .returned (.tuple #[]) ∧ CellSet w' b (fun c => f0 c && !p c) ∧ Only (fun k => k = b) w w' := by
  obtain ⟨D, hD, hk, hDf⟩ := hc
  have HCL := Hid.mk hcl
  have HD := Hid.mk hD
  have HL0 := Hid.mk (LeftOf.start (p := p) hk hDf)
  have HDF := Hid.mk hDf
  have hbl : b < w.heap.size := own_map_lt hD
  clear hcl hD hk hDf
  go_enter Tryd.func160, Tryd.ntmps160
  go_wp2_with (first
    | (at_range; refine wpList_range_own (H := Unit) _ rfl _ 166 rfl 3 171 Tryd.lawInt Tryd.underlying166 unitElem b (Maps.size D) D rfl HD.out ?_; intro w1 hrg hg1 hs1)
    | go_in)
  go_frame
  have HRG := Hid.mk hrg
  have O1 : Hid (Only (fun k => k = b) w w1) := ⟨hg1.os, hg1.tape, hg1.output, by omega, fun k hk _ => hg1.block k hk (by simp)⟩
  clear hrg hg1 hs1
  go_loopw [4] (fun _ wr => ∃ (left : Lit → Bool) (cnt : Nat) (D2 : DataW Unit), wr.ranges Tryd.prog 3 (unitElem (H := Unit)) b w.heap.size (Maps.size D) D2 left cnt ∧ LeftOf D2 f0 p left ∧ Only (fun k => k = b) w wr) (fun _ wr => wr.rangeLeft b w.heap.size)
  case atStart => exact ⟨_, _, D, HRG.out, HL0.out, O1.out⟩
  case round =>
    obtain ⟨w2, rfl⟩ : ∃ q, q = wr := ⟨_, rfl⟩
    obtain ⟨left, cnt, D2, hrg, hlo, ho⟩ := hrel
    have HO := Hid.mk ho
    have HLO := Hid.mk hlo
    have HRG2 := Hid.mk hrg
    clear hrg hlo ho
    go_wp2_with (first
      | (at_next; refine wpList_next_cells rfl _ rfl b w.heap.size (Maps.size D) D2 left cnt rfl HRG2.out HLO.out.1 ?_ ?_)
      | go_in)
    · intro hl0
      have HLL := Hid.mk hl0
      clear hl0
      go_wp2
      go_end0
      refine ⟨rfl, ⟨D2, own_fit HRG2.out.owns, HLO.out.1, fun c hc => ?_⟩, HO.out⟩
      rw [HLO.out.2 c hc, HLL.out]; rfl
    · intro x w3 cnt3 hx hxD hlx hrg3 hlt3 hg3 hs3 hen
      have hfx : f0 x = true := by
        have h := HLO.out.2 x hx
        rw [hxD] at h
        cases hh : f0 x with
        | true => rfl
        | false => rw [hh] at h; cases h
      have O3 : Hid (Only (fun k => k = b) w w3) := HO.out.trans (Only.of_grown hg3) (fun i hi e => absurd e (by omega))
      have HRG3 := Hid.mk hrg3
      have HFX := Hid.mk hfx
      have hlt3 := hlt3
      clear hrg3 hg3 hfx hlx hxD
      go_upto_region 3 with fail
      have O4 : Hid (Only (fun k => k = b) w (w3.alloc (Obj.cells #[] 171))) := O3.out.alloc _
      have RG4 : Hid ((w3.alloc (Obj.cells #[] 171)).ranges Tryd.prog 3 (unitElem (H := Unit)) b w.heap.size (Maps.size D) D2 (fun z => left z && !z.sameKey (.int .i64 (x : Int))) cnt3) := HRG3.out.alloc _
      clear hen
      go_wp2_with fail
      refine (HCL.out x hx HFX.out _ O4.out).mono ?_
      rintro e w5 ⟨rfl, hb5⟩
      have O5 : Hid (Only (fun k => k = b) w w5) := O4.out.trans (Only.of_below hb5 : Only (fun _ => False) _ w5) (fun _ _ e => e.elim)
      have RG5 : Hid (w5.ranges Tryd.prog 3 (unitElem (H := Unit)) b w.heap.size (Maps.size D) D2 (fun z => left z && !z.sameKey (.int .i64 (x : Int))) cnt3) := RG4.out.kept (row := none) ⟨hb5.os, hb5.tape, hb5.output, hb5.size, fun i hi _ => hb5.block i hi⟩ (by simp) (by simp)
      obtain ⟨pb, hpb⟩ : ∃ pb, pb = p x := ⟨_, rfl⟩
      rw [← hpb]
      have HPB := Hid.mk hpb
      clear hpb hb5
      cases pb with
      | true =>
        go_wp2_with (first
          | (at_delete; refine wpList_delete_ranges _ rfl _ _ 166 3 rfl 171 Tryd.lawInt Tryd.underlying166 _ b w.heap.size (Maps.size D) _ _ _ rfl RG5.out _ _ rfl (cellKey (by omega)) ?_; intro w6 cnt6 hrg6 hle6 hturn; go_frame)
          | go_in)
        rw [strike_twice] at hrg6
        go_roundw
        case rel => exact ⟨_, cnt6, _, hrg6, HLO.out.struck HPB.out.symm, O5.out.trans (Only.of_grown hturn.grown) (fun _ _ e => e)⟩
        case measure => rw [hrg6.left_eq, HRG2.out.left_eq]; omega
      | false =>
        go_wp2
        go_roundw
        case rel => exact ⟨_, cnt3, _, RG5.out, HLO.out.stays HPB.out.symm, O5.out⟩
        case measure => rw [RG5.out.left_eq, HRG2.out.left_eq]; exact hlt3

end Go.Proofs.YtnkgpinadgacgaaDoor
