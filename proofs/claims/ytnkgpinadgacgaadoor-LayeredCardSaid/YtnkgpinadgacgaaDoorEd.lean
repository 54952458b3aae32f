/- Walks of leadsInto, and of what it calls: the library's ContainsFunc and IndexFunc over a list of cells. -/
import Derived.Test.YtnkgpinadgacgaaDoorEc
namespace Go.Proofs.YtnkgpinadgacgaaDoor
open Go.RowKit Go.Maps M

set_option maxRecDepth 100000 in
set_option maxHeartbeats 2000000 in
theorem lead1_any (z b2 B : Nat) (f2 : Nat → Bool) (w : World) (hz : z < 36) (hB : w.cell? ⟨B, 0, none⟩ = some (.map (some b2))) (hc : CellSet w b2 f2) :
    Calls Tryd.prog 199 #[.int .i64 (z : Int), .pointer (some ⟨B, 0, none⟩)] w fun e w' => e = .returned (.bool (f2 z)) ∧ Below w.heap.size w w' := by
  have HC := Hid.mk hc
  clear hc
  go_enter Tryd.func199, Tryd.ntmps199
  go_wp2_with (first
    | (at_lookup; refine wpList_look_cell rfl _ _ rfl b2 f2 rfl HC.out z hz rfl ?_)
    | go_in)
  go_ret
  exact ⟨rfl, (Below.refl _ _).alloc (Nat.le_refl _) _⟩

/-- A list of cells somewhere in memory. -/
def CellsAt (w : World) (a : Option Addr) (L : List Nat) : Prop := 0 < L.length → ∃ g, a = some ⟨g, 0, none⟩ ∧ ∀ j, j < L.length → w.cell? ⟨g, j, none⟩ = some (.int .i64 (L.getD j 0 : Nat))

theorem CellsAt.below {w w' : World} {a : Option Addr} {L : List Nat} (h : CellsAt w a L) (hb : Below w.heap.size w w') : CellsAt w' a L := fun hp => by
  obtain ⟨g, ha, hc⟩ := h hp
  exact ⟨g, ha, fun j hj => cell_later hb (hc j hj)⟩

set_option maxRecDepth 100000 in
set_option maxHeartbeats 2000000 in
theorem indexFunc_any (a : Option Addr) (cap b2 B : Nat) (L : List Nat) (f2 : Nat → Bool) (w : World) (hn : L.length ≤ 100000) (hL : ∀ j, j < L.length → L.getD j 0 < 36) (ha : CellsAt w a L) (hB : w.cell? ⟨B, 0, none⟩ = some (.map (some b2))) (hc : CellSet w b2 f2) :
    Calls Tryd.prog 213 #[.slice a L.length cap, .func (.func 199) #[] #[.pointer (some ⟨B, 0, none⟩)]] w fun e w' => ∃ r : Int, e = .returned (.int .i64 r) ∧ (0 ≤ r ↔ L.any f2 = true) ∧ Below w.heap.size w w' := by
  have HC := Hid.mk hc
  have HA := Hid.mk ha
  have HL := Hid.mk hL
  have HB := Hid.mk hB
  clear hc ha hL hB
  go_enter Tryd.func213, Tryd.ntmps213
  go_wp2
  go_loopw [8] (fun v8 wr => ∃ k : Nat, v8 = .int .i64 k ∧ k ≤ L.length ∧ (∀ j, j < k → f2 (L.getD j 0) = false) ∧ Below w.heap.size w wr) (fun v8 _ => L.length - (intOf v8).toNat)
  case atStart => exact ⟨0, rfl, Nat.zero_le _, fun j hj => absurd hj (Nat.not_lt_zero j), Below.refl _ _⟩
  case round =>
    obtain ⟨w1, rfl⟩ : ∃ q, q = wr := ⟨_, rfl⟩
    obtain ⟨k, rfl, hk, hall, hbr⟩ := hrel
    have ALL := Hid.mk hall
    have HBR := Hid.mk hbr
    clear hall
    by_cases hlt : k < L.length
    · obtain ⟨g, rfl, hcs⟩ := HA.out (by omega)
      have d0 := cell_later hbr (hcs k hlt)
      obtain ⟨z, hz⟩ : ∃ z, z = L.getD k 0 := ⟨_, rfl⟩
      have hz36 : z < 36 := by rw [hz]; exact HL.out k hlt
      rw [← hz] at d0
      have HZ := Hid.mk hz
      clear hz hcs hbr
      go_wp2_with fail
      refine (lead1_any z b2 B f2 _ hz36 (cell_later HBR.out HB.out) (HC.out.below HBR.out)).mono ?_
      rintro e w2 ⟨rfl, hb2⟩
      have HB2 : Hid (Below w.heap.size w w2) := HBR.out.trans (hb2.mono HBR.out.size)
      obtain ⟨fb, hfb⟩ : ∃ fb, fb = f2 z := ⟨_, rfl⟩
      rw [← hfb]
      have HFB := Hid.mk hfb
      clear hfb hb2 d0
      cases fb with
      | true =>
        go_wp2
        go_ret
        refine ⟨_, rfl, ⟨fun _ => ?_, fun _ => by omega⟩, HB2.out⟩
        rw [List.any_eq_true]
        refine ⟨z, ?_, HFB.out.symm⟩
        rw [HZ.out, List.getD_eq_getElem?_getD, List.getElem?_eq_getElem hlt]
        exact List.getElem_mem hlt
      | false =>
        go_wp2
        go_roundw
        case rel =>
          refine ⟨k + 1, by go_num, by omega, fun j hj => ?_, HB2.out⟩
          by_cases e : j = k
          · rw [e, ← HZ.out]; exact HFB.out.symm
          · exact ALL.out j (by omega)
        case measure => simp [intOf]; omega
    · have hd : k = L.length := by omega
      subst hd
      go_wp2
      go_ret
      refine ⟨_, rfl, ⟨fun h => by omega, fun h => ?_⟩, HBR.out⟩
      rw [List.any_eq_true] at h
      obtain ⟨x, hx, hfx⟩ := h
      obtain ⟨j, hj, rfl⟩ := List.mem_iff_getElem.1 hx
      have h2 := ALL.out j hj
      rw [List.getD_eq_getElem?_getD, List.getElem?_eq_getElem hj] at h2
      rw [show (some L[j]).getD 0 = L[j] from rfl, hfx] at h2
      cases h2

set_option maxRecDepth 100000 in
set_option maxHeartbeats 2000000 in
theorem containsFunc_any (a : Option Addr) (cap b2 B : Nat) (L : List Nat) (f2 : Nat → Bool) (w : World) (hn : L.length ≤ 100000) (hL : ∀ j, j < L.length → L.getD j 0 < 36) (ha : CellsAt w a L) (hB : w.cell? ⟨B, 0, none⟩ = some (.map (some b2))) (hc : CellSet w b2 f2) :
    Calls Tryd.prog 198 #[.slice a L.length cap, .func (.func 199) #[] #[.pointer (some ⟨B, 0, none⟩)]] w fun e w' => e = .returned (.bool (L.any f2)) ∧ Below w.heap.size w w' := by
  go_enter Tryd.func198, Tryd.ntmps198
  go_wp2_with fail
  refine (indexFunc_any a cap b2 B L f2 w hn hL ha hB hc).mono ?_
  rintro e w2 ⟨r, rfl, hr, hb2⟩
  have HB2 := Hid.mk hb2
  have HR := Hid.mk hr
  clear hr hb2
  by_cases h0 : 0 ≤ r
  · have E := Hid.mk (HR.out.1 h0)
    clear hn hL ha hB hc
    go_wp2
    go_ret
    exact ⟨ret_bool E.out.symm, HB2.out⟩
  · have E : Hid (L.any f2 = false) := by
      unfold Hid
      cases hh : L.any f2 with
      | false => rfl
      | true => exact absurd (HR.out.2 hh) h0
    clear hn hL ha hB hc
    go_wp2
    go_ret
    exact ⟨ret_bool (by rw [E.out]; simpa using h0), HB2.out⟩

/-- A list of numbers that are all cells, as cells. -/
def natsOf (L : List Int) : List Nat := L.map Int.toNat

theorem natsOf_at {L : List Int} {k : Nat} {z : Nat} (hk : k < L.length) (h : L.getD k 0 = (z : Int)) : (natsOf L).getD k 0 = z := by
  unfold natsOf
  rw [List.getD_eq_getElem?_getD, List.getElem?_map, List.getElem?_eq_getElem hk]
  rw [List.getD_eq_getElem?_getD, List.getElem?_eq_getElem hk] at h
  have h2 : L[k] = (z : Int) := h
  simp [h2]

set_option maxRecDepth 100000 in
set_option maxHeartbeats 2000000 in
theorem leadsInto_any (ro co bu : Int) (cs : ByteArray) (ac : Option Addr) (mc cc : Nat) (f c S : Int) (bs bt n b2 x t : Nat) (R : Nat → RuleM) (f2 : Nat → Bool) (w : World) (hsd : SidesIn w) (r1 : 1 ≤ ro) (r2 : ro ≤ 6) (r3 : 1 ≤ co) (r4 : co ≤ 6) (hs : cs.size ≤ 36) (hsz : (cs.size : Int) = ro * co) (ht : t ≤ 1000) (hb : BansIn w bs bt cs.size n R)
    (hc : CellSet w b2 f2) (hx : x < cs.size) (hxf : freeB cs x = true) :
    Calls Tryd.prog 163 #[tripV ro co bu cs ac mc cc f c bs bt S, .map (some b2), .agg #[.int .i64 (x : Int), .int .i64 (t : Int)]] w fun e w' =>
      e = .returned (.bool (anyB (fun z => f2 z && goesM co cs n R x z t) cs.size)) ∧ Below w.heap.size w w' := by
  have HSD := Hid.mk hsd
  have HB := Hid.mk hb
  have HC := Hid.mk hc
  clear hsd hb hc
  unfold tripV
  go_enter Tryd.func163, Tryd.ntmps163
  go_upto_region 1 with fail
  have B0 : Hid (Below w.heap.size w (((w.alloc (Obj.cells #[Value.int IntKind.i64 ro, Value.int IntKind.i64 co, Value.string cs, Value.slice ac mc cc, Value.int IntKind.i64 bu, Value.int IntKind.i64 f, Value.int IntKind.i64 c, Value.map (some bs), Value.map (some bt), Value.int IntKind.i64 S] 156)).alloc (Obj.cells #[Value.map (some b2)] 166)).alloc (Obj.cells #[Value.int IntKind.i64 (x : Int), Value.int IntKind.i64 (t : Int)] 225))) := (((Below.refl _ w).alloc (Nat.le_refl _) _).alloc (by simp) _).alloc (by simp; omega) _
  have x0 : ∀ o, (((w.alloc (Obj.cells #[Value.int IntKind.i64 ro, Value.int IntKind.i64 co, Value.string cs, Value.slice ac mc cc, Value.int IntKind.i64 bu, Value.int IntKind.i64 f, Value.int IntKind.i64 c, Value.map (some bs), Value.map (some bt), Value.int IntKind.i64 S] 156)).alloc (Obj.cells #[Value.map (some b2)] 166)).alloc (Obj.cells #[Value.int IntKind.i64 (x : Int), Value.int IntKind.i64 (t : Int)] 225)).cell? ⟨w.heap.size, o, none⟩ = #[Value.int IntKind.i64 ro, Value.int IntKind.i64 co, Value.string cs, Value.slice ac mc cc, Value.int IntKind.i64 bu, Value.int IntKind.i64 f, Value.int IntKind.i64 c, Value.map (some bs), Value.map (some bt), Value.int IntKind.i64 S][o]? := by
    intro o; go_simp
  have x1 : (((w.alloc (Obj.cells #[Value.int IntKind.i64 ro, Value.int IntKind.i64 co, Value.string cs, Value.slice ac mc cc, Value.int IntKind.i64 bu, Value.int IntKind.i64 f, Value.int IntKind.i64 c, Value.map (some bs), Value.map (some bt), Value.int IntKind.i64 S] 156)).alloc (Obj.cells #[Value.map (some b2)] 166)).alloc (Obj.cells #[Value.int IntKind.i64 (x : Int), Value.int IntKind.i64 (t : Int)] 225)).cell? ⟨w.heap.size + 1, 0, none⟩ = some (.map (some b2)) := by go_simp
  have x2 : ∀ o, (((w.alloc (Obj.cells #[Value.int IntKind.i64 ro, Value.int IntKind.i64 co, Value.string cs, Value.slice ac mc cc, Value.int IntKind.i64 bu, Value.int IntKind.i64 f, Value.int IntKind.i64 c, Value.map (some bs), Value.map (some bt), Value.int IntKind.i64 S] 156)).alloc (Obj.cells #[Value.map (some b2)] 166)).alloc (Obj.cells #[Value.int IntKind.i64 (x : Int), Value.int IntKind.i64 (t : Int)] 225)).cell? ⟨w.heap.size + 1 + 1, o, none⟩ = #[Value.int .i64 (x : Int), .int .i64 (t : Int)][o]? := by
    intro o; go_simp
  have hz : (((w.alloc (Obj.cells #[Value.int IntKind.i64 ro, Value.int IntKind.i64 co, Value.string cs, Value.slice ac mc cc, Value.int IntKind.i64 bu, Value.int IntKind.i64 f, Value.int IntKind.i64 c, Value.map (some bs), Value.map (some bt), Value.int IntKind.i64 S] 156)).alloc (Obj.cells #[Value.map (some b2)] 166)).alloc (Obj.cells #[Value.int IntKind.i64 (x : Int), Value.int IntKind.i64 (t : Int)] 225)).heap.size = w.heap.size + 3 := by simp
  generalize (((w.alloc (Obj.cells #[Value.int IntKind.i64 ro, Value.int IntKind.i64 co, Value.string cs, Value.slice ac mc cc, Value.int IntKind.i64 bu, Value.int IntKind.i64 f, Value.int IntKind.i64 c, Value.map (some bs), Value.map (some bt), Value.int IntKind.i64 S] 156)).alloc (Obj.cells #[Value.map (some b2)] 166)).alloc (Obj.cells #[Value.int IntKind.i64 (x : Int), Value.int IntKind.i64 (t : Int)] 225)) = w0 at *
  have hzl : w.heap.size + 3 ≤ w0.heap.size := by omega
  have HX1 := Hid.mk x1
  clear hz
  go_wp2_with fail
  refine (nexts_any ro co bu cs ac mc cc f c S bs bt n x t R w0 (HSD.out.below B0.out) r1 r2 r3 r4 hs hx hxf (by omega) (HB.out.below B0.out)).mono ?_
  rintro e w4 ⟨v, rfl, hov, hb4⟩
  obtain ⟨L, hL⟩ : ∃ L, L = nxL ro co cs n R x t := ⟨_, rfl⟩
  rw [← hL] at hov
  obtain ⟨aL, cL, rfl, haL, _⟩ := own_form hov
  have hLn : L.length ≤ 5 := by
    rw [hL]
    unfold nxL
    exact Nat.le_trans (List.length_filter_le _ _) (mvL_len (ro := ro) (co := co) (cs := cs) (c := (x : Int))).1
  have LNAT : ∀ k, k < L.length → ∃ z : Nat, L.getD k 0 = z ∧ z < cs.size := fun k hk => nx_nat hxf (by rw [← hL]; exact at_mem hk)
  have LIFF : ∀ z : Nat, (z : Int) ∈ L ↔ goesM co cs n R x z t = true := fun z => by
    rw [hL]
    exact nx_mem r3 r4 hsz hx hxf
  obtain ⟨M, hM⟩ : ∃ M, M = natsOf L := ⟨_, rfl⟩
  have hMl : L.length = M.length := by rw [hM]; simp [natsOf]
  have HML : Hid (∀ j, j < M.length → M.getD j 0 < 36) := fun j hj => by
    obtain ⟨z, hz, hzs⟩ := LNAT j (by omega)
    rw [hM, natsOf_at (by omega) hz]; omega
  have HAT : Hid (CellsAt w4 aL M) := fun hp => by
    obtain ⟨g, rfl⟩ := haL (by omega)
    refine ⟨g, rfl, fun j hj => ?_⟩
    obtain ⟨z, hz, hzs⟩ := LNAT j (by omega)
    rw [own_cell hov (by omega), ints_at' (by omega), hz, hM, natsOf_at (by omega) hz]
  have RES : Hid (M.any f2 = anyB (fun z => f2 z && goesM co cs n R x z t) cs.size) := by
    unfold Hid
    rw [Bool.eq_iff_iff, anyB_iff, List.any_eq_true]
    constructor
    · rintro ⟨z, hz, hfz⟩
      rw [hM] at hz
      obtain ⟨y, hy, rfl⟩ := List.mem_map.1 hz
      obtain ⟨j, hj, e⟩ := List.mem_iff_getElem.1 hy
      obtain ⟨z2, hz2, hzs⟩ := LNAT j hj
      rw [List.getD_eq_getElem?_getD, List.getElem?_eq_getElem hj] at hz2
      have hz3 : y = (z2 : Int) := by rw [← e]; exact hz2
      subst hz3
      refine ⟨z2, hzs, ?_⟩
      rw [Bool.and_eq_true]
      exact ⟨by simpa using hfz, (LIFF z2).1 hy⟩
    · rintro ⟨z, hz, h⟩
      rw [Bool.and_eq_true] at h
      refine ⟨z, ?_, h.1⟩
      rw [hM]
      exact List.mem_map.2 ⟨(z : Int), (LIFF z).2 h.2, by simp⟩
  have BW4 : Hid (Below w.heap.size w w4) := B0.out.trans (hb4.mono (by omega))
  have hz4 := hb4.size
  have C4 : Hid (CellSet w4 b2 f2) := HC.out.below BW4.out
  have X4 : Hid (w4.cell? ⟨w.heap.size + 1, 0, none⟩ = some (.map (some b2))) := cell_later hb4 HX1.out
  rw [hMl]
  rw [hMl] at hLn
  clear hL hov hb4 haL LNAT LIFF hMl hM x0 x1 x2
  go_wp2_with fail
  refine (containsFunc_any aL cL b2 (w.heap.size + 1) M f2 w4 (by omega) HML.out HAT.out X4.out C4.out).mono ?_
  rintro e w5 ⟨rfl, hb5⟩
  have BW5 : Hid (Below w.heap.size w w5) := BW4.out.trans (hb5.mono (by omega))
  clear hb5
  go_wp2
  go_ret
  exact ⟨ret_bool RES.out, BW5.out⟩

end Go.Proofs.YtnkgpinadgacgaaDoor
