/- text.Write: a good yard as a text. -/
import Derived.Test.YtnkgpinadgacgaaDoorTl
namespace Go.Proofs.YtnkgpinadgacgaaDoor
open Go.RowKit Go.Shelf Go.Deep M

/-- The carts as pairs. -/
def pairsL (fr tt : Nat → Int) (m : Nat) : List (Int × Int) := (List.range m).map fun i => (fr i, tt i)

theorem rowsT_app (a : List (List UInt8)) (r : List UInt8) : TX.rowsT (a ++ [r]) = TX.rowsT a ++ (r ++ [10]) := by
  unfold TX.rowsT
  rw [List.flatMap_append]
  simp

theorem cartsT_app (C : Nat) (a : List (Int × Int)) (c : Int × Int) : TX.cartsT C (a ++ [c]) = TX.cartsT C a ++ TX.cartT C c := by
  unfold TX.cartsT
  rw [List.flatMap_append]
  simp

theorem chunk_take {C R j : Nat} {cs : List UInt8} (hj : j < R) : (TX.chunk C R cs).take (j + 1) = (TX.chunk C R cs).take j ++ [(cs.drop (j * C)).take C] := by
  have h : (TX.chunk C R cs)[j]? = some ((cs.drop (j * C)).take C) := by
    unfold TX.chunk
    rw [List.getElem?_map, List.getElem?_range hj]
    rfl
  rw [List.take_add_one, h]
  rfl

theorem pairs_take {fr tt : Nat → Int} {m j : Nat} (hj : j < m) : (pairsL fr tt m).take (j + 1) = (pairsL fr tt m).take j ++ [(fr j, tt j)] := by
  have h : (pairsL fr tt m)[j]? = some (fr j, tt j) := by
    unfold pairsL
    rw [List.getElem?_map, List.getElem?_range hj]
    rfl
  rw [List.take_add_one, h]
  rfl

theorem rowsT_len {C : Nat} : ∀ (q : List (List UInt8)), (∀ r ∈ q, r.length ≤ C) → (TX.rowsT q).length ≤ q.length * (C + 1)
  | [], _ => by simp [TX.rowsT]
  | r :: q, h => by
    have ih := rowsT_len q (fun x hx => h x (by simp [hx]))
    have h1 := h r (by simp)
    rw [TX.rowsT_cons, List.length_append, List.length_cons, List.length_cons, Nat.succ_mul]
    omega

theorem wrap_nat {n : Nat} (h : n ≤ 1000) : IntKind.i64.wrap ((n : Nat) : Int) = ((n : Nat) : Int) := by rw [IntKind.wrap_i64]; omega

/-- While a text is written: what was written, the yard's box, old memory. -/
structure Wr (w u : World) (Y : Array Value) (l : List UInt8) : Prop where
  i : IsB (w.heap.size + 1) (w.heap.size + 1) (Lib.byteCells l) u
  y : Box u w.heap.size Y
  b : Below w.heap.size w u
  z : w.heap.size + 1 + 1 ≤ u.heap.size

theorem Wr.step {w u u' : World} {Y : Array Value} {l l' : List UInt8} (h : Wr w u Y l) (hi : UsedB (w.heap.size + 1) (w.heap.size + 1) (Lib.byteCells l') u') (hb : Below (w.heap.size + 1) u u') : Wr w u' Y l' :=
  ⟨.inr hi, h.y.belowB hb (Nat.lt_succ_self _), h.b.trans (hb.mono (Nat.le_succ _)), Nat.le_trans h.z hb.size⟩

theorem Wr.below {w u u' : World} {Y : Array Value} {l : List UInt8} (h : Wr w u Y l) (hb : Below u.heap.size u u') : Wr w u' Y l :=
  ⟨isB_below h.i hb, h.y.only (Only.of_below (S := fun _ => False) hb) (fun e => e), h.b.trans (hb.mono (by have := h.z; omega)), Nat.le_trans h.z hb.size⟩

set_option maxRecDepth 100000 in
set_option maxHeartbeats 1000000 in
theorem twrite_any (R C U m g cc : Nat) (cs : ByteArray) (fr tt : Nat → Int) (w : World) (hT : Lib.TabBelow Tryd.prog w.heap.size w "internal/strconv.uint64pow10" .u64 Lib.pow10Tab)
    (hR : R ≤ 6) (hC1 : 1 ≤ C) (hC : C ≤ 6) (hU : U ≤ 99999) (hcs : cs.size = R * C) (hm : m ≤ 4) (hci : CartsIn w g 0 m fr tt) (hg : 0 < m → g < w.heap.size)
    (hin : ∀ i, i < m → 0 ≤ fr i ∧ fr i < 36 ∧ 0 ≤ tt i ∧ tt i < 36) :
    Calls Tryd.prog 93 #[.agg #[.int .i64 (R : Int), .int .i64 (C : Int), .string cs, .slice (some ⟨g, 0, none⟩) m cc, .int .i64 (U : Int)]] w fun e w' =>
      ∃ F : ByteArray, e = .returned (.string F) ∧ F.data.toList = TX.writeT R C cs.data.toList (pairsL fr tt m) U ∧ Below w.heap.size w w' := by
  have HT := Hid.mk hT
  have HCI := Hid.mk hci
  have HIN := Hid.mk hin
  have hRC : R * C ≤ 36 := Nat.mul_le_mul hR hC
  clear hT hci hin
  go_enter Tryd.func93, Tryd.ntmps93
  have V1 : Hid (Wr w ((w.alloc (.cells #[.int .i64 (R : Int), .int .i64 (C : Int), .string cs, .slice (some ⟨g, 0, none⟩) m cc, .int .i64 (U : Int)] 24)).alloc (.cells #[.pointer none, .slice none 0 0] 203)) #[.int .i64 (R : Int), .int .i64 (C : Int), .string cs, .slice (some ⟨g, 0, none⟩) m cc, .int .i64 (U : Int)] []) := by
    have h1 := Lib.IsBuilderF.of (Lib.fresh_isBuilder 203 5 (w.alloc (.cells #[.int .i64 (R : Int), .int .i64 (C : Int), .string cs, .slice (some ⟨g, 0, none⟩) m cc, .int .i64 (U : Int)] 24)))
    rw [show (w.alloc (.cells #[.int .i64 (R : Int), .int .i64 (C : Int), .string cs, .slice (some ⟨g, 0, none⟩) m cc, .int .i64 (U : Int)] 24)).heap.size = w.heap.size + 1 by simp] at h1
    exact ⟨h1, box_alloc (box_new _ _) _, ((Below.refl _ w).alloc (Nat.le_refl _) _).alloc (by simp) _, by simp⟩
  have TB : Hid (∀ u, Below w.heap.size w u → Lib.TabBelow Tryd.prog (w.heap.size + 1) u "internal/strconv.uint64pow10" .u64 Lib.pow10Tab) := fun u hu v hv => HT.out v (hu.trans (hv.mono (Nat.le_succ _)))
  go_wp2_with fail
  generalize ((w.alloc (.cells #[.int .i64 (R : Int), .int .i64 (C : Int), .string cs, .slice (some ⟨g, 0, none⟩) m cc, .int .i64 (U : Int)] 24)).alloc (.cells #[.pointer none, .slice none 0 0] 203)) = w1 at *
  refine (wstring_any (w.heap.size + 1) (w.heap.size + 1) _ headA w1 V1.out.i (by simp [Lib.byteCells, headA]; decide) (by have := V1.out.z; omega)).mono ?_
  rintro e w2 ⟨rfl, hi2, hb2, _⟩
  rw [bytes_app] at hi2
  have V2 : Hid (Wr w w2 #[.int .i64 (R : Int), .int .i64 (C : Int), .string cs, .slice (some ⟨g, 0, none⟩) m cc, .int .i64 (U : Int)] TX.headB) := V1.out.step hi2 hb2
  have y4 : w2.cell? ⟨w.heap.size, 4, none⟩ = some (.int .i64 (U : Int)) := V2.out.y.c 4
  clear hi2 hb2
  go_wp2_with fail
  have V3 : Hid (Wr w (w2.alloc (.cells #[.int .i64 (U : Int)] 3)) #[.int .i64 (R : Int), .int .i64 (C : Int), .string cs, .slice (some ⟨g, 0, none⟩) m cc, .int .i64 (U : Int)] TX.headB) := V2.out.below ((Below.refl _ w2).alloc (Nat.le_refl _) _)
  refine (wline_any (w.heap.size + 1) (w.heap.size + 1) w2.heap.size [U] TX.headB #[.int .i64 (U : Int)] (0, 0) _ (TB.out _ V3.out.b) V3.out.i (by have := V3.out.z; omega) (by simp [TX.headB]) (fun x hx => by rw [List.mem_singleton.1 hx]; omega) (heap_alloc_new w2 _) (by have := V2.out.z; omega) (fun j hj => by
    have : j = 0 := by simp at hj; omega
    subst this; rfl)).mono ?_
  rintro e w4 ⟨rfl, hi4, hb4, _⟩
  have V4 : Hid (Wr w w4 #[.int .i64 (R : Int), .int .i64 (C : Int), .string cs, .slice (some ⟨g, 0, none⟩) m cc, .int .i64 (U : Int)] (TX.headB ++ TX.lineT [U])) := V3.out.step hi4 hb4
  have y40 : w4.cell? ⟨w.heap.size, 0, none⟩ = some (.int .i64 (R : Int)) := V4.out.y.c 0
  clear hi4 hb4 y4
  go_wp2
  clear y40
  go_loopw [14] (fun sj wr => ∃ j : Nat, sj = .int .i64 (j : Int) ∧ j ≤ R ∧ Wr w wr #[.int .i64 (R : Int), .int .i64 (C : Int), .string cs, .slice (some ⟨g, 0, none⟩) m cc, .int .i64 (U : Int)] (TX.headB ++ TX.lineT [U] ++ TX.rowsT ((TX.chunk C R cs.data.toList).take j)) ∧ (TX.rowsT ((TX.chunk C R cs.data.toList).take j)).length ≤ 7 * j) (fun sj _ => R - (intOf sj).toNat)
  case atStart => exact ⟨0, rfl, Nat.zero_le _, by simpa [TX.rowsT] using V4.out, by simp [TX.rowsT]⟩
  case round =>
    obtain ⟨j, rfl, hj, hv, hlen⟩ := hrel
    obtain ⟨wo, rfl⟩ : ∃ x, x = wr := ⟨_, rfl⟩
    have VO := Hid.mk hv
    have hln2 : (TX.lineT [U]).length ≤ 21 := by
      have := dec_len19 (n := U) (by omega)
      simp [TX.lineT, TX.sep]; omega
    clear hv
    by_cases hlt : j < R
    · have e1 : decide (((j : Nat) : Int) < (R : Int)) = true := by simp; omega
      have y1 : wo.cell? ⟨w.heap.size, 1, none⟩ = some (.int .i64 (C : Int)) := VO.out.y.c 1
      have y2 : wo.cell? ⟨w.heap.size, 2, none⟩ = some (.string cs) := VO.out.y.c 2
      have hhi : (j + 1) * C ≤ cs.size := by rw [hcs]; exact Nat.mul_le_mul_right C hlt
      have hlo : (j + 1) * C = j * C + C := Nat.succ_mul j C
      have m1 : ((j : Nat) : Int) * (C : Int) = ((j * C : Nat) : Int) := by simp
      have m2 : (((j : Nat) : Int) + 1) * (C : Int) = (((j + 1) * C : Nat) : Int) := by simp
      obtain ⟨lo, hlo2⟩ : ∃ x, x = j * C := ⟨_, rfl⟩
      obtain ⟨hi, hhi2⟩ : ∃ x, x = (j + 1) * C := ⟨_, rfl⟩
      rw [← hlo2] at m1 hlo
      rw [← hhi2] at m2 hlo hhi
      have HLO := Hid.mk hlo2
      have HHI := Hid.mk hhi2
      have HHL : Hid (hi = lo + C) := hlo
      have hb36 : hi ≤ 36 := by omega
      have hle : lo ≤ hi := by omega
      have hleI : (lo : Int) ≤ (hi : Int) := by omega
      have hszI : (hi : Int) ≤ (cs.size : Int) := by omega
      clear hlo2 hhi2 hlo
      go_wp2_with fail
      have hex : (cs.extract lo hi).data.toList = (cs.data.toList.drop (j * C)).take C := by
        rw [Lib.extract_data, HHL.out, HLO.out, show j * C + C - j * C = C by omega]
      obtain ⟨F, hF⟩ : ∃ F, F = cs.extract lo hi := ⟨_, rfl⟩
      rw [← hF] at hex
      rw [← hF]
      have hFs : F.size ≤ 36 := by
        rw [Lib.size_eq, hex, List.length_take, List.length_drop]
        have := Lib.size_eq cs
        omega
      have HEX := Hid.mk hex
      clear hF hex
      refine (wstring_any (w.heap.size + 1) (w.heap.size + 1) _ F wo VO.out.i (by rw [Lib.byteCells_length]; simp only [List.length_append]; have : TX.headB.length = 5 := rfl; omega) (by have := VO.out.z; omega)).mono ?_
      rintro e w5 ⟨rfl, hi5, hb5, _⟩
      rw [bytes_app] at hi5
      have V5 := Hid.mk (VO.out.step hi5 hb5)
      clear hi5 hb5
      go_wp2_with fail
      refine (wbyte_any (w.heap.size + 1) (w.heap.size + 1) _ 10 w5 V5.out.i (by rw [Lib.byteCells_length]; simp only [List.length_append]; have : TX.headB.length = 5 := rfl; have := Lib.size_eq F; omega) (by have := V5.out.z; omega)).mono ?_
      rintro e w6 ⟨rfl, hi6, hb6, _⟩
      rw [show (Value.int .u8 10) = Value.int .u8 (((10 : UInt8).toNat : Nat) : Int) from rfl, byte_app] at hi6
      have V6 : Hid (Wr w w6 #[.int .i64 (R : Int), .int .i64 (C : Int), .string cs, .slice (some ⟨g, 0, none⟩) m cc, .int .i64 (U : Int)] (TX.headB ++ TX.lineT [U] ++ TX.rowsT ((TX.chunk C R cs.data.toList).take (j + 1)))) := by
        have h := V5.out.step hi6 hb6
        rw [HEX.out] at h
        unfold Hid
        rw [chunk_take hlt, rowsT_app]
        simpa [List.append_assoc] using h
      have hl6 : (TX.rowsT ((TX.chunk C R cs.data.toList).take (j + 1))).length ≤ 7 * (j + 1) := by
        rw [chunk_take hlt, rowsT_app, List.length_append, List.length_append, List.length_take]
        simp only [List.length_cons, List.length_nil]
        omega
      clear hi6 hb6
      go_wp2
      go_round
      case rel => exact ⟨j + 1, by go_num, by omega, V6.out, hl6⟩
      case measure => simp [intOf]; omega
    · have e1 : decide (((j : Nat) : Int) < (R : Int)) = false := by simp; omega
      have VJ : Hid (Wr w wo #[.int .i64 (R : Int), .int .i64 (C : Int), .string cs, .slice (some ⟨g, 0, none⟩) m cc, .int .i64 (U : Int)] (TX.headB ++ TX.lineT [U] ++ TX.rowsT (TX.chunk C R cs.data.toList))) := by
        have h := VO.out
        rw [List.take_of_length_le (by rw [TX.chunk_length]; omega)] at h
        exact h
      have hlr : (TX.rowsT (TX.chunk C R cs.data.toList)).length ≤ 42 := by
        rw [List.take_of_length_le (by rw [TX.chunk_length]; omega)] at hlen
        omega
      have y3 : wo.cell? ⟨w.heap.size, 3, none⟩ = some (.slice (some ⟨g, 0, none⟩) m cc) := VO.out.y.c 3
      clear hlen
      go_wp2
      clear y3
      go_loopw [35] (fun sj wr => ∃ i : Nat, sj = .int .i64 (i : Int) ∧ i ≤ m ∧ Wr w wr #[.int .i64 (R : Int), .int .i64 (C : Int), .string cs, .slice (some ⟨g, 0, none⟩) m cc, .int .i64 (U : Int)] (TX.headB ++ TX.lineT [U] ++ TX.rowsT (TX.chunk C R cs.data.toList) ++ TX.cartsT C ((pairsL fr tt m).take i)) ∧ (TX.cartsT C ((pairsL fr tt m).take i)).length ≤ 100 * i) (fun sj _ => m - (intOf sj).toNat)
      case atStart => exact ⟨0, rfl, Nat.zero_le _, by simpa [TX.cartsT] using VJ.out, by simp [TX.cartsT]⟩
      case round =>
        obtain ⟨i, rfl, him, hv, hlc⟩ := hrel
        obtain ⟨wq, rfl⟩ : ∃ x, x = wr := ⟨_, rfl⟩
        have VQ := Hid.mk hv
        clear hv
        by_cases hltm : i < m
        · have e2 : decide (((i : Nat) : Int) < (m : Int)) = true := by simp; omega
          have hiI : (i : Int) < (m : Int) := by omega
          obtain ⟨c0, c1⟩ := HCI.out.below VQ.out.b i hltm
          rw [Nat.zero_add] at c0 c1
          obtain ⟨p1, p2, p3, p4⟩ := HIN.out i hltm
          obtain ⟨f, hf⟩ := Int.eq_ofNat_of_zero_le p1
          obtain ⟨t, ht⟩ := Int.eq_ofNat_of_zero_le p3
          rw [hf] at c0 p2
          rw [ht] at c1 p4
          have HF := Hid.mk hf
          have HTT := Hid.mk ht
          have hf36 : f < 36 := by omega
          have ht36 : t < 36 := by omega
          clear hf ht p1 p2 p3 p4
          have hgq : g < wq.heap.size := Nat.lt_of_lt_of_le (hg (by omega)) VQ.out.b.size
          go_upto_region 13 with fail
          have VA : Hid (Wr w (wq.alloc (.cells #[.int .i64 (f : Int), .int .i64 (t : Int)] 87)) #[.int .i64 (R : Int), .int .i64 (C : Int), .string cs, .slice (some ⟨g, 0, none⟩) m cc, .int .i64 (U : Int)] (TX.headB ++ TX.lineT [U] ++ TX.rowsT (TX.chunk C R cs.data.toList) ++ TX.cartsT C ((pairsL fr tt m).take i))) := VQ.out.below ((Below.refl _ wq).alloc (Nat.le_refl _) _)
          have ZA : Hid (Box (wq.alloc (.cells #[.int .i64 (f : Int), .int .i64 (t : Int)] 87)) wq.heap.size #[.int .i64 (f : Int), .int .i64 (t : Int)]) := box_new _ _
          have hza : (wq.alloc (.cells #[.int .i64 (f : Int), .int .i64 (t : Int)] 87)).heap.size = wq.heap.size + 1 := by simp
          generalize (wq.alloc (.cells #[.int .i64 (f : Int), .int .i64 (t : Int)] 87)) = wa at *
          have SALL : Hid (∀ u : World, Below wa.heap.size wa u → (fun u : World => u.cell? ⟨wq.heap.size, 0, none⟩ = some (.int .i64 (f : Int)) ∧ u.cell? ⟨wq.heap.size, 1, none⟩ = some (.int .i64 (t : Int)) ∧ u.cell? ⟨w.heap.size, 1, none⟩ = some (.int .i64 (C : Int))) u) := fun u hu => ⟨(hu.cell (p := ⟨wq.heap.size, 0, none⟩) ZA.out.lt).trans (ZA.out.c 0), (hu.cell (p := ⟨wq.heap.size, 1, none⟩) ZA.out.lt).trans (ZA.out.c 1), (hu.cell (p := ⟨w.heap.size, 1, none⟩) VA.out.y.lt).trans (VA.out.y.c 1)⟩
          have HS := SALL.out wa.drew ((Below.refl _ wa).drew)
          have hC0 : ¬ (C : Int) = 0 := by omega
          have hC0n : ¬ C = 0 := by omega
          obtain ⟨a1, h1⟩ : ∃ x, x = f / C := ⟨_, rfl⟩
          obtain ⟨a2, h2⟩ : ∃ x, x = f % C := ⟨_, rfl⟩
          obtain ⟨a3, h3⟩ : ∃ x, x = t / C := ⟨_, rfl⟩
          obtain ⟨a4, h4⟩ : ∃ x, x = t % C := ⟨_, rfl⟩
          have l1 : a1 ≤ 100 := by rw [h1]; exact Nat.le_trans (Nat.div_le_self f C) (by omega)
          have l2 : a2 ≤ 100 := by rw [h2]; exact Nat.le_trans (Nat.mod_le f C) (by omega)
          have l3 : a3 ≤ 100 := by rw [h3]; exact Nat.le_trans (Nat.div_le_self t C) (by omega)
          have l4 : a4 ≤ 100 := by rw [h4]; exact Nat.le_trans (Nat.mod_le t C) (by omega)
          have q1 : IntKind.i64.wrap ((f : Int) / (C : Int)) = (a1 : Int) := by rw [show (f : Int) / (C : Int) = (a1 : Int) by rw [h1]; simp]; exact wrap_nat (by omega)
          have q3 : IntKind.i64.wrap ((t : Int) / (C : Int)) = (a3 : Int) := by rw [show (t : Int) / (C : Int) = (a3 : Int) by rw [h3]; simp]; exact wrap_nat (by omega)
          have q2 : (f : Int).tmod (C : Int) = (a2 : Int) := by rw [h2]; exact Int.ofNat_tmod f C |>.symm
          have q4 : (t : Int).tmod (C : Int) = (a4 : Int) := by rw [h4]; exact Int.ofNat_tmod t C |>.symm
          have A1 := Hid.mk h1
          have A2 := Hid.mk h2
          have A3 := Hid.mk h3
          have A4 := Hid.mk h4
          clear h1 h2 h3 h4
          refine wp_region_any (by kernel_rfl) ?_
          change wpAny _ _ _ _ _ _ _ (World.drew _)
          refine wpAny_take (i := 0) (v := (.pointer (some ⟨wq.heap.size, 0, none⟩))) rfl (by kernel_rfl) (by kernel_rfl) (by kernel_rfl) (fun _ _ _ h => h) (Or.inl ⟨by rfl, fun u => by go_simp⟩) ?_
          refine wpAny_take (i := 2) (v := (.pointer (some ⟨w.heap.size, 1, none⟩))) rfl (by kernel_rfl) (by kernel_rfl) (by kernel_rfl) (fun _ _ _ h => h) (Or.inl ⟨by rfl, fun u => by go_simp⟩) ?_
          refine wpAny_take (i := 5) (v := (.pointer (some ⟨wq.heap.size, 0, none⟩))) rfl (by kernel_rfl) (by kernel_rfl) (by kernel_rfl) (fun _ _ _ h => h) (Or.inl ⟨by rfl, fun u => by go_simp⟩) ?_
          refine wpAny_take (i := 7) (v := (.pointer (some ⟨w.heap.size, 1, none⟩))) rfl (by kernel_rfl) (by kernel_rfl) (by kernel_rfl) (fun _ _ _ h => h) (Or.inl ⟨by rfl, fun u => by go_simp⟩) ?_
          refine wpAny_take (i := 10) (v := (.pointer (some ⟨wq.heap.size, 1, none⟩))) rfl (by kernel_rfl) (by kernel_rfl) (by kernel_rfl) (fun _ _ _ h => h) (Or.inl ⟨by rfl, fun u => by go_simp⟩) ?_
          refine wpAny_take (i := 12) (v := (.pointer (some ⟨w.heap.size, 1, none⟩))) rfl (by kernel_rfl) (by kernel_rfl) (by kernel_rfl) (fun _ _ _ h => h) (Or.inl ⟨by rfl, fun u => by go_simp⟩) ?_
          refine wpAny_take (i := 15) (v := (.pointer (some ⟨wq.heap.size, 1, none⟩))) rfl (by kernel_rfl) (by kernel_rfl) (by kernel_rfl) (fun _ _ _ h => h) (Or.inl ⟨by rfl, fun u => by go_simp⟩) ?_
          refine wpAny_take (i := 17) (v := (.pointer (some ⟨w.heap.size, 1, none⟩))) rfl (by kernel_rfl) (by kernel_rfl) (by kernel_rfl) (fun _ _ _ h => h) (Or.inl ⟨by rfl, fun u => by go_simp⟩) ?_
          refine LM.any_of_L (late := LM.lateOf [21]) (S := (fun u : World => u.cell? ⟨wq.heap.size, 0, none⟩ = some (.int .i64 (f : Int)) ∧ u.cell? ⟨wq.heap.size, 1, none⟩ = some (.int .i64 (t : Int)) ∧ u.cell? ⟨w.heap.size, 1, none⟩ = some (.int .i64 (C : Int)))) _ _ _ _ ?_
          refine LM.L_take (i := 1) (v := (.int .i64 (f : Int))) rfl (by kernel_rfl) (by kernel_rfl) (by kernel_rfl) (by kernel_rfl) (fun _ _ _ h => h) (Or.inl ⟨by rfl, fun u hu => by have a0 := hu.1; clear hu; go_simp⟩) HS ?_
          refine LM.L_take (i := 3) (v := (.int .i64 (C : Int))) rfl (by kernel_rfl) (by kernel_rfl) (by kernel_rfl) (by kernel_rfl) (fun _ _ _ h => h) (Or.inl ⟨by rfl, fun u hu => by have a0 := hu.2.2; clear hu; go_simp⟩) HS ?_
          refine LM.L_take (i := 6) (v := (.int .i64 (f : Int))) rfl (by kernel_rfl) (by kernel_rfl) (by kernel_rfl) (by kernel_rfl) (fun _ _ _ h => h) (Or.inl ⟨by rfl, fun u hu => by have a0 := hu.1; clear hu; go_simp⟩) HS ?_
          refine LM.L_take (i := 8) (v := (.int .i64 (C : Int))) rfl (by kernel_rfl) (by kernel_rfl) (by kernel_rfl) (by kernel_rfl) (fun _ _ _ h => h) (Or.inl ⟨by rfl, fun u hu => by have a0 := hu.2.2; clear hu; go_simp⟩) HS ?_
          refine LM.L_take (i := 11) (v := (.int .i64 (t : Int))) rfl (by kernel_rfl) (by kernel_rfl) (by kernel_rfl) (by kernel_rfl) (fun _ _ _ h => h) (Or.inl ⟨by rfl, fun u hu => by have a0 := hu.2.1; clear hu; go_simp⟩) HS ?_
          refine LM.L_take (i := 13) (v := (.int .i64 (C : Int))) rfl (by kernel_rfl) (by kernel_rfl) (by kernel_rfl) (by kernel_rfl) (fun _ _ _ h => h) (Or.inl ⟨by rfl, fun u hu => by have a0 := hu.2.2; clear hu; go_simp⟩) HS ?_
          refine LM.L_take (i := 16) (v := (.int .i64 (t : Int))) rfl (by kernel_rfl) (by kernel_rfl) (by kernel_rfl) (by kernel_rfl) (fun _ _ _ h => h) (Or.inl ⟨by rfl, fun u hu => by have a0 := hu.2.1; clear hu; go_simp⟩) HS ?_
          refine LM.L_take (i := 18) (v := (.int .i64 (C : Int))) rfl (by kernel_rfl) (by kernel_rfl) (by kernel_rfl) (by kernel_rfl) (fun _ _ _ h => h) (Or.inl ⟨by rfl, fun u hu => by have a0 := hu.2.2; clear hu; go_simp⟩) HS ?_
          refine LM.L_take (i := 4) (v := (.int .i64 (a1 : Int))) rfl (by kernel_rfl) (by kernel_rfl) (by kernel_rfl) (by kernel_rfl) (fun _ _ _ h => h) (Or.inl ⟨by rfl, fun u hu => by clear hu; go_simp⟩) HS ?_
          refine LM.L_take (i := 9) (v := (.int .i64 (a2 : Int))) rfl (by kernel_rfl) (by kernel_rfl) (by kernel_rfl) (by kernel_rfl) (fun _ _ _ h => h) (Or.inl ⟨by rfl, fun u hu => by clear hu; go_simp⟩) HS ?_
          refine LM.L_take (i := 14) (v := (.int .i64 (a3 : Int))) rfl (by kernel_rfl) (by kernel_rfl) (by kernel_rfl) (by kernel_rfl) (fun _ _ _ h => h) (Or.inl ⟨by rfl, fun u hu => by clear hu; go_simp⟩) HS ?_
          refine LM.L_take (i := 19) (v := (.int .i64 (a4 : Int))) rfl (by kernel_rfl) (by kernel_rfl) (by kernel_rfl) (by kernel_rfl) (fun _ _ _ h => h) (Or.inl ⟨by rfl, fun u hu => by clear hu; go_simp⟩) HS ?_
          refine LM.L_one (i := 20) rfl (by kernel_rfl) rfl (fun K hK => ?_)
          go_simp
          have B9 : Hid (Below wa.heap.size wa (wa.alloc (.cells #[.int .i64 (a1 : Int), .int .i64 (a2 : Int), .int .i64 (a3 : Int), .int .i64 (a4 : Int)] 3)).drew) := ((Below.refl _ wa).alloc (Nat.le_refl _) _).drew
          have HS : (fun u : World => u.cell? ⟨wq.heap.size, 0, none⟩ = some (.int .i64 (f : Int)) ∧ u.cell? ⟨wq.heap.size, 1, none⟩ = some (.int .i64 (t : Int)) ∧ u.cell? ⟨w.heap.size, 1, none⟩ = some (.int .i64 (C : Int))) (wa.alloc (.cells #[.int .i64 (a1 : Int), .int .i64 (a2 : Int), .int .i64 (a3 : Int), .int .i64 (a4 : Int)] 3)).drew := SALL.out _ B9.out
          have HN : Hid ((wa.alloc (.cells #[.int .i64 (a1 : Int), .int .i64 (a2 : Int), .int .i64 (a3 : Int), .int .i64 (a4 : Int)] 3)).drew.heap[wa.heap.size]? = some (.cells #[.int .i64 (a1 : Int), .int .i64 (a2 : Int), .int .i64 (a3 : Int), .int .i64 (a4 : Int)] 3 (0, 0))) := heap_alloc_new wa _
          refine hK _ (wa.alloc (.cells #[.int .i64 (a1 : Int), .int .i64 (a2 : Int), .int .i64 (a3 : Int), .int .i64 (a4 : Int)] 3)).drew HS ?_
          clear hK K
          generalize (wa.alloc (.cells #[.int .i64 (a1 : Int), .int .i64 (a2 : Int), .int .i64 (a3 : Int), .int .i64 (a4 : Int)] 3)).drew = wn at *
          have VN : Hid (Wr w wn #[.int .i64 (R : Int), .int .i64 (C : Int), .string cs, .slice (some ⟨g, 0, none⟩) m cc, .int .i64 (U : Int)] (TX.headB ++ TX.lineT [U] ++ TX.rowsT (TX.chunk C R cs.data.toList) ++ TX.cartsT C ((pairsL fr tt m).take i))) := VA.out.below B9.out
          have HN2 : Hid (wn.heap[wq.heap.size + 1]? = some (.cells #[.int .i64 (a1 : Int), .int .i64 (a2 : Int), .int .i64 (a3 : Int), .int .i64 (a4 : Int)] 3 (0, 0))) := by
            unfold Hid
            rw [← hza]
            exact HN.out
          have WL : Hid (Calls Tryd.prog 140 #[.pointer (some ⟨w.heap.size + 1, 0, none⟩), .slice (some ⟨wq.heap.size + 1, 0, none⟩) 4 4] wn fun e w' => e = .returned (.tuple #[]) ∧ Below wa.heap.size wa wn ∧ Wr w w' #[.int .i64 (R : Int), .int .i64 (C : Int), .string cs, .slice (some ⟨g, 0, none⟩) m cc, .int .i64 (U : Int)] (TX.headB ++ TX.lineT [U] ++ TX.rowsT (TX.chunk C R cs.data.toList) ++ TX.cartsT C ((pairsL fr tt m).take (i + 1))) ∧ Below (w.heap.size + 1) wn w') := by
            refine (wline_any (w.heap.size + 1) (w.heap.size + 1) (wq.heap.size + 1) [a1, a2, a3, a4] _ #[.int .i64 (a1 : Int), .int .i64 (a2 : Int), .int .i64 (a3 : Int), .int .i64 (a4 : Int)] (0, 0) wn (TB.out _ VN.out.b) VN.out.i (by have := VN.out.z; omega) (by simp only [List.length_append, List.length_cons, List.length_nil]; have : TX.headB.length = 5 := rfl; omega) (fun x hx => by
                simp only [List.mem_cons, List.not_mem_nil, or_false] at hx
                omega) HN2.out (by have := VQ.out.z; omega) (fun j hj => by
                match j, hj with
                | 0, _ => rfl
                | 1, _ => rfl
                | 2, _ => rfl
                | 3, _ => rfl)).mono ?_
            rintro e w' ⟨rfl, hi', hb', _⟩
            refine ⟨rfl, B9.out, ?_, hb'⟩
            have h := VN.out.step hi' hb'
            rw [pairs_take hltm, cartsT_app]
            have ec : TX.cartT C (fr i, tt i) = TX.lineT [a1, a2, a3, a4] := by
              unfold TX.cartT
              rw [HF.out, HTT.out, A1.out, A2.out, A3.out, A4.out]
              rfl
            rw [ec]
            simpa [List.append_assoc] using h
          have hln4 : (TX.cartsT C ((pairsL fr tt m).take (i + 1))).length ≤ 100 * (i + 1) := by
            have h4 := sep_len [a1, a2, a3, a4] (fun x hx => by
              simp only [List.mem_cons, List.not_mem_nil, or_false] at hx
              omega) 4 (Nat.le_refl _)
            have h4' : (TX.sep [a1, a2, a3, a4]).length ≤ 80 := h4
            have ec : TX.cartT C (fr i, tt i) = TX.lineT [a1, a2, a3, a4] := by
              unfold TX.cartT
              rw [HF.out, HTT.out, A1.out, A2.out, A3.out, A4.out]
              rfl
            rw [pairs_take hltm, cartsT_app, ec, List.length_append]
            unfold TX.lineT
            rw [List.length_append]
            simp only [List.length_cons, List.length_nil]
            omega
          refine LM.L_rest (by kernel_rfl) ?_
          refine LM.any_one (i := 21) rfl (by kernel_rfl) rfl (fun K hK => ?_)
          go_simp
          refine WL.out.mono ?_
          rintro e w5 ⟨rfl, _, hv5, hb5⟩
          have V5 := Hid.mk hv5
          clear hv5 hb5
          refine hK _ _ ?_
          clear hK K
          refine wpAny_done (by kernel_rfl) ?_ _
          go_wp2
          go_round
          case rel => exact ⟨i + 1, by go_num, by omega, V5.out, hln4⟩
          case measure => simp [intOf]; omega
        · have e2 : decide (((i : Nat) : Int) < (m : Int)) = false := by simp; omega
          have e2i : ¬ (i : Int) < (m : Int) := by omega
          have VL : Hid (Wr w wq #[.int .i64 (R : Int), .int .i64 (C : Int), .string cs, .slice (some ⟨g, 0, none⟩) m cc, .int .i64 (U : Int)] (TX.writeT R C cs.data.toList (pairsL fr tt m) U)) := by
            have h := VQ.out
            rw [List.take_of_length_le (by unfold pairsL; rw [List.length_map, List.length_range]; omega)] at h
            unfold Hid TX.writeT
            simpa [List.append_assoc] using h
          go_wp2_with fail
          refine (bstring_any (w.heap.size + 1) (w.heap.size + 1) _ wq VL.out.i (by have := VL.out.z; omega)).mono ?_
          rintro e w7 ⟨rfl, _, hb7, _⟩
          have B7 : Hid (Below w.heap.size w w7) := VL.out.b.trans (hb7.mono (Nat.le_succ _))
          clear hb7
          go_wp2
          go_ret
          exact ⟨_, rfl, rfl, B7.out⟩

end Go.Proofs.YtnkgpinadgacgaaDoor
