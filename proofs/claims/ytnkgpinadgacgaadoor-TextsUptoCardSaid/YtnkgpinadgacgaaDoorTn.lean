/- A good yard and its text: what Check lets by is written, and read again as it was; yard.Write. -/
import Derived.Test.YtnkgpinadgacgaaDoorTm
import Derived.Test.YtnkgpinadgacgaaDoorBn
namespace Go.Proofs.YtnkgpinadgacgaaDoor
open Go.RowKit Go.Shelf Go.Deep M

theorem chk_bu {ro co bu : Int} {cs : ByteArray} {m : Nat} {fr tt : Nat → Int} (h : (checkM ro co cs m fr tt bu).1 = 0) : (1 ≤ bu ∧ bu ≤ 20000 ∧ 1 ≤ m) ∧ ¬ 0 ≤ cellsM ro co cs := by
  unfold checkM at h
  by_cases h1 : (sideB ro && sideB co) = false
  · rw [if_pos h1] at h; simp at h
  · rw [if_neg h1] at h
    by_cases h2 : 0 ≤ cellsM ro co cs
    · rw [if_pos h2] at h; simp at h
    · rw [if_neg h2] at h
      refine ⟨?_, h2⟩
      by_cases h3 : m < 1 ∨ 4 < m
      · rw [if_pos h3] at h; simp at h
      · rw [if_neg h3] at h
        by_cases h4 : firstOf (fun i => !(cartM cs fr tt i == 0)) m < m
        · rw [if_pos h4] at h
          have := M.firstOf_is (p := fun i => !(cartM cs fr tt i == 0)) m h4
          simp only [] at h this
          rw [h] at this; cases this
        · rw [if_neg h4] at h
          by_cases h5 : bu < 1 ∨ 20000 < bu
          · rw [if_pos h5] at h; simp at h
          · omega

theorem chk_cells {ro co : Int} {cs : ByteArray} (h : ¬ 0 ≤ cellsM ro co cs) : ∀ b ∈ cs.data.toList, TX.isCell b = true := by
  unfold cellsM at h
  by_cases h1 : (cs.size : Int) ≠ ro * co
  · rw [if_pos h1] at h; omega
  · rw [if_neg h1] at h
    by_cases h2 : firstOf (badB cs) cs.size < cs.size
    · rw [if_pos h2] at h; omega
    · intro b hb
      obtain ⟨j, hj, rfl⟩ := List.getElem_of_mem hb
      have hjs : j < cs.size := by rw [Array.length_toList] at hj; exact hj
      have h3 := M.firstOf_none h2 j hjs
      rw [badB_in hjs] at h3
      have e : cs.data.toList[j] = cs[j] := rfl
      rw [e, ← isCell_iff]
      cases hq : ((((cs[j]).toNat : Nat) : Int) == 46 || (((cs[j]).toNat : Nat) : Int) == 35) with
      | true => rfl
      | false => rw [hq] at h3; cases h3

/-- What is known of a good yard. -/
structure GoodY (R C U m : Nat) (cs : ByteArray) (fr tt : Nat → Int) : Prop where
  r1 : 1 ≤ R
  r2 : R ≤ 6
  c1 : 1 ≤ C
  c2 : C ≤ 6
  sz : cs.size = R * C
  m1 : 1 ≤ m
  m2 : m ≤ 4
  u1 : 1 ≤ U
  u2 : U ≤ 20000
  inn : ∀ i, i < m → 0 ≤ fr i ∧ fr i < ((R * C : Nat) : Int) ∧ 0 ≤ tt i ∧ tt i < ((R * C : Nat) : Int)
  cell : ∀ b ∈ cs.data.toList, TX.isCell b = true

theorem chk_form {R C U m : Nat} {cs : ByteArray} {fr tt : Nat → Int} (h : (checkM (R : Int) (C : Int) cs m fr tt (U : Int)).1 = 0) : GoodY R C U m cs fr tt := by
  obtain ⟨hs1, hs2, hsz⟩ := checkM_good h
  obtain ⟨⟨hb1, hb2, hm1⟩, hcel⟩ := chk_bu h
  obtain ⟨hm4, hfree⟩ := carts_free h
  unfold sideB at hs1 hs2
  simp only [Bool.and_eq_true, decide_eq_true_eq] at hs1 hs2
  have hsz2 : cs.size = R * C := by
    have : ((cs.size : Nat) : Int) = ((R * C : Nat) : Int) := by rw [hsz]; simp
    exact Int.ofNat.inj this
  refine ⟨by omega, by omega, by omega, by omega, hsz2, hm1, hm4, by omega, by omega, fun i hi => ?_, chk_cells hcel⟩
  obtain ⟨h1, h2⟩ := hfree i hi
  have key : ∀ z : Int, freeB cs z = true → 0 ≤ z ∧ z < ((R * C : Nat) : Int) := by
    intro z hz
    by_cases hq : 0 ≤ z ∧ z < cs.size
    · rw [hsz2] at hq; exact hq
    · rw [freeB_out hq] at hz; cases hz
  exact ⟨(key _ h1).1, (key _ h1).2, (key _ h2).1, (key _ h2).2⟩

theorem pairs_len (fr tt : Nat → Int) (m : Nat) : (pairsL fr tt m).length = m := by simp [pairsL]

theorem pairs_at {fr tt : Nat → Int} {m i : Nat} (hi : i < m) : frL (pairsL fr tt m) i = fr i ∧ ttL (pairsL fr tt m) i = tt i := by
  have h : (pairsL fr tt m).getD i (0, 0) = (fr i, tt i) := by
    unfold pairsL
    rw [List.getD_eq_getElem?_getD, List.getElem?_map, List.getElem?_range hi]
    rfl
  unfold frL ttL
  rw [h]
  exact ⟨rfl, rfl⟩

theorem first_congr {p q : Nat → Bool} : ∀ {n : Nat}, (∀ i, i < n → p i = q i) → firstOf p n = firstOf q n
  | 0, _ => rfl
  | n + 1, h => by
    have ih := first_congr (n := n) (fun i hi => h i (by omega))
    simp only [firstOf, ih, h n (by omega)]

theorem check_congr {ro co bu : Int} {cs : ByteArray} {n : Nat} {fr tt fr' tt' : Nat → Int} (h : ∀ i, i < n → fr i = fr' i ∧ tt i = tt' i) : checkM ro co cs n fr tt bu = checkM ro co cs n fr' tt' bu := by
  have hc : ∀ i, i < n → cartM cs fr tt i = cartM cs fr' tt' i := by
    intro i hi
    have h2 : firstOf (twiceB fr tt i) i = firstOf (twiceB fr' tt' i) i := first_congr fun j hj => by
      unfold twiceB
      rw [(h j (by omega)).1, (h j (by omega)).2, (h i hi).1, (h i hi).2]
    unfold cartM
    rw [(h i hi).1, (h i hi).2, h2]
  have hf : firstOf (fun i => !(cartM cs fr tt i == 0)) n = firstOf (fun i => !(cartM cs fr' tt' i == 0)) n := first_congr fun i hi => by rw [hc i hi]
  unfold checkM
  rw [hf]
  by_cases h4 : firstOf (fun i => !(cartM cs fr' tt' i == 0)) n < n
  · rw [hc _ h4]
  · rw [if_neg h4, if_neg h4]

/-- The text of a good yard. -/
def textY (R C U m : Nat) (cs : ByteArray) (fr tt : Nat → Int) : List UInt8 := TX.writeT R C cs.data.toList (pairsL fr tt m) U

/-- A good yard's text is read again as that yard. -/
theorem read_text {R C U m : Nat} {cs : ByteArray} {fr tt : Nat → Int} (h : GoodY R C U m cs fr tt) : TX.readT (textY R C U m cs fr tt) = ([], some ⟨R, C, cs.data.toList, pairsL fr tt m, U⟩) := by
  unfold textY
  have hle := Nat.mul_le_mul h.r2 h.c2
  refine TX.read_write h.r1 h.c1 (by omega) (by have := h.u2; omega) (by rw [← Lib.size_eq]; exact h.sz) h.cell (fun e => ?_) (fun c hc => ?_)
  · have := pairs_len fr tt m
    have h1 := h.m1
    rw [e] at this
    simp at this
    omega
  · obtain ⟨i, hi, rfl⟩ := List.mem_map.1 hc
    exact h.inn i (List.mem_range.1 hi)

theorem chk_text {R C U m : Nat} {cs : ByteArray} {fr tt : Nat → Int} : chkT ⟨R, C, cs.data.toList, pairsL fr tt m, U⟩ = checkM (R : Int) (C : Int) cs m fr tt (U : Int) := by
  unfold chkT
  show checkM (R : Int) (C : Int) ⟨cs.data.toList.toArray⟩ (pairsL fr tt m).length _ _ (U : Int) = _
  rw [pairs_len, show (⟨cs.data.toList.toArray⟩ : ByteArray) = cs by simp]
  exact check_congr fun i hi => pairs_at hi

set_option maxRecDepth 100000 in
set_option maxHeartbeats 1000000 in
theorem ywrite_good (R C U m g cc : Nat) (cs : ByteArray) (fr tt : Nat → Int) (w : World) (hT : Lib.TabBelow Tryd.prog w.heap.size w "internal/strconv.uint64pow10" .u64 Lib.pow10Tab)
    (hck : (checkM (R : Int) (C : Int) cs m fr tt (U : Int)).1 = 0) (hmc : m ≤ cc) (hci : CartsIn w g 0 m fr tt) :
    Calls Tryd.prog 41 #[.agg #[.int .i64 (R : Int), .int .i64 (C : Int), .string cs, .slice (some ⟨g, 0, none⟩) m cc, .int .i64 (U : Int)]] w fun e w' =>
      ∃ F : ByteArray, e = .returned (.tuple #[.string F, .int .i64 0]) ∧ F.data.toList = textY R C U m cs fr tt ∧ Below w.heap.size w w' := by
  have HT := Hid.mk hT
  have GY := Hid.mk (chk_form hck)
  have CK := Hid.mk hck
  have HCI := Hid.mk hci
  have hle := Nat.mul_le_mul GY.out.r2 GY.out.c2
  have hcsz : cs.size ≤ maxLen := by have := GY.out.sz; unfold maxLen; omega
  have hn : m ≤ maxLen := by have := GY.out.m2; unfold maxLen; omega
  have hgw : g < w.heap.size := World.block_lt_of_cell? _ _ (hci 0 GY.out.m1).1
  clear hT hck hci
  go_enter Tryd.func41, Tryd.ntmps41
  have Y1 : Hid (Box (w.alloc (.cells #[.int .i64 (R : Int), .int .i64 (C : Int), .string cs, .slice (some ⟨g, 0, none⟩) m cc, .int .i64 (U : Int)] 24)) w.heap.size #[.int .i64 (R : Int), .int .i64 (C : Int), .string cs, .slice (some ⟨g, 0, none⟩) m cc, .int .i64 (U : Int)]) := box_new _ _
  have B1 : Hid (Below w.heap.size w (w.alloc (.cells #[.int .i64 (R : Int), .int .i64 (C : Int), .string cs, .slice (some ⟨g, 0, none⟩) m cc, .int .i64 (U : Int)] 24))) := (Below.refl _ w).alloc (Nat.le_refl _) _
  have C1 : Hid (CartsIn (w.alloc (.cells #[.int .i64 (R : Int), .int .i64 (C : Int), .string cs, .slice (some ⟨g, 0, none⟩) m cc, .int .i64 (U : Int)] 24)) g 0 m fr tt) := HCI.out.below B1.out
  go_wp2_with fail
  generalize (w.alloc (.cells #[.int .i64 (R : Int), .int .i64 (C : Int), .string cs, .slice (some ⟨g, 0, none⟩) m cc, .int .i64 (U : Int)] 24)) = w1 at *
  refine (fault_any _ _ _ cs (some ⟨g, 0, none⟩) m cc fr tt w1 hcsz hn hmc (fun _ => ⟨g, 0, rfl, C1.out⟩)).mono ?_
  rintro e w2 ⟨rfl, hb2⟩
  rw [CK.out]
  have Y2 : Hid (Box w2 w.heap.size #[.int .i64 (R : Int), .int .i64 (C : Int), .string cs, .slice (some ⟨g, 0, none⟩) m cc, .int .i64 (U : Int)]) := Y1.out.belowB hb2 Y1.out.lt
  have B2 : Hid (Below w.heap.size w w2) := B1.out.trans (hb2.mono B1.out.size)
  have C2 : Hid (CartsIn w2 g 0 m fr tt) := C1.out.below hb2
  have y0 := Y2.out.c 0
  have y1 := Y2.out.c 1
  have y2 := Y2.out.c 2
  have y3 := Y2.out.c 3
  have y4 := Y2.out.c 4
  simp only [List.getElem?_toArray, List.getElem?_cons_zero, List.getElem?_cons_succ] at y0 y1 y2 y3 y4
  clear hb2
  go_wp2_with fail
  refine (twrite_any R C U m g cc cs fr tt w2 (fun u hu => HT.out u (B2.out.trans (hu.mono B2.out.size))) GY.out.r2 GY.out.c1 GY.out.c2 (by have := GY.out.u2; omega) GY.out.sz GY.out.m2 C2.out (fun _ => Nat.lt_of_lt_of_le hgw B2.out.size) (fun i hi => by
    obtain ⟨p1, p2, p3, p4⟩ := GY.out.inn i hi
    refine ⟨p1, ?_, p3, ?_⟩ <;> omega)).mono ?_
  rintro e w3 ⟨F, rfl, hF, hb3⟩
  have B3 : Hid (Below w.heap.size w w3) := B2.out.trans (hb3.mono B2.out.size)
  have HF := Hid.mk hF
  clear hF hb3
  go_wp2
  go_ret2
  exact ⟨F, rfl, HF.out, B3.out⟩

end Go.Proofs.YtnkgpinadgacgaaDoor
