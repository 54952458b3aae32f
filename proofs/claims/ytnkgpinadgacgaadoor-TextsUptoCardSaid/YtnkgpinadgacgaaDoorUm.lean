/- The document's Write. -/
import Derived.Test.YtnkgpinadgacgaaDoorUl
namespace Go.Proofs.YtnkgpinadgacgaaDoor
open Go.RowKit Go.Shelf Go.Deep M

/-- The text behind so many rows. -/
def wrT (R C U : Nat) (cs : ByteArray) (j : Nat) : List UInt8 := TX.headB ++ (TX.lineT [U] ++ TX.rowsT ((TX.chunk C R cs.data.toList).take j))

theorem wrT_succ {R C U j : Nat} {cs : ByteArray} (h : j < R) : wrT R C U cs (j + 1) = wrT R C U cs j ++ ((cs.data.toList.drop (j * C)).take C ++ [10]) := by
  unfold wrT
  have hl : j < (TX.chunk C R cs.data.toList).length := by rw [TX.chunk_length]; exact h
  have hr : (TX.chunk C R cs.data.toList)[j] = (cs.data.toList.drop (j * C)).take C := by simp [TX.chunk]
  rw [List.take_succ_eq_append_getElem hl, hr]
  simp [TX.rowsT]

theorem wrT_len {R C U : Nat} {cs : ByteArray} (hU : U ≤ 99999) : ∀ j, j ≤ R → (wrT R C U cs j).length ≤ 11 + j * (C + 1)
  | 0, _ => by
    have h := TX.dec_len5 hU
    simp only [wrT, TX.headB, TX.lineT, TX.sep, TX.rowsT, List.take_zero, List.flatMap_nil, List.append_nil, List.length_append, List.length_cons, List.length_nil]
    omega
  | j + 1, h => by
    have ih := wrT_len (R := R) (C := C) (cs := cs) hU j (by omega)
    have h1 : ((cs.data.toList.drop (j * C)).take C).length ≤ C := by rw [List.length_take]; omega
    rw [wrT_succ (by omega), List.length_append, List.length_append, Nat.succ_mul]
    simp only [List.length_cons, List.length_nil]
    omega

theorem wrT_small {R C U j : Nat} {cs : ByteArray} (hU : U ≤ 99999) (hR : R ≤ 6) (hC : C ≤ 6) (hj : j ≤ R) : (wrT R C U cs j).length ≤ 53 := by
  have h1 := wrT_len (C := C) (cs := cs) hU j hj
  have h2 : j * (C + 1) ≤ 6 * 7 := Nat.mul_le_mul (by omega) (by omega)
  omega

/-- The text behind so many carts. -/
def crT (R C U m : Nat) (cs : ByteArray) (fr tt : Nat → Int) (i : Nat) : List UInt8 := wrT R C U cs R ++ TX.cartsT C ((pairsL fr tt m).take i)

theorem crT_succ {R C U m i : Nat} {cs : ByteArray} {fr tt : Nat → Int} (h : i < m) : crT R C U m cs fr tt (i + 1) = crT R C U m cs fr tt i ++ ((spotB C (fr i).toNat).data.toList ++ 32 :: ((spotB C (tt i).toNat).data.toList ++ [10])) := by
  unfold crT
  have hl : i < (pairsL fr tt m).length := by rw [pairs_len]; exact h
  have hr : (pairsL fr tt m)[i] = (fr i, tt i) := by simp [pairsL]
  rw [List.take_succ_eq_append_getElem hl, hr]
  simp [TX.cartsT, TX.cartT, TX.lineT, TX.sep, spotB]

theorem crT_all {R C U m : Nat} {cs : ByteArray} {fr tt : Nat → Int} : crT R C U m cs fr tt m = textY R C U m cs fr tt := by
  unfold crT wrT textY TX.writeT
  rw [List.take_of_length_le (by rw [TX.chunk_length]; exact Nat.le_refl _), List.take_of_length_le (by rw [pairs_len]; exact Nat.le_refl _)]
  simp

theorem spotB_len {C c : Nat} (hc : c ≤ 36) : (spotB C c).data.toList.length ≤ 11 := by
  have h1 : (Lib.decDigits (c / C)).length ≤ 5 := TX.dec_len5 (by have := Nat.div_le_self c C; omega)
  have h2 : (Lib.decDigits (c % C)).length ≤ 5 := TX.dec_len5 (by have := Nat.mod_le c C; omega)
  simp only [spotB, List.length_append, List.length_cons]
  omega

theorem crT_len {R C U m : Nat} {cs : ByteArray} {fr tt : Nat → Int} (hU : U ≤ 99999) (hR : R ≤ 6) (hC : C ≤ 6) (hf : ∀ i, i < m → (fr i).toNat ≤ 36 ∧ (tt i).toNat ≤ 36) : ∀ i, i ≤ m → (crT R C U m cs fr tt i).length ≤ 53 + 24 * i
  | 0, _ => by
    have h1 := wrT_small (cs := cs) hU hR hC (Nat.le_refl R)
    simp only [crT, List.take_zero, TX.cartsT, List.flatMap_nil, List.append_nil]
    omega
  | i + 1, h => by
    have ih := crT_len (cs := cs) hU hR hC hf i (by omega)
    obtain ⟨h1, h2⟩ := hf i (by omega)
    have h3 := spotB_len (C := C) h1
    have h4 := spotB_len (C := C) h2
    rw [crT_succ (by omega)]
    simp only [List.length_append, List.length_cons, List.length_nil]
    omega

theorem size_of_list {F : ByteArray} {l : List UInt8} (h : F = ⟨l.toArray⟩) : F.size = l.length := by
  rw [h]
  show l.toArray.size = _
  rw [List.size_toArray]

set_option maxRecDepth 100000 in
set_option maxHeartbeats 1000000 in
theorem xwrite_bad (ro co bu : Int) (a : Option Addr) (n cap : Nat) (cs : ByteArray) (fr tt : Nat → Int) (w : World) (hs : cs.size ≤ maxLen) (hn : n ≤ maxLen)
    (ha : 0 < n → ∃ b off, a = some ⟨b, off, none⟩ ∧ CartsIn w b off n fr tt) (hck : (checkM ro co cs n fr tt bu).1 ≠ 0) :
    Calls Tryd.prog 42 #[.agg #[.int .i64 ro, .int .i64 co, .string cs, .slice a n cap, .int .i64 bu]] w fun e w' =>
      e = .returned (.tuple #[.string ⟨#[]⟩, .int .i64 (checkM ro co cs n fr tt bu).1]) ∧ Below w.heap.size w w' := by
  have B1 : Hid (Below w.heap.size w (w.alloc (.cells #[.int .i64 ro, .int .i64 co, .string cs, .slice a n cap, .int .i64 bu] 24))) := Hid.mk ((Below.refl _ w).alloc (Nat.le_refl _) _)
  have HA := Hid.mk (opt_below ha B1.out)
  clear ha
  go_enter Tryd.func42, Tryd.ntmps42
  go_wp2_with fail
  generalize (w.alloc (.cells #[.int .i64 ro, .int .i64 co, .string cs, .slice a n cap, .int .i64 bu] 24)) = w1 at *
  refine (rcheck_any _ _ _ cs a n cap fr tt w1 hs hn HA.out).mono ?_
  rintro e w2 ⟨rfl, hb2⟩
  have B2 : Hid (Below w.heap.size w w2) := Hid.mk (B1.out.trans (hb2.mono B1.out.size))
  clear hb2
  obtain ⟨c0, hc0⟩ : ∃ c, Hid (c = checkM ro co cs n fr tt bu) := ⟨_, Hid.mk rfl⟩
  rw [← hc0.out] at hck ⊢
  obtain ⟨c1, c2⟩ := c0
  have e0 : (c1 != 0) = true := by simpa using hck
  clear hck
  go_wp2
  go_ret2
  exact ⟨by rw [← hc0.out]; rfl, B2.out⟩

set_option maxRecDepth 100000 in
set_option maxHeartbeats 1000000 in
theorem xwrite_good (R C U m g go cc : Nat) (cs : ByteArray) (fr tt : Nat → Int) (w : World)
    (hck : (checkM (R : Int) (C : Int) cs m fr tt (U : Int)) = (0, 0)) (hci : CartsIn w g go m fr tt) :
    Calls Tryd.prog 42 #[.agg #[.int .i64 (R : Int), .int .i64 (C : Int), .string cs, .slice (some ⟨g, go, none⟩) m cc, .int .i64 (U : Int)]] w fun e w' =>
      ∃ F : ByteArray, e = .returned (.tuple #[.string F, .int .i64 0]) ∧ F.data.toList = textY R C U m cs fr tt ∧ Below w.heap.size w w' := by
  have GY := Hid.mk (chk_form (by rw [hck]))
  have CK := Hid.mk hck
  have HCI := Hid.mk hci
  have hle := Nat.mul_le_mul GY.out.r2 GY.out.c2
  have hcsz : cs.size ≤ maxLen := by have := GY.out.sz; unfold maxLen; omega
  have hn : m ≤ maxLen := by have := GY.out.m2; unfold maxLen; omega
  have hU : U ≤ 2000000 := by have := GY.out.u2; omega
  clear hck hci
  go_enter Tryd.func42, Tryd.ntmps42
  have Y1 : Hid (Box (w.alloc (.cells #[.int .i64 (R : Int), .int .i64 (C : Int), .string cs, .slice (some ⟨g, go, none⟩) m cc, .int .i64 (U : Int)] 24)) w.heap.size #[.int .i64 (R : Int), .int .i64 (C : Int), .string cs, .slice (some ⟨g, go, none⟩) m cc, .int .i64 (U : Int)]) := Hid.mk (box_new _ _)
  have B1 : Hid (Below w.heap.size w (w.alloc (.cells #[.int .i64 (R : Int), .int .i64 (C : Int), .string cs, .slice (some ⟨g, go, none⟩) m cc, .int .i64 (U : Int)] 24))) := Hid.mk ((Below.refl _ w).alloc (Nat.le_refl _) _)
  have C1 : Hid (CartsIn (w.alloc (.cells #[.int .i64 (R : Int), .int .i64 (C : Int), .string cs, .slice (some ⟨g, go, none⟩) m cc, .int .i64 (U : Int)] 24)) g go m fr tt) := Hid.mk (HCI.out.below B1.out)
  go_wp2_with fail
  generalize (w.alloc (.cells #[.int .i64 (R : Int), .int .i64 (C : Int), .string cs, .slice (some ⟨g, go, none⟩) m cc, .int .i64 (U : Int)] 24)) = w1 at *
  refine (rcheck_any _ _ _ cs (some ⟨g, go, none⟩) m cc fr tt w1 hcsz hn (fun _ => ⟨g, go, rfl, C1.out⟩)).mono ?_
  rintro e w2 ⟨rfl, hb2⟩
  rw [CK.out]
  have Y2 : Hid (Box w2 w.heap.size #[.int .i64 (R : Int), .int .i64 (C : Int), .string cs, .slice (some ⟨g, go, none⟩) m cc, .int .i64 (U : Int)]) := Hid.mk (Y1.out.belowB hb2 Y1.out.lt)
  have B2 : Hid (Below w.heap.size w w2) := Hid.mk (B1.out.trans (hb2.mono B1.out.size))
  have C2 : Hid (CartsIn w2 g go m fr tt) := Hid.mk (C1.out.below hb2)
  have y4 := Y2.out.c 4
  simp only [List.getElem?_toArray, List.getElem?_cons_zero, List.getElem?_cons_succ] at y4
  have SH : Hid (∀ u, Calls Tryd.prog 94 #[.int .i64 (U : Int)] u fun e w' => e = .returned (.string ⟨(Lib.decDigits U).toArray⟩) ∧ Below u.heap.size u w') := Hid.mk fun u => shown_any U u hU
  clear hb2
  go_wp2_with fail
  refine (SH.out _).mono ?_
  rintro e w3 ⟨rfl, hb3⟩
  have Y3 : Hid (Box w3 w.heap.size #[.int .i64 (R : Int), .int .i64 (C : Int), .string cs, .slice (some ⟨g, go, none⟩) m cc, .int .i64 (U : Int)]) := Hid.mk (Y2.out.belowB hb3 Y2.out.lt)
  have B3 : Hid (Below w.heap.size w w3) := Hid.mk (B2.out.trans (hb3.mono B2.out.size))
  have C3 : Hid (CartsIn w3 g go m fr tt) := Hid.mk (C2.out.below hb3)
  obtain ⟨S1, hS1⟩ : ∃ S : ByteArray, Hid (S = ⟨(Lib.decDigits U).toArray⟩) := ⟨_, Hid.mk rfl⟩
  rw [← hS1.out]
  have s1 := dec_size hS1.out
  have s2 : S1.size ≤ 2000001 := by omega
  have y0 := Y3.out.c 0
  have y1 := Y3.out.c 1
  have y2 := Y3.out.c 2
  have y3 := Y3.out.c 3
  simp only [List.getElem?_toArray, List.getElem?_cons_zero, List.getElem?_cons_succ] at y0 y1 y2 y3
  have hT0 : (⟨#[121, 97, 114, 100, 32]⟩ : ByteArray) ++ S1 ++ ⟨#[10]⟩ = ⟨(wrT R C U cs 0).toArray⟩ := by
    have e : (⟨#[121, 97, 114, 100, 32]⟩ : ByteArray) = ⟨TX.headB.toArray⟩ := rfl
    rw [e, bytes_push, hS1.out, bytes_push]
    simp [wrT, TX.lineT, TX.sep, TX.rowsT]
  have HT0 := Hid.mk hT0
  clear hb3 hT0 y4
  go_wp2
  go_loopw [6, 7] (fun vs si wr => ∃ j : Nat, j ≤ R ∧ si = .int .i64 (j : Int) ∧ vs = .string ⟨(wrT R C U cs j).toArray⟩ ∧ w3 = wr) (fun _ si _ => R - (intOf si).toNat)
  case atStart => exact ⟨0, Nat.zero_le _, rfl, by rw [← HT0.out], rfl⟩
  case round =>
    obtain ⟨j, hj, rfl, rfl, rfl⟩ := hrel
    obtain ⟨S, hS⟩ : ∃ S : ByteArray, Hid (S = ⟨(wrT R C U cs j).toArray⟩) := ⟨_, Hid.mk rfl⟩
    rw [← hS.out]
    have hSz : S.size ≤ 2000 := by
      have h1 := wrT_small (cs := cs) (show U ≤ 99999 by have := GY.out.u2; omega) GY.out.r2 GY.out.c2 hj
      have h2 := size_of_list hS.out
      omega
    by_cases hlt : j < R
    · have e1 : decide ((j : Int) < (R : Int)) = true := by simp; omega
      have g1 := GY.out.r2
      have g2 := GY.out.c2
      have k1 : (j + 1) * C ≤ R * C := Nat.mul_le_mul_right C hlt
      have k2 : (j + 1) * C = j * C + C := Nat.succ_mul j C
      have m1 : (j : Int) * (C : Int) ≤ 36 := by rw [← Int.natCast_mul]; omega
      have m2 : 0 ≤ (j : Int) * (C : Int) := by rw [← Int.natCast_mul]; omega
      have m3 : ((j : Int) + 1) * (C : Int) ≤ 36 := by
        have : ((j : Int) + 1) * (C : Int) = (((j + 1) * C : Nat) : Int) := by push_cast; rfl
        omega
      have m4 : (j : Int) * (C : Int) ≤ ((j : Int) + 1) * (C : Int) := by
        have h1 : ((j : Int) + 1) * (C : Int) = (((j + 1) * C : Nat) : Int) := by push_cast; rfl
        have h2 : (j : Int) * (C : Int) = ((j * C : Nat) : Int) := by push_cast; rfl
        omega
      have m5 : ((j : Int) + 1) * (C : Int) ≤ (cs.size : Int) := by
        have h1 : ((j : Int) + 1) * (C : Int) = (((j + 1) * C : Nat) : Int) := by push_cast; rfl
        have := GY.out.sz
        omega
      have hex : min ((j + 1) * C) cs.size - j * C ≤ 36 := by
        have := GY.out.sz
        omega
      have hnx : S ++ cs.extract (j * C) ((j + 1) * C) ++ ⟨#[10]⟩ = ⟨(wrT R C U cs (j + 1)).toArray⟩ := by
        rw [hS.out, bytes_push, bytes_push, ext_list, wrT_succ hlt]
        have e : (cs.data.toList.take ((j + 1) * C)).drop (j * C) = (cs.data.toList.drop (j * C)).take C := by
          rw [List.drop_take, k2]
          congr 1
          omega
        rw [e]
        simp
      have HNX := Hid.mk hnx
      clear k1 k2 hnx
      go_wp2
      exact ⟨⟨j + 1, hlt, by go_num, by rw [← HNX.out], trivial⟩, by simp [intOf]; omega⟩
    · have e1 : decide ((j : Int) < (R : Int)) = false := by simp; omega
      have hjR : j = R := by omega
      have hT1 : S = ⟨(crT R C U m cs fr tt 0).toArray⟩ := by
        rw [hS.out, hjR]
        unfold crT
        simp [TX.cartsT]
      have HT1 := Hid.mk hT1
      have hm4 := GY.out.m2
      clear hT1 hjR
      go_wp2
      go_loopw [6, 8, 9, 10] (fun vs si _ _ wr => ∃ i : Nat, i ≤ m ∧ si = .int .i64 (i : Int) ∧ vs = .string ⟨(crT R C U m cs fr tt i).toArray⟩ ∧ Below w3.heap.size w3 wr) (fun _ si _ _ _ => m - (intOf si).toNat)
      case atStart => exact ⟨0, Nat.zero_le _, rfl, by rw [← HT1.out], Below.refl _ _⟩
      case round =>
        obtain ⟨i, hi, rfl, rfl, hbr⟩ := hrel
        obtain ⟨wo, rfl⟩ : ∃ q, q = wr := ⟨_, rfl⟩
        obtain ⟨S9, hS9⟩ : ∃ S : ByteArray, Hid (S = ⟨(crT R C U m cs fr tt i).toArray⟩) := ⟨_, Hid.mk rfl⟩
        rw [← hS9.out]
        have hle9 := GY.out.inn
        have hfi : ∀ q, q < m → (fr q).toNat ≤ 36 ∧ (tt q).toNat ≤ 36 := fun q hq => by
          have h := hle9 q hq
          omega
        have hSz9 : S9.size ≤ 2000 := by
          have h1 := crT_len (cs := cs) (show U ≤ 99999 by have := GY.out.u2; omega) GY.out.r2 GY.out.c2 hfi i hi
          have h2 := size_of_list hS9.out
          omega
        have B9 := Hid.mk hbr
        have Y9 : Hid (Box wo w.heap.size #[.int .i64 (R : Int), .int .i64 (C : Int), .string cs, .slice (some ⟨g, go, none⟩) m cc, .int .i64 (U : Int)]) := Hid.mk (Y3.out.belowB hbr Y3.out.lt)
        have C9 : Hid (CartsIn wo g go m fr tt) := Hid.mk (C3.out.below hbr)
        by_cases hlt : i < m
        · have e1 : decide ((i : Int) < (m : Int)) = true := by simp; omega
          obtain ⟨q1, q2, q3, q4⟩ := hle9 i hlt
          obtain ⟨za, hza⟩ : ∃ z : Nat, fr i = (z : Int) := ⟨(fr i).toNat, by omega⟩
          obtain ⟨zb, hzb⟩ : ∃ z : Nat, tt i = (z : Int) := ⟨(tt i).toNat, by omega⟩
          have hz1 : za ≤ 36 := by omega
          have hz2 : zb ≤ 36 := by omega
          have hzA := Hid.mk hza
          have hzB := Hid.mk hzb
          obtain ⟨p1, p2⟩ := C9.out i hlt
          rw [hza] at p1
          rw [hzb] at p2
          have P12 := Hid.mk (And.intro p1 p2)
          have hgw : g < wo.heap.size := World.block_lt_of_cell? _ _ p1
          have hyw : w.heap.size < wo.heap.size := Y9.out.lt
          have SP : Hid (∀ (z : Nat) (u : World), z ≤ 36 → Calls Tryd.prog 95 #[.agg #[.int .i64 (R : Int), .int .i64 (C : Int), .string cs, .slice (some ⟨g, go, none⟩) m cc, .int .i64 (U : Int)], .int .i64 (z : Int)] u fun e w' => e = .returned (.string (spotB C z)) ∧ Below u.heap.size u w') := Hid.mk fun z u hz => spot_any C z _ _ _ _ u GY.out.c1 (by omega) (by have := GY.out.c2; omega)
          have SALL : Hid (∀ u : World, Below wo.heap.size wo u → (fun u : World => u.cell? ⟨w.heap.size, 0, none⟩ = some (.int .i64 (R : Int)) ∧ u.cell? ⟨w.heap.size, 1, none⟩ = some (.int .i64 (C : Int)) ∧ u.cell? ⟨w.heap.size, 2, none⟩ = some (.string cs) ∧ u.cell? ⟨w.heap.size, 3, none⟩ = some (.slice (some ⟨g, go, none⟩) m cc) ∧ u.cell? ⟨w.heap.size, 4, none⟩ = some (.int .i64 (U : Int)) ∧
          u.cell? ⟨g, go + i * 2, none⟩ = some (.int .i64 (za : Int)) ∧ u.cell? ⟨g, go + i * 2 + 1, none⟩ = some (.int .i64 (zb : Int))) u) := Hid.mk fun u hu =>
            ⟨(hu.cell (p := ⟨w.heap.size, 0, none⟩) hyw).trans (Y9.out.c 0), (hu.cell (p := ⟨w.heap.size, 1, none⟩) hyw).trans (Y9.out.c 1), (hu.cell (p := ⟨w.heap.size, 2, none⟩) hyw).trans (Y9.out.c 2), (hu.cell (p := ⟨w.heap.size, 3, none⟩) hyw).trans (Y9.out.c 3), (hu.cell (p := ⟨w.heap.size, 4, none⟩) hyw).trans (Y9.out.c 4),
              (hu.cell (p := ⟨g, go + i * 2, none⟩) hgw).trans P12.out.1, (hu.cell (p := ⟨g, go + i * 2 + 1, none⟩) hgw).trans P12.out.2⟩
          have y3 := Y9.out.c 3
          simp only [List.getElem?_toArray, List.getElem?_cons_zero, List.getElem?_cons_succ] at y3
          have BX : Hid (Below wo.heap.size wo wo) := Hid.mk (Below.refl _ _)
          have l1 := spotB_len (C := C) hz1
          have l2 := spotB_len (C := C) hz2
          rw [Array.length_toList] at l1 l2
          have l3 : (spotB C za).size ≤ 11 := l1
          have l4 : (spotB C zb).size ≤ 11 := l2
          have hnx : S9 ++ spotB C za ++ ⟨#[32]⟩ ++ spotB C zb ++ ⟨#[10]⟩ = ⟨(crT R C U m cs fr tt (i + 1)).toArray⟩ := by
            rw [hS9.out, bytes_push, bytes_push, bytes_push, bytes_push, crT_succ hlt, hza, hzb]
            simp
          have HNX := Hid.mk hnx
          have hga := hz1
          clear hza hzb p1 p2 l1 l2 hnx hle9 hfi q1 q2 q3 q4 hbr
          go_upto_region 12 with fail
          have HS := SALL.out wo.drew (BX.out.drew)
          refine wp_region_any (by kernel_rfl) ?_
          change wpAny _ _ _ _ _ _ _ (World.drew _)
          refine wpAny_take (i := 1) (v := (.pointer (some ⟨w.heap.size, 3, none⟩))) rfl (by kernel_rfl) (by kernel_rfl) (by kernel_rfl) (fun _ _ _ h => h) (Or.inl ⟨by rfl, fun u => by go_simp⟩) ?_
          refine wpAny_take (i := 3) (v := (.int .i64 (i : Int))) rfl (by kernel_rfl) (by kernel_rfl) (by kernel_rfl) (fun _ _ _ h => h) (Or.inl ⟨by rfl, fun u => by go_simp⟩) ?_
          refine LM.any_of_L (late := LM.lateOf [7, 8]) (S := (fun u : World => u.cell? ⟨w.heap.size, 0, none⟩ = some (.int .i64 (R : Int)) ∧ u.cell? ⟨w.heap.size, 1, none⟩ = some (.int .i64 (C : Int)) ∧ u.cell? ⟨w.heap.size, 2, none⟩ = some (.string cs) ∧ u.cell? ⟨w.heap.size, 3, none⟩ = some (.slice (some ⟨g, go, none⟩) m cc) ∧ u.cell? ⟨w.heap.size, 4, none⟩ = some (.int .i64 (U : Int)) ∧
          u.cell? ⟨g, go + i * 2, none⟩ = some (.int .i64 (za : Int)) ∧ u.cell? ⟨g, go + i * 2 + 1, none⟩ = some (.int .i64 (zb : Int)))) _ _ _ _ ?_
          refine LM.L_take (i := 0) (v := (.agg #[.int .i64 (R : Int), .int .i64 (C : Int), .string cs, .slice (some ⟨g, go, none⟩) m cc, .int .i64 (U : Int)])) rfl (by kernel_rfl) (by kernel_rfl) (by kernel_rfl) (by kernel_rfl) (fun _ _ _ h => h) (Or.inl ⟨by rfl, fun u hu => by have a0 := hu.1; have a1 := hu.2.1; have a2 := hu.2.2.1; have a3 := hu.2.2.2.1; have a4 := hu.2.2.2.2.1; clear hu; go_simp⟩) HS ?_
          refine LM.L_take (i := 2) (v := (.slice (some ⟨g, go, none⟩) m cc)) rfl (by kernel_rfl) (by kernel_rfl) (by kernel_rfl) (by kernel_rfl) (fun _ _ _ h => h) (Or.inl ⟨by rfl, fun u hu => by have a3 := hu.2.2.2.1; clear hu; go_simp⟩) HS ?_
          refine LM.L_take (i := 4) (v := (.pointer (some ⟨g, go + i * 2, none⟩))) rfl (by kernel_rfl) (by kernel_rfl) (by kernel_rfl) (by kernel_rfl) (fun _ _ _ h => h) (Or.inl ⟨by rfl, fun u hu => by clear hu; go_simp⟩) HS ?_
          refine LM.L_take (i := 5) (v := (.pointer (some ⟨g, go + i * 2, none⟩))) rfl (by kernel_rfl) (by kernel_rfl) (by kernel_rfl) (by kernel_rfl) (fun _ _ _ h => h) (Or.inl ⟨by rfl, fun u hu => by clear hu; go_simp⟩) HS ?_
          refine LM.L_take (i := 6) (v := (.int .i64 (za : Int))) rfl (by kernel_rfl) (by kernel_rfl) (by kernel_rfl) (by kernel_rfl) (fun _ _ _ h => h) (Or.inl ⟨by rfl, fun u hu => by have a5 := hu.2.2.2.2.2.1; have a6 := hu.2.2.2.2.2.2; clear hu; go_simp⟩) HS ?_
          refine LM.L_rest (by kernel_rfl) ?_
          refine LM.any_one (i := 7) rfl (by kernel_rfl) rfl (fun K hK => ?_)
          go_simp
          refine (SP.out za _ hz1).mono ?_
          rintro e w6 ⟨rfl, hb6⟩
          refine hK _ _ ?_
          clear hK K
          refine wpAny_take (i := 8) (v := (.string (spotB C za))) rfl (by kernel_rfl) (by kernel_rfl) (by kernel_rfl) (fun _ _ _ h => h) (Or.inl ⟨by rfl, fun u => by go_simp⟩) ?_
          refine wpAny_done (by kernel_rfl) ?_ _
          have B6 : Hid (Below wo.heap.size wo w6) := Hid.mk (((Below.refl _ wo).drew).trans hb6)
          have hz6 : wo.heap.size ≤ w6.heap.size := B6.out.size
          clear hb6 HS
          go_upto_region 13 with fail
          have HS := SALL.out w6.drew (B6.out.drew)
          refine wp_region_any (by kernel_rfl) ?_
          change wpAny _ _ _ _ _ _ _ (World.drew _)
          refine wpAny_take (i := 1) (v := (.pointer (some ⟨w.heap.size, 3, none⟩))) rfl (by kernel_rfl) (by kernel_rfl) (by kernel_rfl) (fun _ _ _ h => h) (Or.inl ⟨by rfl, fun u => by go_simp⟩) ?_
          refine wpAny_take (i := 3) (v := (.int .i64 (i : Int))) rfl (by kernel_rfl) (by kernel_rfl) (by kernel_rfl) (fun _ _ _ h => h) (Or.inl ⟨by rfl, fun u => by go_simp⟩) ?_
          refine LM.any_of_L (late := LM.lateOf [7, 8]) (S := (fun u : World => u.cell? ⟨w.heap.size, 0, none⟩ = some (.int .i64 (R : Int)) ∧ u.cell? ⟨w.heap.size, 1, none⟩ = some (.int .i64 (C : Int)) ∧ u.cell? ⟨w.heap.size, 2, none⟩ = some (.string cs) ∧ u.cell? ⟨w.heap.size, 3, none⟩ = some (.slice (some ⟨g, go, none⟩) m cc) ∧ u.cell? ⟨w.heap.size, 4, none⟩ = some (.int .i64 (U : Int)) ∧
          u.cell? ⟨g, go + i * 2, none⟩ = some (.int .i64 (za : Int)) ∧ u.cell? ⟨g, go + i * 2 + 1, none⟩ = some (.int .i64 (zb : Int)))) _ _ _ _ ?_
          refine LM.L_take (i := 0) (v := (.agg #[.int .i64 (R : Int), .int .i64 (C : Int), .string cs, .slice (some ⟨g, go, none⟩) m cc, .int .i64 (U : Int)])) rfl (by kernel_rfl) (by kernel_rfl) (by kernel_rfl) (by kernel_rfl) (fun _ _ _ h => h) (Or.inl ⟨by rfl, fun u hu => by have a0 := hu.1; have a1 := hu.2.1; have a2 := hu.2.2.1; have a3 := hu.2.2.2.1; have a4 := hu.2.2.2.2.1; clear hu; go_simp⟩) HS ?_
          refine LM.L_take (i := 2) (v := (.slice (some ⟨g, go, none⟩) m cc)) rfl (by kernel_rfl) (by kernel_rfl) (by kernel_rfl) (by kernel_rfl) (fun _ _ _ h => h) (Or.inl ⟨by rfl, fun u hu => by have a3 := hu.2.2.2.1; clear hu; go_simp⟩) HS ?_
          refine LM.L_take (i := 4) (v := (.pointer (some ⟨g, go + i * 2, none⟩))) rfl (by kernel_rfl) (by kernel_rfl) (by kernel_rfl) (by kernel_rfl) (fun _ _ _ h => h) (Or.inl ⟨by rfl, fun u hu => by clear hu; go_simp⟩) HS ?_
          refine LM.L_take (i := 5) (v := (.pointer (some ⟨g, go + i * 2 + 1, none⟩))) rfl (by kernel_rfl) (by kernel_rfl) (by kernel_rfl) (by kernel_rfl) (fun _ _ _ h => h) (Or.inl ⟨by rfl, fun u hu => by clear hu; go_simp⟩) HS ?_
          refine LM.L_take (i := 6) (v := (.int .i64 (zb : Int))) rfl (by kernel_rfl) (by kernel_rfl) (by kernel_rfl) (by kernel_rfl) (fun _ _ _ h => h) (Or.inl ⟨by rfl, fun u hu => by have a5 := hu.2.2.2.2.2.1; have a6 := hu.2.2.2.2.2.2; clear hu; go_simp⟩) HS ?_
          refine LM.L_rest (by kernel_rfl) ?_
          refine LM.any_one (i := 7) rfl (by kernel_rfl) rfl (fun K hK => ?_)
          go_simp
          refine (SP.out zb _ hz2).mono ?_
          rintro e w7 ⟨rfl, hb7⟩
          refine hK _ _ ?_
          clear hK K
          refine wpAny_take (i := 8) (v := (.string (spotB C zb))) rfl (by kernel_rfl) (by kernel_rfl) (by kernel_rfl) (fun _ _ _ h => h) (Or.inl ⟨by rfl, fun u => by go_simp⟩) ?_
          refine wpAny_done (by kernel_rfl) ?_ _
          have B7 : Hid (Below wo.heap.size wo w7) := Hid.mk (B6.out.drew.trans (hb7.mono (by exact hz6)))
          clear hb7 HS
          obtain ⟨Z1, hZ1⟩ : ∃ Z, Hid (Z = spotB C za) := ⟨_, Hid.mk rfl⟩
          obtain ⟨Z2, hZ2⟩ : ∃ Z, Hid (Z = spotB C zb) := ⟨_, Hid.mk rfl⟩
          rw [← hZ1.out] at l3 ⊢
          rw [← hZ2.out] at l4 ⊢
          go_wp2
          go_roundw
          case rel => exact ⟨i + 1, hlt, by go_num, by rw [← HNX.out, hZ1.out, hZ2.out], B9.out.trans (B7.out.mono B9.out.size)⟩
          case measure => simp [intOf]; omega
        · have e1 : decide ((i : Int) < (m : Int)) = false := by simp; omega
          have him : i = m := by omega
          have HIM := Hid.mk him
          have y3 := Y9.out.c 3
          simp only [List.getElem?_toArray, List.getElem?_cons_zero, List.getElem?_cons_succ] at y3
          have BW : Hid (Below w.heap.size w wo) := Hid.mk (B3.out.trans (hbr.mono B3.out.size))
          clear him hbr
          go_wp2
          go_ret2
          exact ⟨S9, rfl, by rw [hS9.out, HIM.out, crT_all], BW.out⟩

end Go.Proofs.YtnkgpinadgacgaaDoor
