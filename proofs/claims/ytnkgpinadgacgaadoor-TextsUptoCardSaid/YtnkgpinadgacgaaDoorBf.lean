/- Plain facts on lists of numbers in which none stands twice: the free cells; a list without its i-th. No program is named here. -/
import Derived.Test.YtnkgpinadgacgaaDoorBa
import Derived.Test.YtnkgpinadgacgaaDoorBe
import Derived.Laws.CopyRow
import Derived.Laws.IdiomStrings
import Derived.Test.YtnkgpinadgacgaaDoorBd
namespace Go.Proofs.YtnkgpinadgacgaaDoor.M

/-- No number stands twice. -/
def Inj (L : List Int) : Prop := ∀ j k, j < L.length → k < L.length → L.getD j 0 = L.getD k 0 → j = k

theorem inj_nil : Inj [] := fun _ _ h => absurd h (Nat.not_lt_zero _)

theorem getD_append_old {L : List Int} {x : Int} {j : Nat} (h : j < L.length) : (L ++ [x]).getD j 0 = L.getD j 0 := by
  simp [List.getD, List.getElem?_append_left h]

theorem getD_append_new {L : List Int} {x : Int} : (L ++ [x]).getD L.length 0 = x := by simp [List.getD]

theorem inj_push {L : List Int} {x : Int} (h : Inj L) (hx : ∀ j, j < L.length → L.getD j 0 ≠ x) : Inj (L ++ [x]) := by
  intro j k hj hk he
  simp only [List.length_append, List.length_cons, List.length_nil] at hj hk
  by_cases ej : j < L.length
  · by_cases ek : k < L.length
    · rw [getD_append_old ej, getD_append_old ek] at he
      exact h j k ej ek he
    · have : k = L.length := by omega
      subst this
      rw [getD_append_old ej, getD_append_new] at he
      exact absurd he (hx j ej)
  · have e1 : j = L.length := by omega
    subst e1
    by_cases ek : k < L.length
    · rw [getD_append_old ek, getD_append_new] at he
      exact absurd he.symm (hx k ek)
    · omega

/-- The free cells below k. -/
def freeTo (cs : ByteArray) : Nat → List Int
  | 0 => []
  | k + 1 => if freeB cs k then freeTo cs k ++ [(k : Int)] else freeTo cs k

theorem freeTo_at {cs : ByteArray} : ∀ {k j : Nat}, j < (freeTo cs k).length → ∃ c : Nat, c < k ∧ (freeTo cs k).getD j 0 = c ∧ freeB cs c = true
  | 0, j, h => by simp [freeTo] at h
  | k + 1, j, h => by
    by_cases e : freeB cs k = true
    · simp only [freeTo, if_pos e] at h ⊢
      simp only [List.length_append, List.length_cons, List.length_nil] at h
      by_cases ej : j < (freeTo cs k).length
      · obtain ⟨c, h1, h2, h3⟩ := freeTo_at (k := k) ej
        exact ⟨c, by omega, by rw [getD_append_old ej]; exact h2, h3⟩
      · have : j = (freeTo cs k).length := by omega
        subst this
        exact ⟨k, by omega, getD_append_new, e⟩
    · simp only [freeTo, if_neg e] at h ⊢
      obtain ⟨c, h1, h2, h3⟩ := freeTo_at (k := k) h
      exact ⟨c, by omega, h2, h3⟩

theorem freeTo_inj (cs : ByteArray) : ∀ k, Inj (freeTo cs k)
  | 0 => inj_nil
  | k + 1 => by
    by_cases e : freeB cs k = true
    · simp only [freeTo, if_pos e]
      refine inj_push (freeTo_inj cs k) fun j hj he => ?_
      obtain ⟨c, h1, h2, _⟩ := freeTo_at hj
      rw [h2] at he; omega
    · simp only [freeTo, if_neg e]; exact freeTo_inj cs k

theorem freeTo_len (cs : ByteArray) : ∀ k, (freeTo cs k).length ≤ k
  | 0 => Nat.le_refl 0
  | k + 1 => by
    have := freeTo_len cs k
    simp only [freeTo]
    split <;> simp <;> omega

theorem freeTo_pos {cs : ByteArray} (h : freeB cs 0 = true) : ∀ k, 0 < (freeTo cs (k + 1)).length
  | 0 => by simp [freeTo, h]
  | k + 1 => by
    have := freeTo_pos h k
    rw [freeTo]
    split
    · simp
    · exact this

/-- A list without its i-th, as far as k. -/
def woTo (L : List Int) (i : Nat) : Nat → List Int
  | 0 => []
  | k + 1 => if k = i then woTo L i k else woTo L i k ++ [L.getD k 0]

theorem woTo_at {L : List Int} {i : Nat} : ∀ {k j : Nat}, j < (woTo L i k).length → ∃ c : Nat, c < k ∧ c ≠ i ∧ (woTo L i k).getD j 0 = L.getD c 0
  | 0, j, h => by simp [woTo] at h
  | k + 1, j, h => by
    by_cases e : k = i
    · simp only [woTo, if_pos e] at h ⊢
      obtain ⟨c, h1, h2, h3⟩ := woTo_at (k := k) h
      exact ⟨c, by omega, h2, h3⟩
    · simp only [woTo, if_neg e] at h ⊢
      simp only [List.length_append, List.length_cons, List.length_nil] at h
      by_cases ej : j < (woTo L i k).length
      · obtain ⟨c, h1, h2, h3⟩ := woTo_at (k := k) ej
        exact ⟨c, by omega, h2, by rw [getD_append_old ej]; exact h3⟩
      · have : j = (woTo L i k).length := by omega
        subst this
        exact ⟨k, by omega, e, getD_append_new⟩

theorem woTo_inj {L : List Int} (h : Inj L) (i : Nat) : ∀ k, k ≤ L.length → Inj (woTo L i k)
  | 0, _ => inj_nil
  | k + 1, hk => by
    by_cases e : k = i
    · simp only [woTo, if_pos e]; exact woTo_inj h i k (by omega)
    · simp only [woTo, if_neg e]
      refine inj_push (woTo_inj h i k (by omega)) fun j hj he => ?_
      obtain ⟨c, h1, _, h3⟩ := woTo_at hj
      rw [h3] at he
      have := h c k (by omega) (by omega) he
      omega

theorem woTo_len (L : List Int) (i : Nat) : ∀ k, (woTo L i k).length = if i < k then k - 1 else k
  | 0 => by simp [woTo]
  | k + 1 => by
    have := woTo_len L i k
    simp only [woTo]
    by_cases e : k = i
    · rw [if_pos e, this]; subst e; simp
    · rw [if_neg e, List.length_append, this]
      by_cases e2 : i < k
      · rw [if_pos e2, if_pos (by omega)]; simp; omega
      · rw [if_neg e2, if_neg (by omega)]; simp

end Go.Proofs.YtnkgpinadgacgaaDoor.M

/- Plain facts on the cells of a raw yard. No program is named here. -/
namespace Go.Proofs.YtnkgpinadgacgaaDoor.M

/-- A cell's byte: a wall, where the raw byte is a multiple of four, but never the first. -/
def wallB (s : ByteArray) (i : Nat) : UInt8 := if h : i < s.size then (if (s[i]).toNat % 4 = 0 ∧ 0 < i then 35 else 46) else 46

def wallL (s : ByteArray) (n : Nat) : List UInt8 := (List.range n).map (wallB s)
def wallS (s : ByteArray) (n : Nat) : ByteArray := ⟨(wallL s n).toArray⟩

theorem wallB_or (s : ByteArray) (i : Nat) : wallB s i = 35 ∨ wallB s i = 46 := by
  unfold wallB
  split
  · split
    · exact Or.inl rfl
    · exact Or.inr rfl
  · exact Or.inr rfl

theorem wallB_zero (s : ByteArray) : wallB s 0 = 46 := by
  unfold wallB
  split
  · rw [if_neg (by omega)]
  · rfl

theorem wallL_len (s : ByteArray) (n : Nat) : (wallL s n).length = n := by simp [wallL]
theorem wallS_size (s : ByteArray) (n : Nat) : (wallS s n).size = n := by
  show (wallL s n).toArray.size = n
  simp [wallL]

theorem wallS_at (s : ByteArray) (n i : Nat) (h : i < (wallS s n).size) : (wallS s n)[i] = wallB s i := by
  show (wallL s n).toArray[i]'_ = _
  simp [wallL]

theorem wall_free_zero (s : ByteArray) {n : Nat} (h : 0 < n) : freeB (wallS s n) 0 = true := by
  have hs := wallS_size s n
  rw [freeB_in (Int.le_refl 0) (by omega)]
  show (((wallS s n)[0]'_).toNat : Int) == 46
  rw [wallS_at, wallB_zero]; rfl

theorem wall_good (s : ByteArray) (n : Nat) : ∀ j, j < (wallS s n).size → badB (wallS s n) j = false := by
  intro j hj
  rw [badB_in hj, wallS_at]
  rcases wallB_or s j with e | e <;> rw [e] <;> rfl

end Go.Proofs.YtnkgpinadgacgaaDoor.M

/- Walks of the small functions by which a raw yard is shaped and looked at: pick, free, without, right, may. -/
namespace Go.Proofs.YtnkgpinadgacgaaDoor
open Go.RowKit M

theorem ret_intx {a b : Int} (h : a = b) : Ending.returned (.int .i64 a) = .returned (.int .i64 b) := by rw [h]

set_option maxHeartbeats 400000 in
theorem pick_any (c : Int) (n : Nat) (w : World) (hn0 : 0 < n) (hn1 : n ≤ 20000) (hc : (Lit.int .i64 c).wf = true) :
    Calls Tryd.prog 50 #[.int .i64 c, .int .i64 n] w fun e w' => ∃ r : Nat, r < n ∧ e = .returned (.int .i64 r) ∧ w' = w := by
  have hb : -9223372036854775808 ≤ c ∧ c ≤ 9223372036854775807 := by simpa [Lit.wf, IntKind.min, IntKind.max, IntKind.signed, IntKind.bits] using hc
  clear hc
  obtain ⟨h1, h2⟩ := hb
  have hnz : ((n : Int) == 0) = false := by simp; omega
  by_cases h0 : c < 0
  · have q0 := Int.emod_nonneg (-(c + 1)) (show (n : Int) ≠ 0 by omega)
    have q1 := Int.emod_lt_of_pos (-(c + 1)) (show (0 : Int) < n by omega)
    have q2 : -(c + 1).tmod n = (-(c + 1)) % n := by rw [← Int.neg_tmod, Int.tmod_eq_emod_of_nonneg (by omega)]
    obtain ⟨r, hr⟩ := Int.eq_ofNat_of_zero_le q0
    have H := Hid.mk (show r < n ∧ -(c + 1).tmod n = (r : Int) from ⟨by omega, by rw [q2, hr]⟩)
    clear q0 q1 q2 hr
    go_enter Tryd.func50, Tryd.ntmps50
    go_wp2
    go_ret
    exact ⟨r, H.out.1, ret_intx H.out.2, rfl⟩
  · have q0 := Int.emod_nonneg c (show (n : Int) ≠ 0 by omega)
    have q1 := Int.emod_lt_of_pos c (show (0 : Int) < n by omega)
    obtain ⟨r, hr⟩ := Int.eq_ofNat_of_zero_le q0
    have H := Hid.mk (show r < n ∧ c % n = (r : Int) from ⟨by omega, hr⟩)
    clear q0 q1 hr
    go_enter Tryd.func50, Tryd.ntmps50
    go_wp2
    go_ret
    exact ⟨r, H.out.1, ret_intx H.out.2, rfl⟩

theorem ints_push (L : List Int) (x : Int) : ints L ++ [.int .i64 x] = ints (L ++ [x]) := by simp [ints]

set_option maxRecDepth 100000 in
set_option maxHeartbeats 1000000 in
theorem kfree_any (ro co bu : Int) (cs : ByteArray) (ca : Value) (w : World) (hs : cs.size ≤ 36) :
    Calls Tryd.prog 49 #[.agg #[.int .i64 ro, .int .i64 co, .string cs, ca, .int .i64 bu]] w fun e w' =>
      ∃ v, e = .returned v ∧ w'.ownsRow w.heap.size 3 1 v (freeTo cs cs.size).length (ints (freeTo cs cs.size)) ∧ Below w.heap.size w w' := by
  go_enter Tryd.func49, Tryd.ntmps49
  go_wp2
  have hB0 : Hid (Below w.heap.size w (w.alloc (Obj.cells #[Value.int IntKind.i64 ro, Value.int IntKind.i64 co, Value.string cs, ca, Value.int IntKind.i64 bu] 24))) := (Below.refl _ w).alloc (Nat.le_refl _) _
  have y0 : ∀ o, (w.alloc (Obj.cells #[Value.int IntKind.i64 ro, Value.int IntKind.i64 co, Value.string cs, ca, Value.int IntKind.i64 bu] 24)).cell? ⟨w.heap.size, o, none⟩ = #[Value.int .i64 ro, .int .i64 co, .string cs, ca, .int .i64 bu][o]? := by
    intro o; go_simp
  have hz0 : (w.alloc (Obj.cells #[Value.int IntKind.i64 ro, Value.int IntKind.i64 co, Value.string cs, ca, Value.int IntKind.i64 bu] 24)).heap.size = w.heap.size + 1 := by simp
  generalize w.alloc (Obj.cells #[Value.int IntKind.i64 ro, Value.int IntKind.i64 co, Value.string cs, ca, Value.int IntKind.i64 bu] 24) = w1 at *
  go_loopw [3, 4] (fun v s wr => ∃ k : Nat, k ≤ cs.size ∧ s = .int .i64 k ∧ wr.ownsRow (w.heap.size + 1) 3 1 v (freeTo cs k).length (ints (freeTo cs k)) ∧ Below (w.heap.size + 1) w1 wr) (fun _ s _ => cs.size - (intOf s).toNat)
  case atStart => exact ⟨0, Nat.zero_le _, rfl, own_nil _ _ _, Below.refl _ _⟩
  case round =>
    obtain ⟨k, hk, rfl, hown, hbr⟩ := hrel
    have y1 : ∀ o, wr.cell? ⟨w.heap.size, o, none⟩ = #[Value.int .i64 ro, .int .i64 co, .string cs, ca, .int .i64 bu][o]? := fun o => (hbr.cell (p := ⟨w.heap.size, o, none⟩) (by show w.heap.size < _; omega)).trans (y0 o)
    have hlen := freeTo_len cs k
    have hszr := hbr.size
    have HO := Hid.mk hown
    have HB := Hid.mk hbr
    clear hown hbr y0
    by_cases hlt : k < cs.size
    · have hin := freeB_in (cs := cs) (c := (k : Int)) (by omega) (by omega)
      simp only [Int.toNat_natCast] at hin
      by_cases hf : freeB cs k = true
      · have hb : ((cs[k].toNat : Int) == 46) = true := by rw [← hin]; exact hf
        have e3 : freeTo cs (k + 1) = freeTo cs k ++ [(k : Int)] := by rw [freeTo, if_pos hf]
        have E3 := Hid.mk e3
        clear hin hf e3
        go_wp2_with (at_builtin; go_must (refine wpList_push rfl _ _ 26 rfl (w.heap.size + 1) 3 _ _ Tryd.underlying26 Tryd.infoInt rfl _ _ _ rfl (by exact own_below HO.out ((Below.refl _ _).alloc (Nat.le_refl _) _)) _ _ (.int .i64 (k : Int)) rfl (by go_simp) rfl (by unfold maxLen; omega) (by omega) (by simp; omega) ?_))
        intro g cap w3 ho3 hg3
        have hb3 := Hid.mk (grown_below (own_below HO.out ((Below.refl _ _).alloc (Nat.le_refl _) _)) hg3 (by simp; omega))
        have HO3 := Hid.mk ho3
        clear ho3 hg3
        go_wp2
        go_roundw
        case rel => exact ⟨k + 1, by omega, by go_num, by rw [E3.out]; simpa [ints] using HO3.out, HB.out.trans (((Below.refl _ _).alloc (by omega) _).trans hb3.out)⟩
        case measure => simp [intOf]; omega
      · have hb : ((cs[k].toNat : Int) == 46) = false := by rw [← hin]; simpa using hf
        have E3 := Hid.mk (show freeTo cs (k + 1) = freeTo cs k by rw [freeTo, if_neg hf])
        clear hin hf
        go_wp2
        go_roundw
        case rel => exact ⟨k + 1, by omega, by go_num, by rw [E3.out]; exact HO.out, HB.out⟩
        case measure => simp [intOf]; omega
    · have hd : Hid (k = cs.size) := by show k = cs.size; omega
      go_wp2
      go_ret
      exact ⟨u3, rfl, by rw [← hd.out]; exact own_base HO.out (by omega), hB0.out.trans (HB.out.mono (by omega))⟩

set_option maxRecDepth 100000 in
set_option maxHeartbeats 1000000 in
theorem without_any (g cap base : Nat) (L : List Int) (i : Nat) (w : World) (hL : L.length ≤ 36) (hi : i < L.length) (ho : w.ownsRow base 3 1 (.slice (some ⟨g, 0, none⟩) L.length cap) L.length (ints L)) :
    Calls Tryd.prog 103 #[.slice (some ⟨g, 0, none⟩) L.length cap, .int .i64 i] w fun e w' =>
      ∃ v, e = .returned v ∧ w'.ownsRow w.heap.size 3 1 v (woTo L i L.length).length (ints (woTo L i L.length)) ∧ Below w.heap.size w w' := by
  have HL := Hid.mk ho
  clear ho
  go_enter Tryd.func103, Tryd.ntmps103
  go_wp2
  go_loopw [5, 6] (fun v s wr => ∃ k : Nat, k ≤ L.length ∧ s = .int .i64 k ∧ wr.ownsRow w.heap.size 3 1 v (woTo L i k).length (ints (woTo L i k)) ∧ Below w.heap.size w wr) (fun _ s _ => L.length - (intOf s).toNat)
  case atStart => exact ⟨0, Nat.zero_le _, rfl, own_nil _ _ _, Below.refl _ _⟩
  case round =>
    obtain ⟨k, hk, rfl, hown, hbr⟩ := hrel
    have hlen := woTo_len L i k
    have hle : (woTo L i k).length ≤ 36 := by rw [hlen]; split <;> omega
    have hszr := hbr.size
    have HO := Hid.mk hown
    have HB := Hid.mk hbr
    have HLr := Hid.mk (own_below HL.out hbr)
    clear hown hbr hlen
    by_cases hlt : k < L.length
    · by_cases hki : k = i
      · have hb : ((k : Int) != (i : Int)) = false := by simp [hki]
        have E3 := Hid.mk (show woTo L i (k + 1) = woTo L i k by rw [woTo, if_pos hki])
        clear hki
        go_wp2
        go_roundw
        case rel => exact ⟨k + 1, by omega, by go_num, by rw [E3.out]; exact HO.out, HB.out⟩
        case measure => simp [intOf]; omega
      · have hb : ((k : Int) != (i : Int)) = true := by simp; omega
        have E3 := Hid.mk (show woTo L i (k + 1) = woTo L i k ++ [L.getD k 0] by rw [woTo, if_neg hki])
        clear hki
        have hx := own_cell HLr.out hlt
        rw [ints_at' hlt] at hx
        have hgl := (own_lt HLr.out).2
        go_wp2_with (at_builtin; go_must (refine wpList_push rfl _ _ 26 rfl w.heap.size 3 _ _ Tryd.underlying26 Tryd.infoInt rfl _ _ _ rfl (by exact own_below HO.out ((Below.refl _ _).alloc (Nat.le_refl _) _)) _ _ (.int .i64 (L.getD k 0)) rfl (by go_simp) rfl (by unfold maxLen; omega) (by omega) (by simp; omega) ?_))
        intro g' cap' w3 ho3 hg3
        have hb3 := Hid.mk (grown_below (own_below HO.out ((Below.refl _ _).alloc (Nat.le_refl _) _)) hg3 (by simp; omega))
        have HO3 := Hid.mk ho3
        clear ho3 hg3
        go_wp2
        go_roundw
        case rel => exact ⟨k + 1, by omega, by go_num, by rw [E3.out, ← ints_push, List.length_append, show L.getD k 0 = L[k] from by simp [List.getD, hlt]]; exact HO3.out, HB.out.trans (((Below.refl _ _).alloc (by omega) _).trans hb3.out)⟩
        case measure => simp [intOf]; omega
    · have hd : Hid (k = L.length) := by show k = L.length; omega
      go_wp2
      go_ret
      exact ⟨u5, rfl, by rw [← hd.out]; exact HO.out, HB.out⟩

set_option maxHeartbeats 400000 in
theorem right_any (ro co bu : Int) (cs : ByteArray) (a : Option Addr) (n cap : Nat) (fr tt : Nat → Int) (w : World) (hs : cs.size ≤ maxLen) (hn : n ≤ maxLen) (hcap : n ≤ cap)
    (ha : 0 < n → ∃ b off, a = some ⟨b, off, none⟩ ∧ CartsIn w b off n fr tt) (hck : checkM ro co cs n fr tt bu = (0, 0)) :
    Calls Tryd.prog 48 #[.agg #[.int .i64 ro, .int .i64 co, .string cs, .slice a n cap, .int .i64 bu]] w fun e w' => e = .returned (.bool true) ∧ Below w.heap.size w w' := by
  go_enter Tryd.func48, Tryd.ntmps48
  go_wp2_with fail
  refine (check_any _ _ _ _ _ _ _ fr tt _ hs hn hcap (by exact opt_below ha ((Below.refl _ _).alloc (Nat.le_refl _) _))).mono ?_
  rintro e w1 ⟨rfl, hb1⟩
  rw [hck]
  go_wp2
  go_ret
  exact ⟨rfl, ((Below.refl _ _).alloc (Nat.le_refl _) _).trans (hb1.mono (by simp))⟩

end Go.Proofs.YtnkgpinadgacgaaDoor

/- Walk of may, and of walls: the cells of a raw yard. -/
namespace Go.Proofs.YtnkgpinadgacgaaDoor
open Go.RowKit M

/-- May a cart go from a to b, as the statements without the document's answer have it? -/
def kmay (co : Int) (cs : ByteArray) (a b : Int) : Bool := freeB cs b && nearM co a b

theorem kmay_same {co a b : Int} {cs : ByteArray} (hf : freeB cs b = true) (h1 : 1 ≤ co) (h2 : co ≤ 6) (e : a / co = b / co) : kmay co cs a b = (decide (a - b ≤ 1) && decide (b - a ≤ 1)) := by
  unfold kmay
  rw [hf, Bool.true_and, Bool.eq_iff_iff, near_iff]
  simp only [Bool.and_eq_true, decide_eq_true_eq]
  have hc : co = 1 ∨ co = 2 ∨ co = 3 ∨ co = 4 ∨ co = 5 ∨ co = 6 := by omega
  rcases hc with hc | hc | hc | hc | hc | hc <;> subst hc <;> omega

theorem kmay_other {co a b : Int} {cs : ByteArray} (hf : freeB cs b = true) (h1 : 1 ≤ co) (h2 : co ≤ 6) (e : a / co ≠ b / co) : kmay co cs a b = (a == b + co || b == a + co) := by
  unfold kmay
  rw [hf, Bool.true_and, Bool.eq_iff_iff, near_iff]
  simp only [Bool.or_eq_true, beq_iff_eq]
  have hc : co = 1 ∨ co = 2 ∨ co = 3 ∨ co = 4 ∨ co = 5 ∨ co = 6 := by omega
  rcases hc with hc | hc | hc | hc | hc | hc <;> subst hc <;> omega

set_option maxRecDepth 100000 in
set_option maxHeartbeats 1000000 in
theorem kmay_any (ro co bu : Int) (a b : Nat) (cs : ByteArray) (ca : Value) (w : World) (hs : cs.size ≤ 36) (h1 : 1 ≤ co) (h2 : co ≤ 6) (ha : a < cs.size) (hb : b < cs.size) :
    Calls Tryd.prog 51 #[.agg #[.int .i64 ro, .int .i64 co, .string cs, ca, .int .i64 bu], .int .i64 a, .int .i64 b] w fun e w' => e = .returned (.bool (kmay co cs a b)) ∧ Below w.heap.size w w' := by
  obtain ⟨p1, p2, p3, p4⟩ := divmod_bd (a := (a : Int)) (by omega) (by omega) h1 h2
  obtain ⟨q1, q2, q3, q4⟩ := divmod_bd (a := (b : Int)) (by omega) (by omega) h1 h2
  have hco : (co == 0) = false := by simp; omega
  have hin := freeB_in (cs := cs) (c := (b : Int)) (by omega) (by omega)
  simp only [Int.toNat_natCast] at hin
  by_cases hf : freeB cs b = true
  · have hbb : ((cs[b].toNat : Int) != 46) = false := by rw [hin] at hf; simpa using hf
    have HF := Hid.mk hf
    clear hin hf
    by_cases e : (a : Int) / co = (b : Int) / co
    · have eb : ((a : Int) / co == (b : Int) / co) = true := by simpa using e
      have HK := Hid.mk (kmay_same (co := co) HF.out h1 h2 e)
      clear e
      by_cases f1 : (a : Int) - b ≤ 1
      · go_enter Tryd.func51, Tryd.ntmps51
        go_wp2
        go_quiet (fail)
        go_wp2
        go_ret
        exact ⟨ret_bool (by rw [HK.out]; simp; omega), below_drewN ((Below.refl _ _).alloc (Nat.le_refl _) _) _⟩
      · have f1' : decide ((a : Int) - b ≤ 1) = false := by simp; omega
        go_enter Tryd.func51, Tryd.ntmps51
        go_wp2
        go_quiet (fail)
        go_wp2
        go_ret
        exact ⟨ret_bool (by rw [HK.out]; simp; omega), below_drewN ((Below.refl _ _).alloc (Nat.le_refl _) _) _⟩
    · have eb : ((a : Int) / co == (b : Int) / co) = false := by simpa using e
      have HK := Hid.mk (kmay_other (co := co) HF.out h1 h2 e)
      clear e
      by_cases f1 : (a : Int) = b + co
      · have f1' : ((a : Int) == (b : Int) + co) = true := by simpa using f1
        clear f1
        go_enter Tryd.func51, Tryd.ntmps51
        go_wp2
        go_quiet (fail)
        go_wp2
        go_ret
        exact ⟨ret_bool (by rw [HK.out, f1']; simp), below_drewN ((Below.refl _ _).alloc (Nat.le_refl _) _) _⟩
      · have f1' : ((a : Int) == (b : Int) + co) = false := by simpa using f1
        clear f1
        go_enter Tryd.func51, Tryd.ntmps51
        go_wp2
        go_quiet (fail)
        go_wp2
        go_ret
        exact ⟨ret_bool (by rw [HK.out, f1']; simp), below_drewN ((Below.refl _ _).alloc (Nat.le_refl _) _) _⟩
  · have hbb : ((cs[b].toNat : Int) != 46) = true := by rw [hin] at hf; simpa using hf
    have HK := Hid.mk (show kmay co cs a b = false by unfold kmay; rw [show freeB cs b = false by simpa using hf]; rfl)
    clear hin hf
    go_enter Tryd.func51, Tryd.ntmps51
    go_wp2
    go_ret
    exact ⟨ret_bool HK.out.symm, (Below.refl _ _).alloc (Nat.le_refl _) _⟩

end Go.Proofs.YtnkgpinadgacgaaDoor

/- Walk of walls: the cells of a raw yard. -/
namespace Go.Proofs.YtnkgpinadgacgaaDoor
open Go.RowKit M

theorem Tryd.infoByte : (Tryd.prog.info? 5).map (fun i => (i.zero, i.size, i.bytes)) = some (some (.int .u8 0), 1, 1) := by kernel_rfl

def byV (f : Nat → Int) (i : Nat) : Value := .int .u8 (f i)
def wallF (s : ByteArray) (k i : Nat) : Int := if i < k then ((wallB s i).toNat : Int) else 0

theorem byrow_zero (s : ByteArray) (N : Nat) (w : World) (t : TypeId) (k : Nat) (hk : k = w.heap.size) : (w.alloc (.cells (madeCells #[.int .u8 0] N) t)).rowIs k t N (byV (wallF s 0)) := by
  subst hk
  refine rowIs_made _ _ _ _ fun i _ => ?_
  simp [Nat.mod_one, byV, wallF]

theorem byrow_store {w : World} {g N : Nat} {t : TypeId} {s : ByteArray} {k : Nat} (h : w.rowIs g t N (byV (wallF s k))) (v : Int) (hv : v = ((wallB s k).toNat : Int)) : (w.setCell ⟨g, k, none⟩ (.int .u8 v)).rowIs g t N (byV (wallF s (k + 1))) := by
  refine (h.set k _).congr fun j hj => ?_
  unfold byV wallF
  by_cases e : j = k
  · subst e; rw [if_pos rfl, if_pos (by omega), hv]
  · rw [if_neg e]
    by_cases e2 : j < k
    · rw [if_pos e2, if_pos (show j < k + 1 by omega)]
    · rw [if_neg e2, if_neg (show ¬ j < k + 1 by omega)]

theorem byrow_store2 {w : World} {g N : Nat} {t : TypeId} {s : ByteArray} {k : Nat} (h : w.rowIs g t N (byV (wallF s k))) (u v : Int) (hv : v = ((wallB s k).toNat : Int)) : ((w.setCell ⟨g, k, none⟩ (.int .u8 u)).setCell ⟨g, k, none⟩ (.int .u8 v)).rowIs g t N (byV (wallF s (k + 1))) := by
  refine ((h.set k _).set k _).congr fun j hj => ?_
  unfold byV wallF
  by_cases e : j = k
  · subst e; rw [if_pos rfl, if_pos (by omega), hv]
  · rw [if_neg e, if_neg e]
    by_cases e2 : j < k
    · rw [if_pos e2, if_pos (show j < k + 1 by omega)]
    · rw [if_neg e2, if_neg (show ¬ j < k + 1 by omega)]

set_option maxRecDepth 100000 in
set_option maxHeartbeats 1000000 in
theorem walls_any (ro co bu : Int) (s : ByteArray) (ca : Value) (n : Nat) (w : World) (hn : n ≤ 36) :
    Calls Tryd.prog 102 #[.agg #[.int .i64 ro, .int .i64 co, .string s, ca, .int .i64 bu], .int .i64 n] w fun e w' => e = .returned (.string (wallS s n)) ∧ Below w.heap.size w w' := by
  go_enter Tryd.func102, Tryd.ntmps102
  go_wp2_with (at_make; go_must (refine wpList_make_all _ rfl _ _ 201 rfl 5 _ _ _ Tryd.underlying201 Tryd.infoByte _ _ _ _ n rfl rfl rfl rfl (by omega) (by omega) ?_))
  have hrow0 := Hid.mk (byrow_zero s n (w.alloc (Obj.cells #[Value.int IntKind.i64 ro, Value.int IntKind.i64 co, Value.string s, ca, Value.int IntKind.i64 bu] 79)) 5 (w.heap.size + 1) (by simp))
  have hB3 : Hid (Below w.heap.size w ((w.alloc (Obj.cells #[Value.int IntKind.i64 ro, Value.int IntKind.i64 co, Value.string s, ca, Value.int IntKind.i64 bu] 79)).alloc (Obj.cells (madeCells #[Value.int IntKind.u8 0] n) 5))) := ((Below.refl _ w).alloc (Nat.le_refl _) _).alloc (by simp) _
  have y3 : ∀ o, ((w.alloc (Obj.cells #[Value.int IntKind.i64 ro, Value.int IntKind.i64 co, Value.string s, ca, Value.int IntKind.i64 bu] 79)).alloc (Obj.cells (madeCells #[Value.int IntKind.u8 0] n) 5)).cell? ⟨w.heap.size, o, none⟩ = #[Value.int .i64 ro, .int .i64 co, .string s, ca, .int .i64 bu][o]? := by
    intro o; go_simp
  generalize (w.alloc (Obj.cells #[Value.int IntKind.i64 ro, Value.int IntKind.i64 co, Value.string s, ca, Value.int IntKind.i64 bu] 79)).alloc (Obj.cells (madeCells #[Value.int IntKind.u8 0] n) 5) = w3 at *
  obtain ⟨g, hg⟩ : ∃ g, g = w.heap.size + 1 := ⟨_, rfl⟩
  rw [← hg] at hrow0 ⊢
  have hg0 : w.heap.size < g := by omega
  have Hg := Hid.mk hg
  clear hg
  go_loopw [6] (fun v wr => ∃ k : Nat, k ≤ n ∧ v = .int .i64 k ∧ wr.rowIs g 5 n (byV (wallF s k)) ∧ Below g w3 wr) (fun v _ => n - (intOf v).toNat)
  case atStart => exact ⟨0, Nat.zero_le _, rfl, hrow0.out, Below.refl _ _⟩
  case round =>
    obtain ⟨k, hk, rfl, hrw, hbr⟩ := hrel
    have HW := Hid.mk hrw
    have HB := Hid.mk hbr
    have y1 : ∀ o, wr.cell? ⟨w.heap.size, o, none⟩ = #[Value.int .i64 ro, .int .i64 co, .string s, ca, .int .i64 bu][o]? := fun o => (hbr.cell (p := ⟨w.heap.size, o, none⟩) hg0).trans (y3 o)
    by_cases hlt : k < n
    · have x1 := hrw.cell (i := k) hlt
      have x3 := hrw.frozen
      clear hrw hbr y3
      by_cases c1 : k < s.size
      · by_cases c2 : ((s[k].toNat : Int) % 4 == 0) = true
        · by_cases c3 : 0 < k
          · go_wp2
            go_roundw
            case rel => exact ⟨k + 1, by omega, by go_num, byrow_store2 HW.out 46 35 (by unfold wallB; rw [dif_pos c1, if_pos ⟨by simp at c2; omega, c3⟩]; rfl), (HB.out.setCell (Nat.le_refl _) _).setCell (Nat.le_refl _) _⟩
            case measure => simp [intOf]; omega
          · have c3' : decide ((0 : Int) < (k : Int)) = false := by simp; omega
            go_wp2
            go_roundw
            case rel => exact ⟨k + 1, by omega, by go_num, byrow_store HW.out 46 (by unfold wallB; rw [dif_pos c1, if_neg (by omega)]; rfl), HB.out.setCell (Nat.le_refl _) _⟩
            case measure => simp [intOf]; omega
        · have c2' : ((s[k].toNat : Int) % 4 == 0) = false := by simpa using c2
          go_wp2
          go_roundw
          case rel => exact ⟨k + 1, by omega, by go_num, byrow_store HW.out 46 (by unfold wallB; rw [dif_pos c1, if_neg (by simp at c2'; omega)]; rfl), HB.out.setCell (Nat.le_refl _) _⟩
          case measure => simp [intOf]; omega
      · have c1' : decide ((k : Int) < (s.size : Int)) = false := by simp; omega
        go_wp2
        go_roundw
        case rel => exact ⟨k + 1, by omega, by go_num, byrow_store HW.out 46 (by unfold wallB; rw [dif_neg (by omega)]; rfl), HB.out.setCell (Nat.le_refl _) _⟩
        case measure => simp [intOf]; omega
    · have hd : k = n := by omega
      subst hd
      have hcv : (convert 201 9 (.slice (some ⟨g, 0, none⟩) (wallL s k).length k)).run Tryd.prog wr = .ok (.string (wallS s k)) wr :=
        run_convert_bytes_back wr 201 9 5 ⟨g, 0, none⟩ k (wallL s k) Tryd.underlying201 Tryd.underlying5 Tryd.underlying9 (fun j hj => by
          have hjk : j < k := by rw [wallL_len] at hj; exact hj
          have e1 : (⟨g, 0, none⟩ : Addr).add j = ⟨g, j, none⟩ := by unfold Addr.add; split <;> simp_all
          rw [e1, hrw.cell hjk]
          simp [byV, wallF, hjk, wallL])
      rw [wallL_len] at hcv
      clear hrw hbr y3
      go_wp2
      go_ret
      exact ⟨rfl, hB3.out.trans (HB.out.mono (by omega))⟩

end Go.Proofs.YtnkgpinadgacgaaDoor

/- Plain facts on the carts of a shaped yard: while they are chosen, and that Check lets the yard by. -/
namespace Go.Proofs.YtnkgpinadgacgaaDoor
open M

/-- While carts are chosen: the cells that are left for Froms and Tos, and the m carts that are. -/
structure Shape (cs : ByteArray) (Lf Lt : List Int) (m : Nat) (fr tt : Nat → Int) : Prop where
  ff : ∀ j, j < Lf.length → freeB cs (Lf.getD j 0) = true
  ft : ∀ j, j < Lt.length → freeB cs (Lt.getD j 0) = true
  injf : Inj Lf
  injt : Inj Lt
  len : Lf.length = Lt.length
  m4 : m ≤ 4
  cf : ∀ i, i < m → freeB cs (fr i) = true ∧ freeB cs (tt i) = true
  nf : ∀ i, i < m → ∀ j, j < Lf.length → Lf.getD j 0 ≠ fr i
  nt : ∀ i, i < m → ∀ j, j < Lt.length → Lt.getD j 0 ≠ tt i
  tw : ∀ i, i < m → ∀ j, j < i → fr j ≠ fr i ∧ tt j ≠ tt i

theorem shape_zero (cs : ByteArray) (N : Nat) (f : Nat → Int) : Shape cs (freeTo cs N) (freeTo cs N) 0 f f := by
  refine ⟨?_, ?_, freeTo_inj _ _, freeTo_inj _ _, rfl, by omega, fun i h => by omega, fun i h => by omega, fun i h => by omega, fun i h => by omega⟩
  · intro j hj
    obtain ⟨c, _, h2, h3⟩ := freeTo_at hj
    rw [h2]; exact h3
  · intro j hj
    obtain ⟨c, _, h2, h3⟩ := freeTo_at hj
    rw [h2]; exact h3

def ext (f : Nat → Int) (m : Nat) (v : Int) (i : Nat) : Int := if i = m then v else f i

theorem shape_step {cs : ByteArray} {Lf Lt : List Int} {m : Nat} {fr tt : Nat → Int} (h : Shape cs Lf Lt m fr tt) {a b : Nat} (ha : a < Lf.length) (hb : b < Lt.length) (hm : m < 4) :
    Shape cs (woTo Lf a Lf.length) (woTo Lt b Lt.length) (m + 1) (ext fr m (Lf.getD a 0)) (ext tt m (Lt.getD b 0)) := by
  have old : ∀ (f : Nat → Int) v i, i < m → ext f m v i = f i := fun f v i hi => by unfold ext; rw [if_neg (by omega)]
  have new : ∀ (f : Nat → Int) v, ext f m v m = v := fun f v => by unfold ext; rw [if_pos rfl]
  refine ⟨?_, ?_, woTo_inj h.injf a _ (Nat.le_refl _), woTo_inj h.injt b _ (Nat.le_refl _), ?_, by omega, ?_, ?_, ?_, ?_⟩
  · intro j hj
    obtain ⟨c, h1, _, h3⟩ := woTo_at hj
    rw [h3]; exact h.ff c h1
  · intro j hj
    obtain ⟨c, h1, _, h3⟩ := woTo_at hj
    rw [h3]; exact h.ft c h1
  · have := h.len
    rw [woTo_len, woTo_len, if_pos ha, if_pos hb]; omega
  · intro i hi
    by_cases e : i = m
    · subst e; rw [new, new]; exact ⟨h.ff a ha, h.ft b hb⟩
    · rw [old _ _ _ (by omega), old _ _ _ (by omega)]; exact h.cf i (by omega)
  · intro i hi j hj
    obtain ⟨c, h1, h2, h3⟩ := woTo_at hj
    rw [h3]
    by_cases e : i = m
    · subst e; rw [new]; exact fun he => h2 (h.injf c a h1 ha he)
    · rw [old _ _ _ (by omega)]; exact h.nf i (by omega) c h1
  · intro i hi j hj
    obtain ⟨c, h1, h2, h3⟩ := woTo_at hj
    rw [h3]
    by_cases e : i = m
    · subst e; rw [new]; exact fun he => h2 (h.injt c b h1 hb he)
    · rw [old _ _ _ (by omega)]; exact h.nt i (by omega) c h1
  · intro i hi j hj
    by_cases e : i = m
    · subst e
      rw [new, new, old _ _ _ hj, old _ _ _ hj]
      exact ⟨fun he => h.nf j hj a ha he.symm, fun he => h.nt j hj b hb he.symm⟩
    · rw [old _ _ _ (by omega), old _ _ _ (by omega), old _ _ _ (by omega), old _ _ _ (by omega)]
      exact h.tw i (by omega) j hj

/-- No cart: one from 0 to 0. -/
theorem shape_one {cs : ByteArray} (h : freeB cs 0 = true) : Shape cs [] [] 1 (fun _ => 0) (fun _ => 0) :=
  ⟨fun j hj => absurd hj (Nat.not_lt_zero j), fun j hj => absurd hj (Nat.not_lt_zero j), inj_nil, inj_nil, rfl, by omega, fun _ _ => ⟨h, h⟩, fun _ _ j hj => absurd hj (Nat.not_lt_zero j), fun _ _ j hj => absurd hj (Nat.not_lt_zero j), fun i hi j hj => by omega⟩

theorem sideB_of {n : Int} (h1 : 1 ≤ n) (h2 : n ≤ 6) : sideB n = true := by unfold sideB; simp [h1, h2]

theorem shape_check {cs : ByteArray} {Lf Lt : List Int} {m : Nat} {fr tt : Nat → Int} {ro co bu : Int} (h : Shape cs Lf Lt m fr tt) (hm : 1 ≤ m) (r1 : 1 ≤ ro) (r2 : ro ≤ 6) (c1 : 1 ≤ co) (c2 : co ≤ 6) (hs : (cs.size : Int) = ro * co)
    (hg : ∀ j, j < cs.size → badB cs j = false) (b1 : 1 ≤ bu) (b2 : bu ≤ 20000) : checkM ro co cs m fr tt bu = (0, 0) := by
  have h4 := h.m4
  refine (checkM_ok (sideB_of r1 r2) (sideB_of c1 c2) (by rw [← cellsM_none hs hg]; omega) (by omega) (by omega) (fun j hj => ?_) (by omega)).symm
  obtain ⟨f1, f2⟩ := h.cf j hj
  refine cartM_ok f1 f2 fun k hk => ?_
  obtain ⟨t1, t2⟩ := h.tw j hj k hk
  unfold twiceB
  simp [t1, t2]

/-- The cells of m carts. -/
def cartCells (fr tt : Nat → Int) : Nat → List Value
  | 0 => []
  | m + 1 => cartCells fr tt m ++ [.int .i64 (fr m), .int .i64 (tt m)]

theorem cartCells_len (fr tt : Nat → Int) : ∀ m, (cartCells fr tt m).length = m * 2
  | 0 => rfl
  | m + 1 => by simp [cartCells, cartCells_len fr tt m]; omega

theorem cartCells_at {fr tt : Nat → Int} : ∀ {m i : Nat}, i < m → (cartCells fr tt m)[i * 2]? = some (.int .i64 (fr i)) ∧ (cartCells fr tt m)[i * 2 + 1]? = some (.int .i64 (tt i))
  | m + 1, i, h => by
    have hl := cartCells_len fr tt m
    by_cases e : i = m
    · subst e
      simp only [cartCells]
      rw [List.getElem?_append_right (by omega), List.getElem?_append_right (by omega), hl]
      simp
    · have ih := cartCells_at (fr := fr) (tt := tt) (m := m) (i := i) (by omega)
      simp only [cartCells]
      rw [List.getElem?_append_left (by omega), List.getElem?_append_left (by omega)]
      exact ih

theorem cartCells_congr {fr tt fr' tt' : Nat → Int} : ∀ {m : Nat}, (∀ i, i < m → fr i = fr' i ∧ tt i = tt' i) → cartCells fr tt m = cartCells fr' tt' m
  | 0, _ => rfl
  | m + 1, h => by
    simp only [cartCells]
    rw [cartCells_congr (m := m) fun i hi => h i (by omega), (h m (by omega)).1, (h m (by omega)).2]

theorem cartCells_ext (fr tt : Nat → Int) (m : Nat) (u v : Int) : cartCells (ext fr m u) (ext tt m v) (m + 1) = cartCells fr tt m ++ [.int .i64 u, .int .i64 v] := by
  simp only [cartCells]
  rw [cartCells_congr (fr := ext fr m u) (tt := ext tt m v) (fr' := fr) (tt' := tt) (m := m) fun i hi => by unfold ext; rw [if_neg (by omega), if_neg (by omega)]; exact ⟨rfl, rfl⟩]
  simp [ext]

end Go.Proofs.YtnkgpinadgacgaaDoor

/- Walk of Steps, where shaped gives a good yard: the law answers true. -/
namespace Go.Proofs.YtnkgpinadgacgaaDoor
open Go.RowKit M

/-- What shaped gives. -/
def Shapes : Prop := ∀ (rr rc rb : Int) (s : ByteArray) (a : Option Addr) (n cap : Nat) (x : Nat → Int) (w : World), s.size ≤ maxLen → n ≤ 17592186044415 →
    (Lit.int .i64 rr).wf = true → (Lit.int .i64 rc).wf = true → (Lit.int .i64 rb).wf = true →
    ((∀ i, i < n → (Lit.int .i64 (x i)).wf = true) ∧ (0 < n → ∃ b off, a = some ⟨b, off, none⟩ ∧ ∀ i, i < n → w.cell? ⟨b, off + i, none⟩ = some (.int .i64 (x i)))) →
    Calls Tryd.prog 47 #[.agg #[.int .i64 rr, .int .i64 rc, .string s, .slice a n cap, .int .i64 rb]] w fun e w' =>
      ∃ (R C U m cc g : Nat) (cs : ByteArray) (fr tt : Nat → Int), e = .returned (.agg #[.int .i64 (R : Int), .int .i64 (C : Int), .string cs, .slice (some ⟨g, 0, none⟩) m cc, .int .i64 (U : Int)]) ∧
        1 ≤ m ∧ m ≤ 4 ∧ m ≤ cc ∧ CartsIn w' g 0 m fr tt ∧ checkM R C cs m fr tt U = (0, 0) ∧ freeB cs 0 = true ∧ cs.size ≤ 36 ∧ Below w.heap.size w w'

/-- Between two neighbours: both are told or neither, and the distance differs by one at the most. -/
theorem far_step {co : Int} {cs : ByteArray} {c : Nat} {d : Nat → Int} (h : IsFar cs.size (adjM co cs) c d) {a b : Nat} (ha : a < cs.size) (hb : b < cs.size) (hfa : freeB cs a = true) (hk : kmay co cs a b = true) :
    (decide (d b < 0) = decide (d a < 0)) ∧ d b ≤ d a + 1 := by
  unfold kmay at hk
  simp only [Bool.and_eq_true] at hk
  have ab : adjM co cs a b = true := by unfold adjM; rw [mayM_in hk.1 (by omega) (by omega)]; exact hk.2
  have ba : adjM co cs b a = true := by unfold adjM; rw [mayM_in hfa (by omega) (by omega), near_comm]; exact hk.2
  have la := h.low a ha
  have lb := h.low b hb
  by_cases e : 0 ≤ d a
  · obtain ⟨g1, g2⟩ := h.next b a hb ha ab e
    exact ⟨by simp; omega, g2⟩
  · by_cases e' : 0 ≤ d b
    · obtain ⟨g1, g2⟩ := h.next a b ha hb ba e'; omega
    · exact ⟨by simp; omega, by omega⟩

/-- What is farther than 0 has a neighbour that is nearer by one. -/
theorem far_near {co : Int} {cs : ByteArray} {c : Nat} {d : Nat → Int} (h : IsFar cs.size (adjM co cs) c d) (hc : freeB cs c = true) {a : Nat} (ha : a < cs.size) (hfa : freeB cs a = true) (h1 : 1 ≤ d a) : ∃ b, b < cs.size ∧ kmay co cs a b = true ∧ d b = d a - 1 := by
  obtain ⟨k, hk⟩ : ∃ k : Nat, d a = (k : Int) + 1 := by
    obtain ⟨k, hk⟩ := Int.eq_ofNat_of_zero_le (show 0 ≤ d a - 1 by omega)
    exact ⟨k, by omega⟩
  obtain ⟨b, hb, hba, hdb⟩ := h.pred a ha k hk
  have fb := far_free h hc hb (by omega)
  refine ⟨b, hb, ?_, by omega⟩
  unfold kmay adjM at *
  rw [fb]
  rw [mayM_in hfa (by omega) (by omega), near_comm] at hba
  simpa using hba

end Go.Proofs.YtnkgpinadgacgaaDoor
