/- The document's table in memory, and the walk of number. -/
import Derived.Test.YtnkgpinadgacgaaDoorDk
import Derived.Test.YtnkgpinadgacgaaDoorCa
namespace Go.Proofs.YtnkgpinadgacgaaDoor
open Go.RowKit M

/-- The free cells of a yard. -/
def frB (cs : ByteArray) (c : Nat) : Bool := freeB cs (c : Int)

/-- A table as a value. -/
def tabV (ro co bu : Int) (cs : ByteArray) (ac : Option Addr) (m cc gf cf gr cr cnt : Nat) : Value := .agg #[.int .i64 ro, .int .i64 co, .string cs, .slice ac m cc, .int .i64 bu, .slice (some ⟨gf, 0, none⟩) (frees (frB cs) cs.size).length cf, .slice (some ⟨gr, 0, none⟩) cs.size cr, .int .i64 cnt]

/-- Its two lists in memory: the free cells in order; for each cell its number among them. -/
def TabIn (w : World) (cs : ByteArray) (gf gr : Nat) : Prop :=
  (∀ j, j < (frees (frB cs) cs.size).length → w.cell? ⟨gf, j, none⟩ = some (.int .i64 ((frees (frB cs) cs.size).getD j 0 : Nat))) ∧
  (∀ c, c < cs.size → w.cell? ⟨gr, c, none⟩ = some (.int .i64 (if frB cs c then ((rankOf (frB cs) c : Nat) : Int) else -1)))

theorem TabIn.below {w w' : World} {cs : ByteArray} {gf gr : Nat} (h : TabIn w cs gf gr) (hb : Below w.heap.size w w') : TabIn w' cs gf gr :=
  ⟨fun j hj => cell_later hb (h.1 j hj), fun c hc => cell_later hb (h.2 c hc)⟩

/-- The number of the first k carts' cells. -/
def numTo (cs : ByteArray) (q : List Nat) (k : Nat) : Nat := numOf (frB cs) cs.size (q.take k)

theorem numTo_zero (cs : ByteArray) (q : List Nat) : numTo cs q 0 = 0 := by simp [numTo, numOf, horn]

theorem numTo_next {cs : ByteArray} {q : List Nat} {k : Nat} (hk : k < q.length) : numTo cs q (k + 1) = numTo cs q k * (frees (frB cs) cs.size).length + rankOf (frB cs) (q.getD k 0) := by
  unfold numTo numOf
  rw [List.take_succ_eq_append_getElem hk, List.map_append]
  simp only [List.map_cons, List.map_nil]
  rw [horn_snoc]
  congr 2
  rw [List.getD_eq_getElem?_getD, List.getElem?_eq_getElem hk]; rfl

theorem frees_le (cs : ByteArray) : (frees (frB cs) cs.size).length ≤ cs.size := by
  unfold frees
  exact Nat.le_trans (List.length_filter_le _ _) (by simp)

theorem numTo_lt {cs : ByteArray} {m : Nat} {q : List Nat} (hq : Good cs m q) (hm : m ≤ 4) (hs : cs.size ≤ 36) (k : Nat) (hk : k ≤ m) : numTo cs q k < 36 ^ 4 := by
  have h1 : numTo cs q k < (frees (frB cs) cs.size).length ^ (q.take k).length := by
    refine numOf_lt fun c hc => ?_
    obtain ⟨i, hi, e⟩ := List.mem_iff_getElem.1 (List.mem_of_mem_take hc)
    have h := hq.2 i (by rw [← hq.1]; exact hi)
    rw [List.getD_eq_getElem?_getD, List.getElem?_eq_getElem hi] at h
    subst e
    exact h
  have hl : (q.take k).length = k := by rw [List.length_take, hq.1]; omega
  rw [hl] at h1
  have h2 := frees_le cs
  have h3 : (frees (frB cs) cs.size).length ^ k ≤ 36 ^ k := Nat.pow_le_pow_left (by omega) k
  have h4 : 36 ^ k ≤ 36 ^ 4 := Nat.pow_le_pow_right (by omega) (by omega)
  omega

set_option maxRecDepth 100000 in
set_option maxHeartbeats 2000000 in
theorem number_any (ro co bu : Int) (cs : ByteArray) (ac : Option Addr) (mm cc gf cf gr cr cnt m : Nat) (b off cq : Nat) (q : List Nat) (w : World) (hs : cs.size ≤ 36) (hm : m ≤ 4) (hq : Good cs m q) (ht : TabIn w cs gf gr) (hx : ∀ k, k < m → w.cell? ⟨b, off + k, none⟩ = some (.int .i64 (q.getD k 0 : Nat))) :
    Calls Tryd.prog 89 #[tabV ro co bu cs ac mm cc gf cf gr cr cnt, .slice (some ⟨b, off, none⟩) m cq] w fun e w' => e = .returned (.int .i64 (numOf (frB cs) cs.size q : Nat)) ∧ Below w.heap.size w w' := by
  have HT := Hid.mk ht
  have HX := Hid.mk hx
  have HQ := Hid.mk hq
  obtain ⟨F, hF⟩ : ∃ F, F = (frees (frB cs) cs.size).length := ⟨_, rfl⟩
  have hFN : F ≤ cs.size := by rw [hF]; exact frees_le cs
  unfold tabV
  rw [← hF]
  have HF := Hid.mk hF
  clear ht hx hq hF
  go_enter Tryd.func89, Tryd.ntmps89
  go_wp2
  have B0 : Hid (Below w.heap.size w (w.alloc (Obj.cells #[Value.int IntKind.i64 ro, Value.int IntKind.i64 co, Value.string cs, .slice ac mm cc, Value.int IntKind.i64 bu, .slice (some ⟨gf, 0, none⟩) F cf, .slice (some ⟨gr, 0, none⟩) cs.size cr, Value.int IntKind.i64 (cnt : Nat)] 122))) := (Below.refl _ w).alloc (Nat.le_refl _) _
  have t5 : (w.alloc (Obj.cells #[Value.int IntKind.i64 ro, Value.int IntKind.i64 co, Value.string cs, .slice ac mm cc, Value.int IntKind.i64 bu, .slice (some ⟨gf, 0, none⟩) F cf, .slice (some ⟨gr, 0, none⟩) cs.size cr, Value.int IntKind.i64 (cnt : Nat)] 122)).cell? ⟨w.heap.size, 5, none⟩ = some (.slice (some ⟨gf, 0, none⟩) F cf) := by go_simp
  have t6 : (w.alloc (Obj.cells #[Value.int IntKind.i64 ro, Value.int IntKind.i64 co, Value.string cs, .slice ac mm cc, Value.int IntKind.i64 bu, .slice (some ⟨gf, 0, none⟩) F cf, .slice (some ⟨gr, 0, none⟩) cs.size cr, Value.int IntKind.i64 (cnt : Nat)] 122)).cell? ⟨w.heap.size, 6, none⟩ = some (.slice (some ⟨gr, 0, none⟩) cs.size cr) := by go_simp
  have hz : (w.alloc (Obj.cells #[Value.int IntKind.i64 ro, Value.int IntKind.i64 co, Value.string cs, .slice ac mm cc, Value.int IntKind.i64 bu, .slice (some ⟨gf, 0, none⟩) F cf, .slice (some ⟨gr, 0, none⟩) cs.size cr, Value.int IntKind.i64 (cnt : Nat)] 122)).heap.size = w.heap.size + 1 := by simp
  generalize (w.alloc (Obj.cells #[Value.int IntKind.i64 ro, Value.int IntKind.i64 co, Value.string cs, .slice ac mm cc, Value.int IntKind.i64 bu, .slice (some ⟨gf, 0, none⟩) F cf, .slice (some ⟨gr, 0, none⟩) cs.size cr, Value.int IntKind.i64 (cnt : Nat)] 122)) = w0 at *
  have T5 := Hid.mk t5
  have T6 := Hid.mk t6
  clear t5 t6
  go_loopw [5, 6] (fun v5 v6 wr => ∃ k : Nat, k ≤ m ∧ v6 = .int .i64 k ∧ v5 = .int .i64 (numTo cs q k : Nat) ∧ Below w0.heap.size w0 wr) (fun _ v6 _ => m - (intOf v6).toNat)
  case atStart => exact ⟨0, Nat.zero_le _, rfl, by rw [numTo_zero]; rfl, Below.refl _ _⟩
  case round =>
    obtain ⟨w1, rfl⟩ : ∃ q, q = wr := ⟨_, rfl⟩
    obtain ⟨k, hk, rfl, rfl, hbr⟩ := hrel
    have HBR := Hid.mk hbr
    by_cases hlt : k < m
    · have d5 := cell_later hbr T5.out
      have d6 := cell_later hbr T6.out
      obtain ⟨c, hc⟩ : ∃ c, c = q.getD k 0 := ⟨_, rfl⟩
      have hgk := HQ.out.2 k hlt
      rw [← hc] at hgk
      have hcN := hgk.1
      have d0 := cell_later hbr (cell_later B0.out (HX.out k hlt))
      rw [← hc] at d0
      have d1 := cell_later hbr (cell_later B0.out (HT.out.2 c hcN))
      rw [if_pos (show frB cs c = true from hgk.2)] at d1
      obtain ⟨R, hR⟩ : ∃ R, R = rankOf (frB cs) c := ⟨_, rfl⟩
      rw [← hR] at d1
      obtain ⟨n0, hn0⟩ : ∃ n0, n0 = numTo cs q k := ⟨_, rfl⟩
      have hnext : Hid (numTo cs q (k + 1) = n0 * F + R) := by
        unfold Hid
        rw [numTo_next (by rw [HQ.out.1]; exact hlt), ← HF.out, ← hn0, ← hc, ← hR]
      have hb1 := numTo_lt HQ.out hm hs (k + 1) (by omega)
      have hb0 := numTo_lt HQ.out hm hs k (by omega)
      rw [hnext.out] at hb1
      rw [← hn0] at hb0 ⊢
      obtain ⟨nF, hnF⟩ : ∃ nF, nF = n0 * F := ⟨_, rfl⟩
      rw [← hnF] at hb1
      have hmul : ((n0 : Nat) : Int) * ((F : Nat) : Int) = ((nF : Nat) : Int) := by rw [hnF]; exact (Int.natCast_mul n0 F).symm
      have hw1 : IntKind.i64.wrap ((n0 : Int) * (F : Int)) = ((nF : Nat) : Int) := by rw [hmul]; simp [IntKind.wrap, IntKind.signed, IntKind.bits]; omega
      have hw2 : IntKind.i64.wrap ((nF : Int) + (R : Int)) = ((nF + R : Nat) : Int) := by simp [IntKind.wrap, IntKind.signed, IntKind.bits]; omega
      have hcNI : (c : Int) < (cs.size : Int) := by omega
      have HN := Hid.mk hnF
      clear hc hR hn0 hbr hgk hnF
      go_upto_region 5 with fail
      go_quiet (fail)
      go_wp2
      go_roundw
      case rel => exact ⟨k + 1, by omega, by go_num, by rw [hnext.out, ← HN.out]; go_num, below_drewN HBR.out _⟩
      case measure => simp [intOf]; omega
    · have e : k = m := by omega
      have hfin : Hid (numTo cs q k = numOf (frB cs) cs.size q) := by
        unfold Hid numTo
        rw [List.take_of_length_le (by rw [HQ.out.1]; omega)]
      go_wp2
      go_ret
      exact ⟨by rw [← hfin.out]; rfl, B0.out.trans (HBR.out.mono (by omega))⟩

end Go.Proofs.YtnkgpinadgacgaaDoor
