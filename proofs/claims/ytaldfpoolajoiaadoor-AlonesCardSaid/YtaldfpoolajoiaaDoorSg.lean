/- Walks of the program's mayBegin, nexts: to where one cart may go under rules. -/
import Derived.Test.YtaldfpoolajoiaaDoorSf
import Derived.Test.YtaldfpoolajoiaaDoorWp
namespace Go.Proofs.YtaldfpoolajoiaaDoor
open Go.RowKit M

/-- May the cart go there, by the rules? -/
def stepB (n : Nat) (R : Nat → RuleM) (c : Int) (t : Nat) (z : Int) : Bool := !noWayM n R c z t && onM n R z (t + 1 : Nat)

/-- To where a cart may go. -/
def nxL (ro co : Int) (cs : ByteArray) (n : Nat) (R : Nat → RuleM) (c : Int) (t : Nat) : List Int := (mvL ro co cs c).filter (stepB n R c t)

def nxAt (L : List Int) (p : Int → Bool) (m : Nat) : List Int := (L.take m).filter p

theorem nxAt_in {L : List Int} {p : Int → Bool} {m : Nat} {z : Int} (hm : m < L.length) (hz : L.getD m 0 = z) (hp : p z = true) : nxAt L p (m + 1) = nxAt L p m ++ [z] := by
  have e : L[m] = z := by rw [← hz]; simp [List.getD, hm]
  unfold nxAt
  rw [List.take_succ_eq_append_getElem hm, List.filter_append, e]
  simp [hp]

theorem nxAt_out {L : List Int} {p : Int → Bool} {m : Nat} {z : Int} (hm : m < L.length) (hz : L.getD m 0 = z) (hp : p z = false) : nxAt L p (m + 1) = nxAt L p m := by
  have e : L[m] = z := by rw [← hz]; simp [List.getD, hm]
  unfold nxAt
  rw [List.take_succ_eq_append_getElem hm, List.filter_append, e]
  simp [hp]

theorem nxAt_all {L : List Int} {p : Int → Bool} {m : Nat} (hm : ¬ m < L.length) : nxAt L p m = L.filter p := by
  unfold nxAt
  rw [List.take_of_length_le (by omega)]

theorem nxAt_len {L : List Int} {p : Int → Bool} {m : Nat} : (nxAt L p m).length ≤ L.length := by
  unfold nxAt
  refine Nat.le_trans (List.length_filter_le p _) ?_
  rw [List.length_take]; omega

/-- What is told is where the cart may go. -/
theorem nx_mem {ro co : Int} {cs : ByteArray} {n : Nat} {R : Nat → RuleM} {c t b : Nat} (h1 : 1 ≤ co) (h2 : co ≤ 6) (hsz : (cs.size : Int) = ro * co) (hc : c < cs.size) (hf : freeB cs c = true) : (b : Int) ∈ nxL ro co cs n R c t ↔ goesM co cs n R c b t = true := by
  unfold nxL stepB goesM
  rw [List.mem_filter]
  simp only [Bool.and_eq_true, Bool.not_eq_true']
  constructor
  · rintro ⟨hm, hn, ho⟩
    have fb := mvL_free hf hm
    refine ⟨⟨?_, ho⟩, hn⟩
    unfold adjM
    rw [mayM_in fb (by omega) (by omega)]
    exact mvL_near h1 h2 hm
  · rintro ⟨⟨ha, ho⟩, hn⟩
    have fb := adj_free ha
    refine ⟨mvL_all h1 h2 hsz (by omega) (by omega) fb ?_, hn, ho⟩
    unfold adjM at ha
    rw [mayM_in fb (by omega) (by omega)] at ha
    exact ha

/-- Each is a cell. -/
theorem nx_nat {ro co : Int} {cs : ByteArray} {n : Nat} {R : Nat → RuleM} {c t : Nat} {z : Int} (hf : freeB cs c = true) (h : z ∈ nxL ro co cs n R c t) : ∃ b : Nat, z = b ∧ b < cs.size := by
  unfold nxL at h
  have fz := mvL_free hf (List.mem_filter.1 h).1
  have hz : 0 ≤ z ∧ z < cs.size := by
    by_cases e : 0 ≤ z ∧ z < cs.size
    · exact e
    · rw [freeB_out e] at fz; cases fz
  obtain ⟨b, hb⟩ := Int.eq_ofNat_of_zero_le hz.1
  exact ⟨b, hb, by omega⟩

set_option maxRecDepth 100000 in
set_option maxHeartbeats 2000000 in
theorem mayBegin_any (ro co bu : Int) (cs : ByteArray) (ac : Option Addr) (mc cc f : Nat) (c S : Int) (bs bt n : Nat) (R : Nat → RuleM) (w : World) (hs : cs.size ≤ 36) (hf : f < cs.size) (hb : BansIn w bs bt cs.size n R) :
    Calls Tryd.prog 71 #[tripV ro co bu cs ac mc cc f c bs bt S] w fun e w' => e = .returned (.bool (onM n R f 0)) ∧ Below w.heap.size w w' := by
  obtain ⟨ns, nt, F, G, hns, hnt, hset, hste, hF, hG⟩ := hb
  have HS := Hid.mk hset
  have HF := Hid.mk hF
  have hl := hset.lt
  clear hset hste hF hG
  unfold tripV
  go_enter Tryd.func71, Tryd.ntmps71
  go_wp2_with fail
  have HB1 : Hid (∀ o, Below w.heap.size w (w.alloc o)) := fun _ => (Below.refl _ _).alloc (Nat.le_refl _) _
  refine (allowSpot_any bs bt ns F f 0 _ (HS.out.block (Below.heap_alloc _ _ _ hl)) (i64B_small (by omega) (by omega)) (i64B_small (by omega) (by omega))).mono ?_
  rintro e w4 ⟨rfl, hb4⟩
  have HB4 : Hid (Below w.heap.size w w4) := (HB1.out _).trans (hb4.mono (by simp))
  rw [HF.out f (by omega) (by omega) 0, Bool.not_not]
  clear hb4
  go_wp2
  go_ret
  exact ⟨rfl, HB4.out⟩

set_option maxRecDepth 100000 in
set_option maxHeartbeats 2000000 in
theorem nexts_any (ro co bu : Int) (cs : ByteArray) (ac : Option Addr) (mc cc : Nat) (f c S : Int) (bs bt n x t : Nat) (R : Nat → RuleM) (w : World) (hsd : SidesIn w) (r1 : 1 ≤ ro) (r2 : ro ≤ 6) (r3 : 1 ≤ co) (r4 : co ≤ 6) (hs : cs.size ≤ 36) (hx : x < cs.size) (hfx : freeB cs x = true) (ht : t ≤ 100000) (hb : BansIn w bs bt cs.size n R) :
    Calls Tryd.prog 90 #[tripV ro co bu cs ac mc cc f c bs bt S, .agg #[.int .i64 x, .int .i64 t]] w fun e w' =>
      ∃ v, e = .returned v ∧ w'.ownsRow w.heap.size 3 1 v (nxL ro co cs n R x t).length (ints (nxL ro co cs n R x t)) ∧ Below w.heap.size w w' := by
  have HBA := Hid.mk hb
  have Hsd := Hid.mk hsd
  have hbl := hb.lt
  have hpos : 0 < w.heap.size := World.block_lt_of_cell? _ _ hsd.1
  have FX := Hid.mk hfx
  clear hb hsd hfx
  unfold tripV
  go_enter Tryd.func90, Tryd.ntmps90
  go_wp2_with fail
  have HB2 : Hid (Below w.heap.size w ((w.alloc (Obj.cells #[Value.int IntKind.i64 ro, Value.int IntKind.i64 co, Value.string cs, Value.slice ac mc cc, Value.int IntKind.i64 bu, Value.int IntKind.i64 f, Value.int IntKind.i64 c, Value.map (some bs), Value.map (some bt), Value.int IntKind.i64 S] 105)).alloc (Obj.cells #[Value.int IntKind.i64 (x : Int), Value.int IntKind.i64 (t : Int)] 130))) := ((Below.refl _ w).alloc (Nat.le_refl _) _).alloc (by simp) _
  have y2 : ∀ o, ((w.alloc (Obj.cells #[Value.int IntKind.i64 ro, Value.int IntKind.i64 co, Value.string cs, Value.slice ac mc cc, Value.int IntKind.i64 bu, Value.int IntKind.i64 f, Value.int IntKind.i64 c, Value.map (some bs), Value.map (some bt), Value.int IntKind.i64 S] 105)).alloc (Obj.cells #[Value.int IntKind.i64 (x : Int), Value.int IntKind.i64 (t : Int)] 130)).cell? ⟨w.heap.size, o, none⟩ = #[Value.int IntKind.i64 ro, Value.int IntKind.i64 co, Value.string cs, Value.slice ac mc cc, Value.int IntKind.i64 bu, Value.int IntKind.i64 f, Value.int IntKind.i64 c, Value.map (some bs), Value.map (some bt), Value.int IntKind.i64 S][o]? := by
    intro o; go_simp
  have s2 : ∀ o, ((w.alloc (Obj.cells #[Value.int IntKind.i64 ro, Value.int IntKind.i64 co, Value.string cs, Value.slice ac mc cc, Value.int IntKind.i64 bu, Value.int IntKind.i64 f, Value.int IntKind.i64 c, Value.map (some bs), Value.map (some bt), Value.int IntKind.i64 S] 105)).alloc (Obj.cells #[Value.int IntKind.i64 (x : Int), Value.int IntKind.i64 (t : Int)] 130)).cell? ⟨w.heap.size + 1, o, none⟩ = #[Value.int IntKind.i64 (x : Int), Value.int IntKind.i64 (t : Int)][o]? := by
    intro o; go_simp
  have hz2 : ((w.alloc (Obj.cells #[Value.int IntKind.i64 ro, Value.int IntKind.i64 co, Value.string cs, Value.slice ac mc cc, Value.int IntKind.i64 bu, Value.int IntKind.i64 f, Value.int IntKind.i64 c, Value.map (some bs), Value.map (some bt), Value.int IntKind.i64 S] 105)).alloc (Obj.cells #[Value.int IntKind.i64 (x : Int), Value.int IntKind.i64 (t : Int)] 130)).heap.size = w.heap.size + 2 := by simp
  generalize (w.alloc (Obj.cells #[Value.int IntKind.i64 ro, Value.int IntKind.i64 co, Value.string cs, Value.slice ac mc cc, Value.int IntKind.i64 bu, Value.int IntKind.i64 f, Value.int IntKind.i64 c, Value.map (some bs), Value.map (some bt), Value.int IntKind.i64 S] 105)).alloc (Obj.cells #[Value.int IntKind.i64 (x : Int), Value.int IntKind.i64 (t : Int)] 130) = w2 at *
  refine (moves_any _ _ _ _ _ x _ (by exact Hsd.out.below HB2.out) r1 r2 r3 r4 (by omega) hs).mono ?_
  rintro e w5 ⟨gm, cm, rfl, hgm, hom, hb5⟩
  obtain ⟨L, hL⟩ : ∃ L, L = mvL ro co cs x := ⟨_, rfl⟩
  have hLn := (mvL_len (ro := ro) (co := co) (cs := cs) (c := (x : Int))).1
  have HLF : Hid (∀ m, m < L.length → ∃ z : Nat, L.getD m 0 = z ∧ z < cs.size) := fun m hm => by
    have hz := at_mem hm
    rw [hL] at hz
    have fz := mvL_free FX.out hz
    rw [← hL] at fz
    have hz : 0 ≤ L.getD m 0 ∧ L.getD m 0 < cs.size := by
      by_cases e : 0 ≤ L.getD m 0 ∧ L.getD m 0 < cs.size
      · exact e
      · rw [freeB_out e] at fz; cases fz
    obtain ⟨b, hb⟩ := Int.eq_ofNat_of_zero_le hz.1
    exact ⟨b, hb, by omega⟩
  have NX : Hid (nxL ro co cs n R x t = L.filter (stepB n R x t)) := by unfold Hid nxL; rw [hL]
  rw [← hL] at hom hLn ⊢
  have HOM := Hid.mk hom
  have hgl := (own_lt hom).2
  have Y5 : Hid (∀ o, w5.cell? ⟨w.heap.size, o, none⟩ = #[Value.int IntKind.i64 ro, Value.int IntKind.i64 co, Value.string cs, Value.slice ac mc cc, Value.int IntKind.i64 bu, Value.int IntKind.i64 f, Value.int IntKind.i64 c, Value.map (some bs), Value.map (some bt), Value.int IntKind.i64 S][o]?) := fun o => (hb5.cell (p := ⟨w.heap.size, o, none⟩) (by show w.heap.size < _; omega)).trans (y2 o)
  have S5 : Hid (∀ o, w5.cell? ⟨w.heap.size + 1, o, none⟩ = #[Value.int IntKind.i64 (x : Int), Value.int IntKind.i64 (t : Int)][o]?) := fun o => (hb5.cell (p := ⟨w.heap.size + 1, o, none⟩) (by show w.heap.size + 1 < _; omega)).trans (s2 o)
  have HB5 : Hid (Below w.heap.size w w5) := HB2.out.trans (hb5.mono (by omega))
  have HBA5 := Hid.mk (HBA.out.below HB5.out)
  have hz5 := hb5.size
  clear hL hom hb5 y2 s2
  go_wp2
  go_loopw [5, 14] (fun v s wr => ∃ (m : Nat), s = .int .i64 m ∧ m ≤ L.length ∧ wr.ownsRow w5.heap.size 3 1 v (nxAt L (stepB n R x t) m).length (ints (nxAt L (stepB n R x t) m)) ∧ Below w5.heap.size w5 wr) (fun _ s _ => L.length - (intOf s).toNat)
  case atStart => exact ⟨0, rfl, Nat.zero_le _, own_nil _ _ _, Below.refl _ _⟩
  case round =>
    obtain ⟨m, rfl, hm, hown, hbr⟩ := hrel
    have HO := Hid.mk hown
    have HB := Hid.mk hbr
    have hzr := hbr.size
    have hml := nxAt_len (L := L) (p := stepB n R x t) (m := m)
    have yr : ∀ o, wr.cell? ⟨w.heap.size, o, none⟩ = #[Value.int IntKind.i64 ro, Value.int IntKind.i64 co, Value.string cs, Value.slice ac mc cc, Value.int IntKind.i64 bu, Value.int IntKind.i64 f, Value.int IntKind.i64 c, Value.map (some bs), Value.map (some bt), Value.int IntKind.i64 S][o]? := fun o => (hbr.cell (p := ⟨w.heap.size, o, none⟩) (by show w.heap.size < _; omega)).trans (Y5.out o)
    have sr : ∀ o, wr.cell? ⟨w.heap.size + 1, o, none⟩ = #[Value.int IntKind.i64 (x : Int), Value.int IntKind.i64 (t : Int)][o]? := fun o => (hbr.cell (p := ⟨w.heap.size + 1, o, none⟩) (by show w.heap.size + 1 < _; omega)).trans (S5.out o)
    clear hown hbr
    by_cases hlt : m < L.length
    · have hxm := own_cell HOM.out hlt
      obtain ⟨z, hz, hzN⟩ := HLF.out m hlt
      rw [ints_at' hlt, hz] at hxm
      have hxm := cell_later HB.out hxm
      have HZ := Hid.mk hz
      clear hz
      go_wp2_with fail
      obtain ⟨ns, nt, F, G, hns, hnt, hset, hste, hF, hG⟩ := HBA5.out.below HB.out
      refine (allowStep_any bs bt ns nt F G x z t _ hset hste (i64B_small (by omega) (by omega)) (i64B_small (by omega) (by omega)) ht).mono ?_
      rintro e w6 ⟨rfl, hb6⟩
      obtain ⟨g, hg⟩ : ∃ g, g = stepB n R x t (z : Int) := ⟨_, rfl⟩
      rw [hG, hF z (by omega) (by omega) (t + 1 : Nat), Bool.not_not, show (!noWayM n R (x : Int) (z : Int) (t : Int) && onM n R (z : Int) ((t + 1 : Nat) : Int)) = stepB n R x t (z : Int) from rfl, ← hg]
      have HG := Hid.mk hg
      have HO6 := Hid.mk (own_below HO.out hb6)
      have HB6 := Hid.mk (HB.out.trans (hb6.mono hzr))
      have hz6 := hb6.size
      clear hset hste hF hG hns hnt hg hb6 yr sr hxm
      cases g
      · have e7 := nxAt_out (p := stepB n R x t) hlt HZ.out HG.out.symm
        have E7 := Hid.mk e7
        clear e7
        go_wp2
        go_roundw
        case rel => exact ⟨m + 1, by go_num, by omega, by rw [E7.out]; exact HO6.out, HB6.out⟩
        case measure => simp [intOf]; omega
      · have e7 := nxAt_in (p := stepB n R x t) hlt HZ.out HG.out.symm
        have E7 := Hid.mk e7
        clear e7
        go_wp2_with (refine wpList_push rfl _ _ 26 rfl w5.heap.size 3 _ _ Tryd.underlying26 Tryd.infoInt rfl _ _ _ rfl (by exact own_below HO6.out ((Below.refl _ _).alloc (Nat.le_refl _) _)) _ _ (.int .i64 (z : Int)) rfl (by go_simp) rfl (by unfold maxLen; omega) (by omega) (by simp; omega) ?_)
        intro g cap w8 ho8 hg8
        have hb8 := grown_below (own_below HO6.out ((Below.refl _ _).alloc (Nat.le_refl _) _)) hg8 (by simp; omega)
        have HO8 := Hid.mk ho8
        have HB8 : Hid (Below w5.heap.size w5 w8) := HB6.out.trans (((Below.refl _ _).alloc (by omega) _).trans hb8)
        clear ho8 hg8 hb8
        go_wp2
        go_roundw
        case rel => exact ⟨m + 1, by go_num, by omega, by rw [E7.out]; simpa [ints] using HO8.out, HB8.out⟩
        case measure => simp [intOf]; omega
    · have e7 := nxAt_all (p := stepB n R x t) hlt
      have E7 := Hid.mk e7
      clear e7
      go_wp2
      go_ret
      refine ⟨_, rfl, ?_, HB5.out.trans (HB.out.mono (by omega))⟩
      rw [NX.out, ← E7.out]
      exact own_base HO.out (by omega)

end Go.Proofs.YtaldfpoolajoiaaDoor
