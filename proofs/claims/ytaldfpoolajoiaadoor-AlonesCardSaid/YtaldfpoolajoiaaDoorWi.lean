/- Walk of the document's Far. -/
import Derived.Test.YtaldfpoolajoiaaDoorWh
import Derived.Test.YtaldfpoolajoiaaDoorLa
namespace Go.Proofs.YtaldfpoolajoiaaDoor
open Go.RowKit M

theorem Tryd.infoInt : (Tryd.prog.info? 3).map (fun i => (i.zero, i.size, i.bytes)) = some (some (.int .i64 0), 1, 8) := by kernel_rfl

theorem checkM_good {ro co bu : Int} {cs : ByteArray} {n : Nat} {fr to : Nat → Int} (h : (checkM ro co cs n fr to bu).1 = 0) : sideB ro = true ∧ sideB co = true ∧ (cs.size : Int) = ro * co := by
  unfold checkM at h
  by_cases h1 : (sideB ro && sideB co) = false
  · rw [if_pos h1] at h; simp at h
  · rw [if_neg h1] at h
    by_cases h2 : 0 ≤ cellsM ro co cs
    · rw [if_pos h2] at h; simp at h
    · have h3 : sideB ro = true ∧ sideB co = true := by simpa using h1
      refine ⟨h3.1, h3.2, ?_⟩
      by_cases h4 : (cs.size : Int) = ro * co
      · exact h4
      · rw [cellsM_size h4] at h2; omega

def intV (f : Nat → Int) (i : Nat) : Value := .int .i64 (f i)
def fillF (k : Nat) (i : Nat) : Int := if i < k then -1 else 0
def adjM (co : Int) (cs : ByteArray) (b a : Nat) : Bool := mayM co cs b a

theorem row_zero (N : Nat) (w : World) (t : TypeId) (k : Nat) (hk : k = w.heap.size) : (w.alloc (.cells (madeCells #[.int .i64 0] N) t)).rowIs k t N (intV (fillF 0)) := by
  subst hk
  refine rowIs_made _ _ _ _ fun i _ => ?_
  simp [Nat.mod_one, intV, fillF]

theorem row_store {w : World} {g N : Nat} {t : TypeId} {f f' : Nat → Int} (h : w.rowIs g t N (intV f)) (i : Nat) (v : Int) (he : ∀ j, j < N → (if j = i then v else f j) = f' j) : (w.setCell ⟨g, i, none⟩ (.int .i64 v)).rowIs g t N (intV f') := by
  refine (h.set i _).congr fun j hj => ?_
  unfold intV
  rw [← he j hj]
  split <;> rfl

theorem row_same {w : World} {g N : Nat} {t : TypeId} {f f' : Nat → Int} (h : w.rowIs g t N (intV f)) (he : ∀ j, j < N → f j = f' j) : w.rowIs g t N (intV f') :=
  h.congr fun j hj => by unfold intV; rw [he j hj]

set_option maxRecDepth 100000 in
set_option maxHeartbeats 1000000 in
theorem rfar_ok (ro co bu : Int) (cs : ByteArray) (a : Option Addr) (n cap : Nat) (fr to : Nat → Int) (c : Nat) (w : World) (hs : cs.size ≤ maxLen) (hn : n ≤ maxLen)
    (ha : 0 < n → ∃ b off, a = some ⟨b, off, none⟩ ∧ CartsIn w b off n fr to) (hck : (checkM ro co cs n fr to bu).1 = 0) (hfr : freeB cs c = true) :
    Calls Tryd.prog 12 #[.agg #[.int .i64 ro, .int .i64 co, .string cs, .slice a n cap, .int .i64 bu], .int .i64 c] w fun e w' =>
      ∃ g, e = .returned (.tuple #[.slice (some ⟨g, 0, none⟩) cs.size cs.size, .int .i64 0]) ∧ w.heap.size ≤ g ∧ w'.rowIs g 3 cs.size (intV (orow cs.size (adjM co cs) c (cs.size - 1))) ∧ Below w.heap.size w w' := by
  obtain ⟨sd1, sd2, hsz⟩ := checkM_good hck
  obtain ⟨r1, r2⟩ := side_bd sd1
  obtain ⟨r3, r4⟩ := side_bd sd2
  obtain ⟨hp1, hp2⟩ := mul_bd r1 r2 r3 r4
  have hN1 : 1 ≤ cs.size := by omega
  have hN2 : cs.size ≤ 36 := by omega
  have hcN : c < cs.size := by
    by_cases e : c < cs.size
    · exact e
    · rw [freeB_out (by omega)] at hfr; cases hfr
  have Hsz := Hid.mk hsz
  have hck' : ((checkM ro co cs n fr to bu).1 != 0) = false := by rw [hck]; rfl
  clear hsz sd1 sd2 hp1 hp2 hck
  go_enter Tryd.func12, Tryd.ntmps12
  go_wp2_with fail
  refine (rcheck_any _ _ _ _ _ _ _ fr to _ hs hn (by exact fun h => by obtain ⟨b, off, hab, hc⟩ := ha h; exact ⟨b, off, hab, hc.below ((Below.refl _ _).alloc (Nat.le_refl _) _)⟩)).mono ?_
  rintro e w1 ⟨rfl, hb1⟩
  have y1 : ∀ o, w1.cell? ⟨w.heap.size, o, none⟩ = #[Value.int .i64 ro, .int .i64 co, .string cs, .slice a n cap, .int .i64 bu][o]? := by
    intro o
    rw [hb1.cell (p := ⟨w.heap.size, o, none⟩) (by show w.heap.size < _; simp)]; go_simp
  have hB1 := Hid.mk (((Below.refl _ w).alloc (Nat.le_refl _) _).trans (hb1.mono (by simp)) : Below w.heap.size w w1)
  have hz1 : w.heap.size < w1.heap.size := by have := hb1.size; simp at this; omega
  clear hb1 ha
  go_wp2_with fail
  refine (rfree_any _ _ _ _ _ _ _ hs).mono ?_
  rintro e w2 ⟨rfl, hb2⟩
  have y2 : ∀ o, w2.cell? ⟨w.heap.size, o, none⟩ = #[Value.int .i64 ro, .int .i64 co, .string cs, .slice a n cap, .int .i64 bu][o]? := fun o => (hb2.cell (p := ⟨w.heap.size, o, none⟩) hz1).trans (y1 o)
  have hz2 : w1.heap.size ≤ w2.heap.size := hb2.size
  have hB2 := Hid.mk (hB1.out.trans (hb2.mono (by omega)) : Below w.heap.size w w2)
  clear y1 hb2 hck'
  go_wp2_with (at_make; go_must (refine wpList_make_all _ rfl _ _ 26 rfl 3 _ _ _ Tryd.underlying26 Tryd.infoInt _ _ _ _ cs.size rfl rfl rfl rfl (by omega) (by omega) ?_))
  have hrow0 := Hid.mk (row_zero cs.size w2 3 w2.heap.size rfl)
  generalize hw3 : w2.alloc (Obj.cells (madeCells #[Value.int IntKind.i64 0] cs.size) 3) = w3 at *
  have y3 : ∀ o, w3.cell? ⟨w.heap.size, o, none⟩ = #[Value.int .i64 ro, .int .i64 co, .string cs, .slice a n cap, .int .i64 bu][o]? := by
    intro o; rw [← hw3, World.cell?_alloc_lt _ _ _ (by show w.heap.size < _; omega)]; exact y2 o
  have hB3 : Hid (Below w.heap.size w w3) := by rw [← hw3]; exact hB2.out.alloc (by omega) _
  have hg0 : w.heap.size < w2.heap.size := by omega
  clear y2 hw3 hB1 hB2 hz1 hz2
  generalize w2.heap.size = g at *
  go_loopw [11] (fun s wr => ∃ k : Nat, k ≤ cs.size ∧ s = .int .i64 k ∧ wr.rowIs g 3 cs.size (intV (fillF k)) ∧ Below g w3 wr) (fun s _ => cs.size - (intOf s).toNat)
  case atStart => exact ⟨0, Nat.zero_le _, rfl, hrow0.out, Below.refl _ _⟩
  case round =>
    obtain ⟨k, hk, rfl, hrw, hbr⟩ := hrel
    have HW := Hid.mk hrw
    have hsz := hrw.lt
    by_cases hlt : k < cs.size
    · have x1 := hrw.cell (i := k) hlt
      have x3 := hrw.frozen
      clear hrw
      go_wp2
      go_roundw
      case rel => exact ⟨k + 1, by omega, by go_num, row_store HW.out k (-1) (fun j _ => by unfold fillF; by_cases e : j = k <;> simp [e] <;> split <;> split <;> omega), hbr.setCell (by simp) _⟩
      case measure => simp [intOf]; omega
    · have hd : k = cs.size := by omega
      have x1 := hrw.cell (i := c) hcN
      have x3 := hrw.frozen
      have HW2 : Hid ((wr.setCell ⟨g, c, none⟩ (.int .i64 0)).rowIs g 3 cs.size (intV (orow cs.size (adjM co cs) c 0))) :=
        row_store HW.out c 0 (fun j hj => by unfold fillF orow; by_cases e : j = c <;> simp [e]; omega)
      clear hrw hd
      go_wp2
      have y4 : ∀ o, (wr.setCell ⟨g, c, none⟩ (.int .i64 0)).cell? ⟨w.heap.size, o, none⟩ = #[Value.int .i64 ro, .int .i64 co, .string cs, .slice a n cap, .int .i64 bu][o]? := by
        intro o
        exact ((hbr.setCell (Nat.le_refl _) (.int .i64 0) : Below g w3 (wr.setCell ⟨g, c, none⟩ (.int .i64 0))).cell (p := ⟨w.heap.size, o, none⟩) (by show w.heap.size < g; omega)).trans (y3 o)
      have hB4 : Hid (Below w.heap.size w (wr.setCell ⟨g, c, none⟩ (.int .i64 0))) := (hB3.out.trans (hbr.mono (by omega))).setCell (by show w.heap.size ≤ g; omega) _
      clear x1 x3 hbr y3 hB3 HW hrow0
      generalize wr.setCell ⟨g, c, none⟩ (.int .i64 0) = w4 at *
      go_loopw [12] (fun s wr => ∃ k : Nat, k + 1 ≤ cs.size ∧ s = .int .i64 ((k : Int) + 1) ∧ wr.rowIs g 3 cs.size (intV (orow cs.size (adjM co cs) c k)) ∧ Below g w4 wr) (fun s _ => cs.size - (intOf s).toNat)
      case atStart => exact ⟨0, by omega, rfl, HW2.out, Below.refl _ _⟩
      case round =>
        obtain ⟨wo, rfl⟩ : ∃ x, x = wr := ⟨_, rfl⟩
        obtain ⟨k, hk, rfl, hrw, hbr⟩ := hrel
        have HW := Hid.mk hrw
        clear hrw
        by_cases hlt : k + 1 < cs.size
        · have hlb : decide ((k : Int) + 1 < (cs.size : Int)) = true := by simp; omega
          have hlow := Hid.mk (part_all (adj := adjM co cs) hcN k).low
          have HM : Hid (wo.rowIs g 3 cs.size (intV (stA cs.size (adjM co cs) (orow cs.size (adjM co cs) c k) ((k : Int) + 1) 0 0))) :=
            row_same HW.out (fun x hx => stA_zero hlow.out x hx)
          have y5 : ∀ o, wo.cell? ⟨w.heap.size, o, none⟩ = #[Value.int .i64 ro, .int .i64 co, .string cs, .slice a n cap, .int .i64 bu][o]? := fun o => (hbr.cell (p := ⟨w.heap.size, o, none⟩) (by show w.heap.size < g; omega)).trans (y4 o)
          have HBR := Hid.mk hbr
          have Y4 := Hid.mk y4
          clear y4 HW hbr
          go_wp2
          go_loopw [13] (fun s wm => ∃ A : Nat, A ≤ cs.size ∧ s = .int .i64 A ∧ wm.rowIs g 3 cs.size (intV (stA cs.size (adjM co cs) (orow cs.size (adjM co cs) c k) ((k : Int) + 1) A 0)) ∧ Below g wo wm) (fun s _ => cs.size - (intOf s).toNat)
          case atStart => exact ⟨0, Nat.zero_le _, rfl, HM.out, Below.refl _ _⟩
          case round =>
            obtain ⟨wm, rfl⟩ : ∃ x, x = wr := ⟨_, rfl⟩
            obtain ⟨A, hA, rfl, hrm, hbm⟩ := hrel
            have HMM := Hid.mk hrm
            clear hrm HM
            by_cases hltA : A < cs.size
            · have hlbA : decide ((A : Int) < (cs.size : Int)) = true := by simp; omega
              have y6 : ∀ o, wm.cell? ⟨w.heap.size, o, none⟩ = #[Value.int .i64 ro, .int .i64 co, .string cs, .slice a n cap, .int .i64 bu][o]? := fun o => (hbm.cell (p := ⟨w.heap.size, o, none⟩) (by show w.heap.size < g; omega)).trans (y5 o)
              have HBM := Hid.mk hbm
              have Y5 := Hid.mk y5
              clear y5 hbm
              go_wp2
              go_loopw [14] (fun s wi => ∃ B : Nat, B ≤ cs.size ∧ s = .int .i64 B ∧ wi.rowIs g 3 cs.size (intV (stA cs.size (adjM co cs) (orow cs.size (adjM co cs) c k) ((k : Int) + 1) A B)) ∧ Below g wm wi) (fun s _ => cs.size - (intOf s).toNat)
              case atStart => exact ⟨0, Nat.zero_le _, rfl, HMM.out, Below.refl _ _⟩
              case round =>
                obtain ⟨wi, rfl⟩ : ∃ x, x = wr := ⟨_, rfl⟩
                obtain ⟨B, hBn, rfl, hri, hbi⟩ := hrel
                by_cases hltB : B < cs.size
                · have y7 : ∀ o, wi.cell? ⟨w.heap.size, o, none⟩ = #[Value.int .i64 ro, .int .i64 co, .string cs, .slice a n cap, .int .i64 bu][o]? := fun o => (hbi.cell (p := ⟨w.heap.size, o, none⟩) (by show w.heap.size < g; omega)).trans (y6 o)
                  have HRI := Hid.mk hri
                  have HBI := Hid.mk hbi
                  have Y6 := Hid.mk y6
                  clear hri hbi y6
                  go_wp2_with fail
                  refine (may_any _ _ _ _ _ _ _ _ hN2 r3 r4 (by omega) (by omega)).mono ?_
                  rintro e w5 ⟨rfl, hb5⟩
                  have HR5 := Hid.mk (HRI.out.of_block (hb5.block g HRI.out.lt))
                  have HB5 := Hid.mk (HBI.out.trans (hb5.mono (by have := HRI.out.lt; omega)) : Below g wm w5)
                  have x1 := HR5.out.cell (i := A) hltA
                  have x2 := HR5.out.cell (i := B) hltB
                  have x3 := HR5.out.frozen
                  rw [show intV (stA cs.size (adjM co cs) (orow cs.size (adjM co cs) c k) ((k : Int) + 1) A B) A = Value.int .i64 (stA cs.size (adjM co cs) (orow cs.size (adjM co cs) c k) ((k : Int) + 1) A B A) from rfl] at x1
                  rw [show intV (stA cs.size (adjM co cs) (orow cs.size (adjM co cs) c k) ((k : Int) + 1) A B) B = Value.int .i64 (stA cs.size (adjM co cs) (orow cs.size (adjM co cs) c k) ((k : Int) + 1) A B B) from rfl] at x2
                  clear y7 hb5
                  generalize hvA : stA cs.size (adjM co cs) (orow cs.size (adjM co cs) c k) ((k : Int) + 1) A B A = vA at x1
                  generalize hvB : stA cs.size (adjM co cs) (orow cs.size (adjM co cs) c k) ((k : Int) + 1) A B B = vB at x2
                  have HA := Hid.mk hvA
                  have HB := Hid.mk hvB
                  clear hvA hvB
                  by_cases m1 : mayM co cs (B : Int) (A : Int) = true
                  · by_cases m2 : vA < 0
                    · by_cases m3 : vB = k
                      · have m3' : (vB == (k : Int)) = true := by simpa using m3
                        have M3 := Hid.mk m3
                        clear m3
                        go_wp2
                        go_roundw
                        case rel =>
                          refine ⟨B + 1, by omega, by go_num, row_store HR5.out A ((k : Int) + 1) (fun x hx => ?_), HB5.out.setCell (Nat.le_refl _) _⟩
                          exact stA_hit m1 (by rw [HA.out]; exact m2) (by have h1 := HB.out; have h2 := stA_eq (N := cs.size) (adj := adjM co cs) (o := orow cs.size (adjM co cs) c k) (s := (k : Int) + 1) (by omega) A B B; rw [h1, M3.out] at h2; simp at h2; omega) x
                        case measure => simp [intOf]; omega
                      · have m3' : (vB == (k : Int)) = false := by simpa using m3
                        have M3 := Hid.mk m3
                        clear m3
                        go_wp2
                        go_roundw
                        case rel =>
                          refine ⟨B + 1, by omega, by go_num, row_same HR5.out (fun x hx => ?_), HB5.out⟩
                          exact stA_miss (Or.inr (Or.inr (by intro h0; have h1 := HB.out; have h2 := stA_eq (N := cs.size) (adj := adjM co cs) (o := orow cs.size (adjM co cs) c k) (s := (k : Int) + 1) (by omega) A B B; rw [h1, h0] at h2; simp at h2; exact M3.out (by omega)))) x
                        case measure => simp [intOf]; omega
                    · have m2' : decide (vA < 0) = false := by simpa using m2
                      have M2 : Hid (0 ≤ vA) := by show 0 ≤ vA; omega
                      clear m2
                      go_wp2
                      go_roundw
                      case rel =>
                        refine ⟨B + 1, by omega, by go_num, row_same HR5.out (fun x hx => ?_), HB5.out⟩
                        exact stA_miss (Or.inr (Or.inl (by rw [HA.out]; exact M2.out))) x
                      case measure => simp [intOf]; omega
                  · have m1' : mayM co cs (B : Int) (A : Int) = false := by simpa using m1
                    go_wp2
                    go_roundw
                    case rel =>
                      refine ⟨B + 1, by omega, by go_num, row_same HR5.out (fun x hx => ?_), HB5.out⟩
                      exact stA_miss (Or.inl m1') x
                    case measure => simp [intOf]; omega
                · have hdB : B = cs.size := by omega
                  have HRI := Hid.mk hri
                  have HBI := Hid.mk hbi
                  clear hri hbi
                  go_wp2
                  go_roundw
                  case rel =>
                    refine ⟨A + 1, by omega, by go_num, row_same HRI.out (fun x hx => ?_), HBM.out.trans HBI.out⟩
                    rw [hdB]; exact stA_next hlow.out A x hx
                  case measure => simp [intOf]; omega
            · have hdA : A = cs.size := by omega
              have HBM := Hid.mk hbm
              clear hbm
              go_wp2
              go_roundw
              case rel =>
                refine ⟨k + 1, by omega, by go_num, row_same HMM.out (fun x hx => ?_), HBR.out.trans HBM.out⟩
                rw [hdA]; exact stA_last x hx
              case measure => simp [intOf]; omega
        · have hd : k = cs.size - 1 := by omega
          go_wp2
          go_ret2
          subst hd
          exact ⟨g, rfl, by omega, HW.out, hB4.out.trans (hbr.mono (by omega))⟩

end Go.Proofs.YtaldfpoolajoiaaDoor
