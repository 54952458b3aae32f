/- Walk of Judges: the law answers true. -/
import Derived.Test.YtnkgpinadgacgaaDoorCp
import Derived.Test.YtnkgpinadgacgaaDoorCk
import Derived.Test.YtnkgpinadgacgaaDoorCm
namespace Go.Proofs.YtnkgpinadgacgaaDoor
open Go.RowKit M

/-- The lists of a handed plan. -/
def handP (p : PlanM) (G : Nat → Nat) : PlanM := ⟨fun i => some ⟨G i, 0, none⟩, p.len, fun i => p.len i + 8, p.num⟩

theorem Handed.plan {w : World} {g n : Nat} {p : PlanM} {G : Nat → Nat} (h : Handed w g (n + 8) n p G) : PlanAt w (some ⟨g, 0, none⟩) n (handP p G) := fun _ => by
  refine ⟨g, 0, rfl, fun i hi => ⟨?_, fun h0 => ⟨G i, 0, rfl, fun j hj => ?_⟩⟩⟩
  · rw [Nat.zero_add]
    have c := h.row.cell (i := i) (by omega)
    unfold planV at c
    rw [if_pos (by omega), if_pos hi] at c
    exact c
  · rw [Nat.zero_add]
    have c := (h.lists i (by omega) hi).cell (i := j) (by have : j < p.len i := hj; omega)
    rw [rowN_at (show j < p.len i from hj)] at c
    exact c

theorem ansF_len {ro co bu : Int} {cs : ByteArray} {m : Nat} {fr tt : Nat → Int} {n : Nat} {p : PlanM} {lvl : Int} (hB : ∀ i, i < n → p.len i ≤ 1048576) : (ansF ro co bu cs m fr tt n p lvl).length ≤ 40000000 := by
  unfold ansF
  by_cases h : judgeE ro co bu cs m fr tt lvl = 0
  · rw [if_pos h]
    by_cases hmn : n = m
    · rw [if_pos hmn]
      have hck : (checkM ro co cs m fr tt bu).1 = 0 := by
        unfold judgeE at h
        by_cases e : (checkM ro co cs m fr tt bu).1 = 0
        · exact e
        · rw [if_neg e] at h; exact absurd h e
      exact allF_len (by have := (carts_free hck).1; omega) hB
    · rw [if_neg hmn]; simp
  · rw [if_neg h]; simp

set_option maxRecDepth 100000 in
set_option maxHeartbeats 4000000 in
theorem judges_any (ro co bu : Int) (cs : ByteArray) (a : Option Addr) (m cap : Nat) (fr tt : Nat → Int) (ap : Option Addr) (n capp : Nat) (p : PlanM) (lvl : Int) (w : World) (hs : cs.size ≤ maxLen) (hm : m * 16 ≤ 140737488351232) (hsd : SidesIn w)
    (ha : 0 < m → ∃ b off, a = some ⟨b, off, none⟩ ∧ CartsIn w b off m fr tt) (hn : n ≤ 1048576) (hB : ∀ i, i < n → p.len i ≤ 1048576) (hp : PlanAt w ap n p) :
    Calls Tryd.prog 6 #[.agg #[.int .i64 ro, .int .i64 co, .string cs, .slice a m cap, .int .i64 bu], .slice ap n capp, .int .i64 lvl] w fun e w' =>
      e = .returned (.bool true) ∧ Below w.heap.size w w' := by
  have hmm : m ≤ maxLen := by unfold maxLen; omega
  have HA := Hid.mk ha
  have HB := Hid.mk hB
  have HP := Hid.mk hp
  have HSD := Hid.mk hsd
  have LEN := Hid.mk (ansF_len (ro := ro) (co := co) (bu := bu) (cs := cs) (m := m) (fr := fr) (tt := tt) (p := p) (lvl := lvl) hB)
  have HB0 : Hid (∀ (w : World) (o : Obj), Below w.heap.size w (w.alloc o)) := fun w _ => (Below.refl _ w).alloc (Nat.le_refl _) _
  clear ha hB hp hsd
  go_enter Tryd.func6, Tryd.ntmps6
  go_wp2_with fail
  refine (handed_any _ _ _ _ _ _ _ fr tt _ hm (by exact opt_below HA.out (HB0.out _ _))).mono ?_
  rintro e w1 ⟨g, rfl, hg, hrow, hb1⟩
  have y1 : ∀ o, w1.cell? ⟨w.heap.size, o, none⟩ = #[Value.int .i64 ro, .int .i64 co, .string cs, .slice a m cap, .int .i64 bu][o]? := by
    intro o
    rw [hb1.cell (p := ⟨w.heap.size, o, none⟩) (by show w.heap.size < _; simp)]; go_simp
  have hB1 : Hid (Below w.heap.size w w1) := (HB0.out _ _).trans (hb1.mono (by simp))
  have hz1 : w.heap.size < w1.heap.size := by have := hb1.size; simp at this; omega
  have HR := Hid.mk hrow
  have HA1 := Hid.mk (opt_below HA.out hB1.out)
  have HP1 := Hid.mk (HP.out.below hB1.out)
  have HS1 := Hid.mk (HSD.out.below hB1.out)
  clear hrow hb1
  go_wp2_with fail
  refine (handedPlan_any ap n capp p _ hn HB.out (HP1.out.below (HB0.out _ _))).mono ?_
  rintro e w2 ⟨gp, G, rfl, hgp, hhp, hb2⟩
  have hB2 : Hid (Below w1.heap.size w1 w2) := (HB0.out _ _).trans (hb2.mono (by simp))
  have y2 : ∀ o, w2.cell? ⟨w.heap.size, o, none⟩ = #[Value.int .i64 ro, .int .i64 co, .string cs, .slice a m cap, .int .i64 bu][o]? := fun o => (hB2.out.cell (p := ⟨w.heap.size, o, none⟩) hz1).trans (y1 o)
  have h2 : ∀ o, w2.cell? ⟨w1.heap.size, o, none⟩ = #[Value.int .i64 ro, .int .i64 co, .string cs, .slice (some ⟨g, 0, none⟩) m (m + 8), .int .i64 bu][o]? := by
    intro o
    rw [hb2.cell (p := ⟨w1.heap.size, o, none⟩) (by show w1.heap.size < _; simp)]; go_simp
  have hz2 : w1.heap.size < w2.heap.size := by have := hb2.size; simp at this; omega
  have HR2 := Hid.mk (rowIs_below HR.out hB2.out)
  have HH2 := Hid.mk hhp
  have HA2 := Hid.mk (opt_below HA1.out hB2.out)
  have HP2 := Hid.mk (HP1.out.below hB2.out)
  have HS2 := Hid.mk (HS1.out.below hB2.out)
  clear y1 hb2 hhp
  go_wp2_with fail
  refine (yjudge_any _ _ _ _ _ _ _ fr tt _ n _ (handP p G) lvl _ hs hmm (by omega) HS2.out (by exact fun _ => ⟨g, 0, rfl, row_carts HR2.out⟩) HB.out HH2.out.plan).mono ?_
  rintro e w3 ⟨va, rfl, howna, hb3⟩
  have OA : Hid (OwnF w3 w2.heap.size va (ansF ro co bu cs m fr tt n p lvl)) := howna
  have hB3 := Hid.mk hb3
  have y3 : ∀ o, w3.cell? ⟨w.heap.size, o, none⟩ = #[Value.int .i64 ro, .int .i64 co, .string cs, .slice a m cap, .int .i64 bu][o]? := fun o => (hb3.cell (p := ⟨w.heap.size, o, none⟩) (by show w.heap.size < _; omega)).trans (y2 o)
  have h3 : ∀ o, w3.cell? ⟨w1.heap.size, o, none⟩ = #[Value.int .i64 ro, .int .i64 co, .string cs, .slice (some ⟨g, 0, none⟩) m (m + 8), .int .i64 bu][o]? := fun o => (hb3.cell (p := ⟨w1.heap.size, o, none⟩) (by show w1.heap.size < _; omega)).trans (h2 o)
  have hz3 : w2.heap.size ≤ w3.heap.size := hb3.size
  have HR3 := Hid.mk (rowIs_below HR2.out hb3)
  have HH3 := Hid.mk (HH2.out.below hb3)
  have HA3 := Hid.mk (opt_below HA2.out hb3)
  have HP3 := Hid.mk (HP2.out.below hb3)
  have HS3 := Hid.mk (HS2.out.below hb3)
  clear y2 h2 hb3 howna
  go_wp2_with fail
  refine (yjudge_any _ _ _ _ _ _ _ fr tt _ n _ (handP p G) lvl _ hs hmm (by omega) HS3.out (by exact fun _ => ⟨g, 0, rfl, row_carts HR3.out⟩) HB.out HH3.out.plan).mono ?_
  rintro e w4 ⟨vc, rfl, hownc, hb4⟩
  have OC : Hid (OwnF w4 w3.heap.size vc (ansF ro co bu cs m fr tt n p lvl)) := hownc
  have OA4 := Hid.mk (OA.out.below hb4)
  have DIS : Hid (∀ k, va.ownBlock = some k → vc.ownBlock ≠ some k) := fun k h1 h2 => by
    have a1 := (OA.out.1.lt k h1).2
    have a2 := (OC.out.1.lt k h2).1
    omega
  have hB4 := Hid.mk hb4
  have y4 : ∀ o, w4.cell? ⟨w.heap.size, o, none⟩ = #[Value.int .i64 ro, .int .i64 co, .string cs, .slice a m cap, .int .i64 bu][o]? := fun o => (hb4.cell (p := ⟨w.heap.size, o, none⟩) (by show w.heap.size < _; omega)).trans (y3 o)
  have h4 : ∀ o, w4.cell? ⟨w1.heap.size, o, none⟩ = #[Value.int .i64 ro, .int .i64 co, .string cs, .slice (some ⟨g, 0, none⟩) m (m + 8), .int .i64 bu][o]? := fun o => (hb4.cell (p := ⟨w1.heap.size, o, none⟩) (by show w1.heap.size < _; omega)).trans (h3 o)
  have hz4 : w3.heap.size ≤ w4.heap.size := hb4.size
  have HR4 := Hid.mk (rowIs_below HR3.out hb4)
  have HH4 := Hid.mk (HH3.out.below hb4)
  have HA4 := Hid.mk (opt_below HA3.out hb4)
  have HP4 := Hid.mk (HP3.out.below hb4)
  have HS4 := Hid.mk (HS3.out.below hb4)
  clear y3 h3 hb4 hownc
  go_wp2_with fail
  refine (still_any _ _ _ _ _ _ _ _ fr tt _ hm (by exact HA4.out) (by exact HR4.out)).mono ?_
  rintro e w5 ⟨rfl, hb5⟩
  have hB5 := Hid.mk hb5
  have y5 : ∀ o, w5.cell? ⟨w.heap.size, o, none⟩ = #[Value.int .i64 ro, .int .i64 co, .string cs, .slice a m cap, .int .i64 bu][o]? := fun o => (hb5.cell (p := ⟨w.heap.size, o, none⟩) (by show w.heap.size < _; omega)).trans (y4 o)
  have hz5 : w4.heap.size ≤ w5.heap.size := hb5.size
  have HH5 := Hid.mk (HH4.out.below hb5)
  have HA5 := Hid.mk (opt_below HA4.out hb5)
  have HP5 := Hid.mk (HP4.out.below hb5)
  have HS5 := Hid.mk (HS4.out.below hb5)
  have OA5 := Hid.mk (OA4.out.below hb5)
  have OC5 := Hid.mk (OC.out.below hb5)
  clear y4 h4 hb5
  go_wp2_with fail
  refine (stillPlan_any gp n ap capp p G _ hn HB.out HP5.out HH5.out).mono ?_
  rintro e w6 ⟨rfl, hb6⟩
  have hB6 := Hid.mk hb6
  have y6 : ∀ o, w6.cell? ⟨w.heap.size, o, none⟩ = #[Value.int .i64 ro, .int .i64 co, .string cs, .slice a m cap, .int .i64 bu][o]? := fun o => (hb6.cell (p := ⟨w.heap.size, o, none⟩) (by show w.heap.size < _; omega)).trans (y5 o)
  have hz6 : w5.heap.size ≤ w6.heap.size := hb6.size
  have HA6 := Hid.mk (opt_below HA5.out hb6)
  have HP6 := Hid.mk (HP5.out.below hb6)
  have HS6 := Hid.mk (HS5.out.below hb6)
  have OA6 := Hid.mk (OA5.out.below hb6)
  have OC6 := Hid.mk (OC5.out.below hb6)
  clear y5 hb6
  go_wp2_with fail
  refine (rjudge_any _ _ _ _ _ _ _ fr tt ap n capp p lvl _ hs hmm HS6.out HA6.out HB.out HP6.out).mono ?_
  rintro e w7 ⟨vb, rfl, hownb, hb7⟩
  have OB := Hid.mk hownb
  have hB7 := Hid.mk hb7
  have hz7 : w6.heap.size ≤ w7.heap.size := hb7.size
  have OA7 := Hid.mk (OA6.out.below hb7)
  have OC7 := Hid.mk (OC6.out.below hb7)
  have HBW : Hid (Below w.heap.size w w7) := hB1.out.trans ((hB2.out.mono (by omega)).trans ((hB3.out.mono (by omega)).trans ((hB4.out.mono (by omega)).trans ((hB5.out.mono (by omega)).trans ((hB6.out.mono (by omega)).trans (hB7.out.mono (by omega)))))))
  clear hownb hb7 y6
  obtain ⟨F, hF⟩ : ∃ F, F = ansF ro co bu cs m fr tt n p lvl := ⟨_, rfl⟩
  rw [← hF] at OA7 OC7 OB LEN
  obtain ⟨E, hE⟩ : ∃ E, E = judgeE ro co bu cs m fr tt lvl := ⟨_, rfl⟩
  rw [← hE]
  have hEE : (E == E) = true := by simp
  clear hF hE
  go_wp2_with fail
  refine (sameFaults_any va vb F _ (by have := LEN.out; omega) OA7.out.at OB.out.at).mono ?_
  rintro e w8 ⟨rfl, hb8⟩
  have hB8 := Hid.mk hb8
  have OA8 := Hid.mk (OA7.out.below hb8)
  have OB8 := Hid.mk (OB.out.below hb8)
  have OC8 := Hid.mk (OC7.out.below hb8)
  have hz8 : w7.heap.size ≤ w8.heap.size := hb8.size
  clear hb8
  go_wp2_with fail
  refine (sameFaults_any vc vb F _ (by have := LEN.out; omega) OC8.out.at OB8.out.at).mono ?_
  rintro e w9 ⟨rfl, hb9⟩
  have hB9 := Hid.mk hb9
  have OA9 := Hid.mk (OA8.out.below hb9)
  have OC9 := Hid.mk (OC8.out.below hb9)
  have hz9 : w8.heap.size ≤ w9.heap.size := hb9.size
  clear hb9
  go_wp2_with fail
  refine (bothFaults_any w.heap.size va vc F F _ (by have := LEN.out; omega) (by have := LEN.out; omega) (by omega) (OA9.out.le (by omega)) (OC9.out.le (by omega)) DIS.out).mono ?_
  rintro e w10 ⟨rfl, hb10⟩
  have HBX : Hid (Below w.heap.size w w10) := HBW.out.trans ((hB8.out.mono (by omega)).trans ((hB9.out.mono (by omega)).trans hb10))
  clear hb10
  go_wp2_with fail
  refine (num_any _ _).mono ?_
  rintro e w11 ⟨rfl, hw11⟩
  have hw11 := hw11.symm
  subst hw11
  go_wp2_with fail
  refine (num_any _ _).mono ?_
  rintro e w11 ⟨rfl, hw11⟩
  have hw11 := hw11.symm
  subst hw11
  go_wp2
  go_ret
  exact ⟨rfl, HBX.out⟩

end Go.Proofs.YtnkgpinadgacgaaDoor
