/- Several texts in one: Lk, Bv. -/
import Derived.Test.YtnkgpinadgacgabDoorMdzx
import Derived.Test.YtnkgpinadgacgabDoorMdzz
import Derived.Test.YtnkgpinadgacgabDoorMdzj
import Derived.Test.YtnkgpinadgacgabDoorMde
import Derived.Test.YtnkgpinadgacgabDoorMda
import Derived.Carry
import Derived.Test.YtnkgpinadgacgabDoorCards
import Derived.Test.YtnkgpinadgacgabDoorMdd
import Derived.ProofKit
import Derived.OpenShut
import Derived.Lib.LaidTab
namespace Go.Proofs.YtnkgpinadgacgabDoor
open Go.RowKit M SM

theorem told_pos {S : List Nat → List Nat → Prop} {s g : List Nat} {bu : Int} {n : Nat} {b : Bool} (h : M.Told S s g bu n b) : 1 ≤ n := by
  obtain ⟨L, i, hW, hn⟩ := told_work h
  have := List.length_pos_of_mem hW.start
  omega

set_option maxRecDepth 100000 in
set_option maxHeartbeats 8000000 in
theorem madeS_any (rr rc rb : Int) (s : ByteArray) (a : Option Addr) (n cap : Nat) (x : Nat → Int) (ap : Option Addr) (ns cps : Nat) (S : Nat → ByteArray) (w : World) (hs : s.size ≤ maxLen) (hn : n ≤ 17592186044415) (hsd : SidesIn w)
    (h0 : (Lit.int .i64 rr).wf = true) (h1 : (Lit.int .i64 rc).wf = true) (h2 : (Lit.int .i64 rb).wf = true)
    (hx : (∀ i, i < n → (Lit.int .i64 (x i)).wf = true) ∧ (0 < n → ∃ b off, a = some ⟨b, off, none⟩ ∧ ∀ i, i < n → w.cell? ⟨b, off + i, none⟩ = some (.int .i64 (x i))))
    (hss : ∀ i, (S i).size ≤ maxLen) (hst : StrsIn w ap ns S) :
    Calls Tryd.prog 3 #[.agg #[.int .i64 rr, .int .i64 rc, .string s, .slice a n cap, .int .i64 rb], .slice ap ns cps] w fun e w' => e = .returned (.bool true) ∧ Below w.heap.size w w' := by
  have HSD := Hid.mk hsd
  have MD : Hid (∀ u : World, Below w.heap.size w u → Calls Tryd.prog 10 #[.agg #[.int .i64 rr, .int .i64 rc, .string s, .slice a n cap, .int .i64 rb], .slice ap ns cps] u fun e w' => ∃ v, e = .returned v ∧ MadeTold u w' v) := fun u hu => by
    refine made_any rr rc rb s a n cap x ap ns cps S u hs hn h0 h1 h2 ⟨hx.1, fun hp => ?_⟩ hss (hst.below hu)
    obtain ⟨b, off, e, hc⟩ := hx.2 hp
    exact ⟨b, off, e, fun i hi => cell_later hu (hc i hi)⟩
  clear hsd hx hst hss
  go_enter Tryd.func3, Tryd.ntmps3
  go_wp2_with fail
  obtain ⟨w1, hw1⟩ : ∃ q, q = w.alloc (Obj.cells #[Value.int IntKind.i64 rr, Value.int IntKind.i64 rc, Value.string s, .slice a n cap, Value.int IntKind.i64 rb] 24) := ⟨_, rfl⟩
  have B1 : Hid (Below w.heap.size w w1) := by unfold Hid; rw [hw1]; exact (Below.refl _ w).alloc (Nat.le_refl _) _
  have hz1 : w1.heap.size = w.heap.size + 1 := by rw [hw1]; simp
  rw [← hw1]
  clear hw1
  refine (MD.out _ B1.out).mono ?_
  rintro e w2 ⟨v, rfl, R, C, m, cc, g, gp, cp, cs, fr, tt, h, c, T, p, rfl, hm1, hm4, hmc, hcs, hck, hs36, hpl, hG, hb2⟩
  have B2 : Hid (Below w.heap.size w w2) := B1.out.trans (hb2.mono (by omega))
  have CK2 := Hid.mk hck
  have CK : Hid ((checkM R C cs m fr tt 20000).1 = 0) := by unfold Hid; rw [hck]
  have HCS := Hid.mk hcs
  have HPL : Hid (PlanC w2 gp m h T c p) := hpl
  have HG := Hid.mk hG
  obtain ⟨s1, s2, s3⟩ := checkM_good CK.out
  obtain ⟨r3, r4⟩ := side_bd s2
  have HT : Hid (∀ i, i < m → T i ≤ 1000000) := fun i hi => by
    obtain ⟨_, _, _, _, _, _, q⟩ := hG.path i hi
    exact q
  obtain ⟨F0, hF0⟩ : ∃ F0 : Nat, 200400000 ≤ F0 := ⟨_, Nat.le_refl _⟩
  clear hck hcs hpl hG hb2 s1 s2 s3 MD
  go_upto_region 2 with fail
  obtain ⟨w3, hw3⟩ : ∃ q, q = w2.alloc (Obj.cells #[Value.int .i64 (R : Int), .int .i64 (C : Int), .string cs, .slice (some ⟨g, 0, none⟩) m cc, .int .i64 20000] 28) := ⟨_, rfl⟩
  rw [← hw3]
  have B3 : Hid (Below w2.heap.size w2 w3) := by unfold Hid; rw [hw3]; exact (Below.refl _ w2).alloc (Nat.le_refl _) _
  have y3 : Hid (∀ o, w3.cell? ⟨w2.heap.size, o, none⟩ = #[Value.int .i64 (R : Int), .int .i64 (C : Int), .string cs, .slice (some ⟨g, 0, none⟩) m cc, .int .i64 20000][o]?) := by
    rw [hw3]
    unfold Hid
    intro o; go_simp
  have hz3 : w3.heap.size = w2.heap.size + 1 := by rw [hw3]; simp
  clear hw3
  have C3 : Hid (CartsIn w3 g 0 m fr tt) := HCS.out.below B3.out
  have P3 : Hid (PlanC w3 gp m h T c p) := HPL.out.below B3.out
  have S3 : Hid (SidesIn w3) := (HSD.out.below B2.out).below B3.out
  have B03 : Hid (Below w.heap.size w w3) := B2.out.trans (B3.out.mono B2.out.size)
  have q0 := y3.out 0
  have q1 := y3.out 1
  have q2 := y3.out 2
  have q3 := y3.out 3
  have q4 := y3.out 4
  go_wp2_with fail
  refine (right_any R C 20000 cs (some ⟨g, 0, none⟩) m cc fr tt w3 (by unfold maxLen; omega) (by unfold maxLen; omega) hmc (fun _ => ⟨g, 0, rfl, C3.out⟩) CK2.out).mono ?_
  rintro e w4 ⟨rfl, hb4⟩
  have B4 : Hid (Below w3.heap.size w3 w4) := hb4
  clear hb4 q0 q1 q2 q3 q4
  have y4 : Hid (∀ o, w4.cell? ⟨w2.heap.size, o, none⟩ = #[Value.int .i64 (R : Int), .int .i64 (C : Int), .string cs, .slice (some ⟨g, 0, none⟩) m cc, .int .i64 20000][o]?) := fun o => (B4.out.cell (p := ⟨w2.heap.size, o, none⟩) (by show w2.heap.size < _; omega)).trans (y3.out o)
  have q0 := y4.out 0
  have q1 := y4.out 1
  have q2 := y4.out 2
  have q3 := y4.out 3
  have q4 := y4.out 4
  go_wp2_with fail
  refine (kgood_yes R C 20000 cs g 0 m cc fr tt gp cp h T c p w4 hs36 r3 r4 hm4 (C3.out.below B4.out) (P3.out.below B4.out) HG.out).mono ?_
  rintro e w5 ⟨rfl, hb5⟩
  have B5 : Hid (Below w3.heap.size w3 w5) := B4.out.trans (hb5.mono B4.out.size)
  clear hb5 q0 q1 q2 q3 q4
  have y5 : Hid (∀ o, w5.cell? ⟨w2.heap.size, o, none⟩ = #[Value.int .i64 (R : Int), .int .i64 (C : Int), .string cs, .slice (some ⟨g, 0, none⟩) m cc, .int .i64 20000][o]?) := fun o => (B5.out.cell (p := ⟨w2.heap.size, o, none⟩) (by show w2.heap.size < _; omega)).trans (y3.out o)
  have q0 := y5.out 0
  have q1 := y5.out 1
  have q2 := y5.out 2
  have q3 := y5.out 3
  have q4 := y5.out 4
  go_wp2_with fail
  refine (least_any R C 20000 cs g m cc fr tt T p w5 CK.out hs36 hm4 hmc (S3.out.below B5.out) (C3.out.below B5.out) HG.out).mono ?_
  rintro e w6 ⟨L, rfl, hL4, hL, hb6⟩
  have HL := Hid.mk hL
  have B6 : Hid (Below w3.heap.size w3 w6) := B5.out.trans (hb6.mono B5.out.size)
  clear hb6 hL q0 q1 q2 q3 q4
  have y6 : Hid (∀ o, w6.cell? ⟨w2.heap.size, o, none⟩ = #[Value.int .i64 (R : Int), .int .i64 (C : Int), .string cs, .slice (some ⟨g, 0, none⟩) m cc, .int .i64 20000][o]?) := fun o => (B6.out.cell (p := ⟨w2.heap.size, o, none⟩) (by show w2.heap.size < _; omega)).trans (y3.out o)
  have q0 := y6.out 0
  have q1 := y6.out 1
  have q2 := y6.out 2
  have q3 := y6.out 3
  have q4 := y6.out 4
  go_wp2_with fail
  refine (pos_told g cc w6 CK.out hmc hm4 hs36 (S3.out.below B6.out) (C3.out.below B6.out)).mono ?_
  rintro e w7 ⟨n1, d1, ht1, hway1, hb7⟩
  have B7 : Hid (Below w3.heap.size w3 w7) := B6.out.trans (hb7.mono B6.out.size)
  have T1 := Hid.mk ht1
  clear hb7 ht1 q0 q1 q2 q3 q4
  have y7 : Hid (∀ o, w7.cell? ⟨w2.heap.size, o, none⟩ = #[Value.int .i64 (R : Int), .int .i64 (C : Int), .string cs, .slice (some ⟨g, 0, none⟩) m cc, .int .i64 20000][o]?) := fun o => (B7.out.cell (p := ⟨w2.heap.size, o, none⟩) (by show w2.heap.size < _; omega)).trans (y3.out o)
  have q0 := y7.out 0
  have q1 := y7.out 1
  have q2 := y7.out 2
  have q3 := y7.out 3
  have q4 := y7.out 4
  have SOL : Hid (Calls Tryd.prog 15 #[.agg #[.int .i64 (R : Int), .int .i64 (C : Int), .string cs, .slice (some ⟨g, 0, none⟩) m cc, .int .i64 20000]] w7 fun e w' =>
      ((20000 : Int) < n1 ∧ e = .returned (.tuple #[.slice none 0 0, .int .i64 0, .int .i64 10]) ∧ Below w7.heap.size w7 w') ∨
      (¬ (20000 : Int) < n1 ∧ d1 = true ∧ ∃ (k gp : Nat) (h T' c : Nat → Nat) (p : Nat → Nat → Nat), e = .returned (.tuple #[.slice (some ⟨gp, 0, none⟩) m m, .int .i64 (k : Nat), .int .i64 0]) ∧ PlanC w' gp m h T' c p ∧ GoodK C cs m fr tt T' p ∧ k = sumN T' m ∧ k ≤ sumN T m ∧ L ≤ k ∧ Below w7.heap.size w7 w')) := by
    refine (solG_told F0 hF0 R C 20000 cs m fr tt g cc w7 CK.out hmc hm4 hs36 (S3.out.below B7.out) (C3.out.below B7.out)).mono ?_
    rintro e w8 ⟨n2, d2, ht2, hway2, hb8⟩
    obtain ⟨k1, k2⟩ := M.Told.all T1.out ht2
    rcases hway2 with ⟨q, rfl⟩ | ⟨q, hd, rfl⟩ | ⟨q, hd, gp', h', T', c', p', rfl, hpl', hG', hcost⟩
    · exact .inl ⟨k1.2 q, rfl, hb8⟩
    · exfalso
      have h7 := (goodK_told hF0 CK.out HG.out ht2 q).1
      rw [hd] at h7
      cases h7
    · have hq : ¬ (20000 : Int) < n1 := fun e => q (k1.1 e)
      obtain ⟨e1, e2⟩ := k2 hq
      have h7 := (goodK_told hF0 CK.out HG.out ht2 q).2
      refine .inr ⟨hq, by rw [e2, hd], costY F0 R C cs m fr tt, gp', h', T', c', p', rfl, hpl', hG', hcost, h7, ?_, hb8⟩
      rw [hcost]
      exact HL.out T' p' hG'
  rcases hway1 with ⟨hlt, rfl⟩ | ⟨hlt, rfl⟩
  · have HN := Hid.mk hlt
    clear hlt
    go_wp2_with fail
    refine (SOL.out).mono ?_
    rintro e w8 (⟨_, rfl, hb8⟩ | ⟨hh, _⟩)
    · have B8 : Hid (Below w3.heap.size w3 w8) := B7.out.trans (hb8.mono B7.out.size)
      clear hb8 q0 q1 q2 q3 q4
      have y8 : Hid (∀ o, w8.cell? ⟨w2.heap.size, o, none⟩ = #[Value.int .i64 (R : Int), .int .i64 (C : Int), .string cs, .slice (some ⟨g, 0, none⟩) m cc, .int .i64 20000][o]?) := fun o => (B8.out.cell (p := ⟨w2.heap.size, o, none⟩) (by show w2.heap.size < _; omega)).trans (y3.out o)
      have q0 := y8.out 0
      have q1 := y8.out 1
      have q2 := y8.out 2
      have q3 := y8.out 3
      have q4 := y8.out 4
      go_wp2_with fail
      refine (many_told g cc w8 CK.out hs36 hm4).mono ?_
      rintro e w9 ⟨mb, rfl, hmb, hb9⟩
      have hmb := hmb ⟨n1, d1, T1.out, HN.out⟩
      subst hmb
      have B9 : Hid (Below w3.heap.size w3 w9) := B8.out.trans (hb9.mono B8.out.size)
      clear hb9 q0 q1 q2 q3 q4
      go_wp2_with fail
      go_ret
      exact ⟨rfl, B03.out.trans (B9.out.mono B03.out.size)⟩
    · have h7 := HN.out; omega
  · have HN := Hid.mk hlt
    have hn1 := told_pos T1.out
    have hn1I : (1 : Int) ≤ (n1 : Int) := by omega
    have hn2I : (n1 : Int) ≤ 20000 := by omega
    clear hlt
    go_wp2_with fail
    refine (SOL.out).mono ?_
    rintro e w8 (⟨hh, _⟩ | ⟨_, hd1, k, gp', h', T', c', p', rfl, hpl', hG', hk, hk1, hk2, hb8⟩)
    · have h7 := HN.out; omega
    · subst hd1
      have B8 : Hid (Below w3.heap.size w3 w8) := B7.out.trans (hb8.mono B7.out.size)
      have PL' := Hid.mk hpl'
      have HG' := Hid.mk hG'
      have HK := Hid.mk hk
      clear hb8 q0 q1 q2 q3 q4 hpl' hG' hk
      have y8 : Hid (∀ o, w8.cell? ⟨w2.heap.size, o, none⟩ = #[Value.int .i64 (R : Int), .int .i64 (C : Int), .string cs, .slice (some ⟨g, 0, none⟩) m cc, .int .i64 20000][o]?) := fun o => (B8.out.cell (p := ⟨w2.heap.size, o, none⟩) (by show w2.heap.size < _; omega)).trans (y3.out o)
      have q0 := y8.out 0
      have q1 := y8.out 1
      have q2 := y8.out 2
      have q3 := y8.out 3
      have q4 := y8.out 4
      go_wp2_with fail
      refine (solved_yes R C 20000 cs g m cc fr tt gp' m k h' T' c' p' w8 hs36 r3 r4 hm4 (C3.out.below B8.out) PL'.out HG'.out HK.out).mono ?_
      rintro e w9 ⟨rfl, hb9⟩
      have B9 : Hid (Below w3.heap.size w3 w9) := B8.out.trans (hb9.mono B8.out.size)
      clear hb9 q0 q1 q2 q3 q4
      obtain ⟨z, hz⟩ : ∃ z, z = sumN T m := ⟨_, rfl⟩
      rw [← hz] at hk1
      have CO : Hid (Calls Tryd.prog 18 #[.slice (some ⟨gp, 0, none⟩) m cp] w9 fun e w' => e = .returned (.int .i64 (z : Nat)) ∧ w' = w9) := by
        unfold Hid; rw [hz]
        exact cost_any gp cp m h T c p w9 hm4 HT.out (P3.out.below B9.out)
      have k1I : (k : Int) ≤ (z : Int) := by omega
      have k2I : (L : Int) ≤ (k : Int) := by omega
      clear hz hk1 hk2
      go_wp2_with fail
      refine (CO.out).mono ?_
      rintro e w10 ⟨rfl, hw10⟩
      have hw10 := hw10.symm
      subst hw10
      go_wp2_with fail
      go_ret
      exact ⟨rfl, B03.out.trans (B9.out.mono B03.out.size)⟩

end Go.Proofs.YtnkgpinadgacgabDoor

namespace Go.Proofs.YtnkgpinadgacgabDoor
open Go.ChangeShapes Go.WideShapes Go.ChangeAt Go.RowKit Go.Deep Go.Joins
theorem listOf4 {α : Type} {l : List α} (h : l.length = 4) : ∃ c0 c1 c2 c3, l = [c0, c1, c2, c3] := by
  match l, h with
  | [c0, c1, c2, c3], _ => exact ⟨c0, c1, c2, c3, rfl⟩

end Go.Proofs.YtnkgpinadgacgabDoor

/- What the bound on what comes in gives: bulk of parts, of lists, of texts; five arguments opened and shut. -/
namespace Go.Proofs.YtnkgpinadgacgabDoor
open Go.ChangeShapes Go.WideShapes Go.ChangeAt Go.RowKit
theorem bulk_one {H : Type} (d : DataW H) : 1 ≤ Rows.uptoBulk d := by
  cases d with
  | lit l => cases l <;> simp [Rows.uptoBulk]
  | nil => simp [Rows.uptoBulk]
  | ptr d => simp [Rows.uptoBulk]
  | slice elems spare => simp [Rows.uptoBulk]
  | agg parts => simp [Rows.uptoBulk]
  | iface t d => simp [Rows.uptoBulk]
  | map entries => simp [Rows.uptoBulk]
  | held h => simp [Rows.uptoBulk]

theorem bulk_part {H : Type} {d : DataW H} : ∀ {l : List (DataW H)}, d ∈ l → Rows.uptoBulk d ≤ Rows.uptoBulkAll l
  | x :: r, h => by
    simp only [Rows.uptoBulkAll]
    cases List.mem_cons.1 h with
    | inl e => subst e; omega
    | inr e => have := bulk_part e; omega

theorem bulk_len {H : Type} : ∀ (l : List (DataW H)), l.length ≤ Rows.uptoBulkAll l
  | [] => by simp [Rows.uptoBulkAll]
  | x :: r => by
    have := bulk_one x
    have := bulk_len r
    simp only [Rows.uptoBulkAll, List.length_cons]; omega

section
variable {H : Type} {enc : TypeId × Value → H} {P : Program} {w : World} {base : Nat} {spare : Nat → Bool} {held : Bool}
theorem trodAll_five {t t1 t2 t3 t4 : TypeId} {args : Array Value} {ds : List (DataW H)} {ps : List MemPlace} (h : DataW.TrodAll enc P w base spare held [t, t1, t2, t3, t4] args.toList ds ps) :
    ∃ v v1 v2 v3 v4 d d1 d2 d3 d4 p p1 p2 p3 p4, args = #[v, v1, v2, v3, v4] ∧ ds = [d, d1, d2, d3, d4] ∧ ps = p ++ (p1 ++ (p2 ++ (p3 ++ p4))) ∧ DataW.Trod enc P w base spare held t v d p ∧ DataW.Trod enc P w base spare held t1 v1 d1 p1 ∧ DataW.Trod enc P w base spare held t2 v2 d2 p2 ∧ DataW.Trod enc P w base spare held t3 v3 d3 p3 ∧ DataW.Trod enc P w base spare held t4 v4 d4 p4 := by
  obtain ⟨v, vs, d, ds', p, q, hargs, rfl, rfl, hd, hrest⟩ := trodAll_cons h
  obtain ⟨v1, vs1, d1, ds1, p1, q1, rfl, rfl, rfl, hd1, hrest1⟩ := trodAll_cons hrest
  obtain ⟨v2, vs2, d2, ds2, p2, q2, rfl, rfl, rfl, hd2, hrest2⟩ := trodAll_cons hrest1
  obtain ⟨v3, vs3, d3, ds3, p3, q3, rfl, rfl, rfl, hd3, hrest3⟩ := trodAll_cons hrest2
  obtain ⟨v4, vs4, d4, ds4, p4, q4, rfl, rfl, rfl, hd4, hrest4⟩ := trodAll_cons hrest3
  obtain ⟨rfl, rfl, rfl⟩ := trodAll_nil hrest4
  exact ⟨v, v1, v2, v3, v4, d, d1, d2, d3, d4, p, p1, p2, p3, p4, by cases args; simp_all, rfl, by simp, hd, hd1, hd2, hd3, hd4⟩

theorem trodAll_mk5 {t t1 t2 t3 t4 : TypeId} {v v1 v2 v3 v4 : Value} {d d1 d2 d3 d4 : DataW H} {p p1 p2 p3 p4 : List MemPlace} (h : DataW.Trod enc P w base spare held t v d p) (h1 : DataW.Trod enc P w base spare held t1 v1 d1 p1)
    (h2 : DataW.Trod enc P w base spare held t2 v2 d2 p2) (h3 : DataW.Trod enc P w base spare held t3 v3 d3 p3) (h4 : DataW.Trod enc P w base spare held t4 v4 d4 p4) : DataW.TrodAll enc P w base spare held [t, t1, t2, t3, t4] [v, v1, v2, v3, v4] [d, d1, d2, d3, d4] (p ++ (p1 ++ (p2 ++ (p3 ++ p4)))) :=
  ⟨p, _, h, ⟨p1, _, h1, ⟨p2, _, h2, ⟨p3, _, h3, ⟨p4, [], h4, rfl, by simp⟩, rfl⟩, rfl⟩, rfl⟩, rfl⟩

end
end Go.Proofs.YtnkgpinadgacgabDoor

/- What the row's list gives: the table of the four sides lies in memory. -/
namespace Go.Proofs.YtnkgpinadgacgabDoor
open Go.ChangeShapes Go.WideShapes Go.ChangeAt Go.RowKit
theorem Tryd.gSides : Tryd.prog.globalNamed "yard/grid.sides" = some 0 := by kernel_rfl

theorem Tryd.gSidesType : (Tryd.prog.globals[0]?).map (·.type) = some 174 := by kernel_rfl

theorem Tryd.cellsSides : Tryd.prog.cellsOf 174 = 8 := by kernel_rfl

theorem Tryd.cellsSide : Tryd.prog.cellsOf 173 = 2 := by kernel_rfl

theorem Tryd.cellsI : Tryd.prog.cellsOf 3 = 1 := by kernel_rfl

theorem list8 {α : Type} {l : List α} (h : l.length = 8) : ∃ c0 c1 c2 c3 c4 c5 c6 c7, l = [c0, c1, c2, c3, c4, c5, c6, c7] := by
  match l, h with
  | [c0, c1, c2, c3, c4, c5, c6, c7], _ => exact ⟨c0, c1, c2, c3, c4, c5, c6, c7, rfl⟩

theorem list4 {α : Type} {l : List α} (h : l.length = 4) : ∃ c0 c1 c2 c3, l = [c0, c1, c2, c3] := by
  match l, h with
  | [c0, c1, c2, c3], _ => exact ⟨c0, c1, c2, c3, rfl⟩

theorem list2 {α : Type} {l : List α} (h : l.length = 2) : ∃ c0 c1, l = [c0, c1] := by
  match l, h with
  | [c0, c1], _ => exact ⟨c0, c1, rfl⟩

/-- One side: its two cells. -/
theorem side_open {H : Type} {enc : TypeId × Value → H} {w : World} {base : Nat} {sp : Nat → Bool} {held : Bool} {fuel : Nat} {u v : Value} {x y : Int} {p : List MemPlace}
    (h : DataW.trod enc Tryd.prog w base sp held fuel 173 [u, v] = some (.agg [.lit (.int .i64 x), .lit (.int .i64 y)], p)) : u = .int .i64 x ∧ v = .int .i64 y := by
  obtain ⟨xs, m, _, hx, _, hxl, hfs⟩ := DataW.trod_struct Tryd.underlying173 h
  obtain ⟨x0, x1, rfl⟩ := list2 hxl
  have g0 := hfs 0 _ rfl
  have g1 := hfs 1 _ rfl
  simp [Tryd.cellsI] at g0 g1
  obtain ⟨n0, e0, d0, _⟩ := DataW.trod_int Tryd.underlying3 g0
  obtain ⟨n1, e1, d1, _⟩ := DataW.trod_int Tryd.underlying3 g1
  simp only [List.cons.injEq, and_true] at e0 e1
  subst e0 e1
  simp [d0, d1] at hx
  obtain ⟨⟨h1, h2⟩, _⟩ := hx
  rw [h1, h2]; exact ⟨rfl, rfl⟩

set_option maxRecDepth 100000 in
theorem sides_of_laid {W : World} (h : laidMet Tryd.prog [("yard/grid.sides", Rows.laid_yard_grid_sides)] W) : SidesIn W := by
  obtain ⟨ps, ⟨g', t', cs, fuel, p, q, hg', ht', hvar, hd, _, _⟩, _⟩ := h
  obtain rfl := Option.some.inj (Tryd.gSides.symm.trans hg')
  obtain rfl := Option.some.inj (Tryd.gSidesType.symm.trans ht')
  obtain ⟨xs, m, _, hx, hcl, hxl, hel⟩ := DataW.trod_array Tryd.underlying174 hd
  rw [Tryd.cellsSides] at hcl
  obtain ⟨c0, c1, c2, c3, c4, c5, c6, c7, hcs⟩ := list8 hcl
  obtain ⟨x0, x1, x2, x3, rfl⟩ := list4 hxl
  rw [hcs, Tryd.cellsSide] at hel
  have e0 := hel 0 (by omega)
  have e1 := hel 1 (by omega)
  have e2 := hel 2 (by omega)
  have e3 := hel 3 (by omega)
  simp at e0 e1 e2 e3
  have hd' : x0.1 = .agg [.lit (.int .i64 (-1)), .lit (.int .i64 0)] ∧ x1.1 = .agg [.lit (.int .i64 1), .lit (.int .i64 0)] ∧ x2.1 = .agg [.lit (.int .i64 0), .lit (.int .i64 (-1))] ∧ x3.1 = .agg [.lit (.int .i64 0), .lit (.int .i64 1)] := by
    have := congrArg Prod.fst hx
    simp [Rows.laid_yard_grid_sides] at this
    exact ⟨this.1.symm, this.2.1.symm, this.2.2.1.symm, this.2.2.2.symm⟩
  obtain ⟨d0, d1, d2, d3⟩ := hd'
  obtain ⟨y0, z0⟩ := x0
  obtain ⟨y1, z1⟩ := x1
  obtain ⟨y2, z2⟩ := x2
  obtain ⟨y3, z3⟩ := x3
  simp only at d0 d1 d2 d3
  subst d0 d1 d2 d3
  obtain ⟨a0, a1⟩ := side_open e0
  obtain ⟨a2, a3⟩ := side_open e1
  obtain ⟨a4, a5⟩ := side_open e2
  obtain ⟨a6, a7⟩ := side_open e3
  have hc : ∀ i, W.cell? ⟨0, i, none⟩ = [c0, c1, c2, c3, c4, c5, c6, c7][i]? := by
    intro i
    rw [World.var?_cell Tryd.gSides hvar i, ← hcs, Array.getElem?_toList]
  refine ⟨?_, ?_, ?_, ?_, ?_, ?_, ?_, ?_⟩ <;> rw [hc] <;> simp [a0, a1, a2, a3, a4, a5, a6, a7]

end Go.Proofs.YtnkgpinadgacgabDoor
