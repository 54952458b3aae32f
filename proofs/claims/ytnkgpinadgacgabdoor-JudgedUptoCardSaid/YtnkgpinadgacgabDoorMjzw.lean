/- Several texts in one: Li. -/
import Derived.Test.YtnkgpinadgacgabDoorMjzu
import Derived.Test.YtnkgpinadgacgabDoorMjzv
import Derived.Deep.RegionLaw
import Derived.Deep.AppendLies
namespace Go.Proofs.YtnkgpinadgacgabDoor
open Go.RowKit M SM
theorem ownN_row {w : World} {base : Nat} {v : Value} {L : List Nat} (h : OwnN w base v L) : RowQ w v L := by
  obtain ⟨a, c, rfl, ha, _⟩ := h.form
  refine ⟨⟨a, c, rfl, fun hp => ?_⟩, fun g hg => (h.lt g hg).2⟩
  obtain ⟨g, rfl⟩ := ha hp
  exact ⟨g, rfl, fun j hj => h.cell hj⟩

theorem cell_one_newL (w : World) (a : Value) (t : TypeId) : ∀ j u, [a][j]? = some u → (w.alloc (.cells #[a] t)).cell? ((⟨w.heap.size, 0, none⟩ : Addr).add j) = some u := by
  intro j u hj
  match j, hj with
  | 0, hj => simp at hj; subst hj; simp [Addr.add]
  | j + 1, hj => simp at hj

theorem one_oneCell (u : Int) : ∀ x ∈ [Value.int .i64 u], x.oneCell' = true := by
  intro x hx; simp at hx; subst hx; rfl

theorem own_frozen2 {w : World} {base n g cap : Nat} {e : TypeId} {size : Nat} {xs : List Value} (h : w.ownsRow base e size (.slice (some ⟨g, 0, none⟩) n cap) n xs) (o : Nat) : w.frozen? ⟨g, o, none⟩ = false := by
  rcases h.2 with ⟨h0, _⟩ | ⟨g', cap', cur, hv', hg, hh, hn, hc, hs, ht⟩
  · cases h0
  · cases hv'
    simp [World.frozen?, hh]

/-- What stands while the carts go about: the place of the result, the yard, its carts. -/
structure MadeEnv (w : World) (R C m cc g Y : Nat) (cs : ByteArray) (fr tt : Nat → Int) (wr : World) : Prop where
  res : ∀ o, wr.cell? ⟨w.heap.size + 1, o, none⟩ = #[Value.int .i64 0, .int .i64 0, .string ⟨#[]⟩, .slice none 0 0, .int .i64 0][o]?
  resf : ∀ o, wr.frozen? ⟨w.heap.size + 1, o, none⟩ = false
  y : ∀ o, wr.cell? ⟨Y, o, none⟩ = #[Value.int .i64 (R : Int), .int .i64 (C : Int), .string cs, .slice (some ⟨g, 0, none⟩) m cc, .int .i64 20000][o]?
  carts : CartsIn wr g 0 m fr tt
  cf : ∀ o, wr.frozen? ⟨g, o, none⟩ = false
  below : Below w.heap.size w wr
  lt : w.heap.size + 1 < g ∧ g < Y ∧ Y < wr.heap.size

theorem MadeEnv.keep {w : World} {R C m cc g Y : Nat} {cs : ByteArray} {fr tt : Nat → Int} {wr wx : World} (h : MadeEnv w R C m cc g Y cs fr tt wr) (hb : Below (Y + 1) wr wx) : MadeEnv w R C m cc g Y cs fr tt wx := by
  obtain ⟨l1, l2, l3⟩ := h.lt
  refine ⟨fun o => (hb.cell (p := ⟨w.heap.size + 1, o, none⟩) (by show w.heap.size + 1 < _; omega)).trans (h.res o), fun o => (hb.frozen (p := ⟨w.heap.size + 1, o, none⟩) (by show w.heap.size + 1 < _; omega)).trans (h.resf o),
    fun o => (hb.cell (p := ⟨Y, o, none⟩) (by show Y < _; omega)).trans (h.y o), fun k hk => ?_, fun o => (hb.frozen (p := ⟨g, o, none⟩) (by show g < _; omega)).trans (h.cf o), h.below.trans (hb.mono (by omega)), l1, l2, by have := hb.size; omega⟩
  obtain ⟨c0, c1⟩ := h.carts k hk
  exact ⟨(hb.cell (p := ⟨g, 0 + k * 2, none⟩) (by show g < _; omega)).trans c0, (hb.cell (p := ⟨g, 0 + k * 2 + 1, none⟩) (by show g < _; omega)).trans c1⟩

def rowJ (Q : List (List Nat)) (q : List Nat) (j k : Nat) : List Nat := if k < j then rowQ (Q ++ [q]) k else rowQ Q k

theorem rowJ_at {Q : List (List Nat)} {q : List Nat} {j : Nat} : rowJ Q q j j = rowQ Q j := if_neg (Nat.lt_irrefl j)

theorem rowJ_next {Q : List (List Nat)} {q : List Nat} {j k y : Nat} (hy : y = q.getD j 0) : updF (rowJ Q q j) j (rowQ Q j ++ [y]) k = rowJ Q q (j + 1) k := by
  unfold rowJ
  by_cases e : k = j
  · subst e; rw [updF_at, if_pos (Nat.lt_succ_self k), rowQ_add, hy]
  · rw [updF_ne e]
    by_cases e2 : k < j
    · rw [if_pos e2, if_pos (by omega)]
    · rw [if_neg e2, if_neg (by omega)]

/-- One list of the plan has grown by a number and is stored in its place; where the carts are stays told. -/
theorem made_grow {w4 w8 pre w9 : World} {B gp cW g1 c1 j i x gq cq n : Nat} {h c : Nat → Nat} {P : Nat → List Nat} {q RJ : List Nat} (Z : PlanZ w8 B (.slice (some ⟨gp, 0, none⟩) i cW) i h c P) (hj : j < i) (hp : Below w8.heap.size w8 pre) (hR : P j = RJ) (hn : n = RJ.length)
    (ho : w9.ownsRow B 3 1 (.slice (some ⟨g1, 0, none⟩) (n + 1) c1) (n + 1) (ints (qi RJ) ++ [.int .i64 (x : Nat)])) (hg : pre.grownBy w9 (some (h j))) (hat : some (h j) = some g1 ∨ g1 = w8.heap.size + 1)
    (OW : OwnN w8 B (.slice (some ⟨gq, 0, none⟩) i cq) q) (hne : gp ≠ gq ∧ ∀ k, k < i → h k ≠ gq) (hB : Below B w4 w8) (hBs : B ≤ w8.heap.size) :
    ∃ h2 c2 : Nat → Nat, PlanZ (w9.setCell ⟨gp, j, none⟩ (.slice (some ⟨g1, 0, none⟩) (n + 1) c1)) B (.slice (some ⟨gp, 0, none⟩) i cW) i h2 c2 (updF P j (RJ ++ [x])) ∧ (∀ k, k < i → h2 k ≠ gq) ∧ OwnN (w9.setCell ⟨gp, j, none⟩ (.slice (some ⟨g1, 0, none⟩) (n + 1) c1)) B (.slice (some ⟨gq, 0, none⟩) i cq) q ∧ Below B w4 (w9.setCell ⟨gp, j, none⟩ (.slice (some ⟨g1, 0, none⟩) (n + 1) c1)) := by
  subst hR
  have e : (P j ++ [x]).length = n + 1 := by simp [hn]
  have ho2 : OwnN w9 B (.slice (some ⟨g1, 0, none⟩) (P j ++ [x]).length c1) (P j ++ [x]) := by
    unfold OwnN
    rw [← qi_push, e]; exact ho
  have hat2 : h j = g1 ∨ w8.heap.size ≤ g1 := hat.imp (fun e => Option.some.inj e) (fun e => by omega)
  have Z2 := Z.grow hj hp ho2 hg hat2
  rw [e] at Z2
  have hgq := (OW.lt gq rfl).2
  have hgp := Z.own.lt gp rfl
  refine ⟨_, _, Z2, fun k hk => ?_, own_keep OW fun k _ hk hv => ?_, ?_⟩
  · by_cases ek : k = j
    · subst ek; rw [updF_at]
      rcases hat2 with e2 | e2
      · rw [← e2]; exact hne.2 k hk
      · omega
    · rw [updF_ne ek]; exact hne.2 k hk
  · have e3 : gq = k := Option.some.inj hv
    subst e3
    rw [Below.heap_setCell _ _ _ _ (by show gq ≠ gp; exact fun e => hne.1 e.symm), hg.block gq (Nat.lt_of_lt_of_le hk hp.size) (fun e => hne.2 j hj (Option.some.inj e).symm)]
    exact hp.block gq hk
  · exact ((hB.trans (hp.mono hBs)).grown hg (Nat.le_trans hBs hp.size) (fun k hk => by have e3 : h j = k := Option.some.inj hk; have := (Z.lt hj).1; omega)).setCell (by show B ≤ gp; exact hgp.1) _

/-- What stands while the ends are told and the paths trimmed: of the first jc carts the end is told, the first jp paths are trimmed. -/
structure MadeEnd (w : World) (R C m cc g Y gp gv t : Nat) (cs : ByteArray) (fr tt0 : Nat → Int) (h c : Nat → Nat) (Q : List (List Nat)) (jc jp : Nat) (T : Nat → Nat) (wr : World) : Prop where
  env : MadeEnv w R C m cc g Y cs fr (fun k => if k < jc then (((Q.getD t []).getD k 0 : Nat) : Int) else tt0 k) wr
  plan : ∀ k, k < m → wr.cell? ⟨gp, k, none⟩ = some (.slice (some ⟨h k, 0, none⟩) ((if k < jp then T k else t) + 1) (c k))
  planf : ∀ o, wr.frozen? ⟨gp, o, none⟩ = false
  rows : ∀ k, k < m → ∀ s, s ≤ t → wr.cell? ⟨h k, s, none⟩ = some (natV (fun s => (rowQ Q k).getD s 0) s)
  cells : ∀ k, k < m → wr.cell? ⟨gv, k, none⟩ = some (.int .i64 ((Q.getD t []).getD k 0 : Nat))
  trims : ∀ k, k < jp → T k ≤ t ∧ Trim t (T k) (fun s => (rowQ Q k).getD s 0)
  room : ∀ k, k < m → t + 1 ≤ c k
  apart : ∀ k, k < m → h k ≠ gp ∧ Y < h k
  lie : gp ≠ gv ∧ Y < gp ∧ Y < gv

section
variable {w wr : World} {R C m cc g Y gp gv t jc jp j : Nat} {cs : ByteArray} {fr tt0 : Nat → Int} {h c : Nat → Nat} {Q : List (List Nat)} {T : Nat → Nat}
theorem cell_aside {w : World} {b o : Nat} {v : Value} {p : Addr} (h : p.block ≠ b) : (w.setCell ⟨b, o, none⟩ v).cell? p = w.cell? p :=
  World.cell?_setCell_other _ _ _ _ (fun e => h (by rw [← e]))

theorem MadeEnd.drew (e : MadeEnd w R C m cc g Y gp gv t cs fr tt0 h c Q jc jp T wr) : MadeEnd w R C m cc g Y gp gv t cs fr tt0 h c Q jc jp T wr.drew :=
  ⟨⟨e.env.res, e.env.resf, e.env.y, e.env.carts, e.env.cf, e.env.below.drew, e.env.lt⟩, e.plan, e.planf, e.rows, e.cells, e.trims, e.room, e.apart, e.lie⟩

theorem MadeEnd.later {wx : World} (e : MadeEnd w R C m cc g Y gp gv t cs fr tt0 h c Q jc jp T wr) (hb : Below wr.heap.size wr wx) (hm : 0 < m) : MadeEnd w R C m cc g Y gp gv t cs fr tt0 h c Q jc jp T wx := by
  have hg := World.block_lt_of_cell? (a := ⟨gp, 0, none⟩) wr (e.plan 0 hm)
  exact ⟨e.env.keep (hb.mono (by have := e.env.lt; omega)), fun k hk => cell_later hb (e.plan k hk), fun o => (hb.frozen (p := ⟨gp, o, none⟩) hg).trans (e.planf o), fun k hk s hs => cell_later hb (e.rows k hk s hs), fun k hk => cell_later hb (e.cells k hk), e.trims, e.room, e.apart, e.lie⟩

/-- A cart's end is told. -/
theorem MadeEnd.put (e : MadeEnd w R C m cc g Y gp gv t cs fr tt0 h c Q j jp T wr) (hj : j < m) : MadeEnd w R C m cc g Y gp gv t cs fr tt0 h c Q (j + 1) jp T (wr.setCell ⟨g, j * 2 + 1, none⟩ (.int .i64 ((Q.getD t []).getD j 0 : Nat))) := by
  obtain ⟨l1, l2, l3⟩ := e.env.lt
  obtain ⟨l4, l5, l6⟩ := e.lie
  refine ⟨⟨fun o => (cell_aside (by show w.heap.size + 1 ≠ g; omega)).trans (e.env.res o), fun o => by rw [World.frozen?_setCell]; exact e.env.resf o, fun o => (cell_aside (by show Y ≠ g; omega)).trans (e.env.y o), fun k hk => ?_, fun o => by rw [World.frozen?_setCell]; exact e.env.cf o, e.env.below.setCell (by show w.heap.size ≤ g; omega) _, l1, l2, by simpa [World.setCell] using l3⟩,
    fun k hk => (cell_aside (by show gp ≠ g; omega)).trans (e.plan k hk), fun o => by rw [World.frozen?_setCell]; exact e.planf o, fun k hk s hs => (cell_aside (by show h k ≠ g; have := (e.apart k hk).2; omega)).trans (e.rows k hk s hs), fun k hk => (cell_aside (by show gv ≠ g; omega)).trans (e.cells k hk), e.trims, e.room, e.apart, e.lie⟩
  obtain ⟨c0, c1⟩ := e.env.carts k hk
  refine ⟨?_, ?_⟩
  · rw [World.cell?_setCell_other _ _ _ _ (fun hh => by have h2 := congrArg Addr.off hh; have h2 : j * 2 + 1 = 0 + k * 2 := h2; omega)]
    exact c0
  · by_cases ek : k = j
    · subst ek
      have e2 : (0 + k * 2 + 1) = k * 2 + 1 := by omega
      rw [e2] at c1 ⊢
      rw [World.cell?_setCell_same' _ _ _ (by rw [c1]; rfl), if_pos (Nat.lt_succ_self k)]
    · rw [World.cell?_setCell_other _ _ _ _ (fun hh => by have h2 := congrArg Addr.off hh; have h2 : j * 2 + 1 = 0 + k * 2 + 1 := h2; omega), c1]
      show some (Value.int .i64 (if k < j then (((Q.getD t []).getD k 0 : Nat) : Int) else tt0 k)) = some (Value.int .i64 (if k < j + 1 then (((Q.getD t []).getD k 0 : Nat) : Int) else tt0 k))
      by_cases e3 : k < j
      · rw [if_pos e3, if_pos (by omega)]
      · rw [if_neg e3, if_neg (by omega)]

/-- A path is trimmed. -/
theorem MadeEnd.trim {T' : Nat} (e : MadeEnd w R C m cc g Y gp gv t cs fr tt0 h c Q jc j T wr) (hj : j < m) (h1 : T' ≤ t) (h2 : Trim t T' (fun s => (rowQ Q j).getD s 0)) : MadeEnd w R C m cc g Y gp gv t cs fr tt0 h c Q jc (j + 1) (updF T j T') (wr.setCell ⟨gp, j, none⟩ (.slice (some ⟨h j, 0, none⟩) (T' + 1) (c j))) := by
  obtain ⟨l1, l2, l3⟩ := e.env.lt
  obtain ⟨l4, l5, l6⟩ := e.lie
  refine ⟨⟨fun o => (cell_aside (by show w.heap.size + 1 ≠ gp; omega)).trans (e.env.res o), fun o => by rw [World.frozen?_setCell]; exact e.env.resf o, fun o => (cell_aside (by show Y ≠ gp; omega)).trans (e.env.y o), fun k hk => ?_, fun o => by rw [World.frozen?_setCell]; exact e.env.cf o, e.env.below.setCell (by show w.heap.size ≤ gp; omega) _, l1, l2, by simpa [World.setCell] using l3⟩,
    fun k hk => ?_, fun o => by rw [World.frozen?_setCell]; exact e.planf o, fun k hk s hs => (cell_aside (e.apart k hk).1).trans (e.rows k hk s hs), fun k hk => (cell_aside (by show gv ≠ gp; omega)).trans (e.cells k hk), fun k hk => ?_, e.room, e.apart, e.lie⟩
  · obtain ⟨c0, c1⟩ := e.env.carts k hk
    exact ⟨(cell_aside (by show g ≠ gp; omega)).trans c0, (cell_aside (by show g ≠ gp; omega)).trans c1⟩
  · by_cases ek : k = j
    · subst ek
      rw [World.cell?_setCell_same' _ _ _ (by rw [e.plan k hk]; rfl), if_pos (Nat.lt_succ_self k), updF_at]
    · rw [World.cell?_setCell_other _ _ _ _ (fun hh => by have h2 := congrArg Addr.off hh; have h2 : j = k := h2; omega), e.plan k hk]
      by_cases e3 : k < j
      · rw [if_pos e3, if_pos (by omega), updF_ne ek]
      · rw [if_neg e3, if_neg (by omega)]
  · by_cases ek : k = j
    · subst ek; rw [updF_at]; exact ⟨h1, h2⟩
    · rw [updF_ne ek]; exact e.trims k (by omega)

end
/-- What made tells. -/
def MadeTold (w w' : World) (v : Value) : Prop :=
  ∃ (R C m cc g gp cp : Nat) (cs : ByteArray) (fr tt : Nat → Int) (h c T : Nat → Nat) (p : Nat → Nat → Nat), v = .tuple #[.agg #[.int .i64 (R : Int), .int .i64 (C : Int), .string cs, .slice (some ⟨g, 0, none⟩) m cc, .int .i64 20000], .slice (some ⟨gp, 0, none⟩) m cp] ∧
    1 ≤ m ∧ m ≤ 4 ∧ m ≤ cc ∧ CartsIn w' g 0 m fr tt ∧ checkM R C cs m fr tt 20000 = (0, 0) ∧ cs.size ≤ 36 ∧ (∀ i, i < m → w'.cell? ⟨gp, i, none⟩ = some (.slice (some ⟨h i, 0, none⟩) (T i + 1) (c i)) ∧ ∀ s, s ≤ T i → w'.cell? ⟨h i, s, none⟩ = some (natV (p i) s)) ∧ GoodK C cs m fr tt T p ∧ Below w.heap.size w w'

set_option maxRecDepth 100000 in
set_option maxHeartbeats 8000000 in
theorem made_any (rr rc rb : Int) (s : ByteArray) (a : Option Addr) (n cap : Nat) (x : Nat → Int) (ap : Option Addr) (ns cps : Nat) (S : Nat → ByteArray) (w : World) (hs : s.size ≤ maxLen) (hn : n ≤ 17592186044415)
    (h0 : (Lit.int .i64 rr).wf = true) (h1 : (Lit.int .i64 rc).wf = true) (h2 : (Lit.int .i64 rb).wf = true)
    (hx : (∀ i, i < n → (Lit.int .i64 (x i)).wf = true) ∧ (0 < n → ∃ b off, a = some ⟨b, off, none⟩ ∧ ∀ i, i < n → w.cell? ⟨b, off + i, none⟩ = some (.int .i64 (x i))))
    (hss : ∀ i, (S i).size ≤ maxLen) (hst : StrsIn w ap ns S) :
    Calls Tryd.prog 10 #[.agg #[.int .i64 rr, .int .i64 rc, .string s, .slice a n cap, .int .i64 rb], .slice ap ns cps] w fun e w' => ∃ v, e = .returned v ∧ MadeTold w w' v := by
  have HST := Hid.mk hst
  have HSS := Hid.mk hss
  have HSH : Hid (∀ u : World, Below w.heap.size w u → Calls Tryd.prog 19 #[.agg #[.int .i64 rr, .int .i64 rc, .string s, .slice a n cap, .int .i64 rb]] u fun e w' =>
      ∃ (R C U m cc g : Nat) (cs : ByteArray) (fr tt : Nat → Int), e = .returned (.agg #[.int .i64 (R : Int), .int .i64 (C : Int), .string cs, .slice (some ⟨g, 0, none⟩) m cc, .int .i64 (U : Int)]) ∧
        1 ≤ m ∧ m ≤ 4 ∧ m ≤ cc ∧ CartsIn w' g 0 m fr tt ∧ w'.ownsRow u.heap.size 49 2 (.slice (some ⟨g, 0, none⟩) m cc) m (cartCells fr tt m) ∧ checkM R C cs m fr tt U = (0, 0) ∧ freeB cs 0 = true ∧ cs.size ≤ 36 ∧ Below u.heap.size u w') := fun u hu => by
    refine shapedO_any rr rc rb s a n cap x u hs hn h0 h1 h2 ⟨hx.1, fun hp => ?_⟩
    obtain ⟨b, off, e, hc⟩ := hx.2 hp
    exact ⟨b, off, e, fun i hi => cell_later hu (hc i hi)⟩
  obtain ⟨i0, hi0, hi1, hi2, hi3⟩ := info_parts Tryd.infoInt2
  clear hst hss hx
  go_enter Tryd.func10, Tryd.ntmps10
  go_wp2_with fail
  obtain ⟨w1, hw1⟩ : ∃ q, q = (w.alloc (Obj.cells #[Value.int IntKind.i64 rr, Value.int IntKind.i64 rc, Value.string s, .slice a n cap, Value.int IntKind.i64 rb] 24)).alloc (Obj.cells #[Value.int IntKind.i64 0, Value.int IntKind.i64 0, Value.string ⟨#[]⟩, Value.slice none 0 0, Value.int IntKind.i64 0] 28) := ⟨_, rfl⟩
  have B1 : Hid (Below w.heap.size w w1) := by unfold Hid; rw [hw1]; exact ((Below.refl _ w).alloc (Nat.le_refl _) _).alloc (by simp) _
  have hz1 : w1.heap.size = w.heap.size + 2 := by rw [hw1]; simp
  have R1 : Hid (∀ o, w1.cell? ⟨w.heap.size + 1, o, none⟩ = #[Value.int .i64 0, .int .i64 0, .string ⟨#[]⟩, .slice none 0 0, .int .i64 0][o]?) := by
    unfold Hid; intro o; rw [hw1]; go_simp
  have F1 : Hid (∀ o, w1.frozen? ⟨w.heap.size + 1, o, none⟩ = false) := by
    unfold Hid; intro o; rw [hw1]; go_simp
  rw [← hw1]
  clear hw1
  refine (HSH.out _ B1.out).mono ?_
  rintro e w2 ⟨R, C, U, m, cc, g, cs, fr, tt0, rfl, hm1, hm4, hmc, hcs, hoc, hck, hf0, hs36, hb2⟩
  have B2 := Hid.mk hb2
  have HCS := Hid.mk hcs
  have OC := Hid.mk hoc
  have CK : Hid ((checkM R C cs m fr tt0 U).1 = 0) := by unfold Hid; rw [hck]
  have hz2 := hb2.size
  have hgl := hoc.lt g rfl
  obtain ⟨s1, s2, s3⟩ := checkM_good CK.out
  obtain ⟨r1, r2⟩ := side_bd s1
  obtain ⟨r3, r4⟩ := side_bd s2
  have POS : Hid (PosG cs m (cellsOf fr m)) := (cells_pos CK.out).1
  have HFR : Hid (∀ i, i < m → freeB cs (fr i) = true) := fun i hi => ((carts_free CK.out).2 i hi).1
  clear hcs hoc hck hb2 s1 s2 s3 HSH
  go_upto_region 2 with fail
  obtain ⟨w3, hw3⟩ : ∃ q, q = w2.alloc (Obj.cells #[Value.int .i64 (R : Int), .int .i64 (C : Int), .string cs, .slice (some ⟨g, 0, none⟩) m cc, .int .i64 (U : Int)] 28) := ⟨_, rfl⟩
  have B3 : Hid (Below w2.heap.size w2 w3) := by unfold Hid; rw [hw3]; exact (Below.refl _ w2).alloc (Nat.le_refl _) _
  have Y3 : Hid (∀ o, w3.cell? ⟨w2.heap.size, o, none⟩ = #[Value.int .i64 (R : Int), .int .i64 (C : Int), .string cs, .slice (some ⟨g, 0, none⟩) m cc, .int .i64 (U : Int)][o]?) := by
    unfold Hid; intro o; rw [hw3]; go_simp
  have f3 : ∀ o, w3.frozen? ⟨w2.heap.size, o, none⟩ = false := by
    intro o; rw [hw3]; go_simp
  have hz3 : w3.heap.size = w2.heap.size + 1 := by rw [hw3]; simp
  rw [← hw3]
  clear hw3
  have y34 := Y3.out 4
  have f34 := f3 4
  simp only [List.getElem?_toArray, List.getElem?_cons_zero, List.getElem?_cons_succ] at y34
  go_upto_region 6 with fail
  obtain ⟨w4, hw4⟩ : ∃ q, q = w3.setCell ⟨w2.heap.size, 4, none⟩ (.int .i64 20000) := ⟨_, rfl⟩
  have E4 : Hid (MadeEnv w R C m cc g w2.heap.size cs fr tt0 w4) := by
    have hb : Below w2.heap.size w3 w4 := by rw [hw4]; exact (Below.refl w2.heap.size w3).setCell (p := ⟨w2.heap.size, 4, none⟩) (Nat.le_refl _) _
    have hb24 : Below w2.heap.size w2 w4 := B3.out.trans hb
    refine ⟨fun o => (hb24.cell (p := ⟨w.heap.size + 1, o, none⟩) (by show w.heap.size + 1 < _; omega)).trans ((B2.out.cell (p := ⟨w.heap.size + 1, o, none⟩) (by show w.heap.size + 1 < _; omega)).trans (R1.out o)),
      fun o => (hb24.frozen (p := ⟨w.heap.size + 1, o, none⟩) (by show w.heap.size + 1 < _; omega)).trans ((B2.out.frozen (p := ⟨w.heap.size + 1, o, none⟩) (by show w.heap.size + 1 < _; omega)).trans (F1.out o)),
      by rw [hw4]; exact box_set Y3.out (by simp) rfl, HCS.out.below hb24, fun o => (hb24.frozen (p := ⟨g, o, none⟩) (by show g < _; omega)).trans (own_frozen2 OC.out o), B1.out.trans ((B2.out.mono (by omega)).trans (hb24.mono (by omega))), by omega, by omega, by rw [hw4]; simp [World.setCell]; omega⟩
  have hz4 : w4.heap.size = w2.heap.size + 1 := by rw [hw4]; simp [World.setCell]; exact hz3
  rw [← hw4]
  clear hw4 f3 y34 f34
  have POS4 : Hid (∀ j, j < m → ∃ f : Nat, fr j = (f : Int) ∧ (fr j).toNat = f) := fun j hj => by
    obtain ⟨f, e, _⟩ := free_nat (HFR.out j hj)
    exact ⟨f, e, by rw [e]; rfl⟩
  go_loopw [7, 8, 9] (fun v7 v8 v9 wr => ∃ (i : Nat) (V W : Value) (h c : Nat → Nat), V = v7 ∧ W = v8 ∧ v9 = .int .i64 i ∧ i ≤ m ∧ OwnN wr w4.heap.size V (cellsOf fr i) ∧ PlanZ wr w4.heap.size W i h c (fun j => [(fr j).toNat]) ∧ (∀ b, V.ownBlock = some b → W.ownBlock ≠ some b ∧ ∀ j, j < i → h j ≠ b) ∧ Below w4.heap.size w4 wr) (fun _ _ v9 _ => m - (intOf v9).toNat)
  case atStart => exact ⟨0, _, _, fun _ => 0, fun _ => 0, rfl, rfl, rfl, Nat.zero_le _, OwnN.nil _ _, (PlanZ.nil _ _).congr (fun t h => absurd h (Nat.not_lt_zero t)), fun b hb => (by cases hb), Below.refl _ _⟩
  case round =>
    obtain ⟨w5, rfl⟩ : ∃ q, q = wr := ⟨_, rfl⟩
    obtain ⟨i, V, W, h, c, rfl, rfl, rfl, hi, hown, hpz, hdis, hb5⟩ := hrel
    have OWN := Hid.mk hown
    have PZ := Hid.mk hpz
    have DIS := Hid.mk hdis
    have B5 := Hid.mk hb5
    have hz5 := hb5.size
    have E5 := Hid.mk (E4.out.keep (hb5.mono (by omega)))
    have y53 := E5.out.y 3
    simp only [List.getElem?_toArray, List.getElem?_cons_zero, List.getElem?_cons_succ] at y53
    clear hown hpz hdis hb5
    by_cases hlt : i < m
    · have hiI : (i : Int) < (m : Int) := by omega
      obtain ⟨c0, _⟩ := E5.out.carts i hlt
      simp only [Nat.zero_add] at c0
      obtain ⟨f, hf, hf2⟩ := POS4.out i hlt
      rw [hf] at c0
      have HF2 := Hid.mk hf2
      have LN : Hid ((cellsOf fr i).length ≤ 100000000) := by unfold Hid; rw [cellsOf_len]; omega
      clear hf2 hf
      go_upto_region 9 with (at_builtin; go_must (refine wpList_pushN rfl _ _ rfl w4.heap.size V (cellsOf fr i) f rfl OWN.out (by exact hz5) _ rfl LN.out ?_; intro g6 c6 w6 ho6 hon6 hat6))
      have hV : ∀ b, V.ownBlock = some b → w4.heap.size ≤ b ∧ b < w5.heap.size := fun b hb => OWN.out.lt b hb
      have hz6 := hon6.size
      have PZ6 : Hid (PlanZ w6 w4.heap.size W i h c (fun j => [(fr j).toNat])) := PZ.out.keep fun k h1 h2 h3 => hon6.block k h2 fun hh => by
        obtain ⟨d1, d2⟩ := DIS.out k hh
        rcases h3 with e | ⟨t, ht, e⟩
        · exact d1 e
        · exact d2 t ht e
      have B46 : Hid (Below w4.heap.size w4 w6) := below_only B5.out hon6 hz5 (fun b hb => (hV b hb).1)
      have E6 := Hid.mk (E4.out.keep (B46.out.mono (by omega)))
      have O6 := Hid.mk ho6
      have AT6 : Hid (∀ k, k < w5.heap.size → g6 = k → V.ownBlock = some k) := fun k hk e => by
        subst e
        rcases hat6 with h | h
        · exact h
        · omega
      have y63 := E6.out.y 3
      simp only [List.getElem?_toArray, List.getElem?_cons_zero, List.getElem?_cons_succ] at y63
      obtain ⟨c1, _⟩ := E6.out.carts i hlt
      obtain ⟨f', hf', hf2'⟩ := POS4.out i hlt
      have ef : f' = f := by have := HF2.out; omega
      subst ef
      rw [hf'] at c1
      simp only [Nat.zero_add] at c1
      have hz7 : (w6.alloc (Obj.cells #[Value.int .i64 (f' : Int)] 3)).heap.size = w6.heap.size + 1 := by simp
      have OW7 : Hid ((w6.alloc (Obj.cells #[Value.int .i64 (f' : Int)] 3)).ownsRow w4.heap.size 22 1 W i (rowsV h c (fun j => [(fr j).toNat]) i)) := (PZ6.out.below ((Below.refl _ _).alloc (Nat.le_refl _) _)).own
      have hB7 : w4.heap.size ≤ (w6.alloc (Obj.cells #[Value.int .i64 (f' : Int)] 3)).heap.size := by omega
      have OWR : Hid (OwnN (w6.alloc (Obj.cells #[Value.int .i64 (f' : Int)] 3)) w4.heap.size (.slice (some ⟨w6.heap.size, 0, none⟩) [f'].length 1) [f']) := own_le (own_built w6 3 (.int .i64 (f' : Int)) w6.heap.size rfl) (by omega)
      have hi8 : i ≤ 100000000 := by omega
      clear y53 c0 ho6 hf' hf2'
      go_wp2_with (at_builtin; go_must (refine wpList_pushV rfl _ _ rfl w4.heap.size W i (rowsV h c (fun j => [(fr j).toNat]) i) (some ⟨w6.heap.size, 0, none⟩) 1 1 rfl OW7.out (by exact hB7) _ (by rw [hz7]; exact rfl) hi8 ?_; intro g8 c8 w8 ho8 hon8 hat8))
      go_roundw
      case rel =>
        have Z8 := PZ6.out.push ((Below.refl _ _).alloc (Nat.le_refl _) _) OWR.out (Nat.le_refl _) ho8 hon8 hat8
        have hW : ∀ b, W.ownBlock = some b → w4.heap.size ≤ b ∧ b < w6.heap.size := fun b hb => PZ6.out.own.lt b hb
        have h6l : g6 < w6.heap.size := (O6.out.lt g6 rfl).2
        have B48 : Below w4.heap.size w4 w8 := below_only (B46.out.alloc (by omega) _) hon8 hB7 (fun b hb => (hW b hb).1)
        refine ⟨i + 1, _, _, _, _, rfl, rfl, by go_num, by omega, ?_, Z8.congr (fun t ht => ?_), fun b hb => ?_, B48⟩
        · have e1 : cellsOf fr (i + 1) = cellsOf fr i ++ [f'] := by rw [cellsOf_next, HF2.out]
          have h1 : OwnN w8 w4.heap.size (.slice (some ⟨g6, 0, none⟩) (cellsOf fr i ++ [f']).length c6) (cellsOf fr i ++ [f']) := own_keep (O6.out.below ((Below.refl _ _).alloc (Nat.le_refl _) (Obj.cells #[Value.int .i64 (f' : Int)] 3))) fun k _ hk hv => hon8.block k hk fun hh => by
            have e2 : g6 = k := Option.some.inj hv
            subst e2
            rcases Nat.lt_or_ge g6 w5.heap.size with e3 | e3
            · exact (DIS.out g6 (AT6.out g6 e3 rfl)).1 hh
            · have := PZ.out.own.lt g6 hh; omega
          rw [e1]
          rw [List.length_append] at h1
          exact h1
        · by_cases e : t = i
          · subst e; rw [updF_at, HF2.out]
          · rw [updF_ne e]
        · have e2 : g6 = b := Option.some.inj hb
          subst e2
          refine ⟨fun hh => ?_, fun j hj hh => ?_⟩
          · have e3 : g8 = g6 := Option.some.inj hh
            rcases hat8 with h | h
            · rcases Nat.lt_or_ge g6 w5.heap.size with e4 | e4
              · exact (DIS.out g6 (AT6.out g6 e4 rfl)).1 (by rw [h, e3])
              · have := PZ.out.own.lt g8 h; omega
            · omega
          · by_cases e : j = i
            · subst e; rw [updF_at] at hh; omega
            · rw [updF_ne e] at hh
              rcases Nat.lt_or_ge g6 w5.heap.size with e4 | e4
              · exact (DIS.out g6 (AT6.out g6 e4 rfl)).2 j (by omega) hh
              · have := (PZ.out.lt (show j < i by omega)).2; omega
      case measure => simp [intOf]; omega
    · have hd : i = m := by omega
      subst hd
      have hkI : ¬ (i : Int) < (i : Int) := by omega
      obtain ⟨aV, cV, hV, haV, _⟩ := OWN.out.form
      obtain ⟨ga, rfl⟩ := haV (by rw [cellsOf_len]; omega)
      obtain ⟨aW, cW, hW, haW, _⟩ := own_form PZ.out.own
      obtain ⟨gp, rfl⟩ := haW (by omega)
      rw [cellsOf_len] at hV
      subst hV hW
      have Z5 : Hid (PlanZ w5 w4.heap.size (.slice (some ⟨gp, 0, none⟩) i cW) i h c (fun j => rowQ [cellsOf fr i] j)) := PZ.out.congr fun t ht => by
        show [(fr t).toNat] = [(cellsOf fr i).getD t 0]
        rw [cellsOf_at ht]
      have GN5 : Hid (Gone C cs i (cellsOf fr i) [cellsOf fr i]) := Gone.one POS.out
      have OW5 : Hid (OwnN w5 w4.heap.size (.slice (some ⟨ga, 0, none⟩) i cV) (cellsOf fr i)) := OWN.out
      have DS5 : Hid (∀ b, ga = b → gp ≠ b ∧ ∀ j, j < i → h j ≠ b) := fun b e => by
        obtain ⟨d1, d2⟩ := DIS.out b (by rw [← e]; rfl)
        exact ⟨fun e2 => d1 (by rw [← e2]; rfl), d2⟩
      clear OWN PZ DIS
      go_upto_region 12 with fail
      go_loopw [10, 11] (fun v10 v11 wr => ∃ N j : Nat, v10 = .int .i64 N ∧ v11 = .int .i64 j ∧ j ≤ i ∧ N ≤ maxLen ∧ w5 = wr) (fun _ v11 _ => i - (intOf v11).toNat)
      case atStart => exact ⟨0, 0, rfl, rfl, Nat.zero_le _, Nat.zero_le _, rfl⟩
      case round =>
        obtain ⟨N, j, rfl, rfl, hj, hN, rfl⟩ := hrel
        go_upto_region 12 with fail
        go_cut [53] (fun v53 wx => ∃ tb : Bool, v53 = .bool tb ∧ wx = w5 ∧ (tb = true → j < ns ∧ j < i))
        case first =>
          by_cases hl2 : j < ns
          · have hl2I : (j : Int) < (ns : Int) := by omega
            by_cases hl3 : j < i
            · have hl3I : (j : Int) < (i : Int) := by omega
              go_wp2_with fail
              go_meet
              case rel => exact ⟨_, rfl, rfl, fun _ => ⟨hl2, hl3⟩⟩
            · have hl3I : ¬ (j : Int) < (i : Int) := by omega
              go_wp2_with fail
              go_meet
              case rel => exact ⟨_, rfl, rfl, fun h => by cases h⟩
          · have hl2I : ¬ (j : Int) < (ns : Int) := by omega
            go_wp2_with fail
            go_meet
            case rel => exact ⟨_, rfl, rfl, fun h => by cases h⟩
        case rest =>
          obtain ⟨tb, rfl, hwc, htb⟩ := hcut
          have hwc := hwc.symm
          subst hwc
          cases tb
          · clear htb
            go_wp2_with fail
            go_loopw [7, 12] (fun v7 v12 wr => ∃ (t : Nat) (Q : List (List Nat)) (V : Value) (h c : Nat → Nat), V = v7 ∧ v12 = .int .i64 t ∧ Q.length = t + 1 ∧ t ≤ 40 ∧ Gone C cs i (cellsOf fr i) Q ∧ OwnN wr w4.heap.size V (Q.getD t []) ∧ PlanZ wr w4.heap.size (.slice (some ⟨gp, 0, none⟩) i cW) i h c (rowQ Q) ∧ (∀ b, V.ownBlock = some b → gp ≠ b ∧ ∀ j, j < i → h j ≠ b) ∧ Below w4.heap.size w4 wr) (fun _ v12 _ => 41 - (intOf v12).toNat)
            case atStart => exact ⟨0, [cellsOf fr i], _, h, c, rfl, rfl, rfl, Nat.zero_le _, GN5.out, OW5.out, Z5.out, fun b hb => DS5.out b (Option.some.inj hb), B5.out⟩
            case round =>
              obtain ⟨w6, rfl⟩ : ∃ q, q = wr := ⟨_, rfl⟩
              obtain ⟨t, Q, V, h, c, rfl, rfl, hQ, ht, hgn, hown, hpz, hdis, hb6⟩ := hrel
              have GN := Hid.mk hgn
              have OWN := Hid.mk hown
              have PZ := Hid.mk hpz
              have DIS := Hid.mk hdis
              have B6 := Hid.mk hb6
              have HQ := Hid.mk hQ
              have hz6 := hb6.size
              have E6 := Hid.mk (E4.out.keep (hb6.mono (by omega)))
              have hql : (Q.getD t []).length = i := (hgn.good t (by omega)).1.1
              clear hgn hown hpz hdis hb6 hQ E5 OW5 Z5 GN5 DS5 B5
              go_upto_region 17 with fail
              go_cut [74] (fun v74 wx => ∃ tb : Bool, v74 = .bool tb ∧ wx = w6 ∧ (tb = true → t < 40))
              case first =>
                by_cases hl2 : t < N
                · have hl2I : (t : Int) < (N : Int) := by omega
                  by_cases hl3 : t < 40
                  · have hl3I : (t : Int) < 40 := by omega
                    go_wp2_with fail
                    go_meet
                    case rel => exact ⟨_, rfl, rfl, fun _ => hl3⟩
                  · have hl3I : ¬ (t : Int) < 40 := by omega
                    go_wp2_with fail
                    go_meet
                    case rel => exact ⟨_, rfl, rfl, fun h => by cases h⟩
                · have hl2I : ¬ (t : Int) < (N : Int) := by omega
                  go_wp2_with fail
                  go_meet
                  case rel => exact ⟨_, rfl, rfl, fun h => by cases h⟩
              case rest =>
                obtain ⟨tb, rfl, hwc, htb⟩ := hcut
                have hwc := hwc.symm
                subst hwc
                cases tb
                · clear htb
                  obtain ⟨aV2, cV2, hV2, haV2, _⟩ := OWN.out.form
                  obtain ⟨gv, rfl⟩ := haV2 (by omega)
                  rw [hql] at hV2
                  subst hV2
                  have hB4 : w4.heap.size = w2.heap.size + 1 := hz4
                  have END : Hid (MadeEnd w R C i cc g w2.heap.size gp gv t cs fr tt0 h c Q 0 0 (fun _ => 0) w6) := by
                    have hO : OwnN w6 w4.heap.size (.slice (some ⟨gv, 0, none⟩) i cV2) (Q.getD t []) := OWN.out
                    have hgp := PZ.out.own.lt gp rfl
                    have hgv := hO.lt gv rfl
                    refine ⟨⟨E6.out.res, E6.out.resf, E6.out.y, E6.out.carts, E6.out.cf, E6.out.below, E6.out.lt⟩, fun k hk => ?_, fun o => own_frozen PZ.out.own o, fun k hk s hs => ?_, fun k hk => hO.cell (by omega), fun k hk => absurd hk (Nat.not_lt_zero k), fun k hk => ?_, fun k hk => ⟨fun e => PZ.out.ne k hk (by rw [e]; rfl), by have := (PZ.out.lt hk).1; omega⟩, (DIS.out gv rfl).1, by omega, by omega⟩
                    · rw [PZ.out.cell hk, rowQ_len, HQ.out, if_neg (Nat.not_lt_zero k)]
                    · exact (PZ.out.row k hk).cell (by rw [rowQ_len, HQ.out]; omega)
                    · have h1 := own_room (PZ.out.row k hk)
                      rw [rowQ_len, HQ.out] at h1
                      exact h1
                  clear OWN PZ DIS E6 haV2 B6
                  go_wp2_with fail
                  go_loopw [14] (fun v14 wr => ∃ (j : Nat) (T : Nat → Nat), v14 = .int .i64 j ∧ j ≤ i ∧ MadeEnd w R C i cc g w2.heap.size gp gv t cs fr tt0 h c Q j j T wr) (fun v14 _ => i - (intOf v14).toNat)
                  case atStart => exact ⟨0, _, rfl, Nat.zero_le _, END.out⟩
                  case round =>
                    obtain ⟨w7, rfl⟩ : ∃ q, q = wr := ⟨_, rfl⟩
                    obtain ⟨j, T, rfl, hj, he7⟩ := hrel
                    have E7 := Hid.mk he7
                    clear he7 END
                    by_cases hltj : j < i
                    · have hjI : (j : Int) < (i : Int) := by omega
                      have y7 := E7.out.env.y 3
                      simp only [List.getElem?_toArray, List.getElem?_cons_zero, List.getElem?_cons_succ] at y7
                      have a7 := E7.out.cells j hltj
                      obtain ⟨_, c7⟩ := E7.out.env.carts j hltj
                      simp only [Nat.zero_add] at c7
                      have f7 := E7.out.env.cf (j * 2 + 1)
                      obtain ⟨y, hy⟩ : ∃ y, y = (Q.getD t []).getD j 0 := ⟨_, rfl⟩
                      rw [← hy] at a7
                      have HY := Hid.mk hy
                      clear hy
                      go_upto_region 27 with fail
                      go_cut [] (fun wx => MadeEnd w R C i cc g w2.heap.size gp gv t cs fr tt0 h c Q (j + 1) j T wx)
                      case first =>
                        go_region
                        all_goals (try go_wp2_with fail)
                        all_goals go_meet
                        all_goals (case rel => first | exact (by rw [HY.out]; exact E7.out.put hltj) | exact (by rw [HY.out]; exact (E7.out.put hltj).drew))
                      case rest =>
                        obtain ⟨w8, rfl⟩ : ∃ q, q = wc := ⟨_, rfl⟩
                        have E8 := Hid.mk hcut
                        clear hcut y7 a7 c7 f7
                        have p8 := E8.out.plan j hltj
                        simp only [Nat.lt_irrefl, ↓reduceIte] at p8
                        go_wp2_with fail
                        refine (trimS_any (h j) t (c j) (fun s => (rowQ Q j).getD s 0) w8 (by omega) (E8.out.room j hltj) (E8.out.rows j hltj)).mono ?_
                        rintro e w9 ⟨T', hT', htr, rfl, hb9⟩
                        have E9 := Hid.mk (E8.out.later hb9 (by omega))
                        have TR := Hid.mk htr
                        clear htr hb9 p8
                        have p9 := E9.out.plan j hltj
                        simp only [Nat.lt_irrefl, ↓reduceIte] at p9
                        have f9 := E9.out.planf j
                        go_wp2_with fail
                        go_roundw
                        case rel => exact ⟨j + 1, updF T j T', by go_num, by omega, E9.out.trim hltj hT' TR.out⟩
                        case measure => simp [intOf]; omega
                    · have hd : j = i := by omega
                      subst hd
                      have hjI : ¬ (j : Int) < (j : Int) := by omega
                      have q0 := E7.out.env.y 0
                      have q1 := E7.out.env.y 1
                      have q2 := E7.out.env.y 2
                      have q3 := E7.out.env.y 3
                      have q4 := E7.out.env.y 4
                      have z1 := E7.out.env.res
                      have z2 := E7.out.env.resf
                      simp only [List.getElem?_toArray, List.getElem?_cons_zero, List.getElem?_cons_succ] at q0 q1 q2 q3 q4
                      go_wp2_with fail
                      refine bodyPost_ret (v := .tuple #[.agg #[.int .i64 (R : Int), .int .i64 (C : Int), .string cs, .slice (some ⟨g, 0, none⟩) j cc, .int .i64 20000], .slice (some ⟨gp, 0, none⟩) j cW]) (by simp [results, Tryd.results10]; go_simp) rfl ?_
                      obtain ⟨l1, l2, l3⟩ := E7.out.env.lt
                      obtain ⟨l4, l5, l6⟩ := E7.out.lie
                      have hlast : Q.length - 1 = t := by rw [HQ.out]; rfl
                      have hpos := GN.out.good t (by rw [HQ.out]; omega)
                      refine ⟨_, rfl, R, C, j, cc, g, gp, cW, cs, fr, fun k => ((Q.getD t []).getD k 0 : Nat), h, c, T, fun k s => (rowQ Q k).getD s 0, rfl, hm1, hm4, hmc, fun k hk => ?_, check_tos CK.out (fun k hk => (hpos.1.2 k hk).2) (fun k1 k2 e12 hk2 e => hpos.2 k1 k2 (by omega) hk2 (by omega) (by have e : (((Q.getD t []).getD k1 0 : Nat) : Int) = ((Q.getD t []).getD k2 0 : Nat) := e; omega)) (by omega) (by omega), hs36, fun k hk => ⟨?_, fun s hs => ?_⟩, gone_good GN.out (by rw [HQ.out]; omega) HFR.out (fun k hk => by rw [hlast]) (fun k hk => by rw [hlast]; exact E7.out.trims k hk), ?_⟩
                      · obtain ⟨c0, c1⟩ := E7.out.env.carts k hk
                        have c1 := c1.trans (congrArg (fun z => some (Value.int .i64 z)) (if_pos hk))
                        refine ⟨?_, ?_⟩
                        · iterate 5 rw [cell_aside (by show g ≠ w.heap.size + 1; omega)]
                          exact c0
                        · iterate 5 rw [cell_aside (by show g ≠ w.heap.size + 1; omega)]
                          exact c1
                      · iterate 5 rw [cell_aside (by show gp ≠ w.heap.size + 1; omega)]
                        rw [E7.out.plan k hk, if_pos hk]
                      · have hle := (E7.out.trims k hk).1
                        have hh := (E7.out.apart k hk).2
                        iterate 5 rw [cell_aside (by show h k ≠ w.heap.size + 1; omega)]
                        exact E7.out.rows k hk s (by omega)
                      · iterate 5 refine Below.setCell ?_ (by show w.heap.size ≤ w.heap.size + 1; omega) _
                        exact E7.out.env.below
                · have ht40 := htb rfl
                  clear htb
                  have q0 := E6.out.y 0
                  have q1 := E6.out.y 1
                  have q2 := E6.out.y 2
                  have q3 := E6.out.y 3
                  have q4 := E6.out.y 4
                  simp only [List.getElem?_toArray, List.getElem?_cons_zero, List.getElem?_cons_succ] at q0 q1 q2 q3 q4
                  go_wp2_with fail
                  refine (moved_any R C 20000 cs (some ⟨g, 0, none⟩) i cc i t (Q.getD t []) V ap ns cps S w6 hs36 r3 r4 hm4 (by omega) (GN.out.good t (by have := HQ.out; omega)) (ownN_row OWN.out) (HST.out.below E6.out.below)).mono ?_
                  rintro e w7 ⟨vq, q, rfl, hmv, ho7, hb7⟩
                  have GN7 : Hid (Gone C cs i (cellsOf fr i) (Q ++ [q])) := GN.out.add (by rw [HQ.out, Nat.add_sub_cancel]; exact hmv)
                  have hql7 : q.length = i := hmv.len
                  have hz7 := hb7.size
                  obtain ⟨aq, cq, rfl, haq, _⟩ := ho7.form
                  obtain ⟨gq, rfl⟩ := haq (by omega)
                  have hgq := ho7.lt gq rfl
                  have PZ7 : Hid (PlanZ w7 w4.heap.size (.slice (some ⟨gp, 0, none⟩) i cW) i h c (rowQ Q)) := PZ.out.below hb7
                  have O7 : Hid (OwnN w7 w4.heap.size (.slice (some ⟨gq, 0, none⟩) i cq) q) := by
                    have h1 := ho7.le hz6
                    rw [hql7] at h1
                    exact h1
                  have NE7 : Hid (gp ≠ gq ∧ ∀ k, k < i → h k ≠ gq) := ⟨by have := PZ.out.own.lt gp rfl; omega, fun k hk => by have := PZ.out.lt hk; omega⟩
                  have B7 : Hid (Below w4.heap.size w4 w7) := B6.out.trans (hb7.mono hz6)
                  rw [hql7]
                  clear q0 q1 q2 q3 q4 hmv ho7 hb7 PZ OWN DIS haq
                  go_wp2_with fail
                  go_loopw [13] (fun v13 wr => ∃ (j : Nat) (h c : Nat → Nat), v13 = .int .i64 j ∧ j ≤ i ∧ PlanZ wr w4.heap.size (.slice (some ⟨gp, 0, none⟩) i cW) i h c (rowJ Q q j) ∧ (∀ k, k < i → h k ≠ gq) ∧ OwnN wr w4.heap.size (.slice (some ⟨gq, 0, none⟩) i cq) q ∧ Below w4.heap.size w4 wr) (fun v13 _ => i - (intOf v13).toNat)
                  case atStart => exact ⟨0, h, c, rfl, Nat.zero_le _, PZ7.out.congr (fun k _ => (if_neg (Nat.not_lt_zero k)).symm), NE7.out.2, O7.out, B7.out⟩
                  case round =>
                    obtain ⟨w8, rfl⟩ : ∃ q, q = wr := ⟨_, rfl⟩
                    obtain ⟨j, h, c, rfl, hj, hpz, hne, ho8, hb8⟩ := hrel
                    have PZ8 := Hid.mk hpz
                    have NE8 := Hid.mk hne
                    have O8 := Hid.mk ho8
                    have B8 := Hid.mk hb8
                    have hz8 := hb8.size
                    clear hpz hne ho8 hb8 PZ7 O7 B7
                    by_cases hltj : j < i
                    · have hjI : (j : Int) < (i : Int) := by omega
                      have hlen : (rowQ Q j).length = t + 1 := by rw [rowQ_len]; exact HQ.out
                      have d8 : w8.cell? ⟨gp, j, none⟩ = some (.slice (some ⟨h j, 0, none⟩) (t + 1) (c j)) := by
                        have h1 := PZ8.out.cell hltj
                        rw [rowJ_at, hlen] at h1
                        exact h1
                      have ROWI : Hid (w8.ownsRow w4.heap.size 3 1 (.slice (some ⟨h j, 0, none⟩) (t + 1) (c j)) (t + 1) (ints (qi (rowQ Q j)))) := by
                        have h1 := PZ8.out.row j hltj
                        rw [rowJ_at] at h1
                        unfold OwnN at h1
                        rw [hlen] at h1
                        exact h1
                      have a8 := O8.out.cell (i := j) (by omega)
                      obtain ⟨y, hy⟩ : ∃ y, y = q.getD j 0 := ⟨_, rfl⟩
                      rw [← hy] at a8
                      have HY := Hid.mk hy
                      have f8 : w8.frozen? ⟨gp, j, none⟩ = false := own_frozen PZ8.out.own j
                      have D8 : ∀ k, Value.ownBlock (.slice (some ⟨h j, 0, none⟩) (t + 1) (c j)) = some k → gp ≠ k := fun k hk e => PZ8.out.ne j hltj (by have e2 : h j = k := Option.some.inj hk; rw [e2, ← e]; rfl)
                      have n8 := World.new_ne w8 _ d8
                      have n9 := World.new_ne w8 _ a8
                      have l8 : gp < w8.heap.size := World.block_lt_of_cell? _ _ d8
                      clear hy
                      go_upto_region 23 with fail
                      go_region_law ((refine step_append_lies _ (by rfl) _ _ 22 (by rfl) w4.heap.size 3 _ _ 1 8 Tryd.underlying22 hi0 hi1 hi2 hi3 rfl (by omega) (.slice (some ⟨h j, 0, none⟩) (t + 1) (c j)) (t + 1) (ints (qi (rowQ Q j))) (by rfl) (by exact own_keep ROWI.out (fun g _ hg _ => Below.heap_alloc _ _ _ hg)) _ 1 _ [.int .i64 (y : Nat)] (by rfl) (by rfl) (by exact cell_one_newL _ _ _) (one_oneCell (y : Nat)) (by omega) (by unfold maxLen; omega) (by omega) (by simp; omega) (w8.heap.size + 1) (by simp) ?_; intro g1 c1 w9 ho9 hgrow hat9 hl9; have hpre := grown_pre hgrow (by first | exact ((Below.refl _ w8).alloc (Nat.le_refl _) _).drew | exact (Below.refl _ w8).alloc (Nat.le_refl _) _); have e98 := grow_cell d8 hpre.1 hgrow D8; have hf9 := grow_frozen f8 l8 hpre.1 hgrow D8))
                      all_goals (try go_wp2_with fail)
                      all_goals go_roundw
                      repeat (case rel =>
                        obtain ⟨h2, c2, k1, k2, k3, k4⟩ := made_grow PZ8.out hltj hpre.1 rowJ_at hlen.symm ho9 hgrow hat9 O8.out ⟨NE7.out.1, NE8.out⟩ B8.out hz8
                        exact ⟨j + 1, h2, c2, by go_num, by omega, k1.congr (fun k _ => rowJ_next HY.out), k2, k3, k4⟩)
                      repeat (case measure => simp [intOf]; omega)
                    · have hd : j = i := by omega
                      subst hd
                      have hjI : ¬ (j : Int) < (j : Int) := by omega
                      go_wp2_with fail
                      go_roundw
                      case rel =>
                        have e1 : (Q ++ [q]).getD (t + 1) [] = q := getD_snoc_new (by rw [HQ.out])
                        refine ⟨t + 1, Q ++ [q], _, h, c, rfl, by go_num, by simp [HQ.out], by omega, GN7.out, ?_, PZ8.out.congr (fun k hk => if_pos hk), fun b hb => ?_, B8.out⟩
                        · rw [e1]
                          unfold OwnN
                          rw [hql7]
                          exact (by have h1 := O8.out; unfold OwnN at h1; rw [hql7] at h1; exact h1)
                        · have e2 : gq = b := Option.some.inj hb
                          subst e2
                          exact ⟨NE7.out.1, NE8.out⟩
                      case measure => simp [intOf]; omega
          · obtain ⟨hl2, hl3⟩ := htb rfl
            have hl2I : (j : Int) < (ns : Int) := by omega
            obtain ⟨bs, off, rfl, hsc⟩ := HST.out (by omega)
            have d1 := cell_later E5.out.below (hsc j hl2)
            have hsz := HSS.out j
            clear hsc htb
            by_cases hg : N < (S j).size
            · have hgI : (N : Int) < ((S j).size : Int) := by omega
              go_wp2_with fail
              go_roundw
              case rel => exact ⟨(S j).size, j + 1, rfl, by go_num, by omega, hsz, by first | rfl | trivial⟩
              case measure => simp [intOf]; omega
            · have hgI : ¬ (N : Int) < ((S j).size : Int) := by omega
              go_wp2_with fail
              go_roundw
              case rel => exact ⟨N, j + 1, rfl, by go_num, by omega, hN, by first | rfl | trivial⟩
              case measure => simp [intOf]; omega

end Go.Proofs.YtnkgpinadgacgabDoor
