/- Lists of lists, and the law of append of a whole list of slices. -/
import Derived.Test.YtgdkchdcbfgijaaDoorEnEoEpEq
import Derived.Test.YtgdkchdcbfgijaaDoorEiEjEkElEm
import Derived.Laws.AppendOwnNone
import Derived.Deep.QuietTactic
import Derived.BigQuiet
import Derived.Test.YtgdkchdcbfgijaaDoorBo
import Derived.Test.YtgdkchdcbfgijaaDoorBk
import Derived.Lib.SliceRun
namespace Go.Proofs.YtgdkchdcbfgijaaDoor
open Go.RowKit M

set_option maxRecDepth 100000 in
theorem wpList_catV {w : World} {ops : Array Oper} {rest : List Oper} {o : Oper} {a : Act} {Q : Exit → Act → World → Prop} (hgd : o.guard = none) (s x : Operand)
    (ho : o.op = .call { callee := .builtin .append, args := #[s, x], argTypes := #[35, 35] })
    (base : Nat) (v : Value) (K M KM : Nat) (A : List Value) (hs : a.eval s = v) (hown : w.ownsRow base 26 1 v K A) (hbase : base ≤ w.heap.size) (g c : Nat) (F : Nat → Value)
    (hx : a.eval x = .slice (some ⟨g, 0, none⟩) M c) (hF : ∀ j, j < M → w.cell? ⟨g, j, none⟩ = some (F j)) (h1 : ∀ j, j < M → (F j).oneCell' = true) (hM : 0 < M) (hKM : KM = K + M) (hL : KM ≤ 100000000)
    (h : ∀ g' cap w', w'.ownsRow base 26 1 (.slice (some ⟨g', 0, none⟩) KM cap) KM (A ++ (List.range M).map F) → Only (fun k => v.ownBlock = some k) w w' → (v.ownBlock = some g' ∨ g' = w.heap.size) → g' < w'.heap.size → wpList Tryd.prog ops Q rest (a.put o.dst (.slice (some ⟨g', 0, none⟩) KM cap)) w') :
    wpList Tryd.prog ops Q (o :: rest) a w := by
  obtain ⟨i0, hi0, hi1, hi2, hi3⟩ := info_parts Tryd.infoSl
  subst hKM
  refine wpList_append_lies _ hgd s x _ ho base 26 i0 _ 1 24 Tryd.underlying35 hi0 hi1 hi2 hi3 rfl (by omega) v K A hs hown _ M c ((List.range M).map F) hx (by simp) (fun j u hj => ?_) (fun u hu => ?_) hM (by unfold maxLen; omega) (by omega) hbase _ rfl ?_
  · have hjM : j < M := by
      by_cases hq : j < M
      · exact hq
      · rw [List.getElem?_eq_none (by simp; omega)] at hj; cases hj
    rw [List.getElem?_map, List.getElem?_range hjM] at hj
    have ea : (⟨g, 0, none⟩ : Addr).add j = ⟨g, j, none⟩ := by simp [Addr.add]; try omega
    rw [ea, hF j hjM, ← hj]; rfl
  · obtain ⟨j, hj, rfl⟩ := List.mem_map.1 hu
    exact h1 j (List.mem_range.1 hj)
  · intro g' cap w' ho9 hg9 hl9 hlt9
    exact h g' cap w' ho9 ⟨hg9.os, hg9.tape, hg9.output, hg9.size, fun k hk hn => hg9.block k hk (fun e => hn e.symm)⟩ hl9 hlt9

theorem row_ownV {w : World} {base g K : Nat} {t : TypeId} {B : Nat → Value} (h : w.rowIs g t K B) (hg : base ≤ g) (hK : K ≤ maxLen) : w.ownsRow base t 1 (.slice (some ⟨g, 0, none⟩) K K) K ((List.range K).map B) := by
  obtain ⟨cur, hh, hs, hf⟩ := h
  refine ⟨by simp, .inr ⟨g, K, cur, rfl, hg, hh, Nat.le_refl _, hK, by omega, ?_⟩⟩
  refine List.ext_getElem? fun j => ?_
  by_cases hj : j < K
  · rw [List.getElem?_take, if_pos (by omega), Array.getElem?_toList, hf j hj, List.getElem?_map, List.getElem?_range hj]; rfl
  · rw [List.getElem?_take, if_neg (by omega), List.getElem?_eq_none (by simp; omega)]

/-- Two lists of things, one behind the other. -/
def joinF {α : Type} (K : Nat) (f g : Nat → α) : Nat → α := fun t => if t < K then f t else g (t - K)
theorem joinF_lo {α : Type} {K : Nat} {f g : Nat → α} {t : Nat} (h : t < K) : joinF K f g t = f t := if_pos h
theorem joinF_hi {α : Type} {K : Nat} {f g : Nat → α} {t : Nat} (h : ¬ t < K) : joinF K f g t = g (t - K) := if_neg h

/-- A list of lists of numbers: where its lists lie. -/
structure Rows (w : World) (lo hi g K : Nat) (h n c : Nat → Nat) (Lz : Nat → List Int) : Prop where
  row : w.rowIs g 26 K (fun t => .slice (some ⟨h t, 0, none⟩) (n t) (c t))
  own : ∀ t, t < K → OwnZ w lo (.slice (some ⟨h t, 0, none⟩) (n t) (c t)) (Lz t)
  num : ∀ t, t < K → 0 < n t ∧ n t ≤ 100
  inj : ∀ s t, s < K → t < K → h s = h t → s = t
  ne : ∀ t, t < K → h t ≠ g
  at' : ∀ t, t < K → lo ≤ h t ∧ h t < hi
  gat : lo ≤ g ∧ g < hi

theorem Rows.below {w w' : World} {lo hi g K : Nat} {h n c : Nat → Nat} {Lz : Nat → List Int} (R : Rows w lo hi g K h n c Lz) (hb : Below w.heap.size w w') : Rows w' lo hi g K h n c Lz :=
  ⟨rowIs_below R.row hb, fun t ht => (R.own t ht).below hb, R.num, R.inj, R.ne, R.at', R.gat⟩

/-- The lists of a list, each of one number. -/
def OnesAt (w : World) (lo : Nat) (B : Nat → Value) (i : Nat) (mv : Int) : Prop := ∀ t, t < i → ∃ h c, B t = .slice (some ⟨h, 0, none⟩) 1 c ∧ lo ≤ h ∧ w.cell? ⟨h, 0, none⟩ = some (.int .i64 mv)

theorem OnesAt.only {w w' : World} {lo i : Nat} {B : Nat → Value} {mv : Int} {S : Nat → Prop} (h : OnesAt w lo B i mv) (ho : Only S w w') (hS : ∀ k, lo ≤ k → ¬ S k) : OnesAt w' lo B i mv := fun t ht => by
  obtain ⟨b, c, h1, h2, h3⟩ := h t ht
  exact ⟨b, c, h1, h2, (ho.cell (p := ⟨b, 0, none⟩) (World.block_lt_of_cell? (a := ⟨b, 0, none⟩) _ h3) (hS b h2)).trans h3⟩

theorem OnesAt.next {w : World} {lo i : Nat} {B : Nat → Value} {mv : Int} (h : OnesAt w lo B i mv) (b c : Nat) (hb : lo ≤ b) (hc : w.cell? ⟨b, 0, none⟩ = some (.int .i64 mv)) : OnesAt w lo (extA B i (.slice (some ⟨b, 0, none⟩) 1 c)) (i + 1) mv := fun t ht => by
  by_cases e : t = i
  · subst e; exact ⟨b, c, extA_at, hb, hc⟩
  · obtain ⟨b', c', h1, h2, h3⟩ := h t (by omega)
    exact ⟨b', c', (extA_ne e).trans h1, h2, h3⟩

structure Marks (w : World) (lo x g n : Nat) (mv : Int) : Prop where
  lies : g = x ∨ lo ≤ g
  cells : ∀ t, t < n → ∃ h c, w.cell? ⟨g, t, none⟩ = some (.slice (some ⟨h, 0, none⟩) 1 c) ∧ lo ≤ h ∧ w.cell? ⟨h, 0, none⟩ = some (.int .i64 mv)

theorem Marks.only {w w' : World} {lo x g n : Nat} {mv : Int} {S : Nat → Prop} (h : Marks w lo x g n mv) (ho : Only S w w') (hS : ∀ k, lo ≤ k → ¬ S k) (hx : ¬ S x) : Marks w' lo x g n mv := by
  have hg : ¬ S g := by
    rcases h.lies with e | e
    · rw [e]; exact hx
    · exact hS g e
  refine ⟨h.lies, fun t ht => ?_⟩
  obtain ⟨b, c, h1, h2, h3⟩ := h.cells t ht
  exact ⟨b, c, (ho.cell (p := ⟨g, t, none⟩) (World.block_lt_of_cell? (a := ⟨g, t, none⟩) _ h1) hg).trans h1, h2, (ho.cell (p := ⟨b, 0, none⟩) (World.block_lt_of_cell? (a := ⟨b, 0, none⟩) _ h3) (hS b h2)).trans h3⟩

theorem marks_push {wr w0 w' : World} {lo base x K g cap c : Nat} {B : Nat → Value} {mv : Int} (h : OnesAt wr lo B K mv) (h0 : Below wr.heap.size wr w0) (hc0 : w0.cell? ⟨wr.heap.size, 0, none⟩ = some (.int .i64 mv)) (hlo : lo ≤ wr.heap.size) (hxl : x < lo)
    (hown : w'.ownsRow base 26 1 (.slice (some ⟨g, 0, none⟩) (K + 1) cap) (K + 1) ((List.range K).map B ++ [.slice (some ⟨wr.heap.size, 0, none⟩) 1 c])) (ho : Only (fun k => k = x) w0 w') (hl : x = g ∨ w0.heap.size ≤ g) : Marks w' lo x g (K + 1) mv := by
  have hz := h0.size
  refine ⟨hl.elim (fun e => .inl e.symm) (fun e => .inr (by omega)), fun t ht => ?_⟩
  rw [own_cell hown ht]
  by_cases e : t = K
  · subst e
    rw [List.getElem?_append_right (by simp)]
    refine ⟨wr.heap.size, c, by simp, hlo, ?_⟩
    exact (ho.cell (p := ⟨wr.heap.size, 0, none⟩) (World.block_lt_of_cell? (a := ⟨wr.heap.size, 0, none⟩) _ hc0) (by show ¬ wr.heap.size = x; omega)).trans hc0
  · rw [List.getElem?_append_left (by simp; omega), List.getElem?_map, List.getElem?_range (by omega)]
    obtain ⟨b, c', h1, h2, h3⟩ := h t (by omega)
    refine ⟨b, c', by rw [← h1]; rfl, h2, ?_⟩
    have h4 := (h0.cell (p := ⟨b, 0, none⟩) (World.block_lt_of_cell? (a := ⟨b, 0, none⟩) _ h3)).trans h3
    exact (ho.cell (p := ⟨b, 0, none⟩) (World.block_lt_of_cell? (a := ⟨b, 0, none⟩) _ h4) (by show ¬ b = x; omega)).trans h4

theorem ListsOwn.rows {w : World} {base : Nat} {v : Value} {Ls : List (List Nat)} (h : ListsOwn w base v Ls) (hne : ∀ t, t < Ls.length → Ls.getD t [] ≠ []) (hle : ∀ t, t < Ls.length → (Ls.getD t []).length ≤ 100) :
    ∃ g hh n c, v = .slice (some ⟨g, 0, none⟩) Ls.length Ls.length ∧ Rows w base w.heap.size g Ls.length hh n c (fun t => qi (Ls.getD t [])) ∧ ∀ t, t < Ls.length → n t = (Ls.getD t []).length := by
  obtain ⟨g, A, hv, hbg, hrow, hown, hng, hinj⟩ := h
  have key : ∀ t, ∃ hh c, t < Ls.length → A t = .slice (some ⟨hh, 0, none⟩) (Ls.getD t []).length c := by
    intro t
    by_cases ht : t < Ls.length
    · obtain ⟨a, cap, e, ha, _⟩ := (hown t ht).form
      have hp : 0 < (Ls.getD t []).length := List.length_pos_iff.2 (hne t ht)
      obtain ⟨b, rfl⟩ := ha hp
      exact ⟨b, cap, fun _ => e⟩
    · exact ⟨0, 0, fun h => absurd h ht⟩
  obtain ⟨hh, k1⟩ := Classical.axiomOfChoice key
  obtain ⟨c, k2⟩ := Classical.axiomOfChoice k1
  refine ⟨g, hh, fun t => (Ls.getD t []).length, c, hv, ⟨hrow.congr k2, fun t ht => ?_, fun t ht => ⟨List.length_pos_iff.2 (hne t ht), hle t ht⟩, fun s t hs ht e => ?_, fun t ht e => hng t ht (by rw [k2 t ht, ← e]; rfl), fun t ht => (hown t ht).lt (hh t) (by rw [k2 t ht]; rfl), ⟨hbg, hrow.lt⟩⟩, fun _ _ => rfl⟩
  · have h2 := hown t ht
    rw [k2 t ht] at h2
    show World.ownsRow _ _ _ _ _ _ _
    rw [show (qi (Ls.getD t [])).length = (Ls.getD t []).length by simp [qi]]
    exact h2
  · by_cases e2 : s = t
    · exact e2
    · exact absurd (by rw [k2 t ht, e]; rfl) (hinj s t (hh s) hs ht e2 (by rw [k2 s hs]; rfl))

end Go.Proofs.YtgdkchdcbfgijaaDoor

/- Walk of both: two lists of lists are each the caller's own. -/
namespace Go.Proofs.YtgdkchdcbfgijaaDoor
open Go.RowKit M

set_option maxRecDepth 100000 in
set_option maxHeartbeats 8000000 in
theorem both_any (lo1 hi1 lo2 hi2 K g1 g2 : Nat) (h1 n1 c1 h2 n2 c2 : Nat → Nat) (L1 L2 : Nat → List Int) (w : World) (hK : 0 < K) (hK2 : K ≤ 100) (R1 : Rows w lo1 hi1 g1 K h1 n1 c1 L1) (R2 : Rows w lo2 hi2 g2 K h2 n2 c2 L2) (h12 : hi1 ≤ lo2) (hw : hi2 ≤ w.heap.size) :
    Calls Tryd.prog 27 #[.slice (some ⟨g1, 0, none⟩) K K, .slice (some ⟨g2, 0, none⟩) K K] w fun e w' => e = .returned (.bool true) ∧ Below lo1 w w' := by
  have R1G := Hid.mk R1.gat
  have R2G := Hid.mk R2.gat
  have RA := Hid.mk R1
  have RB := Hid.mk R2
  have hg1 := R1.row.lt
  have hg2 := R2.row.lt
  have hlow : lo1 ≤ w.heap.size := by have := R1.gat; omega
  clear R1 R2
  go_enter Tryd.func27, Tryd.ntmps27
  have hK8 : K ≤ 100000000 := by omega
  have N0 : Hid (w.ownsRow w.heap.size 26 1 (.slice none 0 0) 0 []) := ⟨rfl, .inl ⟨rfl, rfl⟩⟩
  have C0 : Hid (∀ j, j < K → w.cell? ⟨g1, j, none⟩ = some (.slice (some ⟨h1 j, 0, none⟩) (n1 j) (c1 j))) := fun j hj => RA.out.row.cell hj
  obtain ⟨KK, hKK⟩ : ∃ KK, KK = K + K := ⟨_, rfl⟩
  have hKK8 : KK ≤ 100000000 := by omega
  have HK0 : Hid (K = 0 + K) := by unfold Hid; omega
  have HKK := Hid.mk hKK
  have hKKa : KK ≤ K + K := by omega
  have hKKb : K + K ≤ KK := by omega
  clear hKK
  go_upto_region 3 with (at_builtin; go_must (refine wpList_catV rfl _ _ rfl w.heap.size (.slice none 0 0) 0 K K [] rfl N0.out (Nat.le_refl _) g1 K _ rfl C0.out (fun _ _ => rfl) hK HK0.out hK8 ?_; intro P1 p1 w1 ho1 hon1 hat1 hl1))
  have O1 : Hid (Below w.heap.size w w1) := hon1.below (Nat.le_refl _) (fun i e => by cases e)
  have OW1 := Hid.mk ho1
  have hz1 := hon1.size
  have hP1 : P1 = w.heap.size := hat1.elim (fun e => by cases e) id
  have C1 : Hid (∀ j, j < K → w1.cell? ⟨g2, j, none⟩ = some (.slice (some ⟨h2 j, 0, none⟩) (n2 j) (c2 j))) := fun j hj => cell_later O1.out (RB.out.row.cell hj)
  have hzw1 : Hid (w.heap.size ≤ w1.heap.size) := hz1
  clear ho1 hon1 hat1 N0 C0
  go_wp2_with (at_builtin; go_must (refine wpList_catV rfl _ _ rfl w.heap.size (.slice (some ⟨P1, 0, none⟩) K p1) K K KK _ rfl OW1.out hzw1.out g2 K _ rfl C1.out (fun _ _ => rfl) hK HKK.out hKK8 ?_; intro P2 p2 w2 ho2 hon2 hat2 hl2))
  have O2 : Hid (Below w.heap.size w w2) := O1.out.trans (hon2.below hzw1.out (fun i e => by have e2 : P1 = i := Option.some.inj e; omega))
  have hz2 := O2.out.size
  have hP2 : w.heap.size ≤ P2 := hat2.elim (fun e => by have e2 : P1 = P2 := Option.some.inj e; omega) (fun e => by have := hzw1.out; omega)
  have C2 : Hid (∀ t, t < KK → w2.cell? ⟨P2, t, none⟩ = some (.slice (some ⟨joinF K h1 h2 t, 0, none⟩) (joinF K n1 n2 t) (joinF K c1 c2 t))) := by
    intro t ht
    rw [own_cell ho2 ht]
    by_cases e : t < K
    · rw [List.nil_append, List.getElem?_append_left (by simpa using e), List.getElem?_map, List.getElem?_range e, joinF_lo e, joinF_lo e, joinF_lo e]; rfl
    · rw [List.nil_append, List.getElem?_append_right (by simp; omega), List.getElem?_map, joinF_hi e, joinF_hi e, joinF_hi e]
      simp only [List.length_map, List.length_range]
      rw [List.getElem?_range (by omega)]; rfl
  have RA2 : Hid (Rows w2 lo1 hi1 g1 K h1 n1 c1 L1) := RA.out.below O2.out
  have RB2 : Hid (Rows w2 lo2 hi2 g2 K h2 n2 c2 L2) := RB.out.below O2.out
  have LO : Hid (∀ t, t < KK → joinF K h1 h2 t < w.heap.size ∧ lo1 ≤ joinF K h1 h2 t ∧ joinF K h1 h2 t ≠ g1 ∧ joinF K h1 h2 t ≠ g2) := by
    intro t ht
    have q1 := R1G.out
    have q2 := R2G.out
    by_cases e : t < K
    · rw [joinF_lo e]
      have a1 := RA.out.at' t e
      have a2 := RA.out.ne t e
      exact ⟨by omega, by omega, a2, by omega⟩
    · rw [joinF_hi e]
      have a1 := RB.out.at' (t - K) (by omega)
      have a2 := RB.out.ne (t - K) (by omega)
      exact ⟨by omega, by omega, by omega, a2⟩
  have OWJ : Hid (∀ t, t < KK → OwnZ w2 lo1 (.slice (some ⟨joinF K h1 h2 t, 0, none⟩) (joinF K n1 n2 t) (joinF K c1 c2 t)) (joinF K L1 L2 t)) := by
    intro t ht
    by_cases e : t < K
    · rw [joinF_lo e, joinF_lo e, joinF_lo e, joinF_lo e]; exact RA2.out.own t e
    · rw [joinF_hi e, joinF_hi e, joinF_hi e, joinF_hi e]; exact (RB2.out.own (t - K) (by omega)).le (by have := R1G.out; omega)
  have NJ : Hid (∀ t, t < KK → 0 < joinF K n1 n2 t ∧ joinF K n1 n2 t ≤ 100) := by
    intro t ht
    by_cases e : t < K
    · rw [joinF_lo e]; exact RA2.out.num t e
    · rw [joinF_hi e]; exact RB2.out.num (t - K) (by omega)
  have IJ : Hid (∀ s t, s < KK → t < KK → joinF K h1 h2 s = joinF K h1 h2 t → s = t) := by
    intro s t hs ht
    by_cases e : s < K <;> by_cases e2 : t < K
    · rw [joinF_lo e, joinF_lo e2]; exact RA2.out.inj s t e e2
    · rw [joinF_lo e, joinF_hi e2]
      have a1 := RA.out.at' s e
      have a2 := RB.out.at' (t - K) (by omega)
      intro h; omega
    · rw [joinF_hi e, joinF_lo e2]
      have a1 := RA.out.at' t e2
      have a2 := RB.out.at' (s - K) (by omega)
      intro h; omega
    · rw [joinF_hi e, joinF_hi e2]
      intro h
      have := RB2.out.inj (s - K) (t - K) (by omega) (by omega) h
      omega
  clear ho2 hon2 hat2 OW1 C1 hl1 hP1 hz1
  go_wp2_with fail
  refine (apart_own lo1 KK P2 p2 (joinF K h1 h2) (joinF K n1 n2) (joinF K c1 c2) (joinF K L1 L2) w2 (by omega) (by omega) C2.out OWJ.out NJ.out IJ.out (fun t ht => by have := LO.out t ht; omega) hl2).mono ?_
  rintro e w3 ⟨rfl, ho3⟩
  have ROW1 : Hid (w3.rowIs g1 26 K (fun t => .slice (some ⟨h1 t, 0, none⟩) (n1 t) (c1 t))) := row_block RA2.out.row (ho3.block g1 RA2.out.row.lt (by rintro ⟨t, ht, e⟩; exact (LO.out t ht).2.2.1 e.symm))
  have ROW2' : Hid (w3.rowIs g2 26 K (fun t => .slice (some ⟨h2 t, 0, none⟩) (n2 t) (c2 t))) := row_block RB2.out.row (ho3.block g2 RB2.out.row.lt (by rintro ⟨t, ht, e⟩; exact (LO.out t ht).2.2.2 e.symm))
  have O3 : Hid (Below lo1 w w3) := (O2.out.mono hlow).trans (ho3.below (by omega) (fun i e => by obtain ⟨t, ht, e⟩ := e; have := LO.out t ht; omega))
  have G1L : Hid (g1 < w3.heap.size) := ROW1.out.lt
  have G2L : Hid (g2 < w3.heap.size) := ROW2'.out.lt
  have hz3 := ho3.size
  clear ho3 C2 RA2 RB2 OWJ NJ IJ RA RB LO hP2 hl2 HKK hKKa hKKb hKK8 HK0
  go_wp2
  go_loopw [7] (fun v7 wr => ∃ (i : Nat) (B : Nat → Value), v7 = .int .i64 i ∧ i ≤ K ∧ wr.rowIs g1 26 K B ∧ OnesAt wr w3.heap.size B i (-101) ∧ Only (fun k => k = g1) w3 wr) (fun v7 _ => K - (intOf v7).toNat)
  case atStart => exact ⟨0, _, rfl, Nat.zero_le _, ROW1.out, fun t ht => absurd ht (Nat.not_lt_zero t), Only.refl _ _⟩
  case round =>
    obtain ⟨i1, B1, rfl, hi, hrow, hones, ho⟩ := hrel
    obtain ⟨u1, rfl⟩ : ∃ q, q = wr := ⟨_, rfl⟩
    have O1 := Hid.mk ho
    have ON1 := Hid.mk hones
    have hzu1 := ho.size
    by_cases hlt : i1 < K
    · have d0 := hrow.cell hlt
      have d1 := hrow.frozen i1
      have hiI : (i1 : Int) < (K : Int) := by omega
      have hgu : g1 < u1.heap.size := hrow.lt
      have hgn : g1 ≠ u1.heap.size := by omega
      have NEW : Hid (((u1.setCell ⟨g1, i1, none⟩ (.slice (some ⟨u1.heap.size, 0, none⟩) 1 1)).alloc (Obj.cells #[Value.int .i64 (-101)] 3)).rowIs g1 26 K (extA B1 i1 (.slice (some ⟨u1.heap.size, 0, none⟩) 1 1))) := (hrow.set i1 _).alloc _
      have O2 : Hid (Only (fun k => k = g1) w3 ((u1.setCell ⟨g1, i1, none⟩ (.slice (some ⟨u1.heap.size, 0, none⟩) 1 1)).alloc (Obj.cells #[Value.int .i64 (-101)] 3))) := (ho.setCell (p := ⟨g1, i1, none⟩) (fun _ => rfl) _).alloc _
      have OW2 : Hid (Only (fun k => k = g1) u1 ((u1.setCell ⟨g1, i1, none⟩ (.slice (some ⟨u1.heap.size, 0, none⟩) 1 1)).alloc (Obj.cells #[Value.int .i64 (-101)] 3))) := ((Only.refl (fun k => k = g1) u1).setCell (p := ⟨g1, i1, none⟩) (fun _ => rfl) _).alloc _
      have C2 : Hid (((u1.setCell ⟨g1, i1, none⟩ (.slice (some ⟨u1.heap.size, 0, none⟩) 1 1)).alloc (Obj.cells #[Value.int .i64 (-101)] 3)).cell? ⟨u1.heap.size, 0, none⟩ = some (.int .i64 (-101))) := by unfold Hid; go_simp
      have W3U : Hid (w3.heap.size ≤ u1.heap.size) := by unfold Hid; omega
      clear hrow hones ho
      go_wp2
      go_roundw
      case rel => exact ⟨i1 + 1, _, by go_num, by omega, NEW.out, (ON1.out.only OW2.out (fun k hk e => by have := G1L.out; omega)).next u1.heap.size 1 W3U.out C2.out, O2.out⟩
      case measure => simp [intOf]; omega
    · have hd : i1 = K := by omega
      rw [hd] at hones
      have ONK1 := Hid.mk hones
      have hz9 : (u1.alloc (Obj.cells #[Value.int .i64 (-101)] 3)).heap.size = u1.heap.size + 1 := by simp
      have OWN1 : Hid ((u1.alloc (Obj.cells #[Value.int .i64 (-101)] 3)).ownsRow lo1 26 1 (.slice (some ⟨g1, 0, none⟩) K K) K ((List.range K).map B1)) := row_ownV (hrow.alloc _) R1G.out.1 (by unfold maxLen; omega)
      have HU1 : Hid (lo1 ≤ (u1.alloc (Obj.cells #[Value.int .i64 (-101)] 3)).heap.size) := by
        unfold Hid
        have := R1G.out
        have := G1L.out
        rw [hz9]; omega
      have CN1 : Hid ((u1.alloc (Obj.cells #[Value.int .i64 (-101)] 3)).cell? ⟨u1.heap.size, 0, none⟩ = some (.int .i64 (-101))) := by unfold Hid; go_simp
      have PP1 : Hid (Below u1.heap.size u1 (u1.alloc (Obj.cells #[Value.int .i64 (-101)] 3))) := (Below.refl _ _).alloc (Nat.le_refl _) _
      have W3U : Hid (w3.heap.size ≤ u1.heap.size) := by unfold Hid; omega
      have HZ9 := Hid.mk hz9
      clear hrow hones ho ON1 hz9
      go_wp2_with (at_builtin; go_must (refine wpList_pushV rfl _ _ rfl lo1 (.slice (some ⟨g1, 0, none⟩) K K) K ((List.range K).map B1) (some ⟨u1.heap.size, 0, none⟩) 1 1 rfl OWN1.out HU1.out _ (by rw [HZ9.out]; exact rfl) hK8 ?_; intro gx1 cx1 w4 ho5 hon5 hat5))
      have M1 : Hid (Marks w4 w3.heap.size g1 gx1 (K + 1) (-101)) := marks_push ONK1.out PP1.out CN1.out W3U.out G1L.out ho5 (hon5.mono (fun q _ e => (Option.some.inj e).symm)) (hat5.imp Option.some.inj id)
      have OO1 : Hid (Only (fun k => k = g1) w3 w4) := (O1.out.trans (Only.of_below PP1.out : Only (fun _ => False) _ _) (fun _ _ e => e.elim)).trans hon5 (fun q _ e => (Option.some.inj e).symm)
      clear ho5 hon5 hat5 OWN1 HU1 CN1 PP1 HZ9 ONK1 O1 hzu1 hd hi hlt
      have ROW2 : Hid (w4.rowIs g2 26 K (fun t => .slice (some ⟨h2 t, 0, none⟩) (n2 t) (c2 t))) := row_block ROW2'.out (OO1.out.block g2 G2L.out (by have := R1G.out; have := R2G.out; omega))
      have hz4 := OO1.out.size
      go_wp2
      go_loopw [9] (fun v9 wr => ∃ (i : Nat) (B : Nat → Value), v9 = .int .i64 i ∧ i ≤ K ∧ wr.rowIs g2 26 K B ∧ OnesAt wr w3.heap.size B i (-102) ∧ Only (fun k => k = g2) w4 wr) (fun v9 _ => K - (intOf v9).toNat)
      case atStart => exact ⟨0, _, rfl, Nat.zero_le _, ROW2.out, fun t ht => absurd ht (Nat.not_lt_zero t), Only.refl _ _⟩
      case round =>
        obtain ⟨i2, B2, rfl, hi, hrow, hones, ho⟩ := hrel
        obtain ⟨u2, rfl⟩ : ∃ q, q = wr := ⟨_, rfl⟩
        have O2 := Hid.mk ho
        have ON2 := Hid.mk hones
        have hzu2 := ho.size
        by_cases hlt : i2 < K
        · have d0 := hrow.cell hlt
          have d1 := hrow.frozen i2
          have hiI : (i2 : Int) < (K : Int) := by omega
          have hgu : g2 < u2.heap.size := hrow.lt
          have hgn : g2 ≠ u2.heap.size := by omega
          have NEW : Hid (((u2.setCell ⟨g2, i2, none⟩ (.slice (some ⟨u2.heap.size, 0, none⟩) 1 1)).alloc (Obj.cells #[Value.int .i64 (-102)] 3)).rowIs g2 26 K (extA B2 i2 (.slice (some ⟨u2.heap.size, 0, none⟩) 1 1))) := (hrow.set i2 _).alloc _
          have O2 : Hid (Only (fun k => k = g2) w4 ((u2.setCell ⟨g2, i2, none⟩ (.slice (some ⟨u2.heap.size, 0, none⟩) 1 1)).alloc (Obj.cells #[Value.int .i64 (-102)] 3))) := (ho.setCell (p := ⟨g2, i2, none⟩) (fun _ => rfl) _).alloc _
          have OW2 : Hid (Only (fun k => k = g2) u2 ((u2.setCell ⟨g2, i2, none⟩ (.slice (some ⟨u2.heap.size, 0, none⟩) 1 1)).alloc (Obj.cells #[Value.int .i64 (-102)] 3))) := ((Only.refl (fun k => k = g2) u2).setCell (p := ⟨g2, i2, none⟩) (fun _ => rfl) _).alloc _
          have C2 : Hid (((u2.setCell ⟨g2, i2, none⟩ (.slice (some ⟨u2.heap.size, 0, none⟩) 1 1)).alloc (Obj.cells #[Value.int .i64 (-102)] 3)).cell? ⟨u2.heap.size, 0, none⟩ = some (.int .i64 (-102))) := by unfold Hid; go_simp
          have W3U : Hid (w3.heap.size ≤ u2.heap.size) := by unfold Hid; omega
          clear hrow hones ho
          go_wp2
          go_roundw
          case rel => exact ⟨i2 + 1, _, by go_num, by omega, NEW.out, (ON2.out.only OW2.out (fun k hk e => by have := G2L.out; omega)).next u2.heap.size 1 W3U.out C2.out, O2.out⟩
          case measure => simp [intOf]; omega
        · have hd : i2 = K := by omega
          rw [hd] at hones
          have ONK2 := Hid.mk hones
          have hz9 : (u2.alloc (Obj.cells #[Value.int .i64 (-102)] 3)).heap.size = u2.heap.size + 1 := by simp
          have OWN2 : Hid ((u2.alloc (Obj.cells #[Value.int .i64 (-102)] 3)).ownsRow lo2 26 1 (.slice (some ⟨g2, 0, none⟩) K K) K ((List.range K).map B2)) := row_ownV (hrow.alloc _) R2G.out.1 (by unfold maxLen; omega)
          have HU2 : Hid (lo2 ≤ (u2.alloc (Obj.cells #[Value.int .i64 (-102)] 3)).heap.size) := by
            unfold Hid
            have := R2G.out
            have := G2L.out
            rw [hz9]; omega
          have CN2 : Hid ((u2.alloc (Obj.cells #[Value.int .i64 (-102)] 3)).cell? ⟨u2.heap.size, 0, none⟩ = some (.int .i64 (-102))) := by unfold Hid; go_simp
          have PP2 : Hid (Below u2.heap.size u2 (u2.alloc (Obj.cells #[Value.int .i64 (-102)] 3))) := (Below.refl _ _).alloc (Nat.le_refl _) _
          have W3U : Hid (w3.heap.size ≤ u2.heap.size) := by unfold Hid; omega
          have HZ9 := Hid.mk hz9
          clear hrow hones ho ON2 hz9
          go_wp2_with (at_builtin; go_must (refine wpList_pushV rfl _ _ rfl lo2 (.slice (some ⟨g2, 0, none⟩) K K) K ((List.range K).map B2) (some ⟨u2.heap.size, 0, none⟩) 1 1 rfl OWN2.out HU2.out _ (by rw [HZ9.out]; exact rfl) hK8 ?_; intro gx2 cx2 w5 ho5 hon5 hat5))
          have M2 : Hid (Marks w5 w3.heap.size g2 gx2 (K + 1) (-102)) := marks_push ONK2.out PP2.out CN2.out W3U.out G2L.out ho5 (hon5.mono (fun q _ e => (Option.some.inj e).symm)) (hat5.imp Option.some.inj id)
          have OO2 : Hid (Only (fun k => k = g2) w4 w5) := (O2.out.trans (Only.of_below PP2.out : Only (fun _ => False) _ _) (fun _ _ e => e.elim)).trans hon5 (fun q _ e => (Option.some.inj e).symm)
          clear ho5 hon5 hat5 OWN2 HU2 CN2 PP2 HZ9 ONK2 O2 hzu2 hd hi hlt
          have M1' := M1
          have MA : Hid (Marks w5 w3.heap.size g1 gx1 (K + 1) (-101)) := M1'.out.only OO2.out (fun k hk e => by have := G2L.out; omega) (by have := R1G.out; have := R2G.out; omega)
          clear M1 M1'
          have M1 := MA
          clear MA
          have OF : Hid (Below lo1 w w5) := O3.out.trans ((OO1.out.below (by omega) (fun i e => by have := R1G.out; omega)).trans (OO2.out.below (by have := R1G.out; omega) (fun i e => by have := R1G.out; have := R2G.out; omega)))
          clear OO1 OO2 O3 O2 O1 ROW1 ROW2 ROW2' G1L G2L
          go_wp2
          go_loopw [6, 11] (fun v6 vs wr => v6 = .bool true ∧ ∃ i : Nat, vs = .int .i64 i ∧ i ≤ K + 1 ∧ w5 = wr) (fun _ vs _ => K + 1 - (intOf vs).toNat)
          case atStart => exact ⟨rfl, 0, rfl, Nat.zero_le _, rfl⟩
          case round =>
            obtain ⟨rfl, j1, rfl, hj, rfl⟩ := hrel
            by_cases hlt : j1 < K + 1
            · obtain ⟨hh, hc, d0, _, d1⟩ := M1.out.cells j1 hlt
              have hjI : (j1 : Int) < (K : Int) + 1 := by omega
              go_wp2
              go_roundw
              case rel => exact ⟨by first | rfl | trivial, j1 + 1, by go_num, by omega, by first | rfl | trivial⟩
              case measure => simp [intOf]; omega
            · have hltn := hlt
              go_wp2
              go_loopw [6, 12] (fun v6 vs wr => v6 = .bool true ∧ ∃ i : Nat, vs = .int .i64 i ∧ i ≤ K + 1 ∧ w5 = wr) (fun _ vs _ => K + 1 - (intOf vs).toNat)
              case atStart => exact ⟨rfl, 0, rfl, Nat.zero_le _, rfl⟩
              case round =>
                obtain ⟨rfl, j2, rfl, hj, rfl⟩ := hrel
                by_cases hlt : j2 < K + 1
                · obtain ⟨hh, hc, d0, _, d1⟩ := M2.out.cells j2 hlt
                  have hjI : (j2 : Int) < (K : Int) + 1 := by omega
                  go_wp2
                  go_roundw
                  case rel => exact ⟨by first | rfl | trivial, j2 + 1, by go_num, by omega, by first | rfl | trivial⟩
                  case measure => simp [intOf]; omega
                · have hltn := hlt
                  go_wp2
                  go_ret
                  exact ⟨rfl, OF.out⟩

end Go.Proofs.YtgdkchdcbfgijaaDoor

/- Walks of sameInts and of samePlans, for lists that can be read; both of nothing. -/
namespace Go.Proofs.YtgdkchdcbfgijaaDoor
open Go.RowKit M

theorem RowQ.drewN {w : World} {s : Value} {q : List Nat} (h : RowQ w s q) (n : Nat) : RowQ (w.drewN n) s q :=
  h.only ((Only.refl (fun _ => False) w).drewN n) (fun _ _ e => e)

set_option maxRecDepth 100000 in
set_option maxHeartbeats 1000000 in
theorem sameInts_q (v1 v2 : Value) (L : List Nat) (w : World) (hL : L.length ≤ 1000) (h1 : RowQ w v1 L) (h2 : RowQ w v2 L) :
    Calls Tryd.prog 16 #[v1, v2] w fun e w' => e = .returned (.bool true) ∧ ∃ m, w' = w.drewN m := by
  obtain ⟨a1, c1, rfl, k1⟩ := h1.form
  obtain ⟨a2, c2, rfl, k2⟩ := h2.form
  have K1 := Hid.mk k1
  have K2 := Hid.mk k2
  clear h1 h2 k1 k2
  obtain ⟨N, hN⟩ : ∃ N, N = L.length := ⟨_, rfl⟩
  rw [← hN] at K1 K2 hL ⊢
  clear hN
  go_enter Tryd.func16, Tryd.ntmps16
  go_wp2
  go_loopw [5] (fun s wr => ∃ k m : Nat, k ≤ N ∧ s = .int .i64 k ∧ wr = w.drewN m) (fun s _ => N - (intOf s).toNat)
  case atStart => exact ⟨0, 0, Nat.zero_le _, rfl, rfl⟩
  case round =>
    obtain ⟨k, m, hk, rfl, rfl⟩ := hrel
    by_cases hlt : k < N
    · obtain ⟨b1, rfl, e1⟩ := K1.out (by omega)
      obtain ⟨b2, rfl, e2⟩ := K2.out (by omega)
      have d1 := e1 k hlt
      have d2 := e2 k hlt
      have hkI : (k : Int) < (N : Int) := by omega
      clear e1 e2
      go_wp2
      go_quiet (fail)
      go_wp2
      go_roundw
      case rel => exact ⟨k + 1, _, by omega, by go_num, by first | rfl | rw [World.drewN_drewN]⟩
      case measure => simp [intOf]; omega
    · go_wp2
      go_ret
      exact ⟨rfl, m, rfl⟩

set_option maxRecDepth 100000 in
set_option maxHeartbeats 1000000 in
theorem samePlans_q (v1 v2 : Value) (Ls : List (List Nat)) (w : World) (hK : Ls.length ≤ 1000) (hL : ∀ t, t < Ls.length → (Ls.getD t []).length ≤ 1000) (h1 : PlanQ w v1 Ls) (h2 : PlanQ w v2 Ls) :
    Calls Tryd.prog 26 #[v1, v2] w fun e w' => e = .returned (.bool true) ∧ Below w.heap.size w w' := by
  obtain ⟨a1, c1, rfl, k1⟩ := h1
  obtain ⟨a2, c2, rfl, k2⟩ := h2
  have K1 := Hid.mk k1
  have K2 := Hid.mk k2
  have HL := Hid.mk hL
  clear hL k1 k2
  obtain ⟨N, hN⟩ : ∃ N, N = Ls.length := ⟨_, rfl⟩
  rw [← hN] at K1 K2 HL hK ⊢
  clear hN
  go_enter Tryd.func26, Tryd.ntmps26
  go_wp2
  go_loopw [5, 6] (fun s _ wr => ∃ k : Nat, k ≤ N ∧ s = .int .i64 k ∧ Below w.heap.size w wr) (fun s _ _ => N - (intOf s).toNat)
  case atStart => exact ⟨0, Nat.zero_le _, rfl, Below.refl _ _⟩
  case round =>
    obtain ⟨k, hk, rfl, hbr⟩ := hrel
    have HB := Hid.mk hbr
    by_cases hlt : k < N
    · obtain ⟨b1, rfl, e1⟩ := K1.out (by omega)
      obtain ⟨b2, rfl, e2⟩ := K2.out (by omega)
      obtain ⟨s1, c1', q1⟩ := e1 k hlt
      obtain ⟨s2, c2', q2⟩ := e2 k hlt
      have d1 := cell_later HB.out c1'
      have d2 := cell_later HB.out c2'
      have Q1 := Hid.mk (q1.below HB.out)
      have Q2 := Hid.mk (q2.below HB.out)
      have hkI : (k : Int) < (N : Int) := by omega
      have SI : Hid (∀ n, Calls Tryd.prog 16 #[s1, s2] (wr.drewN n) fun e w' => e = .returned (.bool true) ∧ ∃ j, w' = (wr.drewN n).drewN j) := fun n => sameInts_q s1 s2 _ _ (HL.out k hlt) (Q1.out.drewN n) (Q2.out.drewN n)
      clear e1 e2 q1 q2 c1' c2' hbr
      go_wp2_with fail
      go_quiet ((go_at_call 16; exact Calls.quiet_of (SI.out _)))
      go_wp2
      go_roundw
      case rel => exact ⟨k + 1, by omega, by go_num, below_drewN HB.out _⟩
      case measure => simp [intOf]; omega
    · clear hbr
      go_wp2
      go_ret
      exact ⟨rfl, HB.out⟩

set_option maxRecDepth 100000 in
set_option maxHeartbeats 4000000 in
theorem both_nil (w : World) : Calls Tryd.prog 27 #[.slice none 0 0, .slice none 0 0] w fun e w' => e = .returned (.bool true) ∧ Below w.heap.size w w' := by
  obtain ⟨i0, hi0, hi1, hi2, hi3⟩ := info_parts Tryd.infoSl
  have N0 : Hid (∀ u : World, u.ownsRow w.heap.size 26 1 (.slice none 0 0) 0 []) := fun u => ⟨rfl, .inl ⟨rfl, rfl⟩⟩
  have AP : Hid (∀ u : World, Calls Tryd.prog 17 #[.slice none 0 0] u fun e w' => e = .returned (.bool true) ∧ Below u.heap.size u w') := by
    intro u
    go_enter Tryd.func17, Tryd.ntmps17
    go_wp2
    go_loopw [4] (fun s wr => s = .int .i64 0 ∧ wr = u) (fun _ _ => 0)
    case atStart => exact ⟨rfl, rfl⟩
    case round =>
      obtain ⟨rfl, rfl⟩ := hrel
      go_wp2
      go_loopw [6] (fun s w9 => s = .int .i64 0 ∧ w9 = wr) (fun _ _ => 0)
      case atStart => exact ⟨rfl, rfl⟩
      case round =>
        obtain ⟨rfl, rfl⟩ := hrel
        go_wp2
        go_ret
        exact ⟨rfl, Below.refl _ _⟩
  go_enter Tryd.func27, Tryd.ntmps27
  go_wp2_with (at_builtin; go_must (refine wpList_append_own_none rfl _ _ _ rfl w.heap.size 26 i0 1 Tryd.underlying35 hi0 (.slice none 0 0) 0 [] rfl (N0.out _) rfl ?_))
  refine (AP.out _).mono ?_
  rintro e w1 ⟨rfl, hb1⟩
  have B1 := Hid.mk hb1
  have hz1 := hb1.size
  clear hb1
  go_wp2
  go_loopw [7] (fun s wr => s = .int .i64 0 ∧ wr = w1) (fun _ _ => 0)
  case atStart => exact ⟨rfl, rfl⟩
  case round =>
    obtain ⟨rfl, rfl⟩ := hrel
    have B1' := B1
    obtain ⟨u1, rfl⟩ : ∃ q, q = wr := ⟨_, rfl⟩
    have E1 : Hid (Only (fun _ => False) u1 (u1.alloc (Obj.cells #[Value.int .i64 (-101)] 3))) := (Only.refl _ _).alloc _
    have C1 : Hid ((u1.alloc (Obj.cells #[Value.int .i64 (-101)] 3)).cell? ⟨u1.heap.size, 0, none⟩ = some (.int .i64 (-101))) := by unfold Hid; go_simp
    have HZ9 : Hid ((u1.alloc (Obj.cells #[Value.int .i64 (-101)] 3)).heap.size = u1.heap.size + 1) := by unfold Hid; simp
    have HU : Hid (w.heap.size ≤ (u1.alloc (Obj.cells #[Value.int .i64 (-101)] 3)).heap.size) := by unfold Hid; rw [HZ9.out]; omega
    go_wp2_with (at_builtin; go_must (refine wpList_pushV rfl _ _ rfl w.heap.size (.slice none 0 0) 0 [] (some ⟨u1.heap.size, 0, none⟩) 1 1 rfl (N0.out _) HU.out _ (by rw [HZ9.out]; exact rfl) (Nat.zero_le _) ?_; intro gx cx w2 ho2 hon2 hat2))
    have d0 := own_cell ho2 (j := 0) (by omega)
    have d1 := (hon2.cell (p := ⟨u1.heap.size, 0, none⟩) (World.block_lt_of_cell? (a := ⟨u1.heap.size, 0, none⟩) _ C1.out) (fun e => by cases e)).trans C1.out
    have D0 : Hid (w2.cell? ⟨gx, 0, none⟩ = some (.slice (some ⟨u1.heap.size, 0, none⟩) 1 1)) := d0
    have D1 := Hid.mk d1
    have O2 : Hid (Only (fun _ => False) u1 w2) := E1.out.trans hon2 (fun i _ e => by cases e)
    have hgx := World.block_lt_of_cell? (a := ⟨gx, 0, none⟩) _ d0
    have hgy := World.block_lt_of_cell? (a := ⟨u1.heap.size, 0, none⟩) _ d1
    have hz2 := hon2.size
    rw [HZ9.out] at hz2
    clear d0 d1 ho2 hon2 hat2 E1 C1 HZ9 HU
    go_wp2
    go_loopw [9] (fun s wr => s = .int .i64 0 ∧ w2 = wr) (fun _ _ => 0)
    case atStart => exact ⟨rfl, rfl⟩
    case round =>
      obtain ⟨rfl, rfl⟩ := hrel
      have E1 : Hid (Only (fun _ => False) w2 (w2.alloc (Obj.cells #[Value.int .i64 (-102)] 3))) := (Only.refl _ _).alloc _
      have C1 : Hid ((w2.alloc (Obj.cells #[Value.int .i64 (-102)] 3)).cell? ⟨w2.heap.size, 0, none⟩ = some (.int .i64 (-102))) := by unfold Hid; go_simp
      have HZ9 : Hid ((w2.alloc (Obj.cells #[Value.int .i64 (-102)] 3)).heap.size = w2.heap.size + 1) := by unfold Hid; simp
      have HU : Hid (w.heap.size ≤ (w2.alloc (Obj.cells #[Value.int .i64 (-102)] 3)).heap.size) := by unfold Hid; rw [HZ9.out]; omega
      go_wp2_with (at_builtin; go_must (refine wpList_pushV rfl _ _ rfl w.heap.size (.slice none 0 0) 0 [] (some ⟨w2.heap.size, 0, none⟩) 1 1 rfl (N0.out _) HU.out _ (by rw [HZ9.out]; exact rfl) (Nat.zero_le _) ?_; intro gy cy w3 ho3 hon3 hat3))
      have f0 := own_cell ho3 (j := 0) (by omega)
      have f1 := (hon3.cell (p := ⟨w2.heap.size, 0, none⟩) (World.block_lt_of_cell? (a := ⟨w2.heap.size, 0, none⟩) _ C1.out) (fun e => by cases e)).trans C1.out
      have F0 : Hid (w3.cell? ⟨gy, 0, none⟩ = some (.slice (some ⟨w2.heap.size, 0, none⟩) 1 1)) := f0
      have F1 := Hid.mk f1
      have O3 : Hid (Only (fun _ => False) w2 w3) := E1.out.trans hon3 (fun i _ e => by cases e)
      have G0 : Hid (w3.cell? ⟨gx, 0, none⟩ = some (.slice (some ⟨u1.heap.size, 0, none⟩) 1 1)) := (O3.out.cell (p := ⟨gx, 0, none⟩) hgx (fun e => e)).trans D0.out
      have G1 : Hid (w3.cell? ⟨u1.heap.size, 0, none⟩ = some (.int .i64 (-101))) := (O3.out.cell (p := ⟨u1.heap.size, 0, none⟩) hgy (fun e => e)).trans D1.out
      have BB : Hid (Below w.heap.size w w3) := B1.out.trans ((O2.out.below (by omega) (fun _ e => e.elim)).trans (O3.out.below (by omega) (fun _ e => e.elim)))
      clear f0 f1 ho3 hon3 hat3 E1 C1 HZ9 HU
      go_wp2
      go_loopw [6, 11] (fun v6 vs wr => v6 = .bool true ∧ ∃ i : Nat, vs = .int .i64 i ∧ i ≤ 1 ∧ w3 = wr) (fun _ vs _ => 1 - (intOf vs).toNat)
      case atStart => exact ⟨rfl, 0, rfl, Nat.zero_le _, rfl⟩
      case round =>
        obtain ⟨rfl, j1, rfl, hj, rfl⟩ := hrel
        by_cases hlt : j1 < 1
        · have e : j1 = 0 := by omega
          subst e
          have d0 := G0.out
          have d1 := G1.out
          go_wp2
          go_roundw
          case rel => exact ⟨by first | rfl | trivial, 1, by first | go_num | rfl, by omega, by first | rfl | trivial⟩
          case measure => simp [intOf]
        · have e : j1 = 1 := by omega
          subst e
          go_wp2
          go_loopw [6, 12] (fun v6 vs wr => v6 = .bool true ∧ ∃ i : Nat, vs = .int .i64 i ∧ i ≤ 1 ∧ w3 = wr) (fun _ vs _ => 1 - (intOf vs).toNat)
          case atStart => exact ⟨rfl, 0, rfl, Nat.zero_le _, rfl⟩
          case round =>
            obtain ⟨rfl, j2, rfl, hj2, rfl⟩ := hrel
            by_cases hlt2 : j2 < 1
            · have e : j2 = 0 := by omega
              subst e
              have d0 := F0.out
              have d1 := F1.out
              go_wp2
              go_roundw
              case rel => exact ⟨by first | rfl | trivial, 1, by first | go_num | rfl, by omega, by first | rfl | trivial⟩
              case measure => simp [intOf]
            · have e : j2 = 1 := by omega
              subst e
              go_wp2
              go_ret
              exact ⟨rfl, BB.out⟩

end Go.Proofs.YtgdkchdcbfgijaaDoor

/- Walks of yard.Layers, and of the document's Layers where what is given is not good. -/
namespace Go.Proofs.YtgdkchdcbfgijaaDoor
open Go.RowKit M

theorem ListsOwn.below {w w' : World} {base : Nat} {v : Value} {Ls : List (List Nat)} (h : ListsOwn w base v Ls) (hb : Below w.heap.size w w') : ListsOwn w' base v Ls := by
  obtain ⟨g, A, hv, hg, hr, ho, hn, hi⟩ := h
  exact ⟨g, A, hv, hg, rowIs_below hr hb, fun t ht => (ho t ht).below hb, hn, hi⟩

theorem ListsOwn.planQ {w : World} {base : Nat} {v : Value} {Ls : List (List Nat)} (h : ListsOwn w base v Ls) : PlanQ w v Ls := by
  obtain ⟨g, A, hv, hg, hr, ho, hn, hi⟩ := h
  exact ⟨_, _, hv, fun _ => ⟨g, rfl, fun t ht => ⟨A t, hr.cell ht, (ho t ht).rowQ⟩⟩⟩

/-- What yard.Layers answers. -/
def LayRes (w w' : World) (x : Option (List (List Nat))) (av : Option Addr) (nv cv : Nat) (ev : Int) : Prop :=
  (x = none ∧ av = none ∧ nv = 0 ∧ cv = 0 ∧ ev = 9) ∨ ∃ Ls, x = some Ls ∧ ev = 0 ∧ ListsOwn w' w.heap.size (.slice av nv cv) Ls

theorem LayTold.form {w w' : World} {v : Value} {x : Option (List (List Nat))} (h : LayTold w w' v x) :
    ∃ av nv cv, v = .slice av nv cv ∧ ((x = none ∧ av = none ∧ nv = 0 ∧ cv = 0) ∨ ∃ Ls g, x = some Ls ∧ av = some ⟨g, 0, none⟩ ∧ ListsOwn w' w.heap.size (.slice av nv cv) Ls) := by
  cases x with
  | none => exact ⟨none, 0, 0, h, .inl ⟨rfl, rfl, rfl, rfl⟩⟩
  | some Ls =>
    have h2 : ListsOwn w' w.heap.size v Ls := h
    obtain ⟨g, A, hv, r⟩ := h2
    subst hv
    exact ⟨_, _, _, rfl, .inr ⟨Ls, g, rfl, rfl, ⟨g, A, rfl, r⟩⟩⟩

set_option maxRecDepth 100000 in
set_option maxHeartbeats 1000000 in
theorem ylayers_err (ro co bu : Int) (cs : ByteArray) (a : Option Addr) (m cap : Nat) (fr tt : Nat → Int) (k cost : Int) (ar : Option Addr) (n capr : Nat) (R : Nat → RuleM) (w : World) (hs : cs.size ≤ maxLen) (hm : m ≤ maxLen) (hcap : m ≤ cap) (hn : n ≤ maxLen)
    (ha : 0 < m → ∃ b off, a = some ⟨b, off, none⟩ ∧ CartsIn w b off m fr tt) (har : RulesAt w ar n R) (he : loneE ro co bu cs m fr tt k n R cost ≠ 0) :
    Calls Tryd.prog 24 #[.agg #[.int .i64 ro, .int .i64 co, .string cs, .slice a m cap, .int .i64 bu], .int .i64 k, .slice ar n capr, .int .i64 cost] w fun e w' =>
      e = .returned (.tuple #[.slice none 0 0, .int .i64 (loneE ro co bu cs m fr tt k n R cost)]) ∧ Below w.heap.size w w' := by
  have HB0 : Hid (∀ o, Below w.heap.size w (w.alloc o)) := fun _ => (Below.refl _ w).alloc (Nat.le_refl _) _
  have HA := Hid.mk ha
  have HR := Hid.mk har
  obtain ⟨E, hE⟩ : ∃ E, E = loneE ro co bu cs m fr tt k n R cost := ⟨_, rfl⟩
  rw [← hE] at he ⊢
  have HL := Hid.mk hE
  have he' : (E != 0) = true := by simpa using he
  clear ha har he hE
  go_enter Tryd.func24, Tryd.ntmps24
  go_wp2_with fail
  refine (loneFault_any ro co bu cs a m cap fr tt k cost ar n capr R _ hs hm hcap hn (opt_below HA.out (HB0.out _)) (HR.out.below (HB0.out _))).mono ?_
  rintro e w1 ⟨he1, hb1⟩
  rw [← HL.out] at he1
  subst he1
  have HB1 : Hid (Below w.heap.size w w1) := (HB0.out _).trans (hb1.mono (by simp))
  clear hb1
  go_wp2
  go_ret2
  exact ⟨rfl, HB1.out⟩

set_option maxRecDepth 100000 in
set_option maxHeartbeats 2000000 in
theorem ylayers_ok (ro co bu : Int) (cs : ByteArray) (b off m cap : Nat) (fr tt : Nat → Int) (k f c T : Nat) (ar : Option Addr) (n capr : Nat) (R : Nat → RuleM) (w : World) (hcap : m ≤ cap) (hn : n ≤ maxLen) (hsd : SidesIn w) (hT : T ≤ 60)
    (hcs : CartsIn w b off m fr tt) (har : RulesAt w ar n R) (hwf : RulesWf n R) (he : givenE ro co bu cs m fr tt k n R = 0) (hf : fr k = (f : Int)) (hc : tt k = (c : Int)) :
    Calls Tryd.prog 24 #[.agg #[.int .i64 ro, .int .i64 co, .string cs, .slice (some ⟨b, off, none⟩) m cap, .int .i64 bu], .int .i64 k, .slice ar n capr, .int .i64 (T : Nat)] w fun e w' =>
      (∃ av nv cv ev, e = .returned (.tuple #[.slice av nv cv, .int .i64 ev]) ∧ LayRes w w' (layO co cs n R f c T) av nv cv ev) ∧ Below w.heap.size w w' := by
  obtain ⟨g1, g2, g3, g4⟩ := given_side he
  obtain ⟨s1, s2, s3⟩ := checkM_good g1
  obtain ⟨r1, r2⟩ := side_bd s1
  obtain ⟨r3, r4⟩ := side_bd s2
  obtain ⟨hp1, hp2⟩ := mul_bd r1 r2 r3 r4
  have hs : cs.size ≤ 36 := by omega
  obtain ⟨hm4, hfree⟩ := carts_free g1
  have hkm : k < m := by omega
  obtain ⟨ff, fc⟩ := hfree k hkm
  rw [hf] at ff
  rw [hc] at fc
  have c0 := (hcs k hkm).1
  have c1 := (hcs k hkm).2
  rw [hf] at c0
  rw [hc] at c1
  have hbl := World.block_lt_of_cell? _ _ c0
  have HB0 : Hid (∀ o, Below w.heap.size w (w.alloc o)) := fun _ => (Below.refl _ w).alloc (Nat.le_refl _) _
  have HCS := Hid.mk hcs
  have HR := Hid.mk har
  have HWF := Hid.mk hwf
  have HSD := Hid.mk hsd
  have FF := Hid.mk ff
  have FC := Hid.mk fc
  have RB := Hid.mk g4
  have SZ := Hid.mk s3
  have HL : Hid (loneE ro co bu cs m fr tt k n R (T : Nat) = 0) := (loneE_given (by omega) (by omega)).trans he
  obtain ⟨X, hX⟩ : ∃ X, X = layO co cs n R f c T := ⟨_, rfl⟩
  rw [← hX]
  have HXE := Hid.mk hX
  clear hcs har hwf hsd ff fc g4 s3 he g1 g2 s1 s2 hp1 hp2 hfree hf hc g3 hX
  have hnil : ∀ (w : World) (a : Option Addr) (n c : Nat), (binOp .eql 35 (.slice a n c) (.slice none 0 0)).run Tryd.prog w = .ok (.bool a.isNone) w := fun w a n c => Lib.run_eql_slice_nil w _ _ a n c 0 0 Tryd.underlying35
  go_enter Tryd.func24, Tryd.ntmps24
  go_wp2_with fail
  refine (loneFault_any ro co bu cs _ m cap fr tt k (T : Nat) ar n capr R _ (by unfold maxLen; omega) (by unfold maxLen; omega) hcap hn (fun _ => ⟨b, off, rfl, HCS.out.below (HB0.out _)⟩) (HR.out.below (HB0.out _))).mono ?_
  rintro e w1 ⟨he1, hb1⟩
  rw [HL.out] at he1
  subst he1
  have hz : w.heap.size < w1.heap.size := by have := hb1.size; simp at this; omega
  have HB1 : Hid (Below w.heap.size w w1) := (HB0.out _).trans (hb1.mono (by simp))
  have k0 : w1.cell? ⟨b, off + k * 2, none⟩ = some (.int .i64 (f : Int)) := cell_later HB1.out c0
  have k1 : w1.cell? ⟨b, off + k * 2 + 1, none⟩ = some (.int .i64 (c : Int)) := cell_later HB1.out c1
  have y1 : ∀ o, w1.cell? ⟨w.heap.size, o, none⟩ = #[Value.int .i64 ro, .int .i64 co, .string cs, .slice (some ⟨b, off, none⟩) m cap, .int .i64 bu][o]? := by
    intro o
    rw [hb1.cell (p := ⟨w.heap.size, o, none⟩) (by show w.heap.size < _; simp)]; go_simp
  have y10 := y1 0
  have y11 := y1 1
  have y12 := y1 2
  have y13 := y1 3
  have y14 := y1 4
  simp only [List.getElem?_toArray, List.getElem?_cons_zero, List.getElem?_cons_succ] at y10 y11 y12 y13 y14
  have hkI : (k : Int) < (m : Int) := by omega
  have LA : Hid (∀ u : World, Below w.heap.size w u → Calls Tryd.prog 69 #[.agg #[Value.int .i64 ro, .int .i64 co, .string cs, .slice (some ⟨b, off, none⟩) m cap, .int .i64 bu], .agg #[.int .i64 (f : Int), .int .i64 (c : Int)], .slice ar n capr, .int .i64 (T : Nat)] u fun e w' =>
      ∃ v, e = .returned v ∧ LayTold u w' v X ∧ Below u.heap.size u w') := fun u hu => by
    rw [HXE.out]
    exact layers_any ro co bu cs _ m cap f c T n capr ar R u (HSD.out.below hu) r1 r2 r3 r4 hs SZ.out RB.out HWF.out (HR.out.below hu) FF.out FC.out hT
  clear hb1 c0 c1 y1
  go_upto_region 4 with fail
  go_region_held3 (fun w' => w'.cell? ⟨w.heap.size, 0, none⟩ = some (.int .i64 ro) ∧ w'.cell? ⟨w.heap.size, 1, none⟩ = some (.int .i64 co) ∧ w'.cell? ⟨w.heap.size, 2, none⟩ = some (.string cs) ∧ w'.cell? ⟨w.heap.size, 3, none⟩ = some (.slice (some ⟨b, off, none⟩) m cap) ∧ w'.cell? ⟨w.heap.size, 4, none⟩ = some (.int .i64 bu) ∧ w'.cell? ⟨b, off + k * 2, none⟩ = some (.int .i64 (f : Int)) ∧ w'.cell? ⟨b, off + k * 2 + 1, none⟩ = some (.int .i64 (c : Int))) (go_keep)
    (first
      | (go_at_call_of 69 (Value.slice ar n capr); refine (LA.out _ (HB1.out.drew)).mono ?_; rintro e w4 ⟨v, rfl, hT4, hb4⟩; obtain ⟨av, nv, cv, rfl, hform⟩ := hT4.form; have HFM := Hid.mk hform; have HB4 : Hid (Below w.heap.size w w4) := HB1.out.drew.trans (hb4.mono (Nat.le_of_lt hz)); have q0 : w4.cell? ⟨w.heap.size, 0, none⟩ = some (.int .i64 ro) := (hb4.cell (p := ⟨w.heap.size, 0, none⟩) hz).trans y10; have q1 : w4.cell? ⟨w.heap.size, 1, none⟩ = some (.int .i64 co) := (hb4.cell (p := ⟨w.heap.size, 1, none⟩) hz).trans y11; have q2 : w4.cell? ⟨w.heap.size, 2, none⟩ = some (.string cs) := (hb4.cell (p := ⟨w.heap.size, 2, none⟩) hz).trans y12; have q3 : w4.cell? ⟨w.heap.size, 3, none⟩ = some (.slice (some ⟨b, off, none⟩) m cap) := (hb4.cell (p := ⟨w.heap.size, 3, none⟩) hz).trans y13; have q4 : w4.cell? ⟨w.heap.size, 4, none⟩ = some (.int .i64 bu) := (hb4.cell (p := ⟨w.heap.size, 4, none⟩) hz).trans y14; have q5 : w4.cell? ⟨b, off + k * 2, none⟩ = some (.int .i64 (f : Int)) := (hb4.cell (p := ⟨b, off + k * 2, none⟩) (Nat.lt_trans hbl hz)).trans k0; have q6 : w4.cell? ⟨b, off + k * 2 + 1, none⟩ = some (.int .i64 (c : Int)) := (hb4.cell (p := ⟨b, off + k * 2 + 1, none⟩) (Nat.lt_trans hbl hz)).trans k1; clear hT4 hform hb4))
  clear q0 q1 q2 q3 q4 q5 q6 k0 k1 y10 y11 y12 y13 y14
  rcases HFM.out with ⟨hx, rfl, rfl, rfl⟩ | ⟨Ls, g, hx, rfl, hlo⟩
  · have HX := Hid.mk hx
    clear hx
    go_wp2
    go_ret2
    exact ⟨⟨_, _, _, _, rfl, .inl ⟨HX.out, rfl, rfl, rfl, rfl⟩⟩, HB4.out⟩
  · have HX := Hid.mk hx
    have HLO := Hid.mk hlo
    have hz1 : w.heap.size ≤ w1.heap.size := by omega
    clear hx hlo
    go_wp2
    go_ret2
    refine ⟨⟨_, _, _, _, rfl, .inr ⟨Ls, HX.out, rfl, ?_⟩⟩, HB4.out⟩
    obtain ⟨g', A, hv, hg, hr, ho, hn', hi⟩ := HLO.out
    exact ⟨g', A, hv, Nat.le_trans hz1 hg, hr, fun t ht => (ho t ht).le hz1, hn', hi⟩

set_option maxRecDepth 100000 in
set_option maxHeartbeats 2000000 in
theorem rlayers_err (ro co bu : Int) (cs : ByteArray) (a : Option Addr) (m cap : Nat) (fr tt : Nat → Int) (k cost : Int) (ar : Option Addr) (n capr : Nat) (R : Nat → RuleM) (w : World) (hs : cs.size ≤ maxLen) (hm : m ≤ maxLen) (hn : n ≤ maxLen)
    (ha : 0 < m → ∃ b off, a = some ⟨b, off, none⟩ ∧ CartsIn w b off m fr tt) (har : RulesAt w ar n R) (he : loneE ro co bu cs m fr tt k n R cost ≠ 0) :
    Calls Tryd.prog 25 #[.agg #[.int .i64 ro, .int .i64 co, .string cs, .slice a m cap, .int .i64 bu], .int .i64 k, .slice ar n capr, .int .i64 cost] w fun e w' =>
      e = .returned (.tuple #[.slice none 0 0, .int .i64 (loneE ro co bu cs m fr tt k n R cost)]) ∧ Below w.heap.size w w' := by
  have HA := Hid.mk har
  have HC := Hid.mk ha
  have HE := Hid.mk he
  have hmm := hm
  unfold maxLen at hm
  clear ha har he
  have HB0 : Hid (Below w.heap.size w (w.alloc (Obj.cells #[Value.int IntKind.i64 ro, Value.int IntKind.i64 co, Value.string cs, .slice a m cap, Value.int IntKind.i64 bu] 24))) := (Below.refl _ w).alloc (Nat.le_refl _) _
  go_enter Tryd.func25, Tryd.ntmps25
  go_wp2_with fail
  have y0 : ∀ o, (w.alloc (Obj.cells #[Value.int IntKind.i64 ro, Value.int IntKind.i64 co, Value.string cs, .slice a m cap, Value.int IntKind.i64 bu] 24)).cell? ⟨w.heap.size, o, none⟩ = #[Value.int IntKind.i64 ro, Value.int IntKind.i64 co, Value.string cs, .slice a m cap, Value.int IntKind.i64 bu][o]? := by
    intro o; go_simp
  have hz0 : (w.alloc (Obj.cells #[Value.int IntKind.i64 ro, Value.int IntKind.i64 co, Value.string cs, .slice a m cap, Value.int IntKind.i64 bu] 24)).heap.size = w.heap.size + 1 := by simp
  generalize w.alloc (Obj.cells #[Value.int IntKind.i64 ro, Value.int IntKind.i64 co, Value.string cs, .slice a m cap, Value.int IntKind.i64 bu] 24) = w1 at *
  refine (rcheck_any _ _ _ _ _ _ _ fr tt _ hs hmm (by exact opt_below HC.out HB0.out)).mono ?_
  rintro e w2 ⟨rfl, hb2⟩
  obtain ⟨e2, he2⟩ : ∃ v, v = (checkM ro co cs m fr tt bu).2 := ⟨_, rfl⟩
  obtain ⟨e1, he1⟩ : ∃ v, v = (checkM ro co cs m fr tt bu).1 := ⟨_, rfl⟩
  rw [← he2, ← he1]
  have HE1 := Hid.mk he1
  have hzl1 : w.heap.size + 1 ≤ w1.heap.size := by omega
  have B2 : Hid (Below w.heap.size w w2) := HB0.out.trans (hb2.mono (by omega))
  have Y2 : Hid (∀ o, w2.cell? ⟨w.heap.size, o, none⟩ = #[Value.int IntKind.i64 ro, Value.int IntKind.i64 co, Value.string cs, .slice a m cap, Value.int IntKind.i64 bu][o]?) := fun o => (hb2.cell (p := ⟨w.heap.size, o, none⟩) (by show w.heap.size < _; omega)).trans (y0 o)
  have hz2 : w.heap.size + 1 ≤ w2.heap.size := by have := hb2.size; omega
  have y20 := Y2.out 0
  have y21 := Y2.out 1
  have y22 := Y2.out 2
  have y23 := Y2.out 3
  have y24 := Y2.out 4
  clear y0 hb2 he2 hz0 he1
  by_cases q1 : e1 = 0
  · subst q1
    by_cases q2 : cost < 0
    · have L7 : Hid (loneE ro co bu cs m fr tt k n R cost = 7) := by
        unfold Hid loneE
        rw [if_pos HE1.out.symm, if_neg (by omega)]
      have hd : decide (cost < 0) = true := decide_eq_true q2
      go_wp2
      go_ret2
      exact ⟨by rw [L7.out]; rfl, B2.out⟩
    · have hd : decide (cost < 0) = false := decide_eq_false q2
      by_cases q3 : 60 < cost
      · have L7 : Hid (loneE ro co bu cs m fr tt k n R cost = 7) := by
          unfold Hid loneE
          rw [if_pos HE1.out.symm, if_neg (by omega)]
        have hd2 : decide (60 < cost) = true := decide_eq_true q3
        go_wp2
        go_ret2
        exact ⟨by rw [L7.out]; rfl, B2.out⟩
      · have hd2 : decide (60 < cost) = false := decide_eq_false q3
        have LG : Hid (loneE ro co bu cs m fr tt k n R cost = givenE ro co bu cs m fr tt k n R) := loneE_given (by omega) (by omega)
        have HGE : Hid (givenE ro co bu cs m fr tt k n R ≠ 0) := by unfold Hid; rw [← LG.out]; exact HE.out
        go_wp2_with fail
        refine (given_any _ _ _ _ _ _ _ fr tt _ _ _ _ R _ hs hmm hn (by exact opt_below HC.out B2.out) (by exact HA.out.below B2.out)).mono ?_
        rintro e w3 ⟨rfl, hb3⟩
        have B3 : Hid (Below w.heap.size w w3) := B2.out.trans (hb3.mono (by omega))
        obtain ⟨E, hE⟩ : ∃ E, E = givenE ro co bu cs m fr tt k n R := ⟨_, rfl⟩
        rw [← hE]
        have hE' : (E != 0) = true := by have := HGE.out; rw [← hE] at this; simpa using this
        have HEE := Hid.mk hE
        clear hE hb3
        go_wp2
        go_ret2
        exact ⟨by rw [LG.out, ← HEE.out]; rfl, B3.out⟩
  · have L1 : Hid (loneE ro co bu cs m fr tt k n R cost = e1) := by
      unfold Hid loneE
      rw [if_neg (by rw [← HE1.out]; exact q1), HE1.out]
    have hE' : (e1 != 0) = true := by simpa using q1
    go_wp2
    go_ret2
    exact ⟨by rw [L1.out]; rfl, B2.out⟩

end Go.Proofs.YtgdkchdcbfgijaaDoor

/- Walk of Layered: the law answers true. -/
namespace Go.Proofs.YtgdkchdcbfgijaaDoor
open Go.RowKit M

theorem planQ_nil (w : World) : PlanQ w (.slice none 0 0) [] := ⟨none, 0, rfl, fun h => absurd h (Nat.lt_irrefl 0)⟩

set_option maxRecDepth 100000 in
set_option maxHeartbeats 4000000 in
theorem layered_err (ro co bu : Int) (cs : ByteArray) (a : Option Addr) (m cap : Nat) (fr tt : Nat → Int) (k cost : Int) (ar : Option Addr) (n capr : Nat) (R : Nat → RuleM) (w : World) (hs : cs.size ≤ maxLen) (hm : m * 16 ≤ 140737488351232) (hn : n * 32 ≤ 140737488351232)
    (ha : 0 < m → ∃ b off, a = some ⟨b, off, none⟩ ∧ CartsIn w b off m fr tt) (har : RulesAt w ar n R) (he : loneE ro co bu cs m fr tt k n R cost ≠ 0) :
    Calls Tryd.prog 5 #[.agg #[.int .i64 ro, .int .i64 co, .string cs, .slice a m cap, .int .i64 bu], .int .i64 k, .slice ar n capr, .int .i64 cost] w fun e w' =>
      e = .returned (.bool true) ∧ Below w.heap.size w w' := by
  have hmm : m ≤ maxLen := by unfold maxLen; omega
  have hnm : n ≤ maxLen := by unfold maxLen; omega
  have HA := Hid.mk ha
  have HAR := Hid.mk har
  have HE := Hid.mk he
  have HB0 : Hid (∀ (w : World) (o : Obj), Below w.heap.size w (w.alloc o)) := fun w _ => (Below.refl _ w).alloc (Nat.le_refl _) _
  clear ha har he
  go_enter Tryd.func5, Tryd.ntmps5
  go_wp2_with fail
  refine (handed_any _ _ _ _ _ _ _ fr tt _ hm (by exact opt_below HA.out (HB0.out _ _))).mono ?_
  rintro e w1 ⟨g, rfl, hg, hrow, hb1⟩
  have y1 : ∀ o, w1.cell? ⟨w.heap.size, o, none⟩ = #[Value.int .i64 ro, .int .i64 co, .string cs, .slice a m cap, .int .i64 bu][o]? := by
    intro o
    rw [hb1.cell (p := ⟨w.heap.size, o, none⟩) (by show w.heap.size < _; simp)]; go_simp
  have hB1 : Hid (Below w.heap.size w w1) := (HB0.out _ _).trans (hb1.mono (by simp))
  have hz1 : w.heap.size < w1.heap.size := by have := hb1.size; simp at this; omega
  have HR := Hid.mk hrow
  have HA1 := Hid.mk (opt_below HA.out hB1.out)
  have HL1 := Hid.mk (HAR.out.below hB1.out)
  clear hrow hb1
  go_wp2_with fail
  refine (handedRules_any _ _ _ R _ hn (HL1.out.below (HB0.out _ _))).mono ?_
  rintro e w2 ⟨gr, rfl, hgr, hrr, hb2⟩
  have hB2 : Hid (Below w1.heap.size w1 w2) := (HB0.out _ _).trans (hb2.mono (by simp))
  have y2 : ∀ o, w2.cell? ⟨w.heap.size, o, none⟩ = #[Value.int .i64 ro, .int .i64 co, .string cs, .slice a m cap, .int .i64 bu][o]? := fun o => (hB2.out.cell (p := ⟨w.heap.size, o, none⟩) hz1).trans (y1 o)
  have h2 : ∀ o, w2.cell? ⟨w1.heap.size, o, none⟩ = #[Value.int .i64 ro, .int .i64 co, .string cs, .slice (some ⟨g, 0, none⟩) m (m + 8), .int .i64 bu][o]? := by
    intro o
    rw [hb2.cell (p := ⟨w1.heap.size, o, none⟩) (by show w1.heap.size < _; simp)]; go_simp
  have hz2 : w1.heap.size < w2.heap.size := by have := hb2.size; simp at this; omega
  have HR2 := Hid.mk (rowIs_below HR.out hB2.out)
  have HRR2 := Hid.mk hrr
  have HA2 := Hid.mk (opt_below HA1.out hB2.out)
  have HL2 := Hid.mk (HL1.out.below hB2.out)
  clear y1 hb2 hrr
  go_wp2_with fail
  refine (ylayers_err _ _ _ _ _ _ _ fr tt k cost _ _ _ R _ hs hmm (by omega) hnm (by exact fun _ => ⟨g, 0, rfl, row_carts HR2.out⟩) (fun _ => ⟨gr, 0, rfl, row_rules HRR2.out⟩) HE.out).mono ?_
  rintro e w3 ⟨rfl, hb3⟩
  have hB3 := Hid.mk hb3
  have y3 : ∀ o, w3.cell? ⟨w.heap.size, o, none⟩ = #[Value.int .i64 ro, .int .i64 co, .string cs, .slice a m cap, .int .i64 bu][o]? := fun o => (hb3.cell (p := ⟨w.heap.size, o, none⟩) (by show w.heap.size < _; omega)).trans (y2 o)
  have h3 : ∀ o, w3.cell? ⟨w1.heap.size, o, none⟩ = #[Value.int .i64 ro, .int .i64 co, .string cs, .slice (some ⟨g, 0, none⟩) m (m + 8), .int .i64 bu][o]? := fun o => (hb3.cell (p := ⟨w1.heap.size, o, none⟩) (by show w1.heap.size < _; omega)).trans (h2 o)
  have hz3 : w2.heap.size ≤ w3.heap.size := hb3.size
  have HR3 := Hid.mk (rowIs_below HR2.out hb3)
  have HRR3 := Hid.mk (rowIs_below HRR2.out hb3)
  have HA3 := Hid.mk (opt_below HA2.out hb3)
  have HL3 := Hid.mk (HL2.out.below hb3)
  clear y2 h2 hb3
  go_wp2_with fail
  refine (ylayers_err _ _ _ _ _ _ _ fr tt k cost _ _ _ R _ hs hmm (by omega) hnm (by exact fun _ => ⟨g, 0, rfl, row_carts HR3.out⟩) (fun _ => ⟨gr, 0, rfl, row_rules HRR3.out⟩) HE.out).mono ?_
  rintro e w4 ⟨rfl, hb4⟩
  have hB4 := Hid.mk hb4
  have y4 : ∀ o, w4.cell? ⟨w.heap.size, o, none⟩ = #[Value.int .i64 ro, .int .i64 co, .string cs, .slice a m cap, .int .i64 bu][o]? := fun o => (hb4.cell (p := ⟨w.heap.size, o, none⟩) (by show w.heap.size < _; omega)).trans (y3 o)
  have h4 : ∀ o, w4.cell? ⟨w1.heap.size, o, none⟩ = #[Value.int .i64 ro, .int .i64 co, .string cs, .slice (some ⟨g, 0, none⟩) m (m + 8), .int .i64 bu][o]? := fun o => (hb4.cell (p := ⟨w1.heap.size, o, none⟩) (by show w1.heap.size < _; omega)).trans (h3 o)
  have hz4 : w3.heap.size ≤ w4.heap.size := hb4.size
  have HR4 := Hid.mk (rowIs_below HR3.out hb4)
  have HRR4 := Hid.mk (rowIs_below HRR3.out hb4)
  have HA4 := Hid.mk (opt_below HA3.out hb4)
  have HL4 := Hid.mk (HL3.out.below hb4)
  clear y3 h3 hb4
  go_wp2_with fail
  refine (still_any _ _ _ _ _ _ _ _ fr tt _ hm (by exact HA4.out) (by exact HR4.out)).mono ?_
  rintro e w5 ⟨rfl, hb5⟩
  have hB5 := Hid.mk hb5
  have y5 : ∀ o, w5.cell? ⟨w.heap.size, o, none⟩ = #[Value.int .i64 ro, .int .i64 co, .string cs, .slice a m cap, .int .i64 bu][o]? := fun o => (hb5.cell (p := ⟨w.heap.size, o, none⟩) (by show w.heap.size < _; omega)).trans (y4 o)
  have hz5 : w4.heap.size ≤ w5.heap.size := hb5.size
  have HRR5 := Hid.mk (rowIs_below HRR4.out hb5)
  have HA5 := Hid.mk (opt_below HA4.out hb5)
  have HL5 := Hid.mk (HL4.out.below hb5)
  clear y4 h4 hb5
  go_wp2_with fail
  refine (stillRules_any _ _ _ _ R _ hn HL5.out HRR5.out).mono ?_
  rintro e w6 ⟨rfl, hb6⟩
  have hB6 := Hid.mk hb6
  have y6 : ∀ o, w6.cell? ⟨w.heap.size, o, none⟩ = #[Value.int .i64 ro, .int .i64 co, .string cs, .slice a m cap, .int .i64 bu][o]? := fun o => (hb6.cell (p := ⟨w.heap.size, o, none⟩) (by show w.heap.size < _; omega)).trans (y5 o)
  have hz6 : w5.heap.size ≤ w6.heap.size := hb6.size
  have HA6 := Hid.mk (opt_below HA5.out hb6)
  have HL6 := Hid.mk (HL5.out.below hb6)
  clear y5 hb6
  go_wp2_with fail
  refine (rlayers_err _ _ _ _ _ _ _ fr tt k cost _ _ _ R _ hs hmm hnm HA6.out HL6.out HE.out).mono ?_
  rintro e w7 ⟨rfl, hb7⟩
  have hB7 := Hid.mk hb7
  have hz7 : w6.heap.size ≤ w7.heap.size := hb7.size
  have hz70 : w.heap.size ≤ w7.heap.size := by omega
  have HB : Hid (Below w.heap.size w w7) := hB1.out.trans ((hB2.out.trans ((hB3.out.trans ((hB4.out.trans ((hB5.out.trans ((hB6.out.trans (hB7.out.mono (by omega))).mono (by omega))).mono (by omega))).mono (by omega))).mono (by omega))).mono (by omega))
  clear y6 hb7
  obtain ⟨E, hE⟩ : ∃ E, E = loneE ro co bu cs m fr tt k n R cost := ⟨_, rfl⟩
  rw [← hE]
  have hE' : (E != 0) = true := by have := HE.out; rw [← hE] at this; simpa using this
  have hEE : (E != E) = false := by simp
  clear hE
  go_wp2_with fail
  refine (samePlans_q _ _ [] _ (by simp) (fun t ht => absurd ht (by simp)) (planQ_nil _) (planQ_nil _)).mono ?_
  rintro e w8 ⟨rfl, hb8⟩
  have hB8 := Hid.mk hb8
  have hz8 : w7.heap.size ≤ w8.heap.size := hb8.size
  clear hb8
  go_wp2_with fail
  refine (samePlans_q _ _ [] _ (by simp) (fun t ht => absurd ht (by simp)) (planQ_nil _) (planQ_nil _)).mono ?_
  rintro e w9 ⟨rfl, hb9⟩
  have hB9 := Hid.mk hb9
  have hz9 : w8.heap.size ≤ w9.heap.size := hb9.size
  clear hb9
  go_wp2_with fail
  refine (both_nil _).mono ?_
  rintro e w10 ⟨rfl, hb10⟩
  have HBX : Hid (Below w.heap.size w w10) := HB.out.trans ((hB8.out.trans ((hB9.out.trans (hb10.mono (by omega))).mono (by omega))).mono (by omega))
  clear hb10
  go_wp2_with fail
  refine (num_any _ _).mono ?_
  rintro e w11 ⟨rfl, hw11⟩
  have hw11 := hw11.symm
  subst hw11
  go_wp2_with fail
  refine (num_any _ _).mono ?_
  rintro e w11 ⟨rfl, hw11⟩
  have hw11 := hw11.symm
  subst hw11
  go_wp2
  go_ret
  exact ⟨rfl, HBX.out⟩

set_option maxRecDepth 100000 in
set_option maxHeartbeats 8000000 in
theorem layered_ok (ro co bu : Int) (cs : ByteArray) (b off m cap : Nat) (fr tt : Nat → Int) (k f c T : Nat) (ar : Option Addr) (n capr : Nat) (R : Nat → RuleM) (w : World) (hm : m * 16 ≤ 140737488351232) (hn : n * 32 ≤ 140737488351232) (hsd : SidesIn w) (hT : T ≤ 60)
    (hcs : CartsIn w b off m fr tt) (har : RulesAt w ar n R) (hwf : RulesWf n R) (he : givenE ro co bu cs m fr tt k n R = 0) (hf : fr k = (f : Int)) (hc : tt k = (c : Int)) :
    Calls Tryd.prog 5 #[.agg #[.int .i64 ro, .int .i64 co, .string cs, .slice (some ⟨b, off, none⟩) m cap, .int .i64 bu], .int .i64 k, .slice ar n capr, .int .i64 (T : Nat)] w fun e w' =>
      e = .returned (.bool true) ∧ Below w.heap.size w w' := by
  have hmm : m ≤ maxLen := by unfold maxLen; omega
  have hnm : n ≤ maxLen := by unfold maxLen; omega
  obtain ⟨g1, g2, g3, g4⟩ := given_side he
  obtain ⟨s1, s2, s3⟩ := checkM_good g1
  obtain ⟨r1, r2⟩ := side_bd s1
  obtain ⟨r3, r4⟩ := side_bd s2
  obtain ⟨hp1, hp2⟩ := mul_bd r1 r2 r3 r4
  have hs36 : cs.size ≤ 36 := by omega
  have hs : cs.size ≤ maxLen := by unfold maxLen; omega
  obtain ⟨hm4, hfree⟩ := carts_free g1
  have hkm : k < m := by omega
  obtain ⟨ff, fc⟩ := hfree k hkm
  rw [hf] at ff
  rw [hc] at fc
  have hfN := free_lt ff
  have hcN := free_lt fc
  have HA : Hid (0 < m → ∃ b' off', (some ⟨b, off, none⟩ : Option Addr) = some ⟨b', off', none⟩ ∧ CartsIn w b' off' m fr tt) := fun _ => ⟨b, off, rfl, hcs⟩
  have HAR := Hid.mk har
  have HWF := Hid.mk hwf
  have HSD := Hid.mk hsd
  have RB := Hid.mk g4
  have FF := Hid.mk ff
  have FC := Hid.mk fc
  have HE := Hid.mk he
  have HB0 : Hid (∀ (w : World) (o : Obj), Below w.heap.size w (w.alloc o)) := fun w _ => (Below.refl _ w).alloc (Nat.le_refl _) _
  clear hcs har hwf hsd he g1 g2 g3 g4 s1 s2 s3 hp1 hp2 hfree ff fc
  go_enter Tryd.func5, Tryd.ntmps5
  go_wp2_with fail
  refine (handed_any _ _ _ _ _ _ _ fr tt _ hm (by exact opt_below HA.out (HB0.out _ _))).mono ?_
  rintro e w1 ⟨g, rfl, hg, hrow, hb1⟩
  have y1 : ∀ o, w1.cell? ⟨w.heap.size, o, none⟩ = #[Value.int .i64 ro, .int .i64 co, .string cs, .slice (some ⟨b, off, none⟩) m cap, .int .i64 bu][o]? := by
    intro o
    rw [hb1.cell (p := ⟨w.heap.size, o, none⟩) (by show w.heap.size < _; simp)]; go_simp
  have hB1 : Hid (Below w.heap.size w w1) := (HB0.out _ _).trans (hb1.mono (by simp))
  have hz1 : w.heap.size < w1.heap.size := by have := hb1.size; simp at this; omega
  have HR := Hid.mk hrow
  have HA1 := Hid.mk (opt_below HA.out hB1.out)
  have HL1 := Hid.mk (HAR.out.below hB1.out)
  have HS1 := Hid.mk (HSD.out.below hB1.out)
  clear hrow hb1
  go_wp2_with fail
  refine (handedRules_any _ _ _ R _ hn (HL1.out.below (HB0.out _ _))).mono ?_
  rintro e w2 ⟨gr, rfl, hgr, hrr, hb2⟩
  have hB2 : Hid (Below w1.heap.size w1 w2) := (HB0.out _ _).trans (hb2.mono (by simp))
  have y2 : ∀ o, w2.cell? ⟨w.heap.size, o, none⟩ = #[Value.int .i64 ro, .int .i64 co, .string cs, .slice (some ⟨b, off, none⟩) m cap, .int .i64 bu][o]? := fun o => (hB2.out.cell (p := ⟨w.heap.size, o, none⟩) hz1).trans (y1 o)
  have h2 : ∀ o, w2.cell? ⟨w1.heap.size, o, none⟩ = #[Value.int .i64 ro, .int .i64 co, .string cs, .slice (some ⟨g, 0, none⟩) m (m + 8), .int .i64 bu][o]? := by
    intro o
    rw [hb2.cell (p := ⟨w1.heap.size, o, none⟩) (by show w1.heap.size < _; simp)]; go_simp
  have hz2 : w1.heap.size < w2.heap.size := by have := hb2.size; simp at this; omega
  have HR2 := Hid.mk (rowIs_below HR.out hB2.out)
  have HRR2 := Hid.mk hrr
  have HA2 := Hid.mk (opt_below HA1.out hB2.out)
  have HL2 := Hid.mk (HL1.out.below hB2.out)
  have HS2 := Hid.mk (HS1.out.below hB2.out)
  clear y1 hb2 hrr
  go_wp2_with fail
  refine (ylayers_ok _ _ _ _ g 0 _ _ fr tt k f c T _ _ _ R _ (by omega) hnm HS2.out hT (row_carts HR2.out) (fun _ => ⟨gr, 0, rfl, row_rules HRR2.out⟩) HWF.out HE.out hf hc).mono ?_
  rintro e w3 ⟨⟨a1, n1, cc1, e1, rfl, hres1⟩, hb3⟩
  have RES1 := Hid.mk hres1
  have hB3 := Hid.mk hb3
  have y3 : ∀ o, w3.cell? ⟨w.heap.size, o, none⟩ = #[Value.int .i64 ro, .int .i64 co, .string cs, .slice (some ⟨b, off, none⟩) m cap, .int .i64 bu][o]? := fun o => (hb3.cell (p := ⟨w.heap.size, o, none⟩) (by show w.heap.size < _; omega)).trans (y2 o)
  have h3 : ∀ o, w3.cell? ⟨w1.heap.size, o, none⟩ = #[Value.int .i64 ro, .int .i64 co, .string cs, .slice (some ⟨g, 0, none⟩) m (m + 8), .int .i64 bu][o]? := fun o => (hb3.cell (p := ⟨w1.heap.size, o, none⟩) (by show w1.heap.size < _; omega)).trans (h2 o)
  have hz3 : w2.heap.size ≤ w3.heap.size := hb3.size
  have HR3 := Hid.mk (rowIs_below HR2.out hb3)
  have HRR3 := Hid.mk (rowIs_below HRR2.out hb3)
  have HA3 := Hid.mk (opt_below HA2.out hb3)
  have HL3 := Hid.mk (HL2.out.below hb3)
  have HS3 := Hid.mk (HS2.out.below hb3)
  clear y2 h2 hb3 hres1
  go_wp2_with fail
  refine (ylayers_ok _ _ _ _ g 0 _ _ fr tt k f c T _ _ _ R _ (by omega) hnm HS3.out hT (row_carts HR3.out) (fun _ => ⟨gr, 0, rfl, row_rules HRR3.out⟩) HWF.out HE.out hf hc).mono ?_
  rintro e w4 ⟨⟨a2, n2, cc2, e2, rfl, hres2⟩, hb4⟩
  have RES2 := Hid.mk hres2
  have hB4 := Hid.mk hb4
  have y4 : ∀ o, w4.cell? ⟨w.heap.size, o, none⟩ = #[Value.int .i64 ro, .int .i64 co, .string cs, .slice (some ⟨b, off, none⟩) m cap, .int .i64 bu][o]? := fun o => (hb4.cell (p := ⟨w.heap.size, o, none⟩) (by show w.heap.size < _; omega)).trans (y3 o)
  have h4 : ∀ o, w4.cell? ⟨w1.heap.size, o, none⟩ = #[Value.int .i64 ro, .int .i64 co, .string cs, .slice (some ⟨g, 0, none⟩) m (m + 8), .int .i64 bu][o]? := fun o => (hb4.cell (p := ⟨w1.heap.size, o, none⟩) (by show w1.heap.size < _; omega)).trans (h3 o)
  have hz4 : w3.heap.size ≤ w4.heap.size := hb4.size
  have HR4 := Hid.mk (rowIs_below HR3.out hb4)
  have HRR4 := Hid.mk (rowIs_below HRR3.out hb4)
  have HA4 := Hid.mk (opt_below HA3.out hb4)
  have HL4 := Hid.mk (HL3.out.below hb4)
  clear y3 h3 hb4 hres2
  go_wp2_with fail
  refine (still_any _ _ _ _ _ _ _ _ fr tt _ hm (by exact HA4.out) (by exact HR4.out)).mono ?_
  rintro e w5 ⟨rfl, hb5⟩
  have hB5 := Hid.mk hb5
  have y5 : ∀ o, w5.cell? ⟨w.heap.size, o, none⟩ = #[Value.int .i64 ro, .int .i64 co, .string cs, .slice (some ⟨b, off, none⟩) m cap, .int .i64 bu][o]? := fun o => (hb5.cell (p := ⟨w.heap.size, o, none⟩) (by show w.heap.size < _; omega)).trans (y4 o)
  have hz5 : w4.heap.size ≤ w5.heap.size := hb5.size
  have HRR5 := Hid.mk (rowIs_below HRR4.out hb5)
  have HA5 := Hid.mk (opt_below HA4.out hb5)
  have HL5 := Hid.mk (HL4.out.below hb5)
  clear y4 h4 hb5
  go_wp2_with fail
  refine (stillRules_any _ _ _ _ R _ hn HL5.out HRR5.out).mono ?_
  rintro e w6 ⟨rfl, hb6⟩
  have hB6 := Hid.mk hb6
  have y6 : ∀ o, w6.cell? ⟨w.heap.size, o, none⟩ = #[Value.int .i64 ro, .int .i64 co, .string cs, .slice (some ⟨b, off, none⟩) m cap, .int .i64 bu][o]? := fun o => (hb6.cell (p := ⟨w.heap.size, o, none⟩) (by show w.heap.size < _; omega)).trans (y5 o)
  have hz6 : w5.heap.size ≤ w6.heap.size := hb6.size
  have HA6 := Hid.mk (opt_below HA5.out hb6)
  have HL6 := Hid.mk (HL5.out.below hb6)
  clear y5 hb6
  have C6 : CartsIn w6 b off m fr tt := by
    obtain ⟨b', off', e, h⟩ := HA6.out (by omega)
    cases e; exact h
  have HC6 := Hid.mk C6
  clear C6
  obtain ⟨OL, hOL⟩ : ∃ OL, OL = ((List.range (T + 1)).map fun t => outTo co cs n R f c T t cs.size) := ⟨_, rfl⟩
  have HOL := Hid.mk hOL
  have OLL : Hid (OL.length = T + 1) := by unfold Hid; rw [hOL]; simp
  have OLT : Hid (∀ t, t < OL.length → OL.getD t [] = outTo co cs n R f c T t cs.size) := by
    unfold Hid
    intro t ht
    have ht2 : t < T + 1 := by rw [← OLL.out]; exact ht
    rw [hOL]
    simp [List.getD, ht2]
  have RL : Hid (Calls Tryd.prog 25 #[.agg #[Value.int IntKind.i64 ro, Value.int IntKind.i64 co, Value.string cs, .slice (some ⟨b, off, none⟩) m cap, Value.int IntKind.i64 bu], .int .i64 (k : Nat), .slice ar n capr, .int .i64 (T : Nat)] w6 fun e w' =>
      ((∃ v, e = .returned (.tuple #[v, .int .i64 0]) ∧ PlanQ w' v OL ∧ ∀ t, t ≤ T → outTo co cs n R f c T t cs.size ≠ []) ∨
        (e = .returned (.tuple #[.slice none 0 0, .int .i64 9]) ∧ ∃ t, t ≤ T ∧ outTo co cs n R f c T t cs.size = [])) ∧ Below w6.heap.size w6 w') := by
    rw [hOL]
    exact rlayers_ok ro co bu cs b off m cap fr tt k f c T ar n capr R w6 hs hmm hnm hT HC6.out HL6.out HE.out hf hc hfN hcN
  clear hOL
  go_wp2_with fail
  refine RL.out.mono ?_
  rintro e w7 ⟨hcase, hb7⟩
  have hB7 := Hid.mk hb7
  have HB : Hid (Below w.heap.size w w7) := hB1.out.trans ((hB2.out.trans ((hB3.out.trans ((hB4.out.trans ((hB5.out.trans ((hB6.out.trans (hB7.out.mono (by omega))).mono (by omega))).mono (by omega))).mono (by omega))).mono (by omega))).mono (by omega))
  have hz7 : w6.heap.size ≤ w7.heap.size := hb7.size
  clear y6 hb7
  rcases hcase with ⟨vb, rfl, hpq, hful⟩ | ⟨rfl, hno⟩
  · have FUL := Hid.mk hful
    have PB := Hid.mk hpq
    have HX : Hid (layO co cs n R f c T = some OL) := by
      rw [HOL.out]
      exact lay_full RB.out FF.out FC.out hs36 FUL.out
    have NE : Hid (∀ t, t < OL.length → OL.getD t [] ≠ []) := fun t ht => by
      rw [OLT.out t ht]
      exact FUL.out t (by have := OLL.out; omega)
    have LE : Hid (∀ t, t < OL.length → (OL.getD t []).length ≤ 36) := fun t ht => by
      rw [OLT.out t ht]
      exact Nat.le_trans outTo_len hs36
    clear hful hpq
    rcases RES1.out with ⟨e, _⟩ | ⟨Ls1, e, rfl, hlo1⟩
    · rw [HX.out] at e; cases e
    rw [HX.out] at e
    cases e
    rcases RES2.out with ⟨e, _⟩ | ⟨Ls2, e, rfl, hlo2⟩
    · rw [HX.out] at e; cases e
    rw [HX.out] at e
    cases e
    obtain ⟨ga, hha, na, ca, hva, ra, _⟩ := hlo1.rows NE.out (fun t ht => by have := LE.out t ht; omega)
    obtain ⟨gc, hhc, nc, cq, hvc, rc, _⟩ := hlo2.rows NE.out (fun t ht => by have := LE.out t ht; omega)
    have LO1 := Hid.mk hlo1
    have LO2 := Hid.mk hlo2
    have LA7 : Hid (ListsOwn w7 w2.heap.size _ OL) := (((hlo1.below hB4.out).below hB5.out).below hB6.out).below hB7.out
    have LC7 : Hid (ListsOwn w7 w3.heap.size _ OL) := ((hlo2.below hB5.out).below hB6.out).below hB7.out
    have RA7 : Hid (Rows w7 w2.heap.size w3.heap.size ga OL.length hha na ca (fun t => qi (OL.getD t []))) := (((ra.below hB4.out).below hB5.out).below hB6.out).below hB7.out
    have RC7 : Hid (Rows w7 w3.heap.size w4.heap.size gc OL.length hhc nc cq (fun t => qi (OL.getD t []))) := ((rc.below hB5.out).below hB6.out).below hB7.out
    have hKb : OL.length ≤ 61 := by have := OLL.out; omega
    have hKp : 0 < OL.length := by have := OLL.out; omega
    have hz70 : w.heap.size ≤ w7.heap.size := by omega
    have hz47 : w4.heap.size ≤ w7.heap.size := by omega
    have hz20 : w.heap.size ≤ w2.heap.size := by omega
    clear hlo1 hlo2 ra rc
    cases hva
    cases hvc
    go_wp2_with fail
    refine (samePlans_q _ _ OL _ (by omega) (fun t ht => by have := LE.out t ht; omega) LA7.out.planQ PB.out).mono ?_
    rintro e w8 ⟨rfl, hb8⟩
    have hB8 := Hid.mk hb8
    have hz8 : w7.heap.size ≤ w8.heap.size := hb8.size
    clear hb8
    go_wp2_with fail
    refine (samePlans_q _ _ OL _ (by omega) (fun t ht => by have := LE.out t ht; omega) (LC7.out.below hB8.out).planQ (PB.out.below hB8.out)).mono ?_
    rintro e w9 ⟨rfl, hb9⟩
    have hB9 := Hid.mk hb9
    have hz9 : w8.heap.size ≤ w9.heap.size := hb9.size
    clear hb9
    go_wp2_with fail
    refine (both_any w2.heap.size w3.heap.size w3.heap.size w4.heap.size OL.length ga gc hha na ca hhc nc cq _ _ w9 hKp (by omega) ((RA7.out.below hB8.out).below hB9.out) ((RC7.out.below hB8.out).below hB9.out) (Nat.le_refl _) (by omega)).mono ?_
    rintro e w10 ⟨rfl, hb10⟩
    have HBX : Hid (Below w.heap.size w w10) := HB.out.trans ((hB8.out.mono (by omega)).trans ((hB9.out.mono (by omega)).trans (hb10.mono (by omega))))
    clear hb10
    go_wp2_with fail
    refine (num_any _ _).mono ?_
    rintro e w11 ⟨rfl, hw11⟩
    have hw11 := hw11.symm
    subst hw11
    go_wp2_with fail
    refine (num_any _ _).mono ?_
    rintro e w11 ⟨rfl, hw11⟩
    have hw11 := hw11.symm
    subst hw11
    go_wp2
    go_ret
    exact ⟨rfl, HBX.out⟩
  · have HX : Hid (layO co cs n R f c T = none) := lay_none RB.out FF.out FC.out hno
    clear hno
    have hr1 := RES1.out.resolve_right (by rintro ⟨Ls, e, _⟩; rw [HX.out] at e; cases e)
    obtain ⟨_, rfl, rfl, rfl, rfl⟩ := hr1
    have hr2 := RES2.out.resolve_right (by rintro ⟨Ls, e, _⟩; rw [HX.out] at e; cases e)
    obtain ⟨_, rfl, rfl, rfl, rfl⟩ := hr2
    have hz70 : w.heap.size ≤ w7.heap.size := by omega
    go_wp2_with fail
    refine (samePlans_q _ _ [] _ (by simp) (fun t ht => absurd ht (by simp)) (planQ_nil _) (planQ_nil _)).mono ?_
    rintro e w8 ⟨rfl, hb8⟩
    have hB8 := Hid.mk hb8
    have hz8 : w7.heap.size ≤ w8.heap.size := hb8.size
    clear hb8
    go_wp2_with fail
    refine (samePlans_q _ _ [] _ (by simp) (fun t ht => absurd ht (by simp)) (planQ_nil _) (planQ_nil _)).mono ?_
    rintro e w9 ⟨rfl, hb9⟩
    have hB9 := Hid.mk hb9
    have hz9 : w8.heap.size ≤ w9.heap.size := hb9.size
    clear hb9
    go_wp2_with fail
    refine (both_nil _).mono ?_
    rintro e w10 ⟨rfl, hb10⟩
    have HBX : Hid (Below w.heap.size w w10) := HB.out.trans ((hB8.out.mono (by omega)).trans ((hB9.out.mono (by omega)).trans (hb10.mono (by omega))))
    clear hb10
    go_wp2_with fail
    refine (num_any _ _).mono ?_
    rintro e w11 ⟨rfl, hw11⟩
    have hw11 := hw11.symm
    subst hw11
    go_wp2_with fail
    refine (num_any _ _).mono ?_
    rintro e w11 ⟨rfl, hw11⟩
    have hw11 := hw11.symm
    subst hw11
    go_wp2
    go_ret
    exact ⟨rfl, HBX.out⟩

end Go.Proofs.YtgdkchdcbfgijaaDoor
