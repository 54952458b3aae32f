/- Lists of lists, and the law of append of a whole list of slices. -/
import Derived.Test.YtnkgpinadgacgaaDoorEq
import Derived.Test.YtnkgpinadgacgaaDoorEl
import Derived.Test.YtnkgpinadgacgaaDoorEn
import Derived.Laws.AppendOwnNone
namespace Go.Proofs.YtnkgpinadgacgaaDoor
open Go.RowKit M

set_option maxRecDepth 100000 in
theorem wpList_catV {w : World} {ops : Array Oper} {rest : List Oper} {o : Oper} {a : Act} {Q : Exit → Act → World → Prop} (hgd : o.guard = none) (s x : Operand)
    (ho : o.op = .call { callee := .builtin .append, args := #[s, x], argTypes := #[35, 35] })
    (base : Nat) (v : Value) (K M KM : Nat) (A : List Value) (hs : a.eval s = v) (hown : w.ownsRow base 26 1 v K A) (hbase : base ≤ w.heap.size) (g c : Nat) (F : Nat → Value)
    (hx : a.eval x = .slice (some ⟨g, 0, none⟩) M c) (hF : ∀ j, j < M → w.cell? ⟨g, j, none⟩ = some (F j)) (h1 : ∀ j, j < M → (F j).oneCell' = true) (hM : 0 < M) (hKM : KM = K + M) (hL : KM ≤ 100000000)
    (h : ∀ g' cap w', w'.ownsRow base 26 1 (.slice (some ⟨g', 0, none⟩) KM cap) KM (A ++ (List.range M).map F) → Only (fun k => v.ownBlock = some k) w w' → (v.ownBlock = some g' ∨ g' = w.heap.size) → g' < w'.heap.size → wpList Tryd.prog ops Q rest (a.put o.dst (.slice (some ⟨g', 0, none⟩) KM cap)) w') :
    wpList Tryd.prog ops Q (o :: rest) a w := by
  obtain ⟨i0, hi0, hi1, hi2, hi3⟩ := info_parts Tryd.infoSl
  subst hKM
  refine wpList_append_lies _ hgd s x _ ho base 26 i0 _ 1 24 Tryd.underlying35 hi0 hi1 hi2 hi3 rfl (by omega) v K A hs hown _ M c ((List.range M).map F) hx (by simp) (fun j u hj => ?_) (fun u hu => ?_) hM (by unfold maxLen; omega) (by omega) hbase _ rfl ?_
  · have hjM : j < M := by
      by_cases hq : j < M
      · exact hq
      · rw [List.getElem?_eq_none (by simp; omega)] at hj; cases hj
    rw [List.getElem?_map, List.getElem?_range hjM] at hj
    have ea : (⟨g, 0, none⟩ : Addr).add j = ⟨g, j, none⟩ := by simp [Addr.add]; try omega
    rw [ea, hF j hjM, ← hj]; rfl
  · obtain ⟨j, hj, rfl⟩ := List.mem_map.1 hu
    exact h1 j (List.mem_range.1 hj)
  · intro g' cap w' ho9 hg9 hl9 hlt9
    exact h g' cap w' ho9 ⟨hg9.os, hg9.tape, hg9.output, hg9.size, fun k hk hn => hg9.block k hk (fun e => hn e.symm)⟩ hl9 hlt9

theorem row_ownV {w : World} {base g K : Nat} {t : TypeId} {B : Nat → Value} (h : w.rowIs g t K B) (hg : base ≤ g) (hK : K ≤ maxLen) : w.ownsRow base t 1 (.slice (some ⟨g, 0, none⟩) K K) K ((List.range K).map B) := by
  obtain ⟨cur, hh, hs, hf⟩ := h
  refine ⟨by simp, .inr ⟨g, K, cur, rfl, hg, hh, Nat.le_refl _, hK, by omega, ?_⟩⟩
  refine List.ext_getElem? fun j => ?_
  by_cases hj : j < K
  · rw [List.getElem?_take, if_pos (by omega), Array.getElem?_toList, hf j hj, List.getElem?_map, List.getElem?_range hj]; rfl
  · rw [List.getElem?_take, if_neg (by omega), List.getElem?_eq_none (by simp; omega)]

/-- Two lists of things, one behind the other. -/
def joinF {α : Type} (K : Nat) (f g : Nat → α) : Nat → α := fun t => if t < K then f t else g (t - K)
theorem joinF_lo {α : Type} {K : Nat} {f g : Nat → α} {t : Nat} (h : t < K) : joinF K f g t = f t := if_pos h
theorem joinF_hi {α : Type} {K : Nat} {f g : Nat → α} {t : Nat} (h : ¬ t < K) : joinF K f g t = g (t - K) := if_neg h

/-- A list of lists of numbers: where its lists lie. -/
structure Rows (w : World) (lo hi g K : Nat) (h n c : Nat → Nat) (Lz : Nat → List Int) : Prop where
  row : w.rowIs g 26 K (fun t => .slice (some ⟨h t, 0, none⟩) (n t) (c t))
  own : ∀ t, t < K → OwnZ w lo (.slice (some ⟨h t, 0, none⟩) (n t) (c t)) (Lz t)
  num : ∀ t, t < K → 0 < n t ∧ n t ≤ 100
  inj : ∀ s t, s < K → t < K → h s = h t → s = t
  ne : ∀ t, t < K → h t ≠ g
  at' : ∀ t, t < K → lo ≤ h t ∧ h t < hi
  gat : lo ≤ g ∧ g < hi

theorem Rows.below {w w' : World} {lo hi g K : Nat} {h n c : Nat → Nat} {Lz : Nat → List Int} (R : Rows w lo hi g K h n c Lz) (hb : Below w.heap.size w w') : Rows w' lo hi g K h n c Lz :=
  ⟨rowIs_below R.row hb, fun t ht => (R.own t ht).below hb, R.num, R.inj, R.ne, R.at', R.gat⟩

/-- The lists of a list, each of one number. -/
def OnesAt (w : World) (lo : Nat) (B : Nat → Value) (i : Nat) (mv : Int) : Prop := ∀ t, t < i → ∃ h c, B t = .slice (some ⟨h, 0, none⟩) 1 c ∧ lo ≤ h ∧ w.cell? ⟨h, 0, none⟩ = some (.int .i64 mv)

theorem OnesAt.only {w w' : World} {lo i : Nat} {B : Nat → Value} {mv : Int} {S : Nat → Prop} (h : OnesAt w lo B i mv) (ho : Only S w w') (hS : ∀ k, lo ≤ k → ¬ S k) : OnesAt w' lo B i mv := fun t ht => by
  obtain ⟨b, c, h1, h2, h3⟩ := h t ht
  exact ⟨b, c, h1, h2, (ho.cell (p := ⟨b, 0, none⟩) (World.block_lt_of_cell? (a := ⟨b, 0, none⟩) _ h3) (hS b h2)).trans h3⟩

theorem OnesAt.next {w : World} {lo i : Nat} {B : Nat → Value} {mv : Int} (h : OnesAt w lo B i mv) (b c : Nat) (hb : lo ≤ b) (hc : w.cell? ⟨b, 0, none⟩ = some (.int .i64 mv)) : OnesAt w lo (extA B i (.slice (some ⟨b, 0, none⟩) 1 c)) (i + 1) mv := fun t ht => by
  by_cases e : t = i
  · subst e; exact ⟨b, c, extA_at, hb, hc⟩
  · obtain ⟨b', c', h1, h2, h3⟩ := h t (by omega)
    exact ⟨b', c', (extA_ne e).trans h1, h2, h3⟩

structure Marks (w : World) (lo x g n : Nat) (mv : Int) : Prop where
  lies : g = x ∨ lo ≤ g
  cells : ∀ t, t < n → ∃ h c, w.cell? ⟨g, t, none⟩ = some (.slice (some ⟨h, 0, none⟩) 1 c) ∧ lo ≤ h ∧ w.cell? ⟨h, 0, none⟩ = some (.int .i64 mv)

theorem Marks.only {w w' : World} {lo x g n : Nat} {mv : Int} {S : Nat → Prop} (h : Marks w lo x g n mv) (ho : Only S w w') (hS : ∀ k, lo ≤ k → ¬ S k) (hx : ¬ S x) : Marks w' lo x g n mv := by
  have hg : ¬ S g := by
    rcases h.lies with e | e
    · rw [e]; exact hx
    · exact hS g e
  refine ⟨h.lies, fun t ht => ?_⟩
  obtain ⟨b, c, h1, h2, h3⟩ := h.cells t ht
  exact ⟨b, c, (ho.cell (p := ⟨g, t, none⟩) (World.block_lt_of_cell? (a := ⟨g, t, none⟩) _ h1) hg).trans h1, h2, (ho.cell (p := ⟨b, 0, none⟩) (World.block_lt_of_cell? (a := ⟨b, 0, none⟩) _ h3) (hS b h2)).trans h3⟩

theorem marks_push {wr w0 w' : World} {lo base x K g cap c : Nat} {B : Nat → Value} {mv : Int} (h : OnesAt wr lo B K mv) (h0 : Below wr.heap.size wr w0) (hc0 : w0.cell? ⟨wr.heap.size, 0, none⟩ = some (.int .i64 mv)) (hlo : lo ≤ wr.heap.size) (hxl : x < lo)
    (hown : w'.ownsRow base 26 1 (.slice (some ⟨g, 0, none⟩) (K + 1) cap) (K + 1) ((List.range K).map B ++ [.slice (some ⟨wr.heap.size, 0, none⟩) 1 c])) (ho : Only (fun k => k = x) w0 w') (hl : x = g ∨ w0.heap.size ≤ g) : Marks w' lo x g (K + 1) mv := by
  have hz := h0.size
  refine ⟨hl.elim (fun e => .inl e.symm) (fun e => .inr (by omega)), fun t ht => ?_⟩
  rw [own_cell hown ht]
  by_cases e : t = K
  · subst e
    rw [List.getElem?_append_right (by simp)]
    refine ⟨wr.heap.size, c, by simp, hlo, ?_⟩
    exact (ho.cell (p := ⟨wr.heap.size, 0, none⟩) (World.block_lt_of_cell? (a := ⟨wr.heap.size, 0, none⟩) _ hc0) (by show ¬ wr.heap.size = x; omega)).trans hc0
  · rw [List.getElem?_append_left (by simp; omega), List.getElem?_map, List.getElem?_range (by omega)]
    obtain ⟨b, c', h1, h2, h3⟩ := h t (by omega)
    refine ⟨b, c', by rw [← h1]; rfl, h2, ?_⟩
    have h4 := (h0.cell (p := ⟨b, 0, none⟩) (World.block_lt_of_cell? (a := ⟨b, 0, none⟩) _ h3)).trans h3
    exact (ho.cell (p := ⟨b, 0, none⟩) (World.block_lt_of_cell? (a := ⟨b, 0, none⟩) _ h4) (by show ¬ b = x; omega)).trans h4

theorem ListsOwn.rows {w : World} {base : Nat} {v : Value} {Ls : List (List Nat)} (h : ListsOwn w base v Ls) (hne : ∀ t, t < Ls.length → Ls.getD t [] ≠ []) (hle : ∀ t, t < Ls.length → (Ls.getD t []).length ≤ 100) :
    ∃ g hh n c, v = .slice (some ⟨g, 0, none⟩) Ls.length Ls.length ∧ Rows w base w.heap.size g Ls.length hh n c (fun t => qi (Ls.getD t [])) ∧ ∀ t, t < Ls.length → n t = (Ls.getD t []).length := by
  obtain ⟨g, A, hv, hbg, hrow, hown, hng, hinj⟩ := h
  have key : ∀ t, ∃ hh c, t < Ls.length → A t = .slice (some ⟨hh, 0, none⟩) (Ls.getD t []).length c := by
    intro t
    by_cases ht : t < Ls.length
    · obtain ⟨a, cap, e, ha, _⟩ := (hown t ht).form
      have hp : 0 < (Ls.getD t []).length := List.length_pos_iff.2 (hne t ht)
      obtain ⟨b, rfl⟩ := ha hp
      exact ⟨b, cap, fun _ => e⟩
    · exact ⟨0, 0, fun h => absurd h ht⟩
  obtain ⟨hh, k1⟩ := Classical.axiomOfChoice key
  obtain ⟨c, k2⟩ := Classical.axiomOfChoice k1
  refine ⟨g, hh, fun t => (Ls.getD t []).length, c, hv, ⟨hrow.congr k2, fun t ht => ?_, fun t ht => ⟨List.length_pos_iff.2 (hne t ht), hle t ht⟩, fun s t hs ht e => ?_, fun t ht e => hng t ht (by rw [k2 t ht, ← e]; rfl), fun t ht => (hown t ht).lt (hh t) (by rw [k2 t ht]; rfl), ⟨hbg, hrow.lt⟩⟩, fun _ _ => rfl⟩
  · have h2 := hown t ht
    rw [k2 t ht] at h2
    show World.ownsRow _ _ _ _ _ _ _
    rw [show (qi (Ls.getD t [])).length = (Ls.getD t []).length by simp [qi]]
    exact h2
  · by_cases e2 : s = t
    · exact e2
    · exact absurd (by rw [k2 t ht, e]; rfl) (hinj s t (hh s) hs ht e2 (by rw [k2 s hs]; rfl))

end Go.Proofs.YtnkgpinadgacgaaDoor
