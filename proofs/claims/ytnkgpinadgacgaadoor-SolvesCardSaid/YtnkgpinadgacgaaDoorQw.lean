/- Several texts in one: Er, Hp. -/
import Derived.Test.YtnkgpinadgacgaaDoorQv
import Derived.Laws.AppendOwnNone
import Derived.Test.YtnkgpinadgacgaaDoorQs
import Derived.Test.YtnkgpinadgacgaaDoorHn
namespace Go.Proofs.YtnkgpinadgacgaaDoor
open Go.RowKit M
set_option maxRecDepth 100000 in
theorem wpList_catV {w : World} {ops : Array Oper} {rest : List Oper} {o : Oper} {a : Act} {Q : Exit → Act → World → Prop} (hgd : o.guard = none) (s x : Operand)
    (ho : o.op = .call { callee := .builtin .append, args := #[s, x], argTypes := #[35, 35] })
    (base : Nat) (v : Value) (K M KM : Nat) (A : List Value) (hs : a.eval s = v) (hown : w.ownsRow base 26 1 v K A) (hbase : base ≤ w.heap.size) (g c : Nat) (F : Nat → Value)
    (hx : a.eval x = .slice (some ⟨g, 0, none⟩) M c) (hF : ∀ j, j < M → w.cell? ⟨g, j, none⟩ = some (F j)) (h1 : ∀ j, j < M → (F j).oneCell' = true) (hM : 0 < M) (hKM : KM = K + M) (hL : KM ≤ 100000000)
    (h : ∀ g' cap w', w'.ownsRow base 26 1 (.slice (some ⟨g', 0, none⟩) KM cap) KM (A ++ (List.range M).map F) → Only (fun k => v.ownBlock = some k) w w' → (v.ownBlock = some g' ∨ g' = w.heap.size) → g' < w'.heap.size → wpList Tryd.prog ops Q rest (a.put o.dst (.slice (some ⟨g', 0, none⟩) KM cap)) w') :
    wpList Tryd.prog ops Q (o :: rest) a w := by
  obtain ⟨i0, hi0, hi1, hi2, hi3⟩ := info_parts Tryd.infoSl
  subst hKM
  refine wpList_append_lies _ hgd s x _ ho base 26 i0 _ 1 24 Tryd.underlying35 hi0 hi1 hi2 hi3 rfl (by omega) v K A hs hown _ M c ((List.range M).map F) hx (by simp) (fun j u hj => ?_) (fun u hu => ?_) hM (by unfold maxLen; omega) (by omega) hbase _ rfl ?_
  · have hjM : j < M := by
      by_cases hq : j < M
      · exact hq
      · rw [List.getElem?_eq_none (by simp; omega)] at hj; cases hj
    rw [List.getElem?_map, List.getElem?_range hjM] at hj
    have ea : (⟨g, 0, none⟩ : Addr).add j = ⟨g, j, none⟩ := by simp [Addr.add]; try omega
    rw [ea, hF j hjM, ← hj]; rfl
  · obtain ⟨j, hj, rfl⟩ := List.mem_map.1 hu
    exact h1 j (List.mem_range.1 hj)
  · intro g' cap w' ho9 hg9 hl9 hlt9
    exact h g' cap w' ho9 ⟨hg9.os, hg9.tape, hg9.output, hg9.size, fun k hk hn => hg9.block k hk (fun e => hn e.symm)⟩ hl9 hlt9

theorem row_ownV {w : World} {base g K : Nat} {t : TypeId} {B : Nat → Value} (h : w.rowIs g t K B) (hg : base ≤ g) (hK : K ≤ maxLen) : w.ownsRow base t 1 (.slice (some ⟨g, 0, none⟩) K K) K ((List.range K).map B) := by
  obtain ⟨cur, hh, hs, hf⟩ := h
  refine ⟨by simp, .inr ⟨g, K, cur, rfl, hg, hh, Nat.le_refl _, hK, by omega, ?_⟩⟩
  refine List.ext_getElem? fun j => ?_
  by_cases hj : j < K
  · rw [List.getElem?_take, if_pos (by omega), Array.getElem?_toList, hf j hj, List.getElem?_map, List.getElem?_range hj]; rfl
  · rw [List.getElem?_take, if_neg (by omega), List.getElem?_eq_none (by simp; omega)]

/-- Two lists of things, one behind the other. -/
def joinF {α : Type} (K : Nat) (f g : Nat → α) : Nat → α := fun t => if t < K then f t else g (t - K)

theorem joinF_lo {α : Type} {K : Nat} {f g : Nat → α} {t : Nat} (h : t < K) : joinF K f g t = f t := if_pos h

theorem joinF_hi {α : Type} {K : Nat} {f g : Nat → α} {t : Nat} (h : ¬ t < K) : joinF K f g t = g (t - K) := if_neg h

/-- A list of lists of numbers: where its lists lie. -/
structure Rows (w : World) (lo hi g K : Nat) (h n c : Nat → Nat) (Lz : Nat → List Int) : Prop where
  row : w.rowIs g 26 K (fun t => .slice (some ⟨h t, 0, none⟩) (n t) (c t))
  own : ∀ t, t < K → OwnZ w lo (.slice (some ⟨h t, 0, none⟩) (n t) (c t)) (Lz t)
  num : ∀ t, t < K → 0 < n t ∧ n t ≤ 1000000
  inj : ∀ s t, s < K → t < K → h s = h t → s = t
  ne : ∀ t, t < K → h t ≠ g
  at' : ∀ t, t < K → lo ≤ h t ∧ h t < hi
  gat : lo ≤ g ∧ g < hi

theorem Rows.below {w w' : World} {lo hi g K : Nat} {h n c : Nat → Nat} {Lz : Nat → List Int} (R : Rows w lo hi g K h n c Lz) (hb : Below w.heap.size w w') : Rows w' lo hi g K h n c Lz :=
  ⟨rowIs_below R.row hb, fun t ht => (R.own t ht).below hb, R.num, R.inj, R.ne, R.at', R.gat⟩

/-- The lists of a list, each of one number. -/
def OnesAt (w : World) (lo : Nat) (B : Nat → Value) (i : Nat) (mv : Int) : Prop := ∀ t, t < i → ∃ h c, B t = .slice (some ⟨h, 0, none⟩) 1 c ∧ lo ≤ h ∧ w.cell? ⟨h, 0, none⟩ = some (.int .i64 mv)

theorem OnesAt.only {w w' : World} {lo i : Nat} {B : Nat → Value} {mv : Int} {S : Nat → Prop} (h : OnesAt w lo B i mv) (ho : Only S w w') (hS : ∀ k, lo ≤ k → ¬ S k) : OnesAt w' lo B i mv := fun t ht => by
  obtain ⟨b, c, h1, h2, h3⟩ := h t ht
  exact ⟨b, c, h1, h2, (ho.cell (p := ⟨b, 0, none⟩) (World.block_lt_of_cell? (a := ⟨b, 0, none⟩) _ h3) (hS b h2)).trans h3⟩

theorem OnesAt.next {w : World} {lo i : Nat} {B : Nat → Value} {mv : Int} (h : OnesAt w lo B i mv) (b c : Nat) (hb : lo ≤ b) (hc : w.cell? ⟨b, 0, none⟩ = some (.int .i64 mv)) : OnesAt w lo (extA B i (.slice (some ⟨b, 0, none⟩) 1 c)) (i + 1) mv := fun t ht => by
  by_cases e : t = i
  · subst e; exact ⟨b, c, extA_at, hb, hc⟩
  · obtain ⟨b', c', h1, h2, h3⟩ := h t (by omega)
    exact ⟨b', c', (extA_ne e).trans h1, h2, h3⟩

structure Marks (w : World) (lo x g n : Nat) (mv : Int) : Prop where
  lies : g = x ∨ lo ≤ g
  cells : ∀ t, t < n → ∃ h c, w.cell? ⟨g, t, none⟩ = some (.slice (some ⟨h, 0, none⟩) 1 c) ∧ lo ≤ h ∧ w.cell? ⟨h, 0, none⟩ = some (.int .i64 mv)

theorem Marks.only {w w' : World} {lo x g n : Nat} {mv : Int} {S : Nat → Prop} (h : Marks w lo x g n mv) (ho : Only S w w') (hS : ∀ k, lo ≤ k → ¬ S k) (hx : ¬ S x) : Marks w' lo x g n mv := by
  have hg : ¬ S g := by
    rcases h.lies with e | e
    · rw [e]; exact hx
    · exact hS g e
  refine ⟨h.lies, fun t ht => ?_⟩
  obtain ⟨b, c, h1, h2, h3⟩ := h.cells t ht
  exact ⟨b, c, (ho.cell (p := ⟨g, t, none⟩) (World.block_lt_of_cell? (a := ⟨g, t, none⟩) _ h1) hg).trans h1, h2, (ho.cell (p := ⟨b, 0, none⟩) (World.block_lt_of_cell? (a := ⟨b, 0, none⟩) _ h3) (hS b h2)).trans h3⟩

theorem marks_push {wr w0 w' : World} {lo base x K g cap c : Nat} {B : Nat → Value} {mv : Int} (h : OnesAt wr lo B K mv) (h0 : Below wr.heap.size wr w0) (hc0 : w0.cell? ⟨wr.heap.size, 0, none⟩ = some (.int .i64 mv)) (hlo : lo ≤ wr.heap.size) (hxl : x < lo)
    (hown : w'.ownsRow base 26 1 (.slice (some ⟨g, 0, none⟩) (K + 1) cap) (K + 1) ((List.range K).map B ++ [.slice (some ⟨wr.heap.size, 0, none⟩) 1 c])) (ho : Only (fun k => k = x) w0 w') (hl : x = g ∨ w0.heap.size ≤ g) : Marks w' lo x g (K + 1) mv := by
  have hz := h0.size
  refine ⟨hl.elim (fun e => .inl e.symm) (fun e => .inr (by omega)), fun t ht => ?_⟩
  rw [own_cell hown ht]
  by_cases e : t = K
  · subst e
    rw [List.getElem?_append_right (by simp)]
    refine ⟨wr.heap.size, c, by simp, hlo, ?_⟩
    exact (ho.cell (p := ⟨wr.heap.size, 0, none⟩) (World.block_lt_of_cell? (a := ⟨wr.heap.size, 0, none⟩) _ hc0) (by show ¬ wr.heap.size = x; omega)).trans hc0
  · rw [List.getElem?_append_left (by simp; omega), List.getElem?_map, List.getElem?_range (by omega)]
    obtain ⟨b, c', h1, h2, h3⟩ := h t (by omega)
    refine ⟨b, c', by rw [← h1]; rfl, h2, ?_⟩
    have h4 := (h0.cell (p := ⟨b, 0, none⟩) (World.block_lt_of_cell? (a := ⟨b, 0, none⟩) _ h3)).trans h3
    exact (ho.cell (p := ⟨b, 0, none⟩) (World.block_lt_of_cell? (a := ⟨b, 0, none⟩) _ h4) (by show ¬ b = x; omega)).trans h4

theorem ListsOwn.rows {w : World} {base : Nat} {v : Value} {Ls : List (List Nat)} (h : ListsOwn w base v Ls) (hne : ∀ t, t < Ls.length → Ls.getD t [] ≠ []) (hle : ∀ t, t < Ls.length → (Ls.getD t []).length ≤ 1000000) :
    ∃ g hh n c, v = .slice (some ⟨g, 0, none⟩) Ls.length Ls.length ∧ Rows w base w.heap.size g Ls.length hh n c (fun t => qi (Ls.getD t [])) ∧ ∀ t, t < Ls.length → n t = (Ls.getD t []).length := by
  obtain ⟨g, A, hv, hbg, hrow, hown, hng, hinj⟩ := h
  have key : ∀ t, ∃ hh c, t < Ls.length → A t = .slice (some ⟨hh, 0, none⟩) (Ls.getD t []).length c := by
    intro t
    by_cases ht : t < Ls.length
    · obtain ⟨a, cap, e, ha, _⟩ := (hown t ht).form
      have hp : 0 < (Ls.getD t []).length := List.length_pos_iff.2 (hne t ht)
      obtain ⟨b, rfl⟩ := ha hp
      exact ⟨b, cap, fun _ => e⟩
    · exact ⟨0, 0, fun h => absurd h ht⟩
  obtain ⟨hh, k1⟩ := Classical.axiomOfChoice key
  obtain ⟨c, k2⟩ := Classical.axiomOfChoice k1
  refine ⟨g, hh, fun t => (Ls.getD t []).length, c, hv, ⟨hrow.congr k2, fun t ht => ?_, fun t ht => ⟨List.length_pos_iff.2 (hne t ht), hle t ht⟩, fun s t hs ht e => ?_, fun t ht e => hng t ht (by rw [k2 t ht, ← e]; rfl), fun t ht => (hown t ht).lt (hh t) (by rw [k2 t ht]; rfl), ⟨hbg, hrow.lt⟩⟩, fun _ _ => rfl⟩
  · have h2 := hown t ht
    rw [k2 t ht] at h2
    show World.ownsRow _ _ _ _ _ _ _
    rw [show (qi (Ls.getD t [])).length = (Ls.getD t []).length by simp [qi]]
    exact h2
  · by_cases e2 : s = t
    · exact e2
    · exact absurd (by rw [k2 t ht, e]; rfl) (hinj s t (hh s) hs ht e2 (by rw [k2 s hs]; rfl))

end Go.Proofs.YtnkgpinadgacgaaDoor

namespace Go.Proofs.YtnkgpinadgacgaaDoor
open Go.RowKit M SM
/-- The plan that the search tells. -/
noncomputable def planOf (F0 : Nat) (ro co : Int) (cs : ByteArray) (m : Nat) (fr tt : Nat → Int) : List (List Nat) :=
  match solY F0 ro co cs m fr tt with
  | some (b, s') => planL m (SM.wayF s'.seen (costO (s'.seen b)) b)
  | none => []

/-- A good plan of this cost. -/
structure GoodA (ro co bu : Int) (cs : ByteArray) (m : Nat) (fr tt : Nat → Int) (Ls : List (List Nat)) (k : Nat) : Prop where
  check : (checkM ro co cs m fr tt bu).1 = 0
  num : Ls.length = m
  some : 0 < m
  four : m ≤ 4
  pos : ∀ i, i < m → Ls.getD i [] ≠ [] ∧ (Ls.getD i []).length ≤ 320000
  none : allF 3 co cs fr tt m (fun i => (Ls.getD i []).length) (fun i j => (((Ls.getD i []).getD j 0 : Nat) : Int)) = []
  cost : k = sumN (fun i => (Ls.getD i []).length - 1) m

theorem planL_at {m i : Nat} {W : List St} (h : i < m) : (planL m W).getD i [] = pathL i W := by
  unfold planL
  rw [List.getD_eq_getElem?_getD, List.getElem?_map, List.getElem?_range h]; rfl

theorem firstOf_at {p : Nat → Bool} : ∀ {n : Nat}, firstOf p n < n → p (firstOf p n) = true
  | n + 1, h => by
    simp only [firstOf] at h ⊢
    by_cases e : firstOf p n < n
    · rw [if_pos e]; exact firstOf_at e
    · rw [if_neg e] at h ⊢
      by_cases e2 : p n = true
      · rw [if_pos e2]; exact e2
      · rw [if_neg e2] at h; omega

theorem check_some {ro co bu : Int} {cs : ByteArray} {m : Nat} {fr tt : Nat → Int} (h : (checkM ro co cs m fr tt bu).1 = 0) : 0 < m ∧ bu ≤ 20000 := by
  unfold checkM at h
  split at h
  · cases h
  · split at h
    · cases h
    · split at h
      · cases h
      · next h3 =>
        split at h
        · next h4 =>
          exfalso
          have h5 : cartM cs fr tt (firstOf (fun i => !(cartM cs fr tt i == 0)) m) = 0 := h
          have h6 := firstOf_at h4
          simp [h5] at h6
        · split at h
          · cases h
          · next h5 => omega

theorem cost_same {F0 : Nat} {ro co bu : Int} {cs : ByteArray} {m : Nat} {fr tt : Nat → Int} {L : List (List Nat)} {b : St} {s' : SM.Srch} {k : Nat} (hF : 200400000 ≤ F0) (hck : (checkM ro co cs m fr tt bu).1 = 0) (hW : Work (stepP ro co cs m) (cellsOf fr m) L L.length) (hg : cellsOf tt m ∈ L) (hL : L.length ≤ 20000)
    (hsol : solY F0 ro co cs m fr tt = some (b, s'))
    (h3 : ∃ n z, BM.Way (RS (fun p => growL (mayN co cs) p m) m (cellsOf tt m)) n (cellsOf fr m, List.replicate m false) z k ∧ z.2 = List.replicate m true)
    (h4 : ∀ n z K, BM.Way (RS (fun p => growL (mayN co cs) p m) m (cellsOf tt m)) n (cellsOf fr m, List.replicate m false) z K → z.2 = List.replicate m true → k ≤ K) : costO (s'.seen b) = k := by
  obtain ⟨s1, s2, s3⟩ := checkM_good hck
  obtain ⟨r1, r2⟩ := side_bd s1
  obtain ⟨r3, r4⟩ := side_bd s2
  obtain ⟨hp1, hp2⟩ := cells_pos hck
  obtain ⟨G, hpos, _⟩ := sol_gnd hck hW hg hL
  obtain ⟨hb1, ⟨j, hj⟩, hleast⟩ := sol_least hF hck hW hg hL hsol
  exact least_same (ok := PosG cs m) (fun p hp => hp.1.1) G (fun p hp => (hpos p hp).1) (fun p q hq hp => step_both r3 r4 s3 (hpos q hq).1 hp) (fun p q hq => PosG.nextR hq) hp1 ⟨j, b, hj, hb1⟩ hleast h3 h4

theorem solve_best {F0 : Nat} (hF : 200400000 ≤ F0) {w' : World} {base : Nat} {ro co bu : Int} {cs : ByteArray} {m : Nat} {fr tt : Nat → Int} {x y z : Value} {k : Nat} {e2 : Int} (hs : solE F0 w' base ro co bu cs m fr tt x y z) (hb : bestR ro co bu cs m fr tt k e2) :
    (e2 ≠ 0 ∧ k = 0 ∧ x = .slice none 0 0 ∧ y = .int .i64 (k : Nat) ∧ z = .int .i64 e2) ∨
    (e2 = 0 ∧ y = .int .i64 (k : Nat) ∧ z = .int .i64 0 ∧ PlanOwn w' base x (planOf F0 ro co cs m fr tt) ∧ GoodA ro co bu cs m fr tt (planOf F0 ro co cs m fr tt) k) := by
  rcases hs with ⟨hc, hx, hy, hz⟩ | ⟨hc, n, d, ht, hr⟩
  · rcases hb with ⟨hc2, hk, he⟩ | ⟨hc2, _⟩
    · subst hk he
      exact .inl ⟨hc, rfl, hx, hy, hz⟩
    · exact absurd hc2 hc
  · rcases hb with ⟨hc2, _⟩ | ⟨_, n2, d2, ht2, hr2⟩
    · exact absurd hc hc2
    · obtain ⟨s1, s2, s3⟩ := checkM_good hc
      obtain ⟨r3, r4⟩ := side_bd s2
      obtain ⟨hm4, hfree⟩ := carts_free hc
      obtain ⟨hm0, hbu⟩ := check_some hc
      have h3 := told_doc r3 r4 s3 (good_cellsOf fun k hk => (hfree k hk).1) ht
      obtain ⟨e1, e3⟩ := h3.all ht2
      rcases hr with ⟨hb, hx, hy, hz⟩ | ⟨hb, hd, hx, hy, hz⟩ | ⟨hb, hd, hz, L, k', b, s', hW, hn, hg, hsol, hk, hy, hP⟩
      · rcases hr2 with ⟨_, hk, he⟩ | ⟨hb2, _⟩ | ⟨hb2, _⟩
        · subst hk he
          exact .inl ⟨by decide, rfl, hx, hy, hz⟩
        · exact absurd (e1.1 hb) hb2
        · exact absurd (e1.1 hb) hb2
      · rcases hr2 with ⟨hb2, _⟩ | ⟨_, _, hk, he⟩ | ⟨_, hd2, _⟩
        · exact absurd (e1.2 hb2) hb
        · subst hk he
          exact .inl ⟨by decide, rfl, hx, hy, hz⟩
        · have := (e3 hb).2
          rw [hd, hd2] at this; cases this
      · rcases hr2 with ⟨hb2, _⟩ | ⟨_, hd2, _⟩ | ⟨_, _, he, h4, h5⟩
        · exact absurd (e1.2 hb2) hb
        · have := (e3 hb).2
          rw [hd, hd2] at this; cases this
        · have hL : L.length ≤ 20000 := by omega
          have hcs := cost_same hF hc hW hg hL hsol h4 h5
          rw [← hk] at hcs
          subst hcs
          have hPO : planOf F0 ro co cs m fr tt = planL m (SM.wayF s'.seen k' b) := by
            unfold planOf
            rw [hsol, hk]
          obtain ⟨a1, a2, a3, a4, a5⟩ := sol_good hF hc hW hg hL hsol (W := SM.wayF s'.seen k' b) (by rw [hk]) (ln := fun i => ((planOf F0 ro co cs m fr tt).getD i []).length) (pt := fun i j => ((planOf F0 ro co cs m fr tt).getD i []).getD j 0) (fun i hi => by rw [hPO, planL_at hi]) (fun i hi j => by rw [hPO, planL_at hi])
          refine .inr ⟨he, hy, hz, by rw [hPO]; exact hP, ⟨hc, by rw [hPO]; simp [planL], hm0, hm4, fun i hi => ?_, a1, ?_⟩⟩
          · rw [hPO, planL_at hi]
            exact ⟨List.length_pos_iff.1 (a3 i hi), Nat.le_trans (a4 i) a5⟩
          · rw [hk, a2]
            refine sumN_same fun i hi => ?_
            rw [hPO, planL_at hi]

/-- A plan in memory, as the document's Judge reads it. -/
def planM (hh c : Nat → Nat) (Ls : List (List Nat)) : PlanM := ⟨fun t => some ⟨hh t, 0, none⟩, fun t => (Ls.getD t []).length, c, fun i j => (((Ls.getD i []).getD j 0 : Nat) : Int)⟩

theorem qi_getD {q : List Nat} {j : Nat} (h : j < q.length) : (qi q).getD j 0 = ((q.getD j 0 : Nat) : Int) := by
  unfold qi
  rw [List.getD_eq_getElem?_getD, List.getElem?_map, List.getD_eq_getElem?_getD, List.getElem?_eq_getElem h]; rfl

theorem rows_plan {w : World} {lo hi g : Nat} {Ls : List (List Nat)} {hh n c : Nat → Nat} (R : Rows w lo hi g Ls.length hh n c (fun t => qi (Ls.getD t []))) (hn : ∀ t, t < Ls.length → n t = (Ls.getD t []).length) : PlanAt w (some ⟨g, 0, none⟩) Ls.length (planM hh c Ls) := by
  intro _
  refine ⟨g, 0, rfl, fun i hi => ⟨?_, fun _ => ⟨hh i, 0, rfl, fun j hj => ?_⟩⟩⟩
  · rw [Nat.zero_add, R.row.cell hi, hn i hi]; rfl
  · have h := (R.own i hi).cell (i := j) (by simp only [qi, List.length_map]; exact hj)
    rw [Nat.zero_add, h, qi_getD hj]; rfl

end Go.Proofs.YtnkgpinadgacgaaDoor
