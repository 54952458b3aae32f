/- Gg. -/
import Derived.Test.YtnkgpinadgacgaaGreatDoorQq
import Derived.Test.YtnkgpinadgacgaaGreatDoorQr
set_option maxRecDepth 1000000
namespace Go.Proofs.YtnkgpinadgacgaaGreatDoor
namespace SM
open HM BM M
abbrev St := List Nat × List Bool
structure LeadM where
 st : St
 c : Nat
 k : Nat
def ltL (a b : LeadM) : Bool := decide (a.k < b.k) || (a.k == b.k && decide (b.c < a.c))
def keyL (a : LeadM) : Int := (a.k : Int)
theorem ltL_t {x y : LeadM} (h : ltL x y = true) : keyL x <= keyL y := by
 unfold ltL at h; unfold keyL; simp only [Bool.or_eq_true, decide_eq_true_eq, Bool.and_eq_true, beq_iff_eq] at h; omega
theorem ltL_f {x y : LeadM} (h : ltL x y = false) : keyL y <= keyL x := by
 unfold ltL at h; unfold keyL; simp only [Bool.or_eq_false_iff, decide_eq_false_iff_not] at h; omega
structure Srch where
 seen : St -> Option (Nat × St)
 n : Nat
 it : Nat -> LeadM
def knownB (o : Option (Nat × St)) (c : Nat) : Bool := match o with
 | some v => decide (v.1 <= c)
 | none => false
def costO (o : Option (Nat × St)) : Nat := match o with
 | some v => v.1
 | none => 0
def nextO (x : St) (o : Option (Nat × St)) : St := match o with
 | some v => v.2
 | none => x
def seenPutS (f : St -> Option (Nat × St)) (b : St) (c : Nat) (y : St) : St -> Option (Nat × St) := fun x => if x = b then some (c, y) else f x
def seeF (h : List Nat -> Nat) (s : Srch) (b : St) (c : Nat) (y : St) : Srch :=
 if knownB (s.seen b) c = true then s else { seen := seenPutS s.seen b c y, n := s.n + 1, it := riseF ltL (s.n + 1) (pushIt s.it s.n ⟨b, c, c + h b.1⟩) s.n }
def backU (m : Nat) (p : List Nat) (u : List Bool) (q : List Nat) : List Bool := (List.range m).map fun i => u.getD i false || q.getD i 0 != p.getD i 0
def cntU (u : List Bool) : Nat := u.count true
def goF (h : List Nat -> Nat) (m : Nat) (x : St) (c : Nat) : List (List Nat) -> Srch -> Srch
 | [], s => s
 | q :: L, s => goF h m x c L (seeF h s (q, backU m x.1 x.2 q) (c + cntU (backU m x.1 x.2 q)) x)
def popF (s : Srch) : Srch := { seen := s.seen, n := s.n - 1, it := sinkF ltL (s.n - 1) (s.n - 1) (popIt s.it s.n) 0 }
def comeF (nx : List Nat -> List (List Nat)) (h : List Nat -> Nat) (m : Nat) (fr : List Nat) : Nat -> Srch -> Option (St × Srch)
 | 0, _ => none
 | f + 1, s =>
   if s.n = 0 then none
   else if (s.it 0).st.1 = fr then some ((s.it 0).st, popF s)
   else if (s.it 0).c = costO (s.seen (s.it 0).st) then comeF nx h m fr f (goF h m (s.it 0).st (s.it 0).c (nx (s.it 0).st.1) (popF s))
   else comeF nx h m fr f (popF s)
structure Gnd (nx : List Nat -> List (List Nat)) (h : List Nat -> Nat) (m : Nat) (fr tt : List Nat) (L : List (List Nat)) : Prop where
 nodup : L.Nodup
 goal : tt ∈ L
 shut : ∀ p, p ∈ L -> ∀ q, q ∈ nx p -> q ∈ L
 len : ∀ p, p ∈ L -> p.length = m
 few : ∀ p, (nx p).length <= 625
 m4 : m <= 4
 most : L.length <= 20000
 step : ∀ p, p ∈ L -> ∀ q, q ∈ nx p -> ∀ u : List Bool, h p <= h q + cntU (backU m p u q)
 zero : h fr = 0
def Fine (m : Nat) (L : List (List Nat)) (x : St) : Prop := x.1 ∈ L ∧ x.2.length = m
def E (nx : List Nat -> List (List Nat)) (m : Nat) (L : List (List Nat)) (a b : St) (d : Nat) : Prop :=
 Fine m L a ∧ b.1 ∈ nx a.1 ∧ b.2 = backU m a.1 a.2 b.1 ∧ d = cntU b.2 ∧ 0 < d
def s0 (m : Nat) (tt : List Nat) : St := (tt, List.replicate m false)
theorem backU_len (m : Nat) (p : List Nat) (u : List Bool) (q : List Nat) : (backU m p u q).length = m := by simp [backU]
theorem cntU_le (u : List Bool) : cntU u <= u.length := List.count_le_length
theorem cntU_zero : ∀ {u : List Bool}, cntU u = 0 -> u = List.replicate u.length false
 | [], _ => rfl
 | b :: u, h => by
   unfold cntU at h; cases b
   . rw [List.count_cons] at h; simp only [List.length_cons, List.replicate_succ]; rw [<- cntU_zero (u := u) (by unfold cntU; simpa using h)]
   . rw [List.count_cons] at h; simp at h
theorem backU_at {m i : Nat} {p q : List Nat} {u : List Bool} (hi : i < m) : (backU m p u q).getD i false = (u.getD i false || q.getD i 0 != p.getD i 0) := by
 unfold backU; rw [zg, List.getElem?_map, List.getElem?_range hi]; rfl
theorem back_none {m : Nat} {p q : List Nat} {u : List Bool} (hp : p.length = m) (hq : q.length = m) (hu : u.length = m) (h : cntU (backU m p u q) = 0) : q = p ∧ backU m p u q = u := by
 have e := cntU_zero h; rw [backU_len] at e; have hall : ∀ i, i < m -> u.getD i false = false ∧ q.getD i 0 = p.getD i 0 := fun i hi => by
  have h1 := backU_at (p := p) (q := q) (u := u) hi; rw [e, zg, List.getElem?_replicate, if_pos hi] at h1; have h2 := h1.symm; simpa using h2
 constructor
 . apply List.ext_getElem (by omega)
   intro i h1 h2; have h3 := (hall i (by omega)).2; simpa [zg, h1, h2] using h3
 . rw [e]; apply List.ext_getElem (by simp; omega)
   intro i h1 h2; have h3 := (hall i (by omega)).1; rw [List.getElem_replicate]; simpa [zg, h2] using h3.symm
theorem nodup_lenG {α : Type} [BEq α] [LawfulBEq α] : ∀ {L L' : List α}, L.Nodup -> (∀ q, q ∈ L -> q ∈ L') -> L.length <= L'.length
 | [], _, _, _ => by simp
 | x :: L, L', hn, hs => by
   have hx : x ∈ L' := hs x (by simp); have hn2 := List.nodup_cons.1 hn; have h := nodup_lenG (L' := L'.erase x) hn2.2 (fun q hq => by
    have hne : q ≠ x := fun e => hn2.1 (by rw [<- e]; exact hq)
    exact (List.mem_erase_of_ne hne).2 (hs q (by simp [hq])))
   have h2 := List.length_erase_of_mem hx; have h3 : 0 < L'.length := List.length_pos_of_mem hx; simp only [List.length_cons]; omega
def bools : Nat -> List (List Bool)
 | 0 => [[]]
 | m + 1 => (bools m).flatMap fun u => [false :: u, true :: u]
theorem bools_mem : ∀ {m : Nat} {u : List Bool}, u.length = m -> u ∈ bools m
 | 0, u, h => by rw [List.eq_nil_of_length_eq_zero h]; simp [bools]
 | m + 1, [], h => by simp at h
 | m + 1, b :: u, h => by
   simp only [bools, List.mem_flatMap]; exact ⟨u, bools_mem (by simpa using h), by cases b <;> simp⟩
theorem bools_len : ∀ m, (bools m).length = 2 ^ m
 | 0 => rfl
 | m + 1 => by
   simp only [bools, List.length_flatMap, List.length_cons, List.length_nil]; have h := bools_len m; rw [Nat.pow_succ, <- h]; generalize bools m = l; induction l with
   | nil => rfl
   | cons a l ih => simp only [List.map_cons, List.sum_cons, List.length_cons] at ih ⊢; omega
theorem fine_few {m : Nat} {L : List (List Nat)} {X : List St} (hm : m <= 4) (hn : X.Nodup) (h : ∀ x, x ∈ X -> Fine m L x) : X.length <= L.length * 16 := by
 have h1 : X.length <= (L.flatMap fun p => (bools m).map fun u => (p, u)).length := nodup_lenG hn fun x hx => by
  obtain ⟨h1, h2⟩ := h x hx; rw [List.mem_flatMap]; exact ⟨x.1, h1, List.mem_map.2 ⟨x.2, bools_mem h2, rfl⟩⟩
 have h2 : ∀ L : List (List Nat), (L.flatMap fun p => (bools m).map fun u => (p, u)).length = L.length * 2 ^ m := by
  intro L; induction L with
  | nil => simp
  | cons a l ih => simp only [List.flatMap_cons, List.length_append, List.length_map, bools_len, List.length_cons, ih]; rw [Nat.succ_mul]; omega
 have h3 : 2 ^ m <= 2 ^ 4 := Nat.pow_le_pow_right (by omega) hm; rw [h2] at h1; exact Nat.le_trans h1 (Nat.mul_le_mul zl h3)
section
variable {nx : List Nat → List (List Nat)} {h : List Nat → Nat} {m : Nat} {fr tt : List Nat} {L : List (List Nat)}
structure Run (nx : List Nat -> List (List Nat)) (h : List Nat -> Nat) (m : Nat) (fr tt : List Nat) (L : List (List Nat)) (s : Srch) (X : List St) (hx : St -> Nat -> Prop) : Prop where
 best : Best (E nx m L) (fun x => x.1 = fr) (s0 m tt) (fun x => (s.seen x).map (·.1)) (fun x => nextO x (s.seen x)) (fun x g => ∃ k, Mem s.n s.it ⟨x, g, k⟩) hx
 ord : Ord keyL s.n s.it
 key : ∀ l, Mem s.n s.it l -> l.k = l.c + h l.st.1
 inj : Inj (fun l : LeadM => (l.st, l.c)) s.n s.it
 fine : ∀ x v, s.seen x = some v -> Fine m L x ∧ Fine m L v.2
 cap : ∀ x v, s.seen x = some v -> v.1 <= 4 * X.length
 size : s.n <= 1 + 625 * X.length
 nodup : X.Nodup
 sub : ∀ x, x ∈ X -> Fine m L x
 shut : ∀ x, x ∈ X -> ∃ g, (s.seen x).map (·.1) = some g ∧ (∀ j K, BM.Way (E nx m L) j (s0 m tt) x K -> g <= K) ∧ ∀ l, Mem s.n s.it l -> l.st = x -> l.c ≠ g
theorem E_h (G : Gnd nx h m fr tt L) : ∀ a b d, E nx m L a b d -> h a.1 <= h b.1 + d := by
 rintro a b d ⟨h1, h2, h3, h4, h5⟩; have := G.step a.1 h1.1 b.1 h2 a.2; rw [<- h3, <- h4] at this; exact this
theorem Run.lead {s : Srch} {X : List St} {hx : St -> Nat -> Prop} (R : Run nx h m fr tt L s X hx) {l : LeadM} (hl : Mem s.n s.it l) : Fine m L l.st ∧ ∃ v, s.seen l.st = some v ∧ v.1 <= l.c := by
 obtain ⟨g, h1, h2⟩ := R.best.lead l.st l.c ⟨l.k, hl⟩; cases e : s.seen l.st with
 | none => rw [e] at h1; simp at h1
 | some v =>
   rw [e] at h1; simp at h1; exact ⟨(R.fine _ _ e).1, v, rfl, by omega⟩
theorem mem_see {s : Srch} {b : St} {c : Nat} {y : St} (hk : knownB (s.seen b) c = false) (hord : Ord keyL s.n s.it) : Ord keyL (seeF h s b c y).n (seeF h s b c y).it ∧ (∀ l, Mem (seeF h s b c y).n (seeF h s b c y).it l ↔ Mem s.n s.it l ∨ l = ⟨b, c, c + h b.1⟩) := by
 unfold seeF; rw [if_neg (by rw [hk]; simp)]; obtain ⟨h1, h2⟩ := riseF_ok (key := keyL) (lt := ltL) (fun _ _ => ltL_t) (fun _ _ => ltL_f) (Nat.le_succ _) (Nat.lt_succ_self _) (ord_push hord ⟨b, c, c + h b.1⟩); exact ⟨h1, fun l => (h2 l).trans mem_push⟩
theorem run_see (G : Gnd nx h m fr tt L) {s : Srch} {X : List St} {x b : St} {g : Nat} (R : Run nx h m fr tt L s X (fun a k => a = x ∧ k = g)) (hx : (s.seen x).map (·.1) = some g) (hX : x ∈ X) (hb : b.1 ∈ nx x.1) (hbu : b.2 = backU m x.1 x.2 b.1) (hg : g + 4 <= 4 * X.length) (hsz : s.n < 1 + 625 * X.length) :
 Run nx h m fr tt L (seeF h s b (g + cntU b.2) x) X (fun a k => a = x ∧ k = g) ∧ (∀ a k, (s.seen a).map (·.1) = some k -> ∃ k', ((seeF h s b (g + cntU b.2) x).seen a).map (·.1) = some k' ∧ k' <= k) ∧
  ((seeF h s b (g + cntU b.2) x).seen x).map (·.1) = some g ∧ (∃ k', ((seeF h s b (g + cntU b.2) x).seen b).map (·.1) = some k' ∧ k' <= g + cntU b.2) ∧ (seeF h s b (g + cntU b.2) x).n <= s.n + 1 := by
 cases hk : knownB (s.seen b) (g + cntU b.2) with
 | true =>
   have e : seeF h s b (g + cntU b.2) x = s := by unfold seeF; rw [if_pos hk]
   rw [e]; refine ⟨R, fun a k ha => ⟨k, ha, zl⟩, hx, ?_, Nat.le_succ _⟩; cases e2 : s.seen b with
   | none => rw [e2] at hk; cases hk
   | some v =>
     rw [e2] at hk; exact ⟨v.1, rfl, by simpa [knownB] using hk⟩
 | false =>
   have hless : ∀ k, (s.seen b).map (·.1) = some k -> g + cntU b.2 < k := fun k e => by
    cases e2 : s.seen b with
    | none => rw [e2] at e; cases e
    | some v =>
      rw [e2] at e hk; simp at e; subst e; simpa [knownB] using hk
   have hfx := R.sub x hX; have hbL : b.1 ∈ L := G.shut _ hfx.1 _ hb; have hfb : Fine m L b := ⟨hbL, by rw [hbu, backU_len]⟩
   have hd : 0 < cntU b.2 := by
    rcases Nat.eq_zero_or_pos (cntU b.2) with e | e
    . rw [hbu] at e; obtain ⟨e1, e2⟩ := back_none (G.len _ hfx.1) (G.len _ hbL) hfx.2 e; have e3 : b = x := Prod.ext e1 (by rw [hbu, e2]); have := hless g (by rw [e3]; exact hx); omega
    . exact e
   have hE : E nx m L x b (cntU b.2) := ⟨hfx, hb, hbu, rfl, hd⟩
   have hd4 : cntU b.2 <= 4 := by
    have := cntU_le b.2; have h4 := G.m4; have := hfb.2; omega
   have hbx : x ≠ b := fun e => by
    have := hless g (by rw [<- e]; exact hx); omega
   obtain ⟨o1, o2⟩ := mem_see (h := h) (y := x) hk R.ord; have en : (seeF h s b (g + cntU b.2) x).n = s.n + 1 := by unfold seeF; rw [if_neg (by rw [hk]; simp)]
   have es : (seeF h s b (g + cntU b.2) x).seen = seenPutS s.seen b (g + cntU b.2) x := by unfold seeF; rw [if_neg (by rw [hk]; simp)]
   have ei : (seeF h s b (g + cntU b.2) x).it = riseF ltL (s.n + 1) (pushIt s.it s.n ⟨b, g + cntU b.2, g + cntU b.2 + h b.1⟩) s.n := by unfold seeF; rw [if_neg (by rw [hk]; simp)]
   have sb : seenPutS s.seen b (g + cntU b.2) x b = some (g + cntU b.2, x) := by unfold seenPutS; rw [if_pos rfl]
   have so : ∀ a, a ≠ b -> seenPutS s.seen b (g + cntU b.2) x a = s.seen a := fun a ha => by unfold seenPutS; rw [if_neg ha]
   obtain ⟨s', hs'⟩ : ∃ s', s' = seeF h s b (g + cntU b.2) x := ⟨_, rfl⟩
   rw [<- hs'] at o1 o2 en es ei ⊢; have hbest := best_see (seen' := fun a => (s'.seen a).map (·.1)) (nx' := fun a => nextO a (s'.seen a)) (op' := fun a k => ∃ j, Mem s'.n s'.it ⟨a, k, j⟩) R.best hx hE hd hless (by show (s'.seen b).map _ = _; rw [es, sb]; rfl) (fun a ha => by show (s'.seen a).map _ = _; rw [es, so a ha]) (by show nextO b (s'.seen b) = x; rw [es, sb]; rfl) (fun a ha => by show nextO a (s'.seen a) = _; rw [es, so a ha]) (fun a k => by
    constructor
    . rintro ⟨j, hj⟩; rcases (o2 _).1 hj with h1 | h1
      . exact .inl ⟨j, h1⟩
      . cases h1; exact .inr ⟨rfl, rfl⟩
    . rintro (⟨j, hj⟩ | ⟨rfl, rfl⟩)
      . exact ⟨j, (o2 _).2 (.inl hj)⟩
      . exact ⟨_, (o2 _).2 (.inr rfl)⟩)
   refine ⟨⟨hbest, o1, fun l hl => ?_, ?_, fun a v hv => ?_, fun a v hv => ?_, by omega, R.nodup, R.sub, fun a ha => ?_⟩, fun a k ha => ?_, ?_, ⟨g + cntU b.2, by rw [es, sb]; rfl, zl⟩, by omega⟩
   . rcases (o2 l).1 hl with h1 | h1
     . exact R.key l h1
     . rw [h1]
   . rw [en, ei]; refine riseF_inj (Nat.lt_succ_self _) (inj_push R.inj fun i hi e => ?_); have hm : Mem s.n s.it (s.it i) := ⟨i, hi, rfl⟩
     obtain ⟨_, v, h1, h2⟩ := R.lead hm; have e1 : (s.it i).st = b := congrArg Prod.fst e; have e2 : (s.it i).c = g + cntU b.2 := congrArg Prod.snd e; rw [e1] at h1; have := hless v.1 (by rw [h1]; rfl); omega
   . rw [es] at hv; by_cases e : a = b
     . subst e; rw [sb] at hv; cases hv; exact ⟨hfb, hfx⟩
     . rw [so a e] at hv; exact R.fine a v hv
   . rw [es] at hv; by_cases e : a = b
     . subst e; rw [sb] at hv; cases hv; show g + cntU a.2 <= _; omega
     . rw [so a e] at hv; exact R.cap a v hv
   . obtain ⟨k, h1, h2, h3⟩ := R.shut a ha; have hab : a ≠ b := fun e => by
      subst e; have h4 := hless k h1; obtain ⟨j, hj⟩ := R.best.way x g hx; have := h2 (j + 1) (g + cntU a.2) ⟨x, g, _, hj, hE, rfl⟩; omega
     refine ⟨k, by rw [es, so a hab]; exact h1, h2, fun l hl e => ?_⟩; rcases (o2 l).1 hl with h4 | h4
     . exact h3 l h4 e
     . rw [h4] at e; exact absurd e.symm hab
   . by_cases e : a = b
     . subst e; exact ⟨_, by rw [es, sb]; rfl, Nat.le_of_lt (hless k ha)⟩
     . exact ⟨k, by rw [es, so a e]; exact ha, zl⟩
   . rw [es, so x hbx]; exact hx
theorem run_go (G : Gnd nx h m fr tt L) {X : List St} {x : St} {g : Nat} (hX : x ∈ X) (hg : g + 4 <= 4 * X.length) : ∀ (Q : List (List Nat)) (s : Srch), Run nx h m fr tt L s X (fun a k => a = x ∧ k = g) -> (s.seen x).map (·.1) = some g -> (∀ q, q ∈ Q -> q ∈ nx x.1) -> s.n + Q.length <= 1 + 625 * X.length ->
 Run nx h m fr tt L (goF h m x g Q s) X (fun a k => a = x ∧ k = g) ∧ ((goF h m x g Q s).seen x).map (·.1) = some g ∧ (∀ a k, (s.seen a).map (·.1) = some k -> ∃ k', ((goF h m x g Q s).seen a).map (·.1) = some k' ∧ k' <= k) ∧
  (∀ q, q ∈ Q -> ∃ k', ((goF h m x g Q s).seen (q, backU m x.1 x.2 q)).map (·.1) = some k' ∧ k' <= g + cntU (backU m x.1 x.2 q)) ∧ (goF h m x g Q s).n <= s.n + Q.length
 | [], s, R, hx, _, _ => ⟨R, hx, fun a k ha => ⟨k, ha, zl⟩, fun q hq => by simp at hq, zl⟩
 | q :: Q, s, R, hx, hQ, hsz => by
   simp only [List.length_cons] at hsz; obtain ⟨r1, r2, r3, r4, r5⟩ := run_see G (b := (q, backU m x.1 x.2 q)) R hx hX (hQ q (by simp)) rfl hg (by omega); obtain ⟨t1, t2, t3, t4, t5⟩ := run_go G hX hg Q _ r1 r3 (fun q' hq' => hQ q' (by simp [hq'])) (by omega); show Run nx h m fr tt L (goF h m x g Q (seeF h s (q, backU m x.1 x.2 q) (g + cntU (backU m x.1 x.2 q)) x)) X _ ∧ _; refine ⟨t1, t2, fun a k ha => ?_, fun q' hq' => ?_, ?_⟩
   . obtain ⟨k1, h1, h2⟩ := r2 a k ha; obtain ⟨k2, h3, h4⟩ := t3 a k1 h1; exact ⟨k2, h3, by omega⟩
   . rcases List.mem_cons.1 hq' with e | e
     . subst e; obtain ⟨k1, h1, h2⟩ := r4; obtain ⟨k2, h3, h4⟩ := t3 _ k1 h1; exact ⟨k2, h3, Nat.le_trans h4 h2⟩
     . exact t4 q' e
   . exact Nat.le_trans t5 (by simp only [List.length_cons]; exact Nat.le_trans (Nat.add_le_add_right r5 Q.length) (by omega))
theorem mem_popF {s : Srch} (hn : 0 < s.n) (hord : Ord keyL s.n s.it) : Ord keyL (popF s).n (popF s).it ∧ ∀ l, Mem s.n s.it l ↔ Mem (popF s).n (popF s).it l ∨ l = s.it 0 := by
 obtain ⟨h1, h2⟩ := sinkF_ok (key := keyL) (lt := ltL) (n := s.n - 1) (f := s.n - 1) (it := popIt s.it s.n) (b := 0) (fun _ _ => ltL_t) (fun _ _ => ltL_f) zl (down_pop hord); exact ⟨h1, fun l => (mem_pop hn).trans (or_congr (h2 l).symm Iff.rfl)⟩
theorem run_min {s : Srch} {X : List St} {hx : St -> Nat -> Prop} (R : Run nx h m fr tt L s X hx) (hn : 0 < s.n) : ∀ a k, (∃ j, Mem s.n s.it ⟨a, k, j⟩) -> (s.it 0).c + h (s.it 0).st.1 <= k + h a.1 := by
 rintro a k ⟨j, i, hi, e⟩; have h1 := ord_first R.ord i hi; have h2 := R.key (s.it 0) ⟨0, hn, rfl⟩; have h3 := R.key (s.it i) ⟨i, hi, rfl⟩; unfold keyL at h1; rw [e] at h1 h3; simp only at h1 h3; omega
theorem run_goal (G : Gnd nx h m fr tt L) {s : Srch} {X : List St} (R : Run nx h m fr tt L s X (fun _ _ => False)) (hn : 0 < s.n) (_hgo : (s.it 0).st.1 = fr) :
 ∃ g, (s.seen (s.it 0).st).map (·.1) = some g ∧ ∀ j b K, BM.Way (E nx m L) j (s0 m tt) b K -> b.1 = fr -> g <= K := by
 obtain ⟨g, h1, _, h3⟩ := best_first (h := fun x => h x.1) R.best (E_h G) (fun b hb => by show h b.1 = 0; rw [hb]; exact G.zero) (s := (s.it 0).st) (g := (s.it 0).c) ⟨(s.it 0).k, 0, hn, rfl⟩ (run_min R hn); exact ⟨g, h1, h3⟩
theorem run_stale {s : Srch} {X : List St} (R : Run nx h m fr tt L s X (fun _ _ => False)) (hn : 0 < s.n) (hst : (s.it 0).c ≠ costO (s.seen (s.it 0).st)) : Run nx h m fr tt L (popF s) X (fun _ _ => False) := by
 obtain ⟨o1, o2⟩ := mem_popF hn R.ord; have up : ∀ l, Mem (popF s).n (popF s).it l -> Mem s.n s.it l := fun l hl => (o2 l).2 (.inl hl)
 refine ⟨best_stale R.best (s1 := (s.it 0).st) (g1 := (s.it 0).c) (fun a k hk => ?_) (fun a k hk => ?_) ?_, o1, fun l hl => R.key l (up l hl), ?_, R.fine, R.cap, ?_, R.nodup, R.sub, fun x hx => ?_⟩
 . obtain ⟨j, hj⟩ := hk; rcases (o2 _).1 hj with h1 | h1
   . exact .inl ⟨j, h1⟩
   . exact .inr ⟨by rw [<- h1], by rw [<- h1]⟩
 . obtain ⟨j, hj⟩ := hk; exact ⟨j, up _ hj⟩
 . intro e; have e : (s.seen (s.it 0).st).map (·.1) = some (s.it 0).c := e; apply hst
   cases e2 : s.seen (s.it 0).st with
   | none => rw [e2] at e; cases e
   | some v => rw [e2] at e; simp at e; exact e.symm
 . exact sinkF_inj (inj_pop hn R.inj).1
 . have := R.size; show s.n - 1 <= _; omega
 . obtain ⟨k, h1, h2, h3⟩ := R.shut x hx; exact ⟨k, h1, h2, fun l hl => h3 l (up l hl)⟩
theorem run_live (G : Gnd nx h m fr tt L) {s : Srch} {X : List St} (R : Run nx h m fr tt L s X (fun _ _ => False)) (hn : 0 < s.n) (hgo : (s.it 0).st.1 ≠ fr) (hst : (s.it 0).c = costO (s.seen (s.it 0).st)) :
 Run nx h m fr tt L (goF h m (s.it 0).st (s.it 0).c (nx (s.it 0).st.1) (popF s)) ((s.it 0).st :: X) (fun _ _ => False) ∧ (goF h m (s.it 0).st (s.it 0).c (nx (s.it 0).st.1) (popF s)).n <= s.n + 624 ∧
  (s.it 0).c <= 4 * X.length ∧ Run nx h m fr tt L (popF s) ((s.it 0).st :: X) (fun a k => a = (s.it 0).st ∧ k = (s.it 0).c) ∧ ((popF s).seen (s.it 0).st).map (·.1) = some (s.it 0).c := by
 have hm : Mem s.n s.it (s.it 0) := ⟨0, hn, rfl⟩
 obtain ⟨hf, v, hv, hvc⟩ := R.lead hm; have hc : (s.seen (s.it 0).st).map (·.1) = some (s.it 0).c := by
  rw [hst, hv]; rfl
 have hcap := R.cap _ _ hv; have hcv : (s.it 0).c = v.1 := by rw [hst, hv]; rfl
 have hleast := best_least (h := fun x => h x.1) R.best (E_h G) (s := (s.it 0).st) (g := (s.it 0).c) hc (run_min R hn); obtain ⟨o1, o2⟩ := mem_popF hn R.ord; obtain ⟨j1, j2⟩ := inj_pop hn R.inj; have up : ∀ l, Mem (popF s).n (popF s).it l -> Mem s.n s.it l := fun l hl => (o2 l).2 (.inl hl)
 have hnew : (s.it 0).st ∉ X := fun hX => by
  obtain ⟨k, h1, _, h3⟩ := R.shut _ hX; rw [hc] at h1; cases h1; exact h3 _ hm rfl rfl
 have hmem : ∀ l, Mem (popF s).n (popF s).it l ↔ Mem (s.n - 1) (popIt s.it s.n) l := (sinkF_ok (key := keyL) (lt := ltL) (n := s.n - 1) (f := s.n - 1) (it := popIt s.it s.n) (b := 0) (fun _ _ => ltL_t) (fun _ _ => ltL_f) zl (down_pop R.ord)).2; have hsz := R.size; have R1 : Run nx h m fr tt L (popF s) ((s.it 0).st :: X) (fun a k => a = (s.it 0).st ∧ k = (s.it 0).c) := by
  refine ⟨best_pop R.best (s1 := (s.it 0).st) (g1 := (s.it 0).c) (fun a k hk => ?_) (fun a k hk => ?_), o1, fun l hl => R.key l (up l hl), sinkF_inj j1, R.fine, fun x v hv => ?_, ?_, List.nodup_cons.2 ⟨hnew, R.nodup⟩, fun x hx => ?_, fun x hx => ?_⟩
  . obtain ⟨j, hj⟩ := hk; rcases (o2 _).1 hj with h1 | h1
    . exact .inl ⟨j, h1⟩
    . exact .inr ⟨by rw [<- h1], by rw [<- h1]⟩
  . obtain ⟨j, hj⟩ := hk; exact ⟨j, up _ hj⟩
  . have := R.cap x v hv; simp only [List.length_cons]; omega
  . simp only [List.length_cons]; show s.n - 1 <= _; omega
  . rcases List.mem_cons.1 hx with e | e
    . rw [e]; exact hf
    . exact R.sub x e
  . rcases List.mem_cons.1 hx with e | e
    . subst e; refine ⟨_, hc, hleast, fun l hl e1 e2 => ?_⟩; obtain ⟨i, hi, e3⟩ := (hmem l).1 hl; refine j2 i hi ?_; show ((popIt s.it s.n i).st, (popIt s.it s.n i).c) = _; rw [e3, e1, e2]
    . obtain ⟨k, h1, h2, h3⟩ := R.shut x e; exact ⟨k, h1, h2, fun l hl => h3 l (up l hl)⟩
 have hfew := G.few (s.it 0).st.1; have hpn : (popF s).n = s.n - 1 := rfl; obtain ⟨t1, t2, t3, t4, t5⟩ := run_go G (X := (s.it 0).st :: X) (x := (s.it 0).st) (g := (s.it 0).c) (by simp) (by simp only [List.length_cons]; omega) (nx (s.it 0).st.1) (popF s) R1 hc (fun q hq => hq) (by simp only [List.length_cons]; omega); refine ⟨⟨best_done t1.best hgo ?_, t1.ord, t1.key, t1.inj, t1.fine, t1.cap, t1.size, t1.nodup, t1.sub, t1.shut⟩, by omega, by omega, R1, hc⟩; rintro b d ⟨_, hb, hbu, hd, _⟩; obtain ⟨k', h1, h2⟩ := t4 b.1 hb
 have e : b = (b.1, backU m (s.it 0).st.1 (s.it 0).st.2 b.1) := Prod.ext rfl hbu; refine ⟨k', by rw [e]; exact h1, ?_⟩; rw [hd, hbu]; exact h2
def left (L : List (List Nat)) (s : Srch) (X : List St) : Nat := 626 * (L.length * 16 - X.length) + s.n
theorem run_ne (G : Gnd nx h m fr tt L) (hway : ∃ j b K, BM.Way (E nx m L) j (s0 m tt) b K ∧ b.1 = fr) {s : Srch} {X : List St} (R : Run nx h m fr tt L s X (fun _ _ => False)) : 0 < s.n := by
 obtain ⟨j, b, K, W, hb⟩ := hway; obtain ⟨s', g', ⟨k, i, hi, _⟩, _⟩ := best_front (h := fun x => h x.1) R.best (E_h G) (fun b hb => by show h b.1 = 0; rw [hb]; exact G.zero) W hb; omega
theorem run_bounds (G : Gnd nx h m fr tt L) {s : Srch} {X : List St} {hx : St -> Nat -> Prop} (R : Run nx h m fr tt L s X hx) : X.length <= 320000 ∧ s.n <= 200000001 := by
 have h1 := fine_few G.m4 R.nodup R.sub; have h2 := G.most; have h3 := R.size; omega
theorem come_ok (G : Gnd nx h m fr tt L) (hway : ∃ j b K, BM.Way (E nx m L) j (s0 m tt) b K ∧ b.1 = fr) : ∀ (f : Nat) (s : Srch) (X : List St), Run nx h m fr tt L s X (fun _ _ => False) -> left L s X < f ->
 ∃ x s' X', comeF nx h m fr f s = some (x, s') ∧ x.1 = fr ∧ (∃ s1, s1.seen = s'.seen ∧ Run nx h m fr tt L s1 X' (fun _ _ => False)) ∧ ∃ g, (s'.seen x).map (·.1) = some g ∧ ∀ j b K, BM.Way (E nx m L) j (s0 m tt) b K -> b.1 = fr -> g <= K
 | 0, s, X, _, hf => absurd hf (Nat.not_lt_zero _)
 | f + 1, s, X, R, hf => by
   have hn : s.n ≠ 0 := fun e => by
    obtain ⟨j, b, K, W, hb⟩ := hway; obtain ⟨s', g', ⟨k, i, hi, _⟩, _⟩ := best_front (h := fun x => h x.1) R.best (E_h G) (fun b hb => by show h b.1 = 0; rw [hb]; exact G.zero) W hb; omega
   have hn0 : 0 < s.n := Nat.pos_of_ne_zero hn; simp only [comeF]; rw [if_neg hn]; by_cases hgo : (s.it 0).st.1 = fr
   . rw [if_pos hgo]; obtain ⟨g, h1, h2⟩ := run_goal G R hn0 hgo; exact ⟨_, _, X, rfl, hgo, ⟨s, rfl, R⟩, g, h1, h2⟩
   . rw [if_neg hgo]; by_cases hst : (s.it 0).c = costO (s.seen (s.it 0).st)
     . rw [if_pos hst]; obtain ⟨r1, r2, r3, _⟩ := run_live G R hn0 hgo hst; have hX := fine_few G.m4 r1.nodup r1.sub; simp only [List.length_cons] at hX; refine come_ok G hway f _ _ r1 ?_; unfold left at hf ⊢; simp only [List.length_cons]; omega
     . rw [if_neg hst]; refine come_ok G hway f _ X (run_stale R hn0 hst) ?_; unfold left at hf ⊢; show _ + (s.n - 1) < _; omega
def begin0 (h : List Nat -> Nat) (m : Nat) (tt : List Nat) : Srch := seeF h { seen := fun _ => none, n := 0, it := fun _ => ⟨([], []), 0, 0⟩ } (s0 m tt) 0 (s0 m tt)
theorem run_begin (G : Gnd nx h m fr tt L) : Run nx h m fr tt L (begin0 h m tt) [] (fun _ _ => False) ∧ (begin0 h m tt).n = 1 := by
 have hf : Fine m L (s0 m tt) := ⟨G.goal, by simp [s0]⟩
 obtain ⟨o1, o2⟩ := mem_see (h := h) (s := { seen := fun _ => none, n := 0, it := fun _ => ⟨([], []), 0, 0⟩ }) (b := s0 m tt) (c := 0) (y := s0 m tt) rfl (fun i h0 hi => absurd hi (Nat.not_lt_zero i)); have o3 : ∀ l, Mem (begin0 h m tt).n (begin0 h m tt).it l ↔ l = ⟨s0 m tt, 0, 0 + h (s0 m tt).1⟩ := fun l => (o2 l).trans ⟨fun hh => hh.elim (fun ⟨i, hi, _⟩ => absurd hi (Nat.not_lt_zero i)) id, .inr⟩
 have es : (begin0 h m tt).seen = seenPutS (fun _ => none) (s0 m tt) 0 (s0 m tt) := rfl; have en : (begin0 h m tt).n = 1 := rfl; have sv : ∀ x v, (begin0 h m tt).seen x = some v -> x = s0 m tt ∧ v = (0, s0 m tt) := fun x v hv => by
  rw [es] at hv; unfold seenPutS at hv; by_cases e : x = s0 m tt
  . rw [if_pos e] at hv; cases hv; exact ⟨e, rfl⟩
  . rw [if_neg e] at hv; cases hv
 have sv2 : ∀ x g, ((begin0 h m tt).seen x).map (·.1) = some g -> x = s0 m tt ∧ g = 0 := fun x g hg => by
  cases e : (begin0 h m tt).seen x with
  | none => rw [e] at hg; cases hg
  | some v =>
    obtain ⟨h1, h2⟩ := sv x v e; rw [e, h2] at hg; simp at hg; exact ⟨h1, hg.symm⟩
 refine ⟨⟨⟨?_, fun s g hs => ?_, fun s g hs => ?_, fun s g hs => ?_, fun s g hs => .inl (sv2 s g hs).2, fun s hs => (sv2 s 0 hs).1⟩, o1, fun l hl => ?_, ?_, fun x v hv => ?_, fun x v hv => ?_, by rw [en]; simp, List.nodup_nil, fun x hx => by simp at hx, fun x hx => by simp at hx⟩, en⟩
 . show ((begin0 h m tt).seen (s0 m tt)).map _ = _; rw [es]; unfold seenPutS; rw [if_pos rfl]; rfl
 . obtain ⟨rfl, rfl⟩ := sv2 s g hs; exact ⟨0, rfl, rfl⟩
 . obtain ⟨rfl, rfl⟩ := sv2 s g hs; exact .inl ⟨_, (o3 _).2 rfl⟩
 . obtain ⟨k, hk⟩ := hs; have := (o3 _).1 hk; cases this; exact ⟨0, by show ((begin0 h m tt).seen (s0 m tt)).map _ = _; rw [es]; unfold seenPutS; rw [if_pos rfl]; rfl, zl⟩
 . rw [(o3 l).1 hl]
 . rw [en]; intro i j hi hj _; omega
 . obtain ⟨h1, h2⟩ := sv x v hv; rw [h1, h2]; exact ⟨hf, hf⟩
 . obtain ⟨h1, h2⟩ := sv x v hv; rw [h2]; exact Nat.zero_le _
end
end SM
end Go.Proofs.YtnkgpinadgacgaaGreatDoor
