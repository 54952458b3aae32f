/- Ua. -/
import Derived.Test.YtnkgpinadgacgaaGreatDoorQe
set_option maxRecDepth 1000000
namespace Go.Proofs.YtnkgpinadgacgaaGreatDoor
section
namespace TX
open Go.Lib
structure Sc where
 part : Nat
 at_ : Nat
 wide : Nat
 count : Nat
 digs : Nat
 nought : Bool
def digitS (x : Sc) (c : UInt8) : Option Sc :=
 if isDig c = false ∨ x.nought = true ∨ 4 < x.digs then none else some { x with nought := decide (x.digs = 0 ∧ c.toNat = 48), digs := x.digs + 1 }
def overS (x : Sc) : Sc := { x with at_ := 0, count := 0, digs := 0, nought := false }
def firstS (x : Sc) (c : UInt8) : Option Sc :=
 if x.at_ < 5 then (if headB[x.at_]? = some c then some { x with at_ := x.at_ + 1 } else none)
 else if c = 10 ∧ 0 < x.digs then some { overS x with part := 1 }
 else digitS x c
def rowS (x : Sc) (c : UInt8) : Option Sc :=
 if isCell c then (if x.wide = 0 ∨ x.at_ + 1 <= x.wide then some { x with at_ := x.at_ + 1 } else none)
 else if c = 10 then (if 0 < x.at_ ∧ (x.wide = 0 ∨ x.at_ = x.wide) then some (overS { x with wide := x.at_ }) else none)
 else if 0 < x.at_ ∨ x.wide = 0 then none
 else digitS { x with part := 2 } c
def cartS (x : Sc) (c : UInt8) : Option Sc :=
 if c = 32 ∧ 0 < x.digs ∧ x.count < 3 then some { x with count := x.count + 1, digs := 0, nought := false }
 else if c = 10 ∧ 0 < x.digs ∧ x.count = 3 then some (overS x)
 else digitS x c
def goesS (x : Sc) (c : UInt8) : Option Sc := if x.part = 0 then firstS x c else if x.part = 1 then rowS x c else cartS x c
def doneS (x : Sc) : Bool := decide (2 <= x.part ∧ x.digs = 0 ∧ x.count = 0)
def runS : Sc -> List UInt8 -> List UInt8 × Bool
 | x, [] => ([], doneS x)
 | x, b :: r => match goesS x b with
   | some y => runS y r
   | none => (b :: r, false)
theorem run_cons (x : Sc) (b : UInt8) (r : List UInt8) : runS x (b :: r) = match goesS x b with
 | some y => runS y r
 | none => (b :: r, false) := rfl
def Full (x : Sc) (l : List UInt8) : Prop := ∀ b r, l = b :: r -> digitS x b = none
theorem num_run (x : Sc) (hg : ∀ (y : Sc) (b : UInt8), y.part = x.part -> y.at_ = x.at_ -> y.wide = x.wide -> y.count = x.count -> isDig b = true -> goesS y b = digitS y b) (hd : x.digs = 0) (hn : x.nought = false) :
 ∀ (l l1 : List UInt8) (n : Nat), number l = (l1, some n) -> ∃ (D : Nat) (N : Bool), 0 < D ∧ runS x l = runS { x with digs := D, nought := N } l1 ∧ Full { x with digs := D, nought := N } l1 := by
 intro l l1 n h; cases l with
 | nil => cases h
 | cons b t =>
   rw [number_cons] at h; by_cases hb : isDig b = true
   . rw [if_pos hb] at h; have e1 : goesS x b = some { x with nought := decide (x.digs = 0 ∧ b.toNat = 48), digs := x.digs + 1 } := by
      rw [hg x b rfl rfl rfl rfl hb]; unfold digitS; rw [if_neg]; rw [hb, hn, hd]; simp
     by_cases h0 : b.toNat = 48
     . rw [if_pos h0] at h; cases h; refine ⟨1, true, by omega, ?_, ?_⟩
       . rw [run_cons, e1]; simp [hd, h0]
       . intro c r _; unfold digitS; rw [if_pos (.inr (.inl rfl))]
     . rw [if_neg h0] at h; simp only [Prod.mk.injEq] at h; obtain ⟨h1, _⟩ := h; have key : ∀ (k D m : Nat) (t : List UInt8), D + k = 5 -> 0 < D -> ∃ D2, 0 < D2 ∧ runS { x with digs := D, nought := false } t = runS { x with digs := D2, nought := false } (more k m t).1 ∧ Full { x with digs := D2, nought := false } (more k m t).1 := by
        intro k; induction k with
        | zero =>
          intro D m t hD h0; refine ⟨D, h0, rfl, fun c r _ => ?_⟩; unfold digitS; rw [if_pos (.inr (.inr (by show 4 < D; omega)))]
        | succ k ih =>
          intro D m t hD h0; cases t with
          | nil => exact ⟨D, h0, rfl, fun c r hh => by cases hh⟩
          | cons c r =>
            by_cases hc : isDig c = true
            . have e2 : more (k + 1) m (c :: r) = more k (10 * m + (c.toNat - 48)) r := by
               show (if isDig c then _ else _) = _; rw [if_pos hc]
              rw [e2]; obtain ⟨D2, g1, g2, g3⟩ := ih (D + 1) (10 * m + (c.toNat - 48)) r (by omega) (by omega); refine ⟨D2, g1, ?_, g3⟩; rw [run_cons, hg { x with digs := D, nought := false } c rfl rfl rfl rfl hc]; have e3 : digitS { x with digs := D, nought := false } c = some { x with digs := D + 1, nought := false } := by
               unfold digitS; rw [if_neg]
               . simp
                 omega
               . rw [hc]; simp
                 omega
              rw [e3]; exact g2
            . have e2 : more (k + 1) m (c :: r) = (c :: r, m) := by
               show (if isDig c then _ else _) = _; rw [if_neg hc]
              rw [e2]; refine ⟨D, h0, rfl, fun c' r' hh => ?_⟩; cases hh; unfold digitS; rw [if_pos (.inl (by simpa using hc))]
       obtain ⟨D2, g1, g2, g3⟩ := key 4 1 (b.toNat - 48) t rfl (by omega); rw [h1] at g2 g3; refine ⟨D2, false, g1, ?_, g3⟩; rw [run_cons, e1]; have e4 : ({ x with nought := decide (x.digs = 0 ∧ b.toNat = 48), digs := x.digs + 1 } : Sc) = { x with digs := 1, nought := false } := by
        simp [hd, h0]
       rw [e4]; exact g2
   . rw [if_neg hb] at h; cases h
theorem num_none {l l1 : List UInt8} (h : number l = (l1, none)) : l1 = l ∧ NoDig l := by
 cases l with
 | nil => cases h; exact ⟨rfl, fun b r e => by cases e⟩
 | cons b t =>
   rw [number_cons] at h; by_cases hb : isDig b = true
   . rw [if_pos hb] at h; by_cases h0 : b.toNat = 48
     . rw [if_pos h0] at h; cases h
     . rw [if_neg h0] at h; cases h
   . rw [if_neg hb] at h; cases h; exact ⟨rfl, fun c r e => by cases e; simpa using hb⟩
theorem fail_at {x : Sc} {l : List UInt8} (h : ∀ b t, l = b :: t -> goesS x b = none) (hd : doneS x = false) : runS x l = (l, false) := by
 cases l with
 | nil => show ([], doneS x) = _; rw [hd]
 | cons b t => rw [run_cons, h b t rfl]
theorem digit_none {x : Sc} {b : UInt8} (h : isDig b = false) : digitS x b = none := by
 unfold digitS; rw [if_pos (.inl h)]
theorem take_no {c : UInt8} {l r : List UInt8} (h : take c l = (r, false)) : r = l ∧ ∀ b t, l = b :: t -> b ≠ c := by
 cases l with
 | nil => cases h; exact ⟨rfl, fun b t e => by cases e⟩
 | cons b t =>
   have h' : (if b = c then (t, true) else (b :: t, false)) = (r, false) := h; by_cases hb : b = c
   . rw [if_pos hb] at h'; cases h'
   . rw [if_neg hb] at h'; cases h'
     exact ⟨rfl, fun q u e => by cases e; exact hb⟩
theorem dig_not10 {b : UInt8} (h : isDig b = true) : b ≠ 10 ∧ b ≠ 32 := by
 have h1 := isDig_lo h; constructor
 . rintro rfl; revert h1; decide
 . rintro rfl; revert h1; decide
theorem head_one {j : Nat} {c : UInt8} (hj : j < 5) (hc : headB[j]? = some c) (l : List UInt8) : runS ⟨0, j, 0, 0, 0, false⟩ l = if (take c l).2 then runS ⟨0, j + 1, 0, 0, 0, false⟩ (take c l).1 else ((take c l).1, false) := by
 cases l with
 | nil => rfl
 | cons b t =>
   rw [run_cons]; have e : goesS ⟨0, j, 0, 0, 0, false⟩ b = if b = c then some ⟨0, j + 1, 0, 0, 0, false⟩ else none := by
    show firstS _ b = _; unfold firstS; rw [if_pos (show j < 5 from hj)]; show (if headB[j]? = some b then _ else _) = _; rw [hc]; by_cases hb : b = c
    . rw [if_pos hb, if_pos (by rw [hb])]
    . rw [if_neg hb, if_neg (fun h => hb (Option.some.inj h).symm)]
   rw [e]; show _ = if (if b = c then (t, true) else (b :: t, false)).2 then runS _ (if b = c then (t, true) else (b :: t, false)).1 else ((if b = c then (t, true) else (b :: t, false)).1, false)
   by_cases hb : b = c
   . rw [if_pos hb, if_pos hb]; rfl
   . rw [if_neg hb, if_neg hb]; rfl
theorem takes_cons (c : UInt8) (cs l : List UInt8) : takes (c :: cs) l = if (take c l).2 then takes cs (take c l).1 else ((take c l).1, false) := rfl
theorem head_run (l : List UInt8) : runS ⟨0, 0, 0, 0, 0, false⟩ l = if (takes headB l).2 then runS ⟨0, 5, 0, 0, 0, false⟩ (takes headB l).1 else ((takes headB l).1, false) := by
 have key : ∀ (k j : Nat) (l : List UInt8), j + k = 5 -> runS ⟨0, j, 0, 0, 0, false⟩ l = if (takes (headB.drop j) l).2 then runS ⟨0, 5, 0, 0, 0, false⟩ (takes (headB.drop j) l).1 else ((takes (headB.drop j) l).1, false) := by
  intro k; induction k with
  | zero =>
    intro j l hj; have : j = 5 := by omega
    subst this; rfl
  | succ k ih =>
    intro j l hj; have hlen : j < headB.length := by show j < 5; omega
    obtain ⟨c, hc⟩ : ∃ c, headB[j]? = some c := ⟨_, List.getElem?_eq_getElem hlen⟩
    have hd : headB.drop j = c :: headB.drop (j + 1) := by
     rw [List.drop_eq_getElem_cons hlen]; rw [List.getElem?_eq_getElem hlen] at hc; rw [Option.some.inj hc]
    rw [head_one (by omega) hc l, hd, takes_cons]; by_cases h : (take c l).2 = true
    . rw [if_pos h, if_pos h]; exact ih (j + 1) _ (by omega)
    . rw [if_neg h, if_neg h]; rfl
 exact key 5 0 l rfl
theorem first_dig (x : Sc) (b : UInt8) (hp : x.part = 0) (ha : x.at_ = 5) (hb : isDig b = true) : goesS x b = digitS x b := by
 unfold goesS; rw [if_pos hp]; unfold firstS; rw [if_neg (by omega), if_neg (fun h => (dig_not10 hb).1 h.1)]
theorem goes0 {x : Sc} {b : UInt8} (h : x.part = 0) : goesS x b = firstS x b := by unfold goesS; rw [if_pos h]
theorem goes1 {x : Sc} {b : UInt8} (h : x.part = 1) : goesS x b = rowS x b := by unfold goesS; rw [if_neg (by omega), if_pos h]
theorem goes2 {x : Sc} {b : UInt8} (h : x.part = 2) : goesS x b = cartS x b := by unfold goesS; rw [if_neg (by omega), if_neg (by omega)]
theorem budget_run (l : List UInt8) : runS ⟨0, 0, 0, 0, 0, false⟩ l = match (budgetP l).2 with
 | some _ => runS ⟨1, 0, 0, 0, 0, false⟩ (budgetP l).1
 | none => ((budgetP l).1, false) := by
 rw [head_run]; unfold budgetP okP; by_cases h : (takes headB l).2 = true
 . rw [if_pos h, if_pos h]; generalize (takes headB l).1 = l1; show _ = match (andP (number l1) fun n l2 => if (take 10 l2).2 then ((take 10 l2).1, some n) else ((take 10 l2).1, none)).2 with
    | some _ => runS ⟨1, 0, 0, 0, 0, false⟩ (andP (number l1) fun n l2 => if (take 10 l2).2 then ((take 10 l2).1, some n) else ((take 10 l2).1, none)).1
    | none => ((andP (number l1) fun n l2 => if (take 10 l2).2 then ((take 10 l2).1, some n) else ((take 10 l2).1, none)).1, false)
   obtain ⟨l2, o, hq⟩ : ∃ l2 o, number l1 = (l2, o) := ⟨_, _, rfl⟩
   rw [hq]; cases o with
   | none =>
     obtain ⟨e1, e2⟩ := num_none hq; rw [e1]; show _ = (l1, false)
     refine fail_at (fun b t hb => ?_) rfl; have hnd := e2 b t hb; rw [goes0 rfl]; unfold firstS; rw [if_neg (by decide), if_neg (fun hh => absurd hh.2 (by decide))]; exact digit_none hnd
   | some n =>
     obtain ⟨D, N, hD, hr, hf⟩ := num_run ⟨0, 5, 0, 0, 0, false⟩ (fun y b h1 h2 _ _ hb => first_dig y b h1 h2 hb) rfl rfl l1 l2 n hq; rw [hr, andP_mk]; obtain ⟨l3, ok, ht⟩ : ∃ l3 ok, take 10 l2 = (l3, ok) := ⟨_, _, rfl⟩
     rw [ht]; cases ok with
     | true =>
       rw [take_form ht]; rw [run_cons]; have e : goesS ⟨0, 5, 0, 0, D, N⟩ 10 = some ⟨1, 0, 0, 0, 0, false⟩ := by
        rw [goes0 rfl]; unfold firstS; rw [if_neg (show ¬ (5 : Nat) < 5 by omega), if_pos ⟨rfl, hD⟩]; rfl
       rw [show goesS { part := 0, at_ := 5, wide := 0, count := 0, digs := D, nought := N } 10 = _ from e]; rfl
     | false =>
       obtain ⟨e1, e2⟩ := take_no ht; rw [e1]; refine fail_at (fun b t hb => ?_) ?_
       . rw [goes0 rfl]; unfold firstS; rw [if_neg (show ¬ (5 : Nat) < 5 by omega), if_neg (fun hh => e2 b t hb hh.1)]; exact hf b t hb
       . rfl
 . rw [if_neg h, if_neg h]
theorem cell_not10 {b : UInt8} (h : isCell b = true) : b ≠ 10 := by rintro rfl; revert h; decide
theorem row_cell {a C : Nat} {b : UInt8} (hb : isCell b = true) (h : C = 0 ∨ a + 1 <= C) : goesS ⟨1, a, C, 0, 0, false⟩ b = some ⟨1, a + 1, C, 0, 0, false⟩ := by
 rw [goes1 rfl]; unfold rowS; rw [if_pos hb, if_pos h]
theorem row_line {a C : Nat} (ha : 0 < a) (h : C = 0 ∨ a = C) : goesS ⟨1, a, C, 0, 0, false⟩ 10 = some ⟨1, 0, a, 0, 0, false⟩ := by
 rw [goes1 rfl]; unfold rowS; rw [if_neg (by decide), if_pos rfl, if_pos ⟨ha, h⟩]; rfl
theorem row_stop {a C : Nat} {b : UInt8} (ha : 0 < a ∨ C = 0) (hb : isCell b = false ∨ (C ≠ 0 ∧ C <= a)) (h10 : b ≠ 10 ∨ a = 0 ∨ (C ≠ 0 ∧ a ≠ C)) : goesS ⟨1, a, C, 0, 0, false⟩ b = none := by
 rw [goes1 rfl]; unfold rowS; by_cases hc : isCell b = true
 . rw [if_pos hc, if_neg]; rcases hb with hb | hb
   . rw [hc] at hb; cases hb
   . show ¬ (C = 0 ∨ a + 1 <= C); omega
 . rw [if_neg hc]; by_cases h : b = 10
   . rw [if_pos h, if_neg]; rcases h10 with h1 | h1
     . exact absurd h h1
     . show ¬ (0 < a ∧ (C = 0 ∨ a = C)); omega
   . rw [if_neg h, if_pos]; exact ha
theorem cells_run {C : Nat} : ∀ (k a : Nat) (l : List UInt8), C = 0 ∨ a + k <= C -> runS ⟨1, a, C, 0, 0, false⟩ l = runS ⟨1, a + (cellsP k l).1.length, C, 0, 0, false⟩ (cellsP k l).2
 | 0, a, l, _ => rfl
 | k + 1, a, [], _ => rfl
 | k + 1, a, b :: r, h => by
   by_cases hb : isCell b = true
   . have e : cellsP (k + 1) (b :: r) = (b :: (cellsP k r).1, (cellsP k r).2) := by
      show (if isCell b then _ else _) = _; rw [if_pos hb]
     rw [e, run_cons, row_cell hb (by omega)]; show runS ⟨1, a + 1, C, 0, 0, false⟩ r = _; rw [cells_run k (a + 1) r (by omega), List.length_cons]; show runS ⟨1, a + 1 + _, C, 0, 0, false⟩ _ = runS ⟨1, a + (_ + 1), C, 0, 0, false⟩ _; rw [Nat.add_assoc, Nat.add_comm 1]
   . have e : cellsP (k + 1) (b :: r) = ([], b :: r) := by
      show (if isCell b then _ else _) = _; rw [if_neg hb]
     rw [e]; rfl
theorem done1 (a C : Nat) : doneS ⟨1, a, C, 0, 0, false⟩ = false := rfl
theorem before_false {l : List UInt8} (h : beforeCell l = false) : ∀ b t, l = b :: t -> isCell b = false := fun b t e => by rw [e] at h; exact h
theorem more_runS {C : Nat} (hC : 0 < C) : ∀ (f : Nat) (l acc : List UInt8) (n : Nat), l.length < f -> runS ⟨1, 0, C, 0, 0, false⟩ l = (match (moreRows C f l acc n).2 with
 | some _ => runS ⟨1, 0, C, 0, 0, false⟩ (moreRows C f l acc n).1
 | none => ((moreRows C f l acc n).1, false)) ∧ ((moreRows C f l acc n).2.isSome = true -> beforeCell (moreRows C f l acc n).1 = false)
 | 0, l, _, _, hf => absurd hf (Nat.not_lt_zero _)
 | f + 1, l, acc, n, hf => by
   by_cases hb : beforeCell l = true
   . have e : moreRows C (f + 1) l acc n = (if (cellsP C l).1.length < C then ((cellsP C l).2, none) else okP (take 10 (cellsP C l).2) fun l1 => moreRows C f l1 (acc ++ (cellsP C l).1) (n + 1)) := by
      show (if beforeCell l then _ else _) = _; rw [if_pos hb]
     obtain ⟨h1, h2, h3, h4⟩ := cellsP_form C l; rw [e, cells_run C 0 l (by omega), Nat.zero_add]; have hpos : 0 < (cellsP C l).1.length := by
      cases l with
      | nil => cases hb
      | cons b t =>
        obtain ⟨k, rfl⟩ : ∃ k, C = k + 1 := ⟨C - 1, by omega⟩
        have e : cellsP (k + 1) (b :: t) = (b :: (cellsP k t).1, (cellsP k t).2) := by
         show (if isCell b then _ else _) = _; exact if_pos hb
        rw [e, List.length_cons]; omega
     by_cases hs : (cellsP C l).1.length < C
     . rw [if_pos hs]; refine ⟨?_, fun h => by cases h⟩; refine fail_at (fun b t hbt => ?_) (done1 _ _); exact row_stop (.inl hpos) (.inl (before_false (h4 hs) b t hbt)) (.inr (.inr ⟨by omega, by omega⟩))
     . rw [if_neg hs]; have hl : (cellsP C l).1.length = C := by omega
       rw [hl]; have hlen := congrArg List.length h1; rw [List.length_append] at hlen; obtain ⟨l2, ok, ht⟩ : ∃ l2 ok, take 10 (cellsP C l).2 = (l2, ok) := ⟨_, _, rfl⟩
       rw [ht]; cases ok with
       | true =>
         have hq := take_form ht; rw [okP_mk, hq, run_cons, row_line hC (.inr rfl)]; rw [hq, List.length_cons] at hlen; exact more_runS hC f l2 _ _ (by omega)
       | false =>
         obtain ⟨e1, e2⟩ := take_no ht; rw [e1]; refine ⟨?_, fun h => by cases h⟩; exact fail_at (fun b t hbt => row_stop (.inl hC) (.inr ⟨by omega, Nat.le_refl _⟩) (.inl (e2 b t hbt))) (done1 _ _)
   . have e : moreRows C (f + 1) l acc n = (l, some (acc, n)) := by
      show (if beforeCell l then _ else _) = _; rw [if_neg hb]
     rw [e]; exact ⟨rfl, fun _ => by simpa using hb⟩
theorem rows_runS (l : List UInt8) : runS ⟨1, 0, 0, 0, 0, false⟩ l = (match (rowsP l).2 with
 | some q => runS ⟨1, 0, q.2.2, 0, 0, false⟩ (rowsP l).1
 | none => ((rowsP l).1, false)) ∧ (∀ q, (rowsP l).2 = some q -> 0 < q.2.2 ∧ beforeCell (rowsP l).1 = false) := by
 obtain ⟨h1, h2, h3, h4⟩ := cellsP_form l.length l; have hbf : beforeCell (cellsP l.length l).2 = false := by
  rcases Nat.lt_or_ge (cellsP l.length l).1.length l.length with h | h
  . exact h4 h
  . have hlen := congrArg List.length h1; rw [List.length_append] at hlen; rw [List.length_eq_zero_iff.1 (show (cellsP l.length l).2.length = 0 by omega)]; rfl
 rw [cells_run l.length 0 l (.inl rfl), Nat.zero_add]; unfold rowsP; by_cases hn : (cellsP l.length l).1 = []
 . rw [if_pos hn]; refine ⟨?_, fun q h => by cases h⟩; rw [hn]; exact fail_at (fun b t hbt => row_stop (.inr rfl) (.inl (before_false hbf b t hbt)) (.inr (.inl rfl))) (done1 _ _)
 . rw [if_neg hn]; have hpos : 0 < (cellsP l.length l).1.length := List.length_pos_iff.2 hn; generalize (cellsP l.length l).1 = row at *; generalize (cellsP l.length l).2 = l1 at *; obtain ⟨l2, ok, ht⟩ : ∃ l2 ok, take 10 l1 = (l2, ok) := ⟨_, _, rfl⟩
   rw [ht]; cases ok with
   | true =>
     rw [okP_mk, take_form ht, run_cons, row_line hpos (.inl rfl)]; obtain ⟨g1, g2⟩ := more_runS hpos (l2.length + 1) l2 row 1 (Nat.lt_succ_self _); obtain ⟨l3, o, hm⟩ : ∃ l3 o, moreRows row.length (l2.length + 1) l2 row 1 = (l3, o) := ⟨_, _, rfl⟩
     rw [hm] at g1 g2 ⊢; cases o with
     | none => exact ⟨g1, fun q h => by cases h⟩
     | some a => exact ⟨g1, fun q h => by cases h; exact ⟨hpos, g2 rfl⟩⟩
   | false =>
     obtain ⟨e1, e2⟩ := take_no ht; rw [e1]; refine ⟨?_, fun q h => by cases h⟩; exact fail_at (fun b t hbt => row_stop (.inl hpos) (.inl (before_false hbf b t hbt)) (.inl (e2 b t hbt))) (done1 _ _)
theorem cart_dig (_C : Nat) (y : Sc) (b : UInt8) (hp : y.part = 2) (hb : isDig b = true) : goesS y b = digitS y b := by
 rw [goes2 hp]; unfold cartS; rw [if_neg (fun h => (dig_not10 hb).2 h.1), if_neg (fun h => (dig_not10 hb).1 h.1)]
def ansS (C : Nat) (p : List UInt8 × Option (Int × Int)) : List UInt8 × Bool := match p.2 with
 | some _ => runS ⟨2, 0, C, 0, 0, false⟩ p.1
 | none => (p.1, false)
theorem field_run {C i : Nat} {l : List UInt8} (hl : l ≠ [] ∨ 0 < i) (c : UInt8) (next : Sc) (_hc : c = 32 ∨ c = 10)
 (hgo : ∀ (D : Nat) (N : Bool), 0 < D -> goesS ⟨2, 0, C, i, D, N⟩ c = some next)
 (hno : ∀ (D : Nat) (N : Bool) (b : UInt8), b ≠ c -> isDig b = false ∨ digitS ⟨2, 0, C, i, D, N⟩ b = none -> goesS ⟨2, 0, C, i, D, N⟩ b = none)
 (hz : ∀ b : UInt8, isDig b = false -> goesS ⟨2, 0, C, i, 0, false⟩ b = none)
 (f : Nat -> List UInt8 -> List UInt8 × Option (Int × Int)) (hf : ∀ n l1, runS next l1 = ansS C (f n l1)) :
 runS ⟨2, 0, C, i, 0, false⟩ l = ansS C (andP (number l) fun a l => okP (take c l) (f a)) := by
 obtain ⟨l2, o, hq⟩ : ∃ l2 o, number l = (l2, o) := ⟨_, _, rfl⟩
 rw [hq]; cases o with
 | none =>
   obtain ⟨e1, e2⟩ := num_none hq; rw [e1]; show _ = (l, false)
   cases l with
   | nil =>
     have hi : 0 < i := by rcases hl with h | h; exact absurd rfl h; exact h
     show ([], doneS ⟨2, 0, C, i, 0, false⟩) = _; have e : doneS ⟨2, 0, C, i, 0, false⟩ = false := by
      unfold doneS; rw [decide_eq_false]; rintro ⟨_, _, h⟩; exact absurd (show i = 0 from h) (by omega)
     rw [e]
   | cons b t =>
     rw [run_cons, hz b (e2 b t rfl)]
 | some n =>
   obtain ⟨D, N, hD, hr, hfl⟩ := num_run ⟨2, 0, C, i, 0, false⟩ (fun y b h1 _ _ _ hb => cart_dig C y b h1 hb) rfl rfl l l2 n hq; rw [hr, andP_mk]; obtain ⟨l3, ok, ht⟩ : ∃ l3 ok, take c l2 = (l3, ok) := ⟨_, _, rfl⟩
   rw [ht]; cases ok with
   | true =>
     rw [okP_mk, take_form ht, run_cons]; rw [show goesS { part := 2, at_ := 0, wide := C, count := i, digs := D, nought := N } c = _ from hgo D N hD]; exact hf n l3
   | false =>
     obtain ⟨e1, e2⟩ := take_no ht; rw [e1]; refine fail_at (fun b t hb => hno D N b (e2 b t hb) (.inr (hfl b t hb))) ?_; unfold doneS; rw [decide_eq_false]; rintro ⟨_, h, _⟩; exact absurd (show D = 0 from h) (by omega)
theorem blank_run {C i : Nat} (hi : i < 3) {l : List UInt8} (hl : l ≠ [] ∨ 0 < i) (f : Nat -> List UInt8 -> List UInt8 × Option (Int × Int)) (hf : ∀ n l1, runS ⟨2, 0, C, i + 1, 0, false⟩ l1 = ansS C (f n l1)) :
 runS ⟨2, 0, C, i, 0, false⟩ l = ansS C (andP (number l) fun a l => okP (take 32 l) (f a)) := by
 refine field_run hl 32 ⟨2, 0, C, i + 1, 0, false⟩ (.inl rfl) (fun D N hD => ?_) (fun D N b hb h => ?_) (fun b h => ?_) f hf
 . rw [goes2 rfl]; unfold cartS; rw [if_pos ⟨rfl, hD, hi⟩]
 . rw [goes2 rfl]; unfold cartS; rw [if_neg (fun hh => hb hh.1), if_neg (fun hh => absurd (show i = 3 from hh.2.2) (by omega))]; rcases h with h | h
   . exact digit_none h
   . exact h
 . rw [goes2 rfl]; unfold cartS; rw [if_neg (fun hh => absurd hh.2.1 (Nat.lt_irrefl 0)), if_neg (fun hh => absurd hh.2.1 (Nat.lt_irrefl 0))]; exact digit_none h
theorem end_run {C : Nat} {l : List UInt8} (f : Nat -> List UInt8 -> List UInt8 × Option (Int × Int)) (hf : ∀ n l1, runS ⟨2, 0, C, 0, 0, false⟩ l1 = ansS C (f n l1)) :
 runS ⟨2, 0, C, 3, 0, false⟩ l = ansS C (andP (number l) fun a l => okP (take 10 l) (f a)) := by
 refine field_run (.inr (by omega)) 10 ⟨2, 0, C, 0, 0, false⟩ (.inr rfl) (fun D N hD => ?_) (fun D N b hb h => ?_) (fun b h => ?_) f hf
 . rw [goes2 rfl]; unfold cartS; rw [if_neg (fun hh => absurd hh.1 (by decide)), if_pos ⟨rfl, hD, rfl⟩]; rfl
 . rw [goes2 rfl]; unfold cartS; rw [if_neg (fun hh => absurd (show (3 : Nat) < 3 from hh.2.2) (Nat.lt_irrefl 3)), if_neg (fun hh => hb hh.1)]; rcases h with h | h
   . exact digit_none h
   . exact h
 . rw [goes2 rfl]; unfold cartS; rw [if_neg (fun hh => absurd hh.2.1 (Nat.lt_irrefl 0)), if_neg (fun hh => absurd hh.2.1 (Nat.lt_irrefl 0))]; exact digit_none h
theorem cart_run (R C K : Nat) {l : List UInt8} (hl : l ≠ []) : runS ⟨2, 0, K, 0, 0, false⟩ l = ansS K (cartP R C l) := by
 unfold cartP; refine blank_run (by omega) (.inl hl) _ fun a l1 => ?_
 refine blank_run (by omega) (.inr (by omega)) _ fun b l2 => ?_
 refine blank_run (by omega) (.inr (by omega)) _ fun c l3 => ?_
 exact end_run _ fun d l4 => rfl
theorem num_less {l l1 : List UInt8} {n : Nat} (h : number l = (l1, some n)) : l1.length <= l.length := by
 have := congrArg List.length (number_form h).1; rw [List.length_append] at this; omega
theorem cart_less {R C : Nat} {l l1 : List UInt8} {c : Int × Int} (h : cartP R C l = (l1, some c)) : l1.length < l.length := by
 unfold cartP at h; obtain ⟨a, la, ha, h⟩ := andP_some h; obtain ⟨lb, hb, h⟩ := okP_some h; obtain ⟨b, lc, hc, h⟩ := andP_some h; obtain ⟨ld, hd, h⟩ := okP_some h; obtain ⟨c, le, he, h⟩ := andP_some h; obtain ⟨lf, hf, h⟩ := okP_some h; obtain ⟨d, lg, hg, h⟩ := andP_some h; obtain ⟨lh, hh, h⟩ := okP_some h; cases h; have h1 := num_less ha; have h2 := num_less hc; have h3 := num_less he; have h4 := num_less hg; have g1 := congrArg List.length (take_form hb); have g2 := congrArg List.length (take_form hd); have g3 := congrArg List.length (take_form hf)
 have g4 := congrArg List.length (take_form hh); rw [List.length_cons] at g1 g2 g3 g4; omega
theorem cart_none {R C : Nat} {l : List UInt8} (h : (number l).2 = none) : cartP R C l = (l, none) := by
 obtain ⟨l2, o, hq⟩ : ∃ l2 o, number l = (l2, o) := ⟨_, _, rfl⟩
 rw [hq] at h; obtain rfl : o = none := h; unfold cartP; rw [hq, (num_none hq).1]; rfl
theorem carts_runS (R C K : Nat) : ∀ (f : Nat) (l : List UInt8) (acc : List (Int × Int)), l.length < f -> (acc = [] -> l ≠ []) -> runS ⟨2, 0, K, 0, 0, false⟩ l = ((cartsP R C f l acc).1, (cartsP R C f l acc).2.isSome)
 | 0, l, _, hf, _ => absurd hf (Nat.not_lt_zero _)
 | f + 1, l, acc, hf, ha => by
   have e0 : cartsP R C (f + 1) l acc = if acc ≠ [] ∧ l = [] then (l, some acc) else andP (cartP R C l) fun c l1 => cartsP R C f l1 (acc ++ [c]) := rfl
   rw [e0]; by_cases h : acc ≠ [] ∧ l = []
   . rw [if_pos h, h.2]; rfl
   . rw [if_neg h]; have hl : l ≠ [] := by
      intro hl; by_cases ha0 : acc = []
      . exact ha ha0 hl
      . exact h ⟨ha0, hl⟩
     rw [cart_run R C K hl]; obtain ⟨l1, o, hq⟩ : ∃ l1 o, cartP R C l = (l1, o) := ⟨_, _, rfl⟩
     rw [hq]; cases o with
     | none => rfl
     | some c =>
       rw [andP_mk]; show runS ⟨2, 0, K, 0, 0, false⟩ l1 = _; have hlt : l1.length < l.length := cart_less hq; exact carts_runS R C K f l1 _ (by omega) (fun he => absurd he (by simp))
theorem first_cart {R C K f : Nat} (hK : 0 < K) {l : List UInt8} (hb : beforeCell l = false) (hf : l.length < f) : runS ⟨1, 0, K, 0, 0, false⟩ l = ((cartsP R C f l []).1, (cartsP R C f l []).2.isSome) := by
 obtain ⟨f, rfl⟩ : ∃ k, f = k + 1 := ⟨f - 1, by omega⟩
 have go : ∀ b t, l = b :: t -> goesS ⟨1, 0, K, 0, 0, false⟩ b = digitS ⟨2, 0, K, 0, 0, false⟩ b := by
  intro b t e; rw [goes1 rfl]; unfold rowS; rw [if_neg (by rw [before_false hb b t e]; decide)]; by_cases h10 : b = 10
  . rw [if_pos h10, if_neg (fun h => absurd h.1 (Nat.lt_irrefl 0)), h10]; rfl
  . rw [if_neg h10, if_neg]; show ¬ (0 < 0 ∨ K = 0); omega
 obtain ⟨l2, o, hq⟩ : ∃ l2 o, number l = (l2, o) := ⟨_, _, rfl⟩
 cases o with
 | none =>
   have e0 : cartsP R C (f + 1) l [] = andP (cartP R C l) fun c l1 => cartsP R C f l1 ([] ++ [c]) := if_neg (fun h => h.1 rfl)
   rw [e0, cart_none (by rw [hq])]; refine fail_at (fun b t e => ?_) rfl; rw [go b t e]; exact digit_none ((num_none hq).2 b t e)
 | some n =>
   have hne : l ≠ [] := by
    intro h; rw [h] at hq; cases hq
   rw [<- carts_runS R C K (f + 1) l [] hf (fun _ => hne)]; cases l with
   | nil => exact absurd rfl hne
   | cons b t =>
     rw [run_cons, run_cons, go b t rfl]; have hd : isDig b = true := by
      rw [number_cons] at hq; by_cases h : isDig b = true
      . exact h
      . rw [if_neg h] at hq; cases hq
     rw [cart_dig K ⟨2, 0, K, 0, 0, false⟩ b rfl hd]
theorem look_read (l : List UInt8) : runS ⟨0, 0, 0, 0, 0, false⟩ l = ((readT l).1, (readT l).2.isSome) := by
 rw [budget_run]; unfold readT; obtain ⟨l1, o, hq⟩ : ∃ l1 o, budgetP l = (l1, o) := ⟨_, _, rfl⟩
 rw [hq]; cases o with
 | none => rfl
 | some u =>
   rw [andP_mk]; obtain ⟨g1, g2⟩ := rows_runS l1; show runS ⟨1, 0, 0, 0, 0, false⟩ l1 = _; rw [g1]; obtain ⟨l2, o, hr⟩ : ∃ l2 o, rowsP l1 = (l2, o) := ⟨_, _, rfl⟩
   rw [hr] at g2 ⊢; cases o with
   | none => rfl
   | some q =>
     obtain ⟨hK, hb⟩ := g2 q rfl; rw [andP_mk]; show runS ⟨1, 0, q.2.2, 0, 0, false⟩ l2 = _; rw [first_cart (R := q.2.1) (C := q.2.2) (f := l2.length + 1) hK hb (Nat.lt_succ_self _)]; obtain ⟨l3, o, hc⟩ : ∃ l3 o, cartsP q.2.1 q.2.2 (l2.length + 1) l2 [] = (l3, o) := ⟨_, _, rfl⟩
     rw [hc]; cases o <;> rfl
end TX
end
end Go.Proofs.YtnkgpinadgacgaaGreatDoor
