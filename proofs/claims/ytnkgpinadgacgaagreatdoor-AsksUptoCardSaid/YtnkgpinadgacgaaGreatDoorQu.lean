/- Ha, Dz, Db. -/
import Derived.Test.YtnkgpinadgacgaaGreatDoorQt
set_option maxRecDepth 1000000
namespace Go.Proofs.YtnkgpinadgacgaaGreatDoor
namespace SV
open BM
def updD (D : Nat -> Option Nat) (x k : Nat) : Nat -> Option Nat := fun y => if y = x then some k else D y
def addS (sh : Nat -> List Nat) (c : Nat) (l : List Nat) : Nat -> List Nat := fun j => if j = c then sh j ++ l else sh j
theorem addS_mem {sh : Nat -> List Nat} {c : Nat} {l : List Nat} {j y : Nat} : y ∈ addS sh c l j ↔ y ∈ sh j ∨ (j = c ∧ y ∈ l) := by
 unfold addS; by_cases e : j = c
 . rw [if_pos e, List.mem_append]; exact ⟨fun h => h.imp id fun h => ⟨e, h⟩, fun h => h.imp id fun h => h.2⟩
 . rw [if_neg e]; exact ⟨.inl, fun h => h.elim id fun h => absurd h.1 e⟩
theorem addS_at {sh : Nat -> List Nat} {c : Nat} {l : List Nat} {j t : Nat} (h : t < (sh j).length) : (addS sh c l j)[t]? = (sh j)[t]? := by
 unfold addS; by_cases e : j = c
 . rw [if_pos e, List.getElem?_append_left h]
 . rw [if_neg e]
theorem addS_len {sh : Nat -> List Nat} {c : Nat} {l : List Nat} {j : Nat} : (sh j).length <= (addS sh c l j).length ∧ (addS sh c l j).length <= (sh j).length + l.length := by
 unfold addS; by_cases e : j = c
 . rw [if_pos e, List.length_append]; omega
 . rw [if_neg e]; omega
structure Shelf (R : Nat -> Nat -> Nat -> Prop) (fin : Nat -> Prop) (s N : Nat) (D : Nat -> Option Nat) (sh : Nat -> List Nat) (len cost i : Nat) (X : List Nat) : Prop where
 first : s ∈ sh 0
 way : ∀ c y, y ∈ sh c -> ∃ j, BM.Way R j s y c
 out : ∀ c, len <= c -> sh c = []
 done : ∀ c y, c < cost -> y ∈ sh c -> ∃ k, D y = some k ∧ k <= c
 here : ∀ t y, t < i -> (sh cost)[t]? = some y -> ∃ k, D y = some k ∧ k <= cost
 spread : ∀ x k, D x = some k -> k <= cost ∧ ¬ fin x ∧ ∀ y d, R x y d -> y ∈ sh (k + d)
 nodup : X.Nodup
 mem : ∀ x, x ∈ X ↔ (D x).isSome
 lt : ∀ x, x ∈ X -> x < N
 most : ∀ c, (sh c).length <= 1 + 700 * X.length
 lens : len <= 1 + 4 * X.length
 all : ∀ c y, y ∈ sh c -> y < N
 le : i <= (sh cost).length
 pos : 0 < len
section
variable {R : Nat → Nat → Nat → Prop} {fin : Nat → Prop} {s N : Nat} {D : Nat → Option Nat} {sh : Nat → List Nat} {len cost i : Nat} {X : List Nat}
theorem shelf_start (hs : s < N) : Shelf R fin s N (fun _ => none) (fun c => if c = 0 then [s] else []) 1 0 0 [] := by
 refine ⟨by simp, fun c y h => ?_, fun c h => ?_, fun c y h => absurd h (Nat.not_lt_zero c), fun t y h => absurd h (Nat.not_lt_zero t), fun x k h => (by cases h), List.nodup_nil, fun x => (by simp), fun x h => (by cases h), fun c => ?_, by simp, fun c y h => ?_, by simp, by decide⟩
 . by_cases e : c = 0
   . subst e; simp only [if_pos, List.mem_singleton] at h; exact ⟨0, h.symm, rfl⟩
   . simp only [if_neg e, List.not_mem_nil] at h
 . show (if c = 0 then [s] else []) = []
   rw [if_neg (by omega)]
 . show (if c = 0 then [s] else []).length <= _; by_cases e : c = 0
   . rw [if_pos e]; simp
   . rw [if_neg e]; simp
 . by_cases e : c = 0
   . subst e; simp only [if_pos, List.mem_singleton] at h; omega
   . simp only [if_neg e, List.not_mem_nil] at h
theorem shelf_skip (H : Shelf R fin s N D sh len cost i X) {x : Nat} (hx : (sh cost)[i]? = some x) (hs : (D x).isSome = true) : Shelf R fin s N D sh len cost (i + 1) X := by
 obtain ⟨k, hk⟩ := Option.isSome_iff_exists.1 hs; refine ⟨H.first, H.way, H.out, H.done, fun t y h1 h2 => ?_, H.spread, H.nodup, H.mem, H.lt, H.most, H.lens, H.all, ?_, H.pos⟩
 . by_cases e : t = i
   . subst e; rw [hx] at h2; cases h2; exact ⟨k, hk, (H.spread x k hk).1⟩
   . exact H.here t y (by omega) h2
 . have := (List.getElem?_eq_some_iff.1 hx).1; omega
theorem shelf_next (H : Shelf R fin s N D sh len cost (sh cost).length X) : Shelf R fin s N D sh len (cost + 1) 0 X := by
 refine ⟨H.first, H.way, H.out, fun c y h1 h2 => ?_, fun t y h => absurd h (Nat.not_lt_zero t), fun x k h => ?_, H.nodup, H.mem, H.lt, H.most, H.lens, H.all, Nat.zero_le _, H.pos⟩
 . by_cases e : c = cost
   . subst e; obtain ⟨t, ht, e⟩ := List.mem_iff_getElem.1 h2; exact H.here t y ht (by rw [List.getElem?_eq_getElem ht, e])
   . exact H.done c y (by omega) h2
 . obtain ⟨h1, h2⟩ := H.spread x k h; exact ⟨by omega, h2⟩
theorem shelf_take (H : Shelf R fin s N D sh len cost i X) {x more len' : Nat} {l st : List Nat} (hx : (sh cost)[i]? = some x) (hs : D x = none) (hf : ¬ fin x) (hl : l.length + st.length <= 700) (hm : more <= 4)
 (hR : ∀ y d, R x y d ↔ (d = more ∧ y ∈ l) ∨ (d = 0 ∧ y ∈ st)) (hN : ∀ y, y ∈ l ∨ y ∈ st -> y < N) (hlen : len' = if len <= cost + more then cost + more + 1 else len) :
 Shelf R fin s N (updD D x cost) (addS (addS sh (cost + more) l) cost st) len' cost (i + 1) (x :: X) := by
 have hil := (List.getElem?_eq_some_iff.1 hx).1; have hxm : x ∈ sh cost := List.mem_of_getElem? hx; have hcl : cost < len := Nat.lt_of_not_le fun h => by rw [H.out cost h] at hxm; cases hxm
 obtain ⟨j, W⟩ := H.way cost x hxm; have old : ∀ c y, y ∈ sh c -> y ∈ addS (addS sh (cost + more) l) cost st c := fun c y h => addS_mem.2 (.inl (addS_mem.2 (.inl h)))
 have oldt : ∀ t, t < i + 1 -> (addS (addS sh (cost + more) l) cost st cost)[t]? = (sh cost)[t]? := fun t ht => by
  rw [addS_at (by have := (addS_len (sh := sh) (c := cost + more) (l := l) (j := cost)).1; omega), addS_at (by omega)]
 have cases_of : ∀ c y, y ∈ addS (addS sh (cost + more) l) cost st c -> y ∈ sh c ∨ (c = cost + more ∧ y ∈ l) ∨ (c = cost ∧ y ∈ st) := fun c y h => by
  rcases addS_mem.1 h with h | h
  . rcases addS_mem.1 h with h | h
    . exact .inl h
    . exact .inr (.inl h)
  . exact .inr (.inr h)
 have keep : ∀ y k c, D y = some k -> k <= c -> ∃ k, updD D x cost y = some k ∧ k <= c := fun y k c h1 h2 => by
  refine ⟨k, ?_, h2⟩; unfold updD; rw [if_neg (fun e => by rw [e, hs] at h1; cases h1), h1]
 have hnX : x ∉ X := fun h => by have := (H.mem x).1 h; rw [hs] at this; cases this
 refine ⟨old 0 s H.first, fun c y h => ?_, fun c h => ?_, fun c y h1 h2 => ?_, fun t y h1 h2 => ?_, fun y k h => ?_, List.nodup_cons.2 ⟨hnX, H.nodup⟩, fun y => ?_, fun y h => ?_, fun c => ?_, ?_, fun c y h => ?_, ?_, ?_⟩
 . rcases cases_of c y h with h7 | ⟨e7, h7⟩ | ⟨e7, h7⟩
   . exact H.way c y h7
   . exact ⟨j + 1, x, cost, more, W, (hR y more).2 (.inl ⟨rfl, h7⟩), e7⟩
   . exact ⟨j + 1, x, cost, 0, W, (hR y 0).2 (.inr ⟨rfl, h7⟩), e7⟩
 . have h0 : len <= c ∧ ¬ c = cost + more ∧ ¬ c = cost := by
    by_cases e : len <= cost + more
    . rw [if_pos e] at hlen; omega
    . rw [if_neg e] at hlen; omega
   unfold addS; rw [if_neg h0.2.2, if_neg h0.2.1, H.out c h0.1]
 . rcases cases_of c y h2 with h | ⟨rfl, h⟩ | ⟨rfl, h⟩
   . obtain ⟨k, h3, h4⟩ := H.done c y h1 h; exact keep y k c h3 h4
   . omega
   . omega
 . rw [oldt t h1] at h2; by_cases e : t = i
   . subst e; rw [hx] at h2; cases h2; exact ⟨cost, by unfold updD; rw [if_pos rfl], zl⟩
   . obtain ⟨k, h3, h4⟩ := H.here t y (by omega) h2; exact keep y k cost h3 h4
 . unfold updD at h; by_cases e : y = x
   . subst e; rw [if_pos rfl] at h; cases h; refine ⟨zl, hf, fun z d hz => ?_⟩; rcases (hR z d).1 hz with ⟨rfl, h⟩ | ⟨rfl, h⟩
     . exact addS_mem.2 (.inl (addS_mem.2 (.inr ⟨rfl, h⟩)))
     . exact addS_mem.2 (.inr ⟨rfl, h⟩)
   . rw [if_neg e] at h; obtain ⟨h1, h2, h3⟩ := H.spread y k h; exact ⟨h1, h2, fun z d hz => old _ _ (h3 z d hz)⟩
 . rw [List.mem_cons, H.mem y]; unfold updD; by_cases e : y = x
   . rw [if_pos e]; simp [e]
   . rw [if_neg e]; simp [e]
 . rcases List.mem_cons.1 h with h | h
   . rw [h]; exact H.all cost x hxm
   . exact H.lt y h
 . have h1 := (addS_len (sh := addS sh (cost + more) l) (c := cost) (l := st) (j := c)).2; have h2 := (addS_len (sh := sh) (c := cost + more) (l := l) (j := c)).2; have h3 := H.most c; simp only [List.length_cons]; omega
 . have h3 := H.lens; simp only [List.length_cons]; by_cases e : len <= cost + more
   . rw [if_pos e] at hlen; omega
   . rw [if_neg e] at hlen; omega
 . rcases cases_of c y h with h | ⟨_, h⟩ | ⟨_, h⟩
   . exact H.all c y h
   . exact hN y (.inl h)
   . exact hN y (.inr h)
 . have h1 := (addS_len (sh := addS sh (cost + more) l) (c := cost) (l := st) (j := cost)).1; have h2 := (addS_len (sh := sh) (c := cost + more) (l := l) (j := cost)).1; omega
 . by_cases e : len <= cost + more
   . rw [if_pos e] at hlen; omega
   . rw [if_neg e] at hlen; have := H.pos; omega
theorem shelf_before (H : Shelf R fin s N D sh len cost i X) : ∀ (j : Nat) (y g : Nat), BM.Way R j s y g -> g < cost -> ∃ k, D y = some k ∧ k <= g
 | 0, y, g, W, hg => by
   obtain ⟨e1, e2⟩ := W; subst e1 e2; exact H.done 0 _ hg H.first
 | j + 1, y, g, W, hg => by
   obtain ⟨c, k1, d, W1, hr, e⟩ := W; obtain ⟨k, h1, h2⟩ := shelf_before H j c k1 W1 (by omega); obtain ⟨_, _, h3⟩ := H.spread c k h1; obtain ⟨k2, h4, h5⟩ := H.done (k + d) y (by omega) (h3 y d hr); exact ⟨k2, h4, by omega⟩
theorem shelf_least (H : Shelf R fin s N D sh len cost i X) {x : Nat} (hx : (sh cost)[i]? = some x) : (∃ j, BM.Way R j s x cost) ∧ ∀ j z K, BM.Way R j s z K -> fin z -> cost <= K := by
 refine ⟨H.way cost x (List.mem_of_getElem? hx), fun j z K W hz => Nat.le_of_not_lt fun h => ?_⟩; obtain ⟨k, h1, _⟩ := shelf_before H j z K W h; exact (H.spread z k h1).2.1 hz
theorem shelf_none (H : Shelf R fin s N D sh len len i X) : ∀ (j : Nat) (y g : Nat), BM.Way R j s y g -> ∃ k, D y = some k ∧ k <= g
 | 0, y, g, W => by
   obtain ⟨e1, e2⟩ := W; subst e1 e2; exact H.done 0 _ H.pos H.first
 | j + 1, y, g, W => by
   obtain ⟨c, k1, d, W1, hr, e⟩ := W; obtain ⟨k, h1, h2⟩ := shelf_none H j c k1 W1; obtain ⟨_, _, h3⟩ := H.spread c k h1; have hm := h3 y d hr; have hlt : k + d < len := Nat.lt_of_not_le fun h => by rw [H.out _ h] at hm; cases hm
   obtain ⟨k2, h4, h5⟩ := H.done (k + d) y hlt hm; exact ⟨k2, h4, by omega⟩
theorem shelf_end (H : Shelf R fin s N D sh len len i X) (j z K : Nat) (W : BM.Way R j s z K) : ¬ fin z := by
 obtain ⟨k, h1, _⟩ := shelf_none H j z K W; exact (H.spread z k h1).2.1
theorem shelf_few (H : Shelf R fin s N D sh len cost i X) : X.length <= N := by
 have h := List.Nodup.length_le_of_subset (l₁ := X) (l₂ := List.range N) H.nodup (fun x hx => List.mem_range.2 (H.lt x hx)); simpa using h
def leftS (N : Nat) (X : List Nat) (n i : Nat) : Nat := 701 * (N - X.length) + (n - i)
end
end SV
section
open Go.RowKit M
theorem nilRow (N : Nat) (w : World) (t : TypeId) (k : Nat) (hk : k = w.heap.size) : (w.alloc (.cells (madeCells #[.slice none 0 0] N) t)).rowIs k t N (fun _ => .slice none 0 0) := by
 subst hk; refine rowIs_made _ _ _ _ fun i _ => ?_
 simp [Nat.mod_one]
theorem Tryz.infoInt2 : (Tryz.prog.info? 3).map (fun i => (i.zero, i.size, i.bytes)) = some (some (.int .i64 0), 1, 8) := by kernel_rfl
def OwnN (w : World) (base : Nat) (v : Value) (L : List Nat) : Prop := w.ownsRow base 3 1 v L.length (ints (qi L))
theorem OwnN.nil (w : World) (base : Nat) : OwnN w base (.slice none 0 0) [] := ⟨rfl, .inl ⟨rfl, rfl⟩⟩
theorem OwnN.below {w w' : World} {base : Nat} {v : Value} {L : List Nat} (h : OwnN w base v L) (hb : Below w.heap.size w w') : OwnN w' base v L := own_later h hb
theorem OwnN.le {w : World} {base base' : Nat} {v : Value} {L : List Nat} (h : OwnN w base v L) (hb : base' <= base) : OwnN w base' v L := own_le h hb
theorem OwnN.form {w : World} {base : Nat} {v : Value} {L : List Nat} (h : OwnN w base v L) : ∃ a cap, v = .slice a L.length cap ∧ (0 < L.length -> ∃ g, a = some ⟨g, 0, none⟩) ∧ L.length <= cap := own_form h
theorem OwnN.cell {w : World} {base g n cap : Nat} {L : List Nat} (h : OwnN w base (.slice (some ⟨g, 0, none⟩) n cap) L) {i : Nat} (hi : i < L.length) : w.cell? ⟨g, i, none⟩ = some (.int .i64 (L.getD i 0 : Nat)) := by
 obtain ⟨a, cap2, hv, _, _⟩ := h.form; have e : n = L.length := by cases hv; rfl
 subst e; rw [own_cell h hi, qi_at hi]
theorem wpList_pushN {w0 : World} {ops : Array Oper} {rest : List Oper} {o : Oper} {a : Act} {Q : Exit -> Act -> World -> Prop} (hgd : o.guard = none) (s x : Operand)
 (ho : o.op = .call { callee := .builtin .append, args := #[s, x], argTypes := #[23, 23] })
 (base : Nat) (v : Value) (L : List Nat) (y : Nat) (hs : a.eval s = v) (hown : OwnN w0 base v L) (hbase : base <= w0.heap.size) (c : Nat)
 (hx : a.eval x = .slice (some ⟨w0.heap.size, 0, none⟩) 1 c) (hL : L.length <= 100000000)
 (h : ∀ g cap w', OwnN w' base (.slice (some ⟨g, 0, none⟩) (L ++ [y]).length cap) (L ++ [y]) -> Only (fun k => v.ownBlock = some k) w0 w' -> (v.ownBlock = some g ∨ w0.heap.size <= g) -> wpList Tryz.prog ops Q rest (a.put o.dst (.slice (some ⟨g, 0, none⟩) (L ++ [y]).length cap)) w') :
 wpList Tryz.prog ops Q (o :: rest) a (w0.alloc (.cells #[.int .i64 y] 3)) := by
 obtain ⟨i0, hi0, hi1, hi2, hi3⟩ := info_parts Tryz.infoInt2; have hown1 := own_keep (w' := w0.alloc (.cells #[.int .i64 y] 3)) hown (fun g _ hg _ => Below.heap_alloc _ _ _ hg); refine wpList_append_lies _ hgd s x _ ho base 3 i0 _ 1 8 Tryz.underlying23 hi0 hi1 hi2 hi3 rfl (by omega) v L.length (ints (qi L)) hs hown1 _ 1 c [.int .i64 y] hx rfl (fun j u hj => ?_) (fun u hu => ?_) (by omega) (by unfold maxLen; omega) (by omega) (by simp; omega) (w0.heap.size + 1) (by simp) ?_
 . match j, hj with
   | 0, hj => simp at hj; subst hj; simp [Addr.add]
   | j + 1, hj => simp at hj
 . simp at hu; subst hu; rfl
 . intro g cap w' ho9 hg9 hl9 _; have e1 : (L ++ [y]).length = L.length + 1 := by simp
   rw [e1] at h; refine h g cap w' ?_ (⟨hg9.os, hg9.tape, hg9.output, Nat.le_trans (by simp) hg9.size, fun k hk hn => ?_⟩) (hl9.imp id (fun e => by omega))
   . unfold OwnN; rw [<- qi_push, e1]; exact ho9
   . rw [hg9.block k (by simp; omega) (fun e => hn e.symm)]; exact Below.heap_alloc _ _ _ hk
def OwnZ (w : World) (base : Nat) (v : Value) (L : List Int) : Prop := w.ownsRow base 3 1 v L.length (ints L)
theorem OwnZ.nil (w : World) (base : Nat) : OwnZ w base (.slice none 0 0) [] := ⟨rfl, .inl ⟨rfl, rfl⟩⟩
theorem OwnZ.below {w w' : World} {base : Nat} {v : Value} {L : List Int} (h : OwnZ w base v L) (hb : Below w.heap.size w w') : OwnZ w' base v L := own_later h hb
theorem OwnZ.form {w : World} {base : Nat} {v : Value} {L : List Int} (h : OwnZ w base v L) : ∃ a cap, v = .slice a L.length cap ∧ (0 < L.length -> ∃ g, a = some ⟨g, 0, none⟩) ∧ L.length <= cap := own_form h
theorem OwnZ.cell {w : World} {base g n cap : Nat} {L : List Int} (h : OwnZ w base (.slice (some ⟨g, 0, none⟩) n cap) L) {i : Nat} (hi : i < L.length) : w.cell? ⟨g, i, none⟩ = some (.int .i64 (L.getD i 0)) := by
 obtain ⟨a, cap2, hv, _, _⟩ := h.form; have e : n = L.length := by cases hv; rfl
 subst e; rw [own_cell h hi]; simp [ints, List.getD, hi]
theorem wpList_pushZ {w0 : World} {ops : Array Oper} {rest : List Oper} {o : Oper} {a : Act} {Q : Exit -> Act -> World -> Prop} (hgd : o.guard = none) (s x : Operand)
 (ho : o.op = .call { callee := .builtin .append, args := #[s, x], argTypes := #[23, 23] })
 (base : Nat) (v : Value) (L : List Int) (y : Int) (hs : a.eval s = v) (hown : OwnZ w0 base v L) (hbase : base <= w0.heap.size) (c : Nat)
 (hx : a.eval x = .slice (some ⟨w0.heap.size, 0, none⟩) 1 c) (hL : L.length <= 100000000)
 (h : ∀ g cap w', OwnZ w' base (.slice (some ⟨g, 0, none⟩) (L ++ [y]).length cap) (L ++ [y]) -> Only (fun k => v.ownBlock = some k) w0 w' -> (v.ownBlock = some g ∨ w0.heap.size <= g) -> wpList Tryz.prog ops Q rest (a.put o.dst (.slice (some ⟨g, 0, none⟩) (L ++ [y]).length cap)) w') :
 wpList Tryz.prog ops Q (o :: rest) a (w0.alloc (.cells #[.int .i64 y] 3)) := by
 obtain ⟨i0, hi0, hi1, hi2, hi3⟩ := info_parts Tryz.infoInt2; have hown1 := own_keep (w' := w0.alloc (.cells #[.int .i64 y] 3)) hown (fun g _ hg _ => Below.heap_alloc _ _ _ hg); refine wpList_append_lies _ hgd s x _ ho base 3 i0 _ 1 8 Tryz.underlying23 hi0 hi1 hi2 hi3 rfl (by omega) v L.length (ints L) hs hown1 _ 1 c [.int .i64 y] hx rfl (fun j u hj => ?_) (fun u hu => ?_) (by omega) (by unfold maxLen; omega) (by omega) (by simp; omega) (w0.heap.size + 1) (by simp) ?_
 . match j, hj with
   | 0, hj => simp at hj; subst hj; simp [Addr.add]
   | j + 1, hj => simp at hj
 . simp at hu; subst hu; rfl
 . intro g cap w' ho9 hg9 hl9 _; have e1 : (L ++ [y]).length = L.length + 1 := by simp
   rw [e1] at h; refine h g cap w' ?_ (⟨hg9.os, hg9.tape, hg9.output, Nat.le_trans (by simp) hg9.size, fun k hk hn => ?_⟩) (hl9.imp id (fun e => by omega))
   . unfold OwnZ; rw [show ints (L ++ [y]) = ints L ++ [.int .i64 y] by simp [ints], e1]; exact ho9
   . rw [hg9.block k (by simp; omega) (fun e => hn e.symm)]; exact Below.heap_alloc _ _ _ hk
structure RowQ (w : World) (s : Value) (q : List Nat) : Prop where
 form : ∃ a c, s = .slice a q.length c ∧ (0 < q.length -> ∃ h, a = some ⟨h, 0, none⟩ ∧ ∀ j, j < q.length -> w.cell? ⟨h, j, none⟩ = some (.int .i64 (q.getD j 0 : Nat)))
 lt : ∀ h, s.ownBlock = some h -> h < w.heap.size
theorem RowQ.only {w w' : World} {S : Nat -> Prop} {s : Value} {q : List Nat} (h : RowQ w s q) (ho : Only S w w') (hS : ∀ g, s.ownBlock = some g -> ¬ S g) : RowQ w' s q := by
 obtain ⟨a, c, hs, hf⟩ := h.form; refine ⟨⟨a, c, hs, fun hp => ?_⟩, fun g hg => Nat.lt_of_lt_of_le (h.lt g hg) ho.size⟩; obtain ⟨b, ha, hc⟩ := hf hp; refine ⟨b, ha, fun j hj => (ho.cell (p := ⟨b, j, none⟩) (World.block_lt_of_cell? (a := ⟨b, j, none⟩) w (hc j hj)) (hS b (by rw [hs, ha]; rfl))).trans (hc j hj)⟩
theorem RowQ.below {w w' : World} {s : Value} {q : List Nat} (h : RowQ w s q) (hb : Below w.heap.size w w') : RowQ w' s q :=
 h.only (Only.of_below hb : Only (fun _ => False) w w') (fun _ _ e => e)
theorem Tryz.infoSl : (Tryz.prog.info? 23).map (fun i => (i.zero, i.size, i.bytes)) = some (some (.slice none 0 0), 1, 24) := by kernel_rfl
theorem getD_snoc_old {T : Type} {L : List T} {x d : T} {t : Nat} (h : t < L.length) : (L ++ [x]).getD t d = L.getD t d := by
 rw [zg, zg, List.getElem?_append_left h]
theorem getD_snoc_new {T : Type} {L : List T} {x d : T} {t : Nat} (h : t = L.length) : (L ++ [x]).getD t d = x := by
 subst h; rw [zg, List.getElem?_append_right zl, Nat.sub_self]; rfl
theorem row_block {w w' : World} {b n : Nat} {t : TypeId} {f : Nat -> Value} (h : w.rowIs b t n f) (e : w'.heap[b]? = w.heap[b]?) : w'.rowIs b t n f := by
 obtain ⟨c, h1, h2, h3⟩ := h; exact ⟨c, e.trans h1, h2, h3⟩
theorem cell_block {w w' : World} {b o : Nat} (e : w'.heap[b]? = w.heap[b]?) : w'.cell? ⟨b, o, none⟩ = w.cell? ⟨b, o, none⟩ := World.cell?_of_block (w := w) e
end
section
open Go.RowKit Go.Maps M
theorem Tryz.rowPos : (103 : TypeId) < Tryz.prog.types.size := of_decide_eq_true (by kernel_rfl)
theorem Tryz.deepPos : Tryz.prog.keyTypeAt 3 103 = true := by kernel_rfl
theorem Tryz.lawPos : Keyed Tryz.prog 103 := Keyed.of_law (deep_law_laid Tryz.laidOut0 (m := 3) (by omega) Tryz.rowPos Tryz.deepPos (by rw [Tryz.underlying103]))
theorem Tryz.ktPos : Tryz.prog.keyType 103 = true := by kernel_rfl
theorem Tryz.cellsPos : Tryz.prog.cellsOf 103 = 4 := by kernel_rfl
theorem Tryz.cellsU8 : Tryz.prog.cellsOf 5 = 1 := by kernel_rfl
def posV (q : List Nat) : Value := .agg #[.int .u8 (q.getD 0 0 : Nat), .int .u8 (q.getD 1 0 : Nat), .int .u8 (q.getD 2 0 : Nat), .int .u8 (q.getD 3 0 : Nat)]
def Small (q : List Nat) : Prop := ∀ k, q.getD k 0 < 256
theorem wf_u8 {x : Nat} (h : x < 256) : (Lit.int .u8 (x : Int)).wf = true := by
 simp [Lit.wf, IntKind.min, IntKind.max, IntKind.signed, IntKind.bits]; omega
theorem posKey {q : List Nat} (h : Small q) : ∃ kl, keyOf Tryz.prog 103 (posV q) = some kl := by
 have h0 := wf_u8 (h 0); have h1 := wf_u8 (h 1); have h2 := wf_u8 (h 2); have h3 := wf_u8 (h 3); obtain ⟨m, hm⟩ := Tryz.typesSome; unfold keyOf posV; generalize q.getD 0 0 = a0 at h0 ⊢; generalize q.getD 1 0 = a1 at h1 ⊢; generalize q.getD 2 0 = a2 at h2 ⊢; generalize q.getD 3 0 = a3 at h3 ⊢; simp only [Tryz.underlying103]; rw [if_pos (by simp [Tryz.ktPos, Value.formed, Tryz.underlying103, Tryz.cellsPos]), hm]; unfold Program.keyLits; simp only [Tryz.underlying103, Value.cells]; rw [if_pos (by rw [Tryz.cellsPos]; rfl)]
 simp [List.range, List.range.loop, Tryz.cellsU8, Program.keyLits, Tryz.underlying5, h0, h1, h2, h3]
theorem pos_ext {m : Nat} {q q' : List Nat} (hm : m <= 4) (hq : q.length = m) (hq' : q'.length = m) (h : posV q = posV q') : q = q' := by
 unfold posV at h; simp only [Value.agg.injEq, Array.mk.injEq, List.cons.injEq, Value.int.injEq, true_and, and_true] at h; obtain ⟨h0, h1, h2, h3⟩ := h; apply List.ext_getElem (by omega)
 intro i hi hi'; have e : ∀ (l : List Nat) (hl : i < l.length), l[i] = l.getD i 0 := fun l hl => by rw [zg, List.getElem?_eq_getElem hl]; rfl
 rw [e q hi, e q' hi']; have hc : i = 0 ∨ i = 1 ∨ i = 2 ∨ i = 3 := by omega
 rcases hc with rfl | rfl | rfl | rfl <;> omega
def PosSet (w : World) (b m : Nat) (L : List (List Nat)) : Prop :=
 ∃ D : DataW Unit, w.ownsMap Tryz.prog 103 (unitElem (H := Unit)) b L.length D ∧ Maps.size D = L.length ∧ ∀ q kl, q.length = m -> keyOf Tryz.prog 103 (posV q) = some kl -> Maps.has D kl = decide (q ∈ L)
theorem PosSet.block {w w' : World} {b m : Nat} {L : List (List Nat)} (h : PosSet w b m L) (e : w'.heap[b]? = w.heap[b]?) : PosSet w' b m L := by
 obtain ⟨D, hD, hf⟩ := h; exact ⟨D, own_map_block hD e, hf⟩
theorem PosSet.lt {w : World} {b m : Nat} {L : List (List Nat)} (h : PosSet w b m L) : b < w.heap.size := by obtain ⟨D, hD, _⟩ := h; exact own_map_lt hD
theorem PosSet.below {w w' : World} {b m : Nat} {L : List (List Nat)} (h : PosSet w b m L) (hb : Below w.heap.size w w') : PosSet w' b m L := h.block (hb.block b h.lt)
theorem posSet_made (w : World) (b m : Nat) (hb : b = w.heap.size) : PosSet (w.alloc (.map #[] 0)) b m [] := by
 subst hb; exact ⟨_, World.ownsMap_made w _ _ _, rfl, fun _ _ _ _ => rfl⟩
theorem posSet_put {w w' : World} {b m : Nat} {L : List (List Nat)} {D : DataW Unit} {q : List Nat} {kl : Lit} {d : DataW Unit} (hm : m <= 4) (hown : w.ownsMap Tryz.prog 103 (unitElem (H := Unit)) b L.length D) (hs : Maps.size D = L.length)
 (hf : ∀ q kl, q.length = m -> keyOf Tryz.prog 103 (posV q) = some kl -> Maps.has D kl = decide (q ∈ L)) (hq : q.length = m) (hn : q ∉ L)
 (hk : keyOf Tryz.prog 103 (posV q) = some kl) (h : w'.ownsMap Tryz.prog 103 (unitElem (H := Unit)) b (L.length + 1) (D.put kl d)) : PosSet w' b m (L ++ [q]) := by
 have hno : Maps.has D kl = false := by rw [hf q kl hq hk]; simpa using hn
 refine ⟨_, by rw [List.length_append]; exact h, ?_, fun q' kl' hq' hk' => ?_⟩
 . rw [size_put (hown.tidy Tryz.lawPos), hno, List.length_append, hs]; rfl
 . by_cases e : kl' = kl
   . subst e; have e2 : q' = q := pos_ext hm hq' hq (Tryz.lawPos.inj hk' hk); subst e2; rw [has_put_same hown.isMap (Tryz.lawPos.key hk) d]; simp
   . rw [has_put_other e d, hf q' kl' hq' hk']; have e2 : q' ≠ q := fun h => by
      subst h; rw [hk] at hk'; exact e (Option.some.inj hk').symm
     rw [Bool.eq_iff_iff, decide_eq_true_eq, decide_eq_true_eq, List.mem_append]; constructor
     . exact Or.inl
     . rintro (h | h)
       . exact h
       . simp at h; exact absurd h e2
section
variable {w : World} {ops : Array Oper} {rest : List Oper} {o : Oper} {a : Act} {Q : Exit → Act → World → Prop}
theorem wpList_look_pos (hg : o.guard = none) (mo x : Operand) (hop : o.op = Op.lookup 144 mo x true) (b m : Nat) (L : List (List Nat)) (hmo : a.eval mo = .map (some b)) (hown : PosSet w b m L) (q : List Nat) (hx : a.eval x = posV q) (hq : q.length = m) (hs : Small q)
 (hK : wpList Tryz.prog ops Q rest (a.put o.dst (.tuple #[.agg #[], .bool (decide (q ∈ L))])) w) : wpList Tryz.prog ops Q (o :: rest) a w := by
 obtain ⟨D, hD, _, hf⟩ := hown; obtain ⟨kl, hk⟩ := posKey hs; refine wpList_lookup_own_unit (H := Unit) w hg mo x _ hop 103 30 Tryz.lawPos Tryz.underlying144 (Tryz.zeroUnit w) b _ D hmo hD _ kl hx hk ?_; rw [hf q kl hq hk]; exact hK
theorem wpList_put_pos (hg : o.guard = none) (mo x v : Operand) (hop : o.op = Op.mapUpdate 144 mo x v) (b m : Nat) (L : List (List Nat)) (hmo : a.eval mo = .map (some b)) (hown : PosSet w b m L) (hn : L.length < maxLen) (hm : m <= 4) (q : List Nat) (hx : a.eval x = posV q) (hv : a.eval v = .agg #[]) (hq : q.length = m) (hs : Small q) (hnew : q ∉ L)
 (hK : ∀ w', PosSet w' b m (L ++ [q]) -> w.grownBy w' (some b) -> wpList Tryz.prog ops Q rest (a.put o.dst undef) w') : wpList Tryz.prog ops Q (o :: rest) a w := by
 obtain ⟨D, hD, hsz, hf⟩ := hown; obtain ⟨kl, hk⟩ := posKey hs; refine wpList_mapUpdate_own (H := Unit) w hg mo x v _ hop 103 30 Tryz.lawPos Tryz.underlying144 unitElem b _ D hmo hD hn _ _ kl hx hv hk _ [] unitElem_mk ?_; intro w' hw' hgw; exact hK w' (posSet_put hm hD hsz hf hq hnew hk hw') hgw
theorem wpList_ins_pos (hg : o.guard = none) (mo x v : Operand) (hop : o.op = Op.insert 144 mo x v) (b m : Nat) (L : List (List Nat)) (hmo : a.eval mo = .map (some b)) (hown : PosSet w b m L) (hn : L.length < maxLen) (hm : m <= 4) (q : List Nat) (hx : a.eval x = posV q) (hv : a.eval v = .agg #[]) (hq : q.length = m) (hs : Small q) (hnew : q ∉ L)
 (hK : ∀ w', PosSet w' b m (L ++ [q]) -> w.grownBy w' (some b) -> wpList Tryz.prog ops Q rest (a.put o.dst undef) w') : wpList Tryz.prog ops Q (o :: rest) a w := by
 obtain ⟨D, hD, hsz, hf⟩ := hown; obtain ⟨kl, hk⟩ := posKey hs; refine wpList_plain hg fun K' hK' => ?_
 obtain ⟨w', hrun, r1, r2⟩ := hD.update Tryz.lawPos Tryz.underlying144 hn hk (unitElem_mk (H := Unit)); unfold Oper.wp; simp [execOp, hop, hmo, hx, hv, hrun, Result.andThen]
 exact hK' _ _ (hK w' (posSet_put hm hD hsz hf hq hnew hk r1) r2)
theorem wpList_len_pos (hg : o.guard = none) (mo : Operand) (hop : o.op = Op.call { callee := Callee.builtin Builtin.len, args := #[mo], argTypes := #[144] }) (b m : Nat) (L : List (List Nat)) (hmo : a.eval mo = .map (some b)) (hown : PosSet w b m L)
 (hK : wpList Tryz.prog ops Q rest (a.put o.dst (.int .i64 (L.length : Nat))) w) : wpList Tryz.prog ops Q (o :: rest) a w := by
 obtain ⟨D, hD, hsz, hf⟩ := hown; refine wpList_len_own (H := Unit) (w := w) hg mo 144 hop 103 30 Tryz.underlying144 _ b _ D hmo hD ?_; rw [hsz]; exact hK
end
def pcell (q : List Nat) : List Value := [.int .u8 (q.getD 0 0 : Nat), .int .u8 (q.getD 1 0 : Nat), .int .u8 (q.getD 2 0 : Nat), .int .u8 (q.getD 3 0 : Nat)]
def posCells : List (List Nat) -> List Value
 | [] => []
 | q :: r => pcell q ++ posCells r
theorem posCells_app : ∀ (F G : List (List Nat)), posCells (F ++ G) = posCells F ++ posCells G
 | [], G => rfl
 | x :: F, G => by simp [posCells, posCells_app F G]
theorem posCells_at : ∀ {F : List (List Nat)} {i : Nat} (h : i < F.length), (posCells F)[i * 4]? = some (.int .u8 (F[i].getD 0 0 : Nat)) ∧ (posCells F)[i * 4 + 1]? = some (.int .u8 (F[i].getD 1 0 : Nat)) ∧ (posCells F)[i * 4 + 2]? = some (.int .u8 (F[i].getD 2 0 : Nat)) ∧ (posCells F)[i * 4 + 3]? = some (.int .u8 (F[i].getD 3 0 : Nat))
 | x :: F, 0, _ => by simp [posCells, pcell]
 | x :: F, i + 1, h => by
   have ih := posCells_at (F := F) (i := i) (by simpa using h); simp only [posCells, List.getElem_cons_succ]; rw [List.getElem?_append_right (by simp [pcell]; omega), List.getElem?_append_right (by simp [pcell]; omega), List.getElem?_append_right (by simp [pcell]; omega), List.getElem?_append_right (by simp [pcell]; omega)]; simp only [pcell, List.length_cons, List.length_nil]
   rw [show (i + 1) * 4 - (0 + 1 + 1 + 1 + 1) = i * 4 by omega, show (i + 1) * 4 + 1 - (0 + 1 + 1 + 1 + 1) = i * 4 + 1 by omega, show (i + 1) * 4 + 2 - (0 + 1 + 1 + 1 + 1) = i * 4 + 2 by omega, show (i + 1) * 4 + 3 - (0 + 1 + 1 + 1 + 1) = i * 4 + 3 by omega]; exact ih
theorem pcell_one (x : List Nat) : ∀ u ∈ pcell x, u.oneCell' = true := by
 intro u hu; simp [pcell] at hu
 rcases hu with rfl | rfl | rfl | rfl <;> rfl
def OwnP (w : World) (base : Nat) (v : Value) (F : List (List Nat)) : Prop := w.ownsRow base 103 4 v F.length (posCells F)
theorem OwnP.nil (w : World) (base : Nat) : OwnP w base (.slice none 0 0) [] := ⟨rfl, .inl ⟨rfl, rfl⟩⟩
theorem OwnP.below {w w' : World} {base : Nat} {v : Value} {F : List (List Nat)} (h : OwnP w base v F) (hb : Below w.heap.size w w') : OwnP w' base v F := own_later h hb
theorem OwnP.le {w : World} {base base' : Nat} {v : Value} {F : List (List Nat)} (h : OwnP w base v F) (hb : base' <= base) : OwnP w base' v F := own_le h hb
theorem OwnP.form {w : World} {base : Nat} {v : Value} {F : List (List Nat)} (h : OwnP w base v F) : ∃ a cap, v = .slice a F.length cap ∧ (0 < F.length -> ∃ g, a = some ⟨g, 0, none⟩) ∧ F.length <= cap := own_form h
theorem OwnP.cells {w : World} {base g n cap : Nat} {F : List (List Nat)} (h : OwnP w base (.slice (some ⟨g, 0, none⟩) n cap) F) {i : Nat} (hi : i < F.length) :
 w.cell? ⟨g, i * 4, none⟩ = some (.int .u8 (F[i].getD 0 0 : Nat)) ∧ w.cell? ⟨g, i * 4 + 1, none⟩ = some (.int .u8 (F[i].getD 1 0 : Nat)) ∧ w.cell? ⟨g, i * 4 + 2, none⟩ = some (.int .u8 (F[i].getD 2 0 : Nat)) ∧ w.cell? ⟨g, i * 4 + 3, none⟩ = some (.int .u8 (F[i].getD 3 0 : Nat)) := by
 rcases h.2 with ⟨h0, _⟩ | ⟨g', cap', cur, hv, _, hh, h4, _, h6, h7⟩
 . cases h0
 . cases hv; obtain ⟨c1, c2, c3, c4⟩ := posCells_at hi; rw [<- h7, List.getElem?_take, if_pos (by omega), Array.getElem?_toList] at c1 c2 c3 c4; exact ⟨by simpa [World.cell?, hh] using c1, by simpa [World.cell?, hh] using c2, by simpa [World.cell?, hh] using c3, by simpa [World.cell?, hh] using c4⟩
theorem Tryz.infoPos : (Tryz.prog.info? 103).map (fun i => (i.zero, i.size, i.bytes)) = some (some (.agg #[.int .u8 0, .int .u8 0, .int .u8 0, .int .u8 0]), 4, 4) := by kernel_rfl
theorem four_freshP (w : World) (q : List Nat) : ∀ j u, (pcell q)[j]? = some u -> (w.alloc (.cells #[.int .u8 (q.getD 0 0 : Nat), .int .u8 (q.getD 1 0 : Nat), .int .u8 (q.getD 2 0 : Nat), .int .u8 (q.getD 3 0 : Nat)] 103)).cell? ((⟨w.heap.size, 0, none⟩ : Addr).add j) = some u := by
 intro j u h; unfold pcell at h; match j, h with
 | 0, h => simp at h; subst h; simp [Addr.add]
 | 1, h => simp at h; subst h; simp [Addr.add]
 | 2, h => simp at h; subst h; simp [Addr.add]
 | 3, h => simp at h; subst h; simp [Addr.add]
 | j + 4, h => simp at h
theorem wpList_pushP {w0 : World} {ops : Array Oper} {rest : List Oper} {o : Oper} {a : Act} {Q : Exit -> Act -> World -> Prop} (hgd : o.guard = none) (s x : Operand)
 (ho : o.op = .call { callee := .builtin .append, args := #[s, x], argTypes := #[164, 164] })
 (base : Nat) (v : Value) (F : List (List Nat)) (q : List Nat) (a0 a1 a2 a3 : Nat) (h0 : a0 = q.getD 0 0) (h1 : a1 = q.getD 1 0) (h2 : a2 = q.getD 2 0) (h3 : a3 = q.getD 3 0) (hs : a.eval s = v) (hown : OwnP w0 base v F) (hbase : base <= w0.heap.size) (c : Nat)
 (hx : a.eval x = .slice (some ⟨w0.heap.size, 0, none⟩) 1 c) (hF : F.length <= 100000000)
 (h : ∀ g cap w', OwnP w' base (.slice (some ⟨g, 0, none⟩) (F ++ [q]).length cap) (F ++ [q]) -> Only (fun k => v.ownBlock = some k) w0 w' -> (v.ownBlock = some g ∨ w0.heap.size <= g) -> wpList Tryz.prog ops Q rest (a.put o.dst (.slice (some ⟨g, 0, none⟩) (F ++ [q]).length cap)) w') :
 wpList Tryz.prog ops Q (o :: rest) a (w0.alloc (.cells #[.int .u8 (a0 : Int), .int .u8 (a1 : Int), .int .u8 (a2 : Int), .int .u8 (a3 : Int)] 103)) := by
 subst h0 h1 h2 h3; obtain ⟨i0, hi0, hi1, hi2, hi3⟩ := info_parts Tryz.infoPos; have hown1 := own_keep (w' := w0.alloc (.cells #[.int .u8 (q.getD 0 0 : Nat), .int .u8 (q.getD 1 0 : Nat), .int .u8 (q.getD 2 0 : Nat), .int .u8 (q.getD 3 0 : Nat)] 103)) hown (fun g _ hg _ => Below.heap_alloc _ _ _ hg); refine wpList_append_lies _ hgd s x _ ho base 103 i0 _ 4 4 Tryz.underlying164 hi0 hi1 hi2 hi3 rfl (by omega) v F.length (posCells F) hs hown1 _ 1 c (pcell q) hx rfl (four_freshP w0 q) (pcell_one q) (by omega) (by unfold maxLen; omega) (by omega) (by simp; omega) (w0.heap.size + 1) (by simp) ?_
 intro g cap w' ho9 hg9 hl9 _; have e1 : (F ++ [q]).length = F.length + 1 := by simp
 have e2 : posCells [q] = pcell q := by simp [posCells]
 rw [e1] at h; refine h g cap w' ?_ ?_ (hl9.imp id (fun e => by omega))
 . unfold OwnP; rw [posCells_app, e1, e2]; exact ho9
 . refine ⟨hg9.os, hg9.tape, hg9.output, Nat.le_trans (by simp) hg9.size, fun k hk hn => ?_⟩; rw [hg9.block k (by simp; omega) (fun e => hn e.symm)]; exact Below.heap_alloc _ _ _ hk
theorem own_oneP (w : World) (q : List Nat) (k : Nat) (hk : k = w.heap.size) : OwnP (w.alloc (.cells #[.int .u8 (q.getD 0 0 : Nat), .int .u8 (q.getD 1 0 : Nat), .int .u8 (q.getD 2 0 : Nat), .int .u8 (q.getD 3 0 : Nat)] 103)) k (.slice (some ⟨k, 0, none⟩) 1 1) [q] := by
 subst hk; refine ⟨rfl, .inr ⟨w.heap.size, 1, #[.int .u8 (q.getD 0 0 : Nat), .int .u8 (q.getD 1 0 : Nat), .int .u8 (q.getD 2 0 : Nat), .int .u8 (q.getD 3 0 : Nat)], rfl, zl, ?_, zl, by unfold maxLen; omega, rfl, rfl⟩⟩; show (w.heap.push _)[w.heap.size]? = _; simp
end
end Go.Proofs.YtnkgpinadgacgaaGreatDoor
