/- Da. -/
import Derived.Test.YtnkgpinadgacgaaGreatDoorQe
set_option maxRecDepth 1000000
namespace Go.Proofs.YtnkgpinadgacgaaGreatDoor
namespace M
def clashB (p q : List Nat) (i j : Nat) : Bool := (q.getD i 0 == q.getD j 0) || (q.getD i 0 == p.getD j 0 && q.getD j 0 == p.getD i 0)
def fitB (p q : List Nat) (i : Nat) : Bool := !anyB (fun k => clashB p q i k) i
def growL (step : Nat -> List Nat) (p : List Nat) : Nat -> List (List Nat)
 | 0 => [[]]
 | i + 1 => (growL step p i).flatMap fun q => ((step (p.getD i 0)).filter fun c => fitB p (q ++ [c]) i).map fun c => q ++ [c]
theorem getD_app_old {q r : List Nat} {k : Nat} (h : k < q.length) : (q ++ r).getD k 0 = q.getD k 0 := by
 simp only [zg]; rw [List.getElem?_append_left h]
theorem getD_app_new {q : List Nat} {c : Nat} : (q ++ [c]).getD q.length 0 = c := by
 simp only [zg]; simp
theorem fitB_app {p q r : List Nat} {k : Nat} (h : k < q.length) : fitB p (q ++ r) k = fitB p q k := by
 unfold fitB; congr 1; have e : ∀ j, j < k -> clashB p (q ++ r) k j = clashB p q k j := fun j hj => by
  unfold clashB; rw [getD_app_old h, getD_app_old (show j < q.length by omega)]
 rw [Bool.eq_iff_iff, anyB_iff, anyB_iff]; constructor
 . rintro ⟨j, hj, hc⟩; exact ⟨j, hj, by rw [<- e j hj]; exact hc⟩
 . rintro ⟨j, hj, hc⟩; exact ⟨j, hj, by rw [e j hj]; exact hc⟩
theorem growL_mem {step : Nat -> List Nat} {p : List Nat} : ∀ {i : Nat} {q : List Nat}, q ∈ growL step p i ↔ q.length = i ∧ ∀ k, k < i -> q.getD k 0 ∈ step (p.getD k 0) ∧ fitB p q k = true
 | 0, q => by
   simp only [growL, List.mem_singleton]; constructor
   . intro h; subst h; exact ⟨rfl, fun k hk => absurd hk (Nat.not_lt_zero k)⟩
   . intro h; exact List.eq_nil_of_length_eq_zero h.1
 | i + 1, q => by
   simp only [growL, List.mem_flatMap, List.mem_map, List.mem_filter]; constructor
   . rintro ⟨q0, h0, c, ⟨hc, hf⟩, rfl⟩; obtain ⟨hl, hk⟩ := growL_mem.1 h0; refine ⟨by simp [hl], fun k hki => ?_⟩; by_cases e : k = i
     . subst e; rw [<- hl, getD_app_new, hl]; exact ⟨hc, hf⟩
     . have h1 : k < q0.length := by omega
       rw [getD_app_old h1, fitB_app h1]; exact hk k (by omega)
   . rintro ⟨hl, hk⟩; have hne : q ≠ [] := fun e => by rw [e] at hl; simp at hl
     refine ⟨q.dropLast, growL_mem.2 ⟨by rw [List.length_dropLast]; omega, fun k hki => ?_⟩, q.getLast hne, ⟨?_, ?_⟩, List.dropLast_concat_getLast hne⟩
     . have h1 : k < q.dropLast.length := by rw [List.length_dropLast]; omega
       have h2 := hk k (by omega); rw [<- List.dropLast_concat_getLast hne, getD_app_old h1, fitB_app h1] at h2; exact h2
     . have h2 := (hk i (by omega)).1; rw [<- List.dropLast_concat_getLast hne] at h2; have e : i = q.dropLast.length := by rw [List.length_dropLast]; omega
       rw [e, getD_app_new, <- e] at h2; exact h2
     . rw [List.dropLast_concat_getLast hne]; exact (hk i (by omega)).2
theorem growL_len {step : Nat -> List Nat} {p : List Nat} {B : Nat} (h : ∀ c, (step c).length <= B) : ∀ i, (growL step p i).length <= B ^ i
 | 0 => by simp [growL]
 | i + 1 => by
   have ih := growL_len (p := p) h i; simp only [growL, List.length_flatMap]; have : ∀ L : List (List Nat), ((L.map fun q => (((step (p.getD i 0)).filter fun c => fitB p (q ++ [c]) i).map fun c => q ++ [c]).length).sum) <= L.length * B := by
    intro L; induction L with
    | nil => simp
    | cons q L ihL =>
      simp only [List.map_cons, List.sum_cons, List.length_cons, List.length_map] at ihL ⊢; have h1 := List.length_filter_le (fun c => fitB p (q ++ [c]) i) (step (p.getD i 0)); have h2 := h (p.getD i 0); rw [Nat.succ_mul]; omega
   have h3 := this (growL step p i); have h4 : (growL step p i).length * B <= B ^ i * B := Nat.mul_le_mul ih zl; rw [Nat.pow_succ]; omega
def reachN (S : List Nat -> List Nat -> Prop) (s : List Nat) : Nat -> List Nat -> Prop
 | 0, q => q = s
 | n + 1, q => ∃ p, reachN S s n p ∧ S p q
def Come (S : List Nat -> List Nat -> Prop) (s q : List Nat) : Prop := ∃ n, reachN S s n q
theorem Come.start {S : List Nat -> List Nat -> Prop} {s : List Nat} : Come S s s := ⟨0, rfl⟩
theorem Come.next {S : List Nat -> List Nat -> Prop} {s p q : List Nat} (h : Come S s p) (h2 : S p q) : Come S s q := by
 obtain ⟨n, hn⟩ := h; exact ⟨n + 1, p, hn, h2⟩
structure Work (S : List Nat -> List Nat -> Prop) (s : List Nat) (L : List (List Nat)) (i : Nat) : Prop where
 nodup : L.Nodup
 come : ∀ q, q ∈ L -> Come S s q
 start : s ∈ L
 le : i <= L.length
 done : ∀ j, (h : j < i) -> ∀ q, S (L[j]'(by omega)) q -> q ∈ L
theorem Work.one {S : List Nat -> List Nat -> Prop} {s : List Nat} : Work S s [s] 0 :=
 ⟨by simp, fun q hq => by simp at hq; subst hq; exact Come.start, by simp, Nat.zero_le _, fun j hj => absurd hj (Nat.not_lt_zero j)⟩
theorem Work.add {S : List Nat -> List Nat -> Prop} {s : List Nat} {L : List (List Nat)} {i : Nat} (h : Work S s L i) (hi : i < L.length) {q : List Nat} (hq : S L[i] q) (hn : q ∉ L) : Work S s (L ++ [q]) i := by
 refine ⟨?_, fun x hx => ?_, List.mem_append_left _ h.start, by rw [List.length_append]; have := h.le; omega, fun j hj x hx => ?_⟩
 . rw [List.nodup_append]; refine ⟨h.nodup, by simp, fun a ha b hb e => ?_⟩; simp at hb; subst hb; subst e; exact hn ha
 . rcases List.mem_append.1 hx with hx | hx
   . exact h.come x hx
   . simp at hx; subst hx; exact (h.come _ (List.getElem_mem hi)).next hq
 . have hj2 : j < L.length := by have := h.le; omega
   rw [List.getElem_append_left hj2] at hx; exact List.mem_append_left _ (h.done j hj x hx)
theorem Work.next {S : List Nat -> List Nat -> Prop} {s : List Nat} {L : List (List Nat)} {i : Nat} (h : Work S s L i) (hi : i < L.length) (hall : ∀ q, S L[i] q -> q ∈ L) : Work S s L (i + 1) :=
 ⟨h.nodup, h.come, h.start, hi, fun j hj q hq => by
  by_cases e : j = i
  . subst e; exact hall q hq
  . exact h.done j (by omega) q hq⟩
theorem Work.all {S : List Nat -> List Nat -> Prop} {s : List Nat} {L : List (List Nat)} {i : Nat} (h : Work S s L i) (hi : i = L.length) : ∀ q, Come S s q -> q ∈ L := by
 have go : ∀ n q, reachN S s n q -> q ∈ L := by
  intro n; induction n with
  | zero => intro q hq; rw [show q = s from hq]; exact h.start
  | succ n ih =>
    rintro q ⟨p, hp, hs⟩; obtain ⟨j, hj, rfl⟩ := List.mem_iff_getElem.1 (ih p hp); exact h.done j (by omega) q hs
 rintro q ⟨n, hn⟩; exact go n q hn
theorem nodup_len : ∀ {L L' : List (List Nat)}, L.Nodup -> (∀ q, q ∈ L -> q ∈ L') -> L.length <= L'.length
 | [], _, _, _ => by simp
 | x :: L, L', hn, hs => by
   have hx : x ∈ L' := hs x (by simp); have hn2 := List.nodup_cons.1 hn; have h := nodup_len (L' := L'.erase x) hn2.2 (fun q hq => by
    have hne : q ≠ x := fun e => hn2.1 (by rw [<- e]; exact hq)
    exact (List.mem_erase_of_ne hne).2 (hs q (by simp [hq])))
   have h2 := List.length_erase_of_mem hx; have h3 : 0 < L'.length := List.length_pos_of_mem hx; simp only [List.length_cons]; omega
def Told (S : List Nat -> List Nat -> Prop) (s g : List Nat) (bu : Int) (n : Nat) (b : Bool) : Prop :=
 (∃ L, Work S s L L.length ∧ n = L.length ∧ b = decide (g ∈ L)) ∨ (∃ L i, Work S s L i ∧ n = L.length ∧ bu < n)
theorem Told.all {S : List Nat -> List Nat -> Prop} {s g : List Nat} {bu : Int} {n n' : Nat} {b b' : Bool} (h : Told S s g bu n b) (h' : Told S s g bu n' b') : (bu < n ↔ bu < n') ∧ (¬ bu < n -> n = n' ∧ b = b') := by
 have key : ∀ {L L' : List (List Nat)} {i : Nat}, Work S s L L.length -> Work S s L' i -> L'.length <= L.length := fun {L L' i} h1 h2 => nodup_len h2.nodup fun q hq => h1.all rfl q (h2.come q hq)
 rcases h with ⟨L, hL, hn, hb⟩ | ⟨L, i, hL, hn, hb⟩
 . rcases h' with ⟨L', hL', hn', hb'⟩ | ⟨L', i', hL', hn', hb'⟩
   . have e : n = n' := by have := key hL hL'; have := key hL' hL; omega
     subst e; refine ⟨Iff.rfl, fun _ => ⟨rfl, ?_⟩⟩; rw [hb, hb', Bool.eq_iff_iff, decide_eq_true_eq, decide_eq_true_eq]; exact ⟨fun h => hL'.all rfl _ (hL.come _ h), fun h => hL.all rfl _ (hL'.come _ h)⟩
   . have := key hL hL'; exact ⟨⟨fun _ => hb', fun _ => by omega⟩, fun hh => absurd (show bu < n by omega) hh⟩
 . rcases h' with ⟨L', hL', hn', hb'⟩ | ⟨L', i', hL', hn', hb'⟩
   . have := key hL' hL; exact ⟨⟨fun _ => by omega, fun _ => hb⟩, fun hh => absurd hb hh⟩
   . exact ⟨⟨fun _ => hb', fun _ => hb⟩, fun hh => absurd hb hh⟩
end M
end Go.Proofs.YtnkgpinadgacgaaGreatDoor
