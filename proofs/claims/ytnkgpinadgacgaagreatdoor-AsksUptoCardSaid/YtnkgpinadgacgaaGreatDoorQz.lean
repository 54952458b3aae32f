/- Dh, Dj, Dk, Dl, Dm, Dn. -/
import Derived.Test.YtnkgpinadgacgaaGreatDoorQy
set_option maxRecDepth 1000000
set_option maxHeartbeats 4000000
namespace Go.Proofs.YtnkgpinadgacgaaGreatDoor
section
open Go.RowKit M
def stepP (ro co : Int) (cs : ByteArray) (m : Nat) (p q : List Nat) : Prop := q ∈ growL (mvN ro co cs) p m
theorem count_any (ro co bu : Int) (cs : ByteArray) (b off m cc : Nat) (fr tt : Nat -> Int) (w : World) (hs : cs.size <= 36) (r1 : 1 <= ro) (r2 : ro <= 6) (h1 : 1 <= co) (h2 : co <= 6) (hm : m <= 4) (hbu : bu <= 1000000) (hsd : SidesIn w) (hcs : CartsIn w b off m fr tt) (hf : ∀ k, k < m -> 0 <= fr k ∧ freeB cs (fr k) = true) (ht : ∀ k, k < m -> 0 <= tt k ∧ freeB cs (tt k) = true) :
 Calls Tryz.prog 47 #[.agg #[.int .i64 ro, .int .i64 co, .string cs, .slice (some ⟨b, off, none⟩) m cc, .int .i64 bu]] w fun e w' => ∃ (n : Nat) (d : Bool), e = .returned (.tuple #[.int .i64 n, .bool d]) ∧ n <= 2000000 ∧ M.Told (stepP ro co cs m) (cellsOf fr m) (cellsOf tt m) bu n d ∧ Below w.heap.size w w' := by
 have ht2 : ∀ k, k < m -> 0 <= tt k ∧ tt k < 256 := fun k hk => by
  obtain ⟨n, e1, e2⟩ := free_nat (ht k hk).2; have := (ht k hk).1; omega
 have GT : Hid (Good cs m (cellsOf tt m)) := by
  refine ⟨cellsOf_len _ _, fun k hk => ?_⟩; obtain ⟨n, e1, e2⟩ := free_nat (ht k hk).2; rw [cellsOf_at hk, e1]; exact ⟨by simpa using e2, by rw [<- e1]; simpa [e1] using (ht k hk).2⟩
 have ST := zx (GT.out.small hs); have HSD := zx hsd; have HCS := zx hcs; have HF := zx hf; have HT2 := zx ht2; clear hsd hcs hf ht ht2; go_enter Tryz.func47, Tryz.ntmps47; go_wp2_with fail; have B1 : Hid (Below w.heap.size w (w.alloc (.cells #[.int .i64 ro, .int .i64 co, .string cs, .slice (some ⟨b, off, none⟩) m cc, .int .i64 bu] 34))) := (Below.refl _ w).alloc zl _
 have yc : ∀ o, (w.alloc (.cells #[.int .i64 ro, .int .i64 co, .string cs, .slice (some ⟨b, off, none⟩) m cc, .int .i64 bu] 34)).cell? ⟨w.heap.size, o, none⟩ = #[Value.int .i64 ro, .int .i64 co, .string cs, .slice (some ⟨b, off, none⟩) m cc, .int .i64 bu][o]? := by
  intro o; go_simp
 have hz1 : (w.alloc (.cells #[.int .i64 ro, .int .i64 co, .string cs, .slice (some ⟨b, off, none⟩) m cc, .int .i64 bu] 34)).heap.size = w.heap.size + 1 := by simp
 generalize w.alloc (.cells #[.int .i64 ro, .int .i64 co, .string cs, .slice (some ⟨b, off, none⟩) m cc, .int .i64 bu] 34) = w1 at *; refine (reached_any ro co bu cs b off m cc fr tt _ hs r1 r2 h1 h2 hm hbu (HSD.out.below B1.out) (HCS.out.below B1.out) HF.out).mono ?_; rintro e w2 ⟨bm, L, i, rfl, hwk, hi, hgd, hlen, hps, hbm, hb2⟩; have WK := zx hwk; have HI := zx hi; have HLEN := zx hlen; have PS := zx hps; have hz2 := hb2.size; have y0 := zj hb2 (yc 0); have y1 := zj hb2 (yc 1); have y2 := zj hb2 (yc 2); have y3 := zj hb2 (yc 3)
 have y4 := zj hb2 (yc 4); have B2 := zx (B1.out.trans (hb2.mono (by omega))); clear yc hwk hi hgd hlen hps hb2; go_wp2_with fail; refine (goals_any ro co bu cs b off m cc fr tt _ hm (HCS.out.below B2.out) HT2.out).mono ?_; rintro e w3 ⟨rfl, hb3⟩; have PS3 := zx (PS.out.below hb3); have B3 := zx (B2.out.trans (hb3.mono (by omega))); have hz3 := hb3.size; clear hb3 y0 y1 y2 y3 y4; have PS4 : Hid (PosSet (w3.alloc (.cells #[] 30)) bm m L) := PS3.out.below ((Below.refl _ _).alloc zl _)
 go_upto_region 3 with (at_lookup; refine wpList_look_pos rfl _ _ rfl bm m L rfl PS3.out (cellsOf tt m) rfl GT.out.1 ST.out ?_)
 go_wp2_with (at_len; go_must (refine wpList_len_pos rfl _ rfl bm m L rfl PS4.out ?_))
 go_ret2; refine ⟨L.length, decide (cellsOf tt m ∈ L), rfl, ?_, ?_, B3.out.alloc (by omega) _⟩
 . have := HLEN.out; omega
 . have hw := WK.out; rcases HI.out with h | h
   . subst h; exact .inl ⟨L, hw, rfl, rfl⟩
   . exact .inr ⟨L, i, hw, rfl, h⟩
end
namespace M
def horn (F : Nat) (D : List Nat) : Nat := D.foldl (fun n d => n * F + d) 0
theorem horn_snoc (F : Nat) (D : List Nat) (d : Nat) : horn F (D ++ [d]) = horn F D * F + d := by
 unfold horn; rw [List.foldl_append]; rfl
theorem snoc_cases (D : List Nat) : D = [] ∨ ∃ E d, D = E ++ [d] := by
 by_cases h : D = []
 . exact .inl h
 . exact .inr ⟨D.dropLast, D.getLast h, (List.dropLast_concat_getLast h).symm⟩
theorem horn_lt {F : Nat} : ∀ (n : Nat) (D : List Nat), D.length = n -> (∀ d, d ∈ D -> d < F) -> horn F D < F ^ n
 | 0, D, hn, _ => by
   have : D = [] := List.length_eq_zero_iff.1 hn; subst this; simp [horn]
 | n + 1, D, hn, h => by
   rcases snoc_cases D with rfl | ⟨E, d, rfl⟩
   . simp at hn
   . have ih := horn_lt n E (by simpa using hn) (fun x hx => h x (List.mem_append_left _ hx)); have hd := h d (by simp); rw [horn_snoc, Nat.pow_succ]; have h2 : (horn F E + 1) * F <= F ^ n * F := Nat.mul_le_mul ih zl; rw [Nat.add_mul, Nat.one_mul] at h2; omega
theorem horn_mod {F : Nat} {D : List Nat} {d : Nat} (h : d < F) : horn F (D ++ [d]) % F = d ∧ horn F (D ++ [d]) / F = horn F D := by
 rw [horn_snoc]; have hF : 0 < F := by omega
 refine ⟨?_, ?_⟩
 . rw [Nat.add_comm, Nat.add_mul_mod_self_right, Nat.mod_eq_of_lt h]
 . rw [Nat.add_comm, Nat.add_mul_div_right _ _ hF, Nat.div_eq_of_lt h, Nat.zero_add]
theorem horn_inj {F : Nat} : ∀ (n : Nat) (D E : List Nat), D.length = n -> E.length = n -> (∀ d, d ∈ D -> d < F) -> (∀ d, d ∈ E -> d < F) -> horn F D = horn F E -> D = E
 | 0, D, E, hD, hE, _, _, _ => by
   rw [List.length_eq_zero_iff.1 hD, List.length_eq_zero_iff.1 hE]
 | n + 1, D, E, hD, hE, h1, h2, h => by
   rcases snoc_cases D with rfl | ⟨D', d, rfl⟩
   . simp at hD
   . rcases snoc_cases E with rfl | ⟨E', e, rfl⟩
     . simp at hE
     . have hd := h1 d (by simp); have he := h2 e (by simp); have m1 := horn_mod (D := D') hd; have m2 := horn_mod (D := E') he; rw [h] at m1; have e1 : d = e := by rw [<- m1.1, m2.1]
       have e2 : horn F D' = horn F E' := by rw [<- m1.2, m2.2]
       rw [e1, horn_inj n D' E' (by simpa using hD) (by simpa using hE) (fun x hx => h1 x (List.mem_append_left _ hx)) (fun x hx => h2 x (List.mem_append_left _ hx)) e2]
def frees (f : Nat -> Bool) (k : Nat) : List Nat := (List.range k).filter f
def rankOf (f : Nat -> Bool) (c : Nat) : Nat := (frees f c).length
theorem frees_succ_in {f : Nat -> Bool} {k : Nat} (h : f k = true) : frees f (k + 1) = frees f k ++ [k] := by
 unfold frees; rw [List.range_succ, List.filter_append]; simp [h]
theorem frees_succ_out {f : Nat -> Bool} {k : Nat} (h : f k = false) : frees f (k + 1) = frees f k := by
 unfold frees; rw [List.range_succ, List.filter_append]; simp [h]
theorem frees_pre {f : Nat -> Bool} {c : Nat} : ∀ (d : Nat), ∃ r, frees f (c + d) = frees f c ++ r
 | 0 => ⟨[], by simp⟩
 | d + 1 => by
   obtain ⟨r, hr⟩ := frees_pre (f := f) (c := c) d; by_cases h : f (c + d) = true
   . exact ⟨r ++ [c + d], by rw [<- Nat.add_assoc, frees_succ_in h, hr, List.append_assoc]⟩
   . exact ⟨r, by rw [<- Nat.add_assoc, frees_succ_out (by simpa using h), hr]⟩
theorem rank_at {f : Nat -> Bool} {c N : Nat} (hf : f c = true) (hc : c < N) : rankOf f c < (frees f N).length ∧ (frees f N)[rankOf f c]? = some c := by
 obtain ⟨r, hr⟩ := frees_pre (f := f) (c := c + 1) (N - (c + 1)); rw [show c + 1 + (N - (c + 1)) = N by omega, frees_succ_in hf, List.append_assoc] at hr; rw [hr]; unfold rankOf; refine ⟨by simp, ?_⟩; rw [List.getElem?_append_right zl, Nat.sub_self]; rfl
theorem rank_inj {f : Nat -> Bool} {a b N : Nat} (ha : f a = true) (hb : f b = true) (haN : a < N) (hbN : b < N) (h : rankOf f a = rankOf f b) : a = b := by
 have h1 := (rank_at ha haN).2; have h2 := (rank_at hb hbN).2; rw [h, h2] at h1; exact (Option.some.inj h1).symm
def numOf (f : Nat -> Bool) (N : Nat) (q : List Nat) : Nat := horn (frees f N).length (q.map (rankOf f))
theorem numOf_lt {f : Nat -> Bool} {N : Nat} {q : List Nat} (h : ∀ c, c ∈ q -> c < N ∧ f c = true) : numOf f N q < (frees f N).length ^ q.length := by
 refine horn_lt q.length _ (by simp) fun d hd => ?_
 obtain ⟨c, hc, rfl⟩ := List.mem_map.1 hd; exact (rank_at (h c hc).2 (h c hc).1).1
theorem numOf_inj {f : Nat -> Bool} {N : Nat} {p q : List Nat} (hl : p.length = q.length) (hp : ∀ c, c ∈ p -> c < N ∧ f c = true) (hq : ∀ c, c ∈ q -> c < N ∧ f c = true) (h : numOf f N p = numOf f N q) : p = q := by
 have e := horn_inj q.length _ _ (by simpa using hl) (by simp) (fun d hd => by
  obtain ⟨c, hc, rfl⟩ := List.mem_map.1 hd; exact (rank_at (hp c hc).2 (hp c hc).1).1) (fun d hd => by
  obtain ⟨c, hc, rfl⟩ := List.mem_map.1 hd; exact (rank_at (hq c hc).2 (hq c hc).1).1) h
 have hm : ∀ k : Nat, (p.map (rankOf f))[k]? = (q.map (rankOf f))[k]? := fun k => by rw [e]
 refine List.ext_getElem hl fun k h1 h2 => ?_
 have h3 := hm k; rw [List.getElem?_map, List.getElem?_map, List.getElem?_eq_getElem h1, List.getElem?_eq_getElem h2] at h3; simp at h3; have a1 := hp _ (List.getElem_mem h1); have a2 := hq _ (List.getElem_mem h2); exact rank_inj a1.2 a2.2 a1.1 a2.1 h3
end M
section
open Go.RowKit M
def mayN (co : Int) (cs : ByteArray) (c : Nat) : List Nat := (List.range cs.size).filter fun z => mayM co cs c z
def stepR (co : Int) (cs : ByteArray) (m : Nat) (p q : List Nat) : Prop := q ∈ growL (mayN co cs) p m
theorem mayN_mem {co : Int} {cs : ByteArray} {c z : Nat} : z ∈ mayN co cs c ↔ z < cs.size ∧ mayM co cs c z = true := by
 unfold mayN; rw [List.mem_filter, List.mem_range]
theorem mvN_mem {ro co : Int} {cs : ByteArray} {c z : Nat} (h1 : 1 <= co) (h2 : co <= 6) (hsz : (cs.size : Int) = ro * co) (hc : c < cs.size) (hf : freeB cs c = true) : z ∈ mvN ro co cs c ↔ z ∈ mayN co cs c := by
 rw [mayN_mem]; unfold mayM; constructor
 . intro h; obtain ⟨r, hr, e⟩ := List.mem_iff_getElem.1 h; obtain ⟨e1, e2, e3⟩ := mvN_at hf hr; have hr2 : r < (mvL ro co cs c).length := by rw [<- mvN_len]; exact hr
   have hz := List.getElem_mem hr2; have e4 : (mvL ro co cs c)[r] = ((mvN ro co cs c)[r] : Nat) := by
    unfold ints at e1; rw [List.getElem?_map, List.getElem?_eq_getElem hr2] at e1; simpa using e1
   rw [e4] at hz; rw [e] at e2 e3 hz; refine ⟨e2, ?_⟩; rw [e3, mvL_near h1 h2 hz]; simp; omega
 . rintro ⟨hz, h⟩; simp only [Bool.and_eq_true, decide_eq_true_eq] at h; have hm := mvL_all (ro := ro) h1 h2 hsz (by omega) (by omega) h.1 h.2.2.2; unfold mvN; rw [List.mem_map]; exact ⟨(z : Int), hm, by simp⟩
theorem step_iff {ro co : Int} {cs : ByteArray} {m : Nat} {p q : List Nat} (h1 : 1 <= co) (h2 : co <= 6) (hsz : (cs.size : Int) = ro * co) (hp : Good cs m p) : stepP ro co cs m p q ↔ stepR co cs m p q := by
 unfold stepP stepR; rw [growL_mem, growL_mem]; constructor
 . rintro ⟨hl, h⟩; exact ⟨hl, fun k hk => ⟨(mvN_mem h1 h2 hsz (hp.2 k hk).1 (hp.2 k hk).2).1 (h k hk).1, (h k hk).2⟩⟩
 . rintro ⟨hl, h⟩; exact ⟨hl, fun k hk => ⟨(mvN_mem h1 h2 hsz (hp.2 k hk).1 (hp.2 k hk).2).2 (h k hk).1, (h k hk).2⟩⟩
theorem come_congr {S S' : List Nat -> List Nat -> Prop} {G : List Nat -> Prop} {s : List Nat} (hs : G s) (hg : ∀ p q, G p -> S p q -> G q) (hi : ∀ p q, G p -> (S p q ↔ S' p q)) {q : List Nat} (h : Come S s q) : Come S' s q ∧ G q := by
 obtain ⟨n, hn⟩ := h; induction n generalizing q with
 | zero => rw [show q = s from hn]; exact ⟨Come.start, hs⟩
 | succ n ih =>
   obtain ⟨p, hp, hpq⟩ := hn; obtain ⟨h1, h2⟩ := ih hp; exact ⟨h1.next ((hi p q h2).1 hpq), hg p q h2 hpq⟩
theorem work_congr {S S' : List Nat -> List Nat -> Prop} {G : List Nat -> Prop} {s : List Nat} {L : List (List Nat)} {i : Nat} (hs : G s) (hg : ∀ p q, G p -> S p q -> G q) (hi : ∀ p q, G p -> (S p q ↔ S' p q)) (h : Work S s L i) : Work S' s L i :=
 ⟨h.nodup, fun q hq => (come_congr hs hg hi (h.come q hq)).1, h.start, h.le, fun j hj q hq => h.done j hj q ((hi _ q (come_congr hs hg hi (h.come _ (List.getElem_mem (by have := h.le; omega)))).2).2 hq)⟩
theorem told_congr {S S' : List Nat -> List Nat -> Prop} {G : List Nat -> Prop} {s g : List Nat} {bu : Int} {n : Nat} {b : Bool} (hs : G s) (hg : ∀ p q, G p -> S p q -> G q) (hi : ∀ p q, G p -> (S p q ↔ S' p q)) (h : M.Told S s g bu n b) : M.Told S' s g bu n b := by
 rcases h with ⟨L, hw, hn, hb⟩ | ⟨L, i, hw, hn, hb⟩
 . exact .inl ⟨L, work_congr hs hg hi hw, hn, hb⟩
 . exact .inr ⟨L, i, work_congr hs hg hi hw, hn, hb⟩
theorem told_doc {ro co bu : Int} {cs : ByteArray} {m n : Nat} {s g : List Nat} {b : Bool} (h1 : 1 <= co) (h2 : co <= 6) (hsz : (cs.size : Int) = ro * co) (hs : Good cs m s) (h : M.Told (stepP ro co cs m) s g bu n b) : M.Told (stepR co cs m) s g bu n b :=
 told_congr (G := Good cs m) hs (fun _ _ hp hq => hp.next hq) (fun _ _ hp => step_iff h1 h2 hsz hp) h
end
section
open Go.RowKit M
def frB (cs : ByteArray) (c : Nat) : Bool := freeB cs (c : Int)
def tabV (ro co bu : Int) (cs : ByteArray) (ac : Option Addr) (m cc gf cf gr cr cnt : Nat) : Value := .agg #[.int .i64 ro, .int .i64 co, .string cs, .slice ac m cc, .int .i64 bu, .slice (some ⟨gf, 0, none⟩) (frees (frB cs) cs.size).length cf, .slice (some ⟨gr, 0, none⟩) cs.size cr, .int .i64 cnt]
def TabIn (w : World) (cs : ByteArray) (gf gr : Nat) : Prop :=
 (∀ j, j < (frees (frB cs) cs.size).length -> w.cell? ⟨gf, j, none⟩ = some (.int .i64 ((frees (frB cs) cs.size).getD j 0 : Nat))) ∧
 (∀ c, c < cs.size -> w.cell? ⟨gr, c, none⟩ = some (.int .i64 (if frB cs c then ((rankOf (frB cs) c : Nat) : Int) else -1)))
theorem TabIn.below {w w' : World} {cs : ByteArray} {gf gr : Nat} (h : TabIn w cs gf gr) (hb : Below w.heap.size w w') : TabIn w' cs gf gr :=
 ⟨fun j hj => zj hb (h.1 j hj), fun c hc => zj hb (h.2 c hc)⟩
def numTo (cs : ByteArray) (q : List Nat) (k : Nat) : Nat := numOf (frB cs) cs.size (q.take k)
theorem numTo_zero (cs : ByteArray) (q : List Nat) : numTo cs q 0 = 0 := by simp [numTo, numOf, horn]
theorem numTo_next {cs : ByteArray} {q : List Nat} {k : Nat} (hk : k < q.length) : numTo cs q (k + 1) = numTo cs q k * (frees (frB cs) cs.size).length + rankOf (frB cs) (q.getD k 0) := by
 unfold numTo numOf; rw [List.take_succ_eq_append_getElem hk, List.map_append]; simp only [List.map_cons, List.map_nil]; rw [horn_snoc]; congr 2; rw [zg, List.getElem?_eq_getElem hk]; rfl
theorem frees_le (cs : ByteArray) : (frees (frB cs) cs.size).length <= cs.size := by
 unfold frees; exact Nat.le_trans (List.length_filter_le _ _) (by simp)
theorem numTo_lt {cs : ByteArray} {m : Nat} {q : List Nat} (hq : Good cs m q) (hm : m <= 4) (hs : cs.size <= 36) (k : Nat) (hk : k <= m) : numTo cs q k < 36 ^ 4 := by
 have h1 : numTo cs q k < (frees (frB cs) cs.size).length ^ (q.take k).length := by
  refine numOf_lt fun c hc => ?_
  obtain ⟨i, hi, e⟩ := List.mem_iff_getElem.1 (List.mem_of_mem_take hc); have h := hq.2 i (by rw [<- hq.1]; exact hi); rw [zg, List.getElem?_eq_getElem hi] at h; subst e; exact h
 have hl : (q.take k).length = k := by rw [List.length_take, hq.1]; omega
 rw [hl] at h1; have h2 := frees_le cs; have h3 : (frees (frB cs) cs.size).length ^ k <= 36 ^ k := Nat.pow_le_pow_left (by omega) k; have h4 : 36 ^ k <= 36 ^ 4 := Nat.pow_le_pow_right (by omega) (by omega); omega
theorem number_any (ro co bu : Int) (cs : ByteArray) (ac : Option Addr) (mm cc gf cf gr cr cnt m : Nat) (b off cq : Nat) (q : List Nat) (w : World) (hs : cs.size <= 36) (hm : m <= 4) (hq : Good cs m q) (ht : TabIn w cs gf gr) (hx : ∀ k, k < m -> w.cell? ⟨b, off + k, none⟩ = some (.int .i64 (q.getD k 0 : Nat))) :
 Calls Tryz.prog 60 #[tabV ro co bu cs ac mm cc gf cf gr cr cnt, .slice (some ⟨b, off, none⟩) m cq] w fun e w' => e = .returned (.int .i64 (numOf (frB cs) cs.size q : Nat)) ∧ Below w.heap.size w w' := by
 have HT := zx ht; have HX := zx hx; have HQ := zx hq; obtain ⟨F, hF⟩ : ∃ F, F = (frees (frB cs) cs.size).length := ⟨_, rfl⟩
 have hFN : F <= cs.size := by rw [hF]; exact frees_le cs
 unfold tabV; rw [<- hF]; have HF := zx hF; clear ht hx hq hF; go_enter Tryz.func60, Tryz.ntmps60; go_wp2; have B0 : Hid (Below w.heap.size w (w.alloc (.cells #[.int .i64 ro, .int .i64 co, .string cs, .slice ac mm cc, .int .i64 bu, .slice (some ⟨gf, 0, none⟩) F cf, .slice (some ⟨gr, 0, none⟩) cs.size cr, .int .i64 (cnt : Nat)] 79))) := (Below.refl _ w).alloc zl _
 have t5 : (w.alloc (.cells #[.int .i64 ro, .int .i64 co, .string cs, .slice ac mm cc, .int .i64 bu, .slice (some ⟨gf, 0, none⟩) F cf, .slice (some ⟨gr, 0, none⟩) cs.size cr, .int .i64 (cnt : Nat)] 79)).cell? ⟨w.heap.size, 5, none⟩ = some (.slice (some ⟨gf, 0, none⟩) F cf) := by go_simp
 have t6 : (w.alloc (.cells #[.int .i64 ro, .int .i64 co, .string cs, .slice ac mm cc, .int .i64 bu, .slice (some ⟨gf, 0, none⟩) F cf, .slice (some ⟨gr, 0, none⟩) cs.size cr, .int .i64 (cnt : Nat)] 79)).cell? ⟨w.heap.size, 6, none⟩ = some (.slice (some ⟨gr, 0, none⟩) cs.size cr) := by go_simp
 have hz : (w.alloc (.cells #[.int .i64 ro, .int .i64 co, .string cs, .slice ac mm cc, .int .i64 bu, .slice (some ⟨gf, 0, none⟩) F cf, .slice (some ⟨gr, 0, none⟩) cs.size cr, .int .i64 (cnt : Nat)] 79)).heap.size = w.heap.size + 1 := by simp
 generalize (w.alloc (.cells #[.int .i64 ro, .int .i64 co, .string cs, .slice ac mm cc, .int .i64 bu, .slice (some ⟨gf, 0, none⟩) F cf, .slice (some ⟨gr, 0, none⟩) cs.size cr, .int .i64 (cnt : Nat)] 79)) = w0 at *; have T5 := zx t5; have T6 := zx t6; clear t5 t6; go_loopw [5, 6] (fun v5 v6 wr => ∃ k : Nat, k <= m ∧ v6 = .int .i64 k ∧ v5 = .int .i64 (numTo cs q k : Nat) ∧ Below w0.heap.size w0 wr) (fun _ v6 _ => m - (intOf v6).toNat)
 case atStart => exact ⟨0, Nat.zero_le _, rfl, by rw [numTo_zero]; rfl, Below.refl _ _⟩
 case round =>
  obtain ⟨w1, rfl⟩ : ∃ q, q = wr := ⟨_, rfl⟩
  obtain ⟨k, hk, rfl, rfl, hbr⟩ := hrel; have HBR := zx hbr; by_cases hlt : k < m
  . have d5 := zj hbr T5.out; have d6 := zj hbr T6.out; obtain ⟨c, hc⟩ : ∃ c, c = q.getD k 0 := ⟨_, rfl⟩
    have hgk := HQ.out.2 k hlt; rw [<- hc] at hgk; have hcN := hgk.1; have d0 := zj hbr (zj B0.out (HX.out k hlt)); rw [<- hc] at d0; have d1 := zj hbr (zj B0.out (HT.out.2 c hcN)); rw [if_pos (show frB cs c = true from hgk.2)] at d1; obtain ⟨R, hR⟩ : ∃ R, R = rankOf (frB cs) c := ⟨_, rfl⟩
    rw [<- hR] at d1; obtain ⟨n0, hn0⟩ : ∃ n0, n0 = numTo cs q k := ⟨_, rfl⟩
    have hnext : Hid (numTo cs q (k + 1) = n0 * F + R) := by
     unfold Hid; rw [numTo_next (by rw [HQ.out.1]; exact hlt), <- HF.out, <- hn0, <- hc, <- hR]
    have hb1 := numTo_lt HQ.out hm hs (k + 1) (by omega); have hb0 := numTo_lt HQ.out hm hs k (by omega); rw [hnext.out] at hb1; rw [<- hn0] at hb0 ⊢; obtain ⟨nF, hnF⟩ : ∃ nF, nF = n0 * F := ⟨_, rfl⟩
    rw [<- hnF] at hb1; have hmul : ((n0 : Nat) : Int) * ((F : Nat) : Int) = ((nF : Nat) : Int) := by rw [hnF]; exact (Int.natCast_mul n0 F).symm
    have hw1 : IntKind.i64.wrap ((n0 : Int) * (F : Int)) = ((nF : Nat) : Int) := by rw [hmul]; simp [IntKind.wrap, IntKind.signed, IntKind.bits]; omega
    have hw2 : IntKind.i64.wrap ((nF : Int) + (R : Int)) = ((nF + R : Nat) : Int) := by simp [IntKind.wrap, IntKind.signed, IntKind.bits]; omega
    have hcNI : (c : Int) < (cs.size : Int) := by omega
    have HN := zx hnF; clear hc hR hn0 hbr hgk hnF; go_upto_region 5 with fail; go_quiet (fail); go_wp2; go_roundw; case rel => exact ⟨k + 1, by omega, by go_num, by rw [hnext.out, <- HN.out]; go_num, below_drewN HBR.out _⟩
    case measure => simp [intOf]; omega
  . have e : k = m := by omega
    have hfin : Hid (numTo cs q k = numOf (frB cs) cs.size q) := by
     unfold Hid numTo; rw [List.take_of_length_le (by rw [HQ.out.1]; omega)]
    go_wp2; go_ret; exact ⟨by rw [<- hfin.out]; rfl, B0.out.trans (HBR.out.mono (by omega))⟩
end
section
open Go.RowKit M
def backV (q : List Nat) (j o : Nat) : Value := .int .i64 (if o < j then 0 else ((q.getD o 0 : Nat) : Int))
theorem back_row (q : List Nat) (m : Nat) (w : World) (t : TypeId) (k : Nat) (hk : k = w.heap.size) : (w.alloc (.cells (madeCells #[.int .i64 0] m) t)).rowIs k t m (backV q m) := by
 subst hk; refine rowIs_made _ _ _ _ fun i hi => ?_
 unfold backV; rw [if_pos hi]; simp [Nat.mod_one]
theorem back_set {w : World} {g m j : Nat} {t : TypeId} {q : List Nat} (h : w.rowIs g t m (backV q (j + 1))) : (w.setCell ⟨g, j, none⟩ (.int .i64 (q.getD j 0 : Nat))).rowIs g t m (backV q j) := by
 refine (h.set j _).congr fun o _ => ?_
 unfold backV; by_cases e : o = j
 . subst e; rw [if_pos rfl, if_neg (Nat.lt_irrefl _)]
 . rw [if_neg e]; by_cases e2 : o < j
   . rw [if_pos e2, if_pos (by omega)]
   . rw [if_neg e2, if_neg (by omega)]
theorem numTo_digit {cs : ByteArray} {m j : Nat} {q : List Nat} (hq : Good cs m q) (hj : j < m) :
 numTo cs q (j + 1) % (frees (frB cs) cs.size).length = rankOf (frB cs) (q.getD j 0) ∧ numTo cs q (j + 1) / (frees (frB cs) cs.size).length = numTo cs q j ∧ rankOf (frB cs) (q.getD j 0) < (frees (frB cs) cs.size).length ∧ (frees (frB cs) cs.size).getD (rankOf (frB cs) (q.getD j 0)) 0 = q.getD j 0 := by
 obtain ⟨h1, h2⟩ := hq.2 j hj; obtain ⟨h3, h4⟩ := rank_at (f := frB cs) h2 h1; rw [numTo_next (by rw [hq.1]; exact hj)]; refine ⟨?_, ?_, h3, by rw [zg, h4]; rfl⟩
 . rw [Nat.add_comm, Nat.add_mul_mod_self_right, Nat.mod_eq_of_lt h3]
 . rw [Nat.add_comm, Nat.add_mul_div_right _ _ (by omega), Nat.div_eq_of_lt h3, Nat.zero_add]
theorem position_any (ro co bu : Int) (cs : ByteArray) (ac : Option Addr) (m cc gf cf gr cr cnt : Nat) (q : List Nat) (w : World) (hs : cs.size <= 36) (hm : m <= 4) (hq : Good cs m q) (ht : TabIn w cs gf gr) :
 Calls Tryz.prog 58 #[tabV ro co bu cs ac m cc gf cf gr cr cnt, .int .i64 (numOf (frB cs) cs.size q : Nat)] w fun e w' => ∃ g, e = .returned (.slice (some ⟨g, 0, none⟩) m m) ∧ w.heap.size <= g ∧ w'.rowIs g 3 m (fun k => .int .i64 (q.getD k 0 : Nat)) ∧ Below w.heap.size w w' := by
 have HT := zx ht; have HQ := zx hq; obtain ⟨n0, hn0⟩ : ∃ n0, n0 = numOf (frB cs) cs.size q := ⟨_, rfl⟩
 have HN0 : Hid (n0 = numTo cs q m) := by
  unfold Hid numTo; rw [List.take_of_length_le (by rw [hq.1]; omega)]; exact hn0
 rw [<- hn0]; obtain ⟨F, hF⟩ : ∃ F, F = (frees (frB cs) cs.size).length := ⟨_, rfl⟩
 have hFN : F <= cs.size := by rw [hF]; exact frees_le cs
 unfold tabV; rw [<- hF]; have HF := zx hF; clear ht hq hF hn0; go_enter Tryz.func58, Tryz.ntmps58; go_upto_region 2 with fail; have B0 : Hid (Below w.heap.size w (w.alloc (.cells #[.int .i64 ro, .int .i64 co, .string cs, .slice ac m cc, .int .i64 bu, .slice (some ⟨gf, 0, none⟩) F cf, .slice (some ⟨gr, 0, none⟩) cs.size cr, .int .i64 (cnt : Nat)] 79))) := (Below.refl _ w).alloc zl _
 have t5 : (w.alloc (.cells #[.int .i64 ro, .int .i64 co, .string cs, .slice ac m cc, .int .i64 bu, .slice (some ⟨gf, 0, none⟩) F cf, .slice (some ⟨gr, 0, none⟩) cs.size cr, .int .i64 (cnt : Nat)] 79)).cell? ⟨w.heap.size, 5, none⟩ = some (.slice (some ⟨gf, 0, none⟩) F cf) := by go_simp
 have hz : (w.alloc (.cells #[.int .i64 ro, .int .i64 co, .string cs, .slice ac m cc, .int .i64 bu, .slice (some ⟨gf, 0, none⟩) F cf, .slice (some ⟨gr, 0, none⟩) cs.size cr, .int .i64 (cnt : Nat)] 79)).heap.size = w.heap.size + 1 := by simp
 generalize (w.alloc (.cells #[.int .i64 ro, .int .i64 co, .string cs, .slice ac m cc, .int .i64 bu, .slice (some ⟨gf, 0, none⟩) F cf, .slice (some ⟨gr, 0, none⟩) cs.size cr, .int .i64 (cnt : Nat)] 79)) = w0 at *; have T5 := zx t5; have ROW0 := zx (back_row q m w0 3 _ rfl); have B1 : Hid (Below w0.heap.size w0 (w0.alloc (.cells (madeCells #[Value.int .i64 0] m) 3))) := (Below.refl _ _).alloc zl _; clear t5
 go_wp2_with (at_make; go_must (refine wpList_make_all _ rfl _ _ 23 rfl 3 _ _ _ Tryz.underlying23 Tryz.infoInt2 _ _ _ _ m rfl rfl (by simp) (by simp) (by omega) (by omega) ?_))
 go_loopw [1, 7] (fun v1 v7 wr => ∃ (j : Nat) (z : Int) (n : Nat), j <= m ∧ v7 = .int .i64 z ∧ z = (j : Int) - 1 ∧ v1 = .int .i64 (n : Nat) ∧ n = numTo cs q j ∧ wr.rowIs w0.heap.size 3 m (backV q j) ∧ Below w0.heap.size w0 wr) (fun _ v7 _ => ((intOf v7) + 1).toNat)
 case atStart => exact ⟨m, _, n0, zl, rfl, by go_num, rfl, HN0.out, ROW0.out, B1.out⟩
 case round =>
  obtain ⟨w1, rfl⟩ : ∃ q, q = wr := ⟨_, rfl⟩
  obtain ⟨j, z, n, hj, rfl, hzj, rfl, hn, hrow, hbr⟩ := hrel; have HBR := zx hbr; have HROW := zx hrow; by_cases hlt : 0 < j
  . obtain ⟨k, rfl⟩ : ∃ k, j = k + 1 := ⟨j - 1, by omega⟩
    obtain rfl : z = (k : Int) := by omega
    clear hzj; obtain ⟨g1, g2, g3, g4⟩ := numTo_digit HQ.out (show k < m by omega); rw [<- hn, <- HF.out] at g1 g2; rw [<- HF.out] at g3; obtain ⟨c, hc⟩ : ∃ c, c = q.getD k 0 := ⟨_, rfl⟩
    obtain ⟨R, hR⟩ : ∃ R, R = rankOf (frB cs) (q.getD k 0) := ⟨_, rfl⟩
    obtain ⟨n2, hn2⟩ : ∃ n2, n2 = numTo cs q k := ⟨_, rfl⟩
    have HN2 := zx hn2; have hgfl : gf < w.heap.size := World.block_lt_of_cell? _ _ (HT.out.1 (rankOf (frB cs) (q.getD k 0)) (by rw [<- HF.out]; exact g3)); have hgf1 : gf ≠ w.heap.size + 1 := by omega
    have hgf2 : w.heap.size + 1 ≠ gf := by omega
    have d0 := zj HBR.out (zj B0.out (HT.out.1 (rankOf (frB cs) (q.getD k 0)) (by rw [<- HF.out]; exact g3))); rw [g4, <- hR, <- hc] at d0; rw [<- hR] at g1 g3; rw [<- hn2] at g2; have d5 := zj HBR.out T5.out; have x1 := hrow.cell (i := k) (by omega); have x2 := hrow.frozen; unfold backV at x1; rw [if_pos (by omega)] at x1; rw [hz] at x1 x2; have hrem : ((n : Nat) : Int).tmod ((F : Nat) : Int) = (R : Int) := by
     rw [Int.tmod_eq_emod_of_nonneg (by omega), <- g1]; exact (Int.natCast_emod n F).symm
    have hquo : ((n : Nat) : Int).tdiv ((F : Nat) : Int) = (n2 : Int) := by
     rw [Int.tdiv_eq_ediv_of_nonneg (by omega), <- g2]; exact (Int.natCast_ediv n F).symm
    have hF0 : ¬ ((F : Nat) : Int) = 0 := by omega
    have hF1 : ¬ F = 0 := by omega
    have hRF : (R : Int) < (F : Int) := by omega
    have hkm : (k : Int) < (m : Int) := by omega
    have nb := numTo_lt HQ.out hm hs (k + 1) (by omega); have nb2 := numTo_lt HQ.out hm hs k (by omega); rw [<- hn] at nb; rw [<- hn2] at nb2; have NR : Hid ((w1.setCell ⟨w0.heap.size, k, none⟩ (.int .i64 c)).rowIs w0.heap.size 3 m (backV q k)) := by
     have h := back_set HROW.out; rw [<- hc] at h; exact h
    have NB : Hid (Below w0.heap.size w0 (w1.setCell ⟨w0.heap.size, k, none⟩ (.int .i64 c))) := HBR.out.setCell (by exact zl) _; rw [hz] at NR NB; have hne1 : w.heap.size + 1 ≠ w.heap.size := by omega
    have hne2 : w.heap.size ≠ w.heap.size + 1 := by omega
    clear hrow hbr hc hR hn hn2 g1 g2 g4; go_upto_region 6 with fail; go_region_held3 (fun w' => w'.cell? ⟨w.heap.size, 5, none⟩ = some (.slice (some ⟨gf, 0, none⟩) F cf) ∧ w'.cell? ⟨gf, R, none⟩ = some (.int .i64 c)) (go_keep) (fail)
    go_wp2; go_roundw; case rel =>
     refine ⟨k, _, n2, by omega, rfl, by omega, rfl, HN2.out, ?_, ?_⟩
     . have h := NR.out; rw [<- hz] at h ⊢; exact h.drew
     . have h := NB.out; rw [<- hz] at h ⊢; exact h.drew
    case measure => simp [intOf]
  . have e : j = 0 := by omega
    subst e; have hneg : ¬ 0 <= z := by omega
    have hneg2 : z < 0 := by omega
    clear hzj; have FIN : Hid (w1.rowIs (w.heap.size + 1) 3 m (fun k => .int .i64 (q.getD k 0 : Nat))) := by
     have h : w1.rowIs w0.heap.size 3 m (fun k => .int .i64 (q.getD k 0 : Nat)) := HROW.out.congr fun i hi => by unfold backV; rw [if_neg (Nat.not_lt_zero _)]
     rw [hz] at h; exact h
    clear hrow hbr; go_wp2; go_ret; exact ⟨w.heap.size + 1, rfl, by omega, FIN.out, B0.out.trans (HBR.out.mono (by omega))⟩
end
section
open Go.RowKit M
theorem rapart_any (p q : List Nat) (bp op np cp bq oq nq cq k : Nat) (w : World) (hk1 : k < np) (hk2 : k < nq) (hk : k < 4)
 (hp : ∀ j, j < np -> w.cell? ⟨bp, op + j, none⟩ = some (.int .i64 (p.getD j 0 : Nat))) (hq : ∀ j, j < nq -> w.cell? ⟨bq, oq + j, none⟩ = some (.int .i64 (q.getD j 0 : Nat))) :
 Calls Tryz.prog 87 #[.slice (some ⟨bp, op, none⟩) np cp, .slice (some ⟨bq, oq, none⟩) nq cq, .int .i64 k] w fun e w' => e = .returned (.bool (fitB p q k)) ∧ Below w.heap.size w w' := by
 have HP := zx hp; have HQ := zx hq; clear hp hq; go_enter Tryz.func87, Tryz.ntmps87; go_wp2; go_loopw [7] (fun v7 wr => ∃ o : Nat, o <= k ∧ v7 = .int .i64 o ∧ (∀ j, j < o -> clashB p q k j = false) ∧ Below w.heap.size w wr) (fun v7 _ => k - (intOf v7).toNat)
 case atStart => exact ⟨0, Nat.zero_le _, rfl, fun j hj => absurd hj (Nat.not_lt_zero j), Below.refl _ _⟩
 case round =>
  obtain ⟨o, ho, rfl, hmiss, hbr⟩ := hrel; have HM := zx hmiss; have HB := zx hbr; by_cases hlt : o < k
  . have ha := zj hbr (HQ.out k hk2); have hb := zj hbr (HQ.out o (by omega)); have hc := zj hbr (HP.out o (by omega)); have hd := zj hbr (HP.out k hk1); have i1 : (o : Int) < (np : Int) := by omega
    have i2 : (o : Int) < (nq : Int) := by omega
    have i3 : (k : Int) < (np : Int) := by omega
    have i4 : (k : Int) < (nq : Int) := by omega
    have j1 : o < np := by omega
    have j2 : o < nq := by omega
    obtain ⟨va, hva⟩ : ∃ v, v = q.getD k 0 := ⟨_, rfl⟩
    obtain ⟨vb, hvb⟩ : ∃ v, v = q.getD o 0 := ⟨_, rfl⟩
    obtain ⟨vc, hvc⟩ : ∃ v, v = p.getD o 0 := ⟨_, rfl⟩
    obtain ⟨vd, hvd⟩ : ∃ v, v = p.getD k 0 := ⟨_, rfl⟩
    rw [<- hva] at ha; rw [<- hvb] at hb; rw [<- hvc] at hc; rw [<- hvd] at hd; have CL : Hid (clashB p q k o = ((va == vb) || (va == vc && vb == vd))) := by unfold Hid clashB; rw [hva, hvb, hvc, hvd]
    clear hva hvb hvc hvd hmiss hbr; by_cases e1 : vb = va
    . have e1' : (((vb : Nat) : Int) == ((va : Nat) : Int)) = true := by simp [e1]
      have RES : Hid (fitB p q k = false) := fit_hit hlt (by rw [CL.out]; simp [e1]); clear e1; go_wp2_with fail; go_quiet (fail); go_wp2; go_ret; exact ⟨ret_bool RES.out.symm, below_drewN HB.out _⟩
    . have e1' : (((vb : Nat) : Int) == ((va : Nat) : Int)) = false := by simp; omega
      have e1n : ¬ va = vb := fun h => e1 h.symm
      by_cases e3 : vb = vd
      . have e3' : (((vb : Nat) : Int) == ((vd : Nat) : Int)) = true := by simp [e3]
        by_cases e2 : va = vc
        . have e2' : (((va : Nat) : Int) == ((vc : Nat) : Int)) = true := by simp [e2]
          have RES : Hid (fitB p q k = false) := fit_hit hlt (by rw [CL.out]; simp [e2, e3]); clear e1 e1n e2 e3; go_wp2_with fail; go_quiet (fail); go_wp2; go_ret; exact ⟨ret_bool RES.out.symm, below_drewN HB.out _⟩
        . have e2' : (((va : Nat) : Int) == ((vc : Nat) : Int)) = false := by simp; omega
          have RES : Hid (clashB p q k o = false) := by unfold Hid; rw [CL.out]; simp [e1n, e2]
          clear e1 e1n e2 e3; go_wp2_with fail; go_quiet (fail); go_wp2; go_roundw; case rel => exact ⟨o + 1, by omega, by go_num, upto_step RES.out HM.out, below_drewN HB.out _⟩
          case measure => simp [intOf]; omega
      . have e3' : (((vb : Nat) : Int) == ((vd : Nat) : Int)) = false := by simp; omega
        have RES : Hid (clashB p q k o = false) := by unfold Hid; rw [CL.out]; simp [e1n, e3]
        clear e1 e1n e3; go_wp2_with fail; go_quiet (fail); go_wp2; go_roundw; case rel => exact ⟨o + 1, by omega, by go_num, upto_step RES.out HM.out, below_drewN HB.out _⟩
        case measure => simp [intOf]; omega
  . have RES : Hid (fitB p q k = true) := fit_miss fun j hj => HM.out j (by omega)
    clear hmiss hbr; go_wp2; go_ret; exact ⟨ret_bool RES.out.symm, HB.out⟩
end
end Go.Proofs.YtnkgpinadgacgaaGreatDoor
