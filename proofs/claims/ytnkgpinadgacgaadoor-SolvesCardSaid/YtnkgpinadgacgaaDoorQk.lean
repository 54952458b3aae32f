/- Several texts in one: Dh, Dj, Dk, Dl. -/
import Derived.Test.YtnkgpinadgacgaaDoorDg
import Derived.Test.YtnkgpinadgacgaaDoorQb
import Derived.Test.YtnkgpinadgacgaaDoorQj
namespace Go.Proofs.YtnkgpinadgacgaaDoor
open Go.RowKit M
/-- To which positions one may go from a position. -/
def stepP (ro co : Int) (cs : ByteArray) (m : Nat) (p q : List Nat) : Prop := q ∈ growL (mvN ro co cs) p m

set_option maxRecDepth 100000 in
set_option maxHeartbeats 2000000 in
theorem count_any (ro co bu : Int) (cs : ByteArray) (b off m cc : Nat) (fr tt : Nat → Int) (w : World) (hs : cs.size ≤ 36) (r1 : 1 ≤ ro) (r2 : ro ≤ 6) (h1 : 1 ≤ co) (h2 : co ≤ 6) (hm : m ≤ 4) (hbu : bu ≤ 1000000) (hsd : SidesIn w) (hcs : CartsIn w b off m fr tt) (hf : ∀ k, k < m → 0 ≤ fr k ∧ freeB cs (fr k) = true) (ht : ∀ k, k < m → 0 ≤ tt k ∧ freeB cs (tt k) = true) :
    Calls Tryd.prog 84 #[.agg #[.int .i64 ro, .int .i64 co, .string cs, .slice (some ⟨b, off, none⟩) m cc, .int .i64 bu]] w fun e w' => ∃ (n : Nat) (d : Bool), e = .returned (.tuple #[.int .i64 n, .bool d]) ∧ n ≤ 2000000 ∧ M.Told (stepP ro co cs m) (cellsOf fr m) (cellsOf tt m) bu n d ∧ Below w.heap.size w w' := by
  have ht2 : ∀ k, k < m → 0 ≤ tt k ∧ tt k < 256 := fun k hk => by
    obtain ⟨n, e1, e2⟩ := free_nat (ht k hk).2
    have := (ht k hk).1
    omega
  have GT : Hid (Good cs m (cellsOf tt m)) := by
    refine ⟨cellsOf_len _ _, fun k hk => ?_⟩
    obtain ⟨n, e1, e2⟩ := free_nat (ht k hk).2
    rw [cellsOf_at hk, e1]
    exact ⟨by simpa using e2, by rw [← e1]; simpa [e1] using (ht k hk).2⟩
  have ST := Hid.mk (GT.out.small hs)
  have HSD := Hid.mk hsd
  have HCS := Hid.mk hcs
  have HF := Hid.mk hf
  have HT2 := Hid.mk ht2
  clear hsd hcs hf ht ht2
  go_enter Tryd.func84, Tryd.ntmps84
  go_wp2_with fail
  have B1 : Hid (Below w.heap.size w (w.alloc (Obj.cells #[Value.int IntKind.i64 ro, Value.int IntKind.i64 co, Value.string cs, .slice (some ⟨b, off, none⟩) m cc, Value.int IntKind.i64 bu] 24))) := (Below.refl _ w).alloc (Nat.le_refl _) _
  have yc : ∀ o, (w.alloc (Obj.cells #[Value.int IntKind.i64 ro, Value.int IntKind.i64 co, Value.string cs, .slice (some ⟨b, off, none⟩) m cc, Value.int IntKind.i64 bu] 24)).cell? ⟨w.heap.size, o, none⟩ = #[Value.int .i64 ro, .int .i64 co, .string cs, .slice (some ⟨b, off, none⟩) m cc, .int .i64 bu][o]? := by
    intro o; go_simp
  have hz1 : (w.alloc (Obj.cells #[Value.int IntKind.i64 ro, Value.int IntKind.i64 co, Value.string cs, .slice (some ⟨b, off, none⟩) m cc, Value.int IntKind.i64 bu] 24)).heap.size = w.heap.size + 1 := by simp
  generalize w.alloc (Obj.cells #[Value.int IntKind.i64 ro, Value.int IntKind.i64 co, Value.string cs, .slice (some ⟨b, off, none⟩) m cc, Value.int IntKind.i64 bu] 24) = w1 at *
  refine (reached_any ro co bu cs b off m cc fr tt _ hs r1 r2 h1 h2 hm hbu (HSD.out.below B1.out) (HCS.out.below B1.out) HF.out).mono ?_
  rintro e w2 ⟨bm, L, i, rfl, hwk, hi, hgd, hlen, hps, hbm, hb2⟩
  have WK := Hid.mk hwk
  have HI := Hid.mk hi
  have HLEN := Hid.mk hlen
  have PS := Hid.mk hps
  have hz2 := hb2.size
  have y0 := cell_later hb2 (yc 0)
  have y1 := cell_later hb2 (yc 1)
  have y2 := cell_later hb2 (yc 2)
  have y3 := cell_later hb2 (yc 3)
  have y4 := cell_later hb2 (yc 4)
  have B2 : Hid (Below w.heap.size w w2) := B1.out.trans (hb2.mono (by omega))
  clear yc hwk hi hgd hlen hps hb2
  go_wp2_with fail
  refine (goals_any ro co bu cs b off m cc fr tt _ hm (HCS.out.below B2.out) HT2.out).mono ?_
  rintro e w3 ⟨rfl, hb3⟩
  have PS3 := Hid.mk (PS.out.below hb3)
  have B3 : Hid (Below w.heap.size w w3) := B2.out.trans (hb3.mono (by omega))
  have hz3 := hb3.size
  clear hb3 y0 y1 y2 y3 y4
  have PS4 : Hid (PosSet (w3.alloc (Obj.cells #[] 171)) bm m L) := PS3.out.below ((Below.refl _ _).alloc (Nat.le_refl _) _)
  go_upto_region 3 with (at_lookup; refine wpList_look_pos rfl _ _ rfl bm m L rfl PS3.out (cellsOf tt m) rfl GT.out.1 ST.out ?_)
  go_wp2_with (at_len; go_must (refine wpList_len_pos rfl _ rfl bm m L rfl PS4.out ?_))
  go_ret2
  refine ⟨L.length, decide (cellsOf tt m ∈ L), rfl, ?_, ?_, B3.out.alloc (by omega) _⟩
  · have := HLEN.out; omega
  · have hw := WK.out
    rcases HI.out with h | h
    · subst h; exact .inl ⟨L, hw, rfl, rfl⟩
    · exact .inr ⟨L, i, hw, rfl, h⟩

end Go.Proofs.YtnkgpinadgacgaaDoor

namespace Go.Proofs.YtnkgpinadgacgaaDoor.M
/-- The number that has these digits, the first one the highest. -/
def horn (F : Nat) (D : List Nat) : Nat := D.foldl (fun n d => n * F + d) 0

theorem horn_snoc (F : Nat) (D : List Nat) (d : Nat) : horn F (D ++ [d]) = horn F D * F + d := by
  unfold horn
  rw [List.foldl_append]; rfl

/-- Each list of digits is empty, or has a last one. -/
theorem snoc_cases (D : List Nat) : D = [] ∨ ∃ E d, D = E ++ [d] := by
  by_cases h : D = []
  · exact .inl h
  · exact .inr ⟨D.dropLast, D.getLast h, (List.dropLast_concat_getLast h).symm⟩

theorem horn_lt {F : Nat} : ∀ (n : Nat) (D : List Nat), D.length = n → (∀ d, d ∈ D → d < F) → horn F D < F ^ n
  | 0, D, hn, _ => by
    have : D = [] := List.length_eq_zero_iff.1 hn
    subst this
    simp [horn]
  | n + 1, D, hn, h => by
    rcases snoc_cases D with rfl | ⟨E, d, rfl⟩
    · simp at hn
    · have ih := horn_lt n E (by simpa using hn) (fun x hx => h x (List.mem_append_left _ hx))
      have hd := h d (by simp)
      rw [horn_snoc, Nat.pow_succ]
      have h2 : (horn F E + 1) * F ≤ F ^ n * F := Nat.mul_le_mul ih (Nat.le_refl _)
      rw [Nat.add_mul, Nat.one_mul] at h2
      omega

theorem horn_mod {F : Nat} {D : List Nat} {d : Nat} (h : d < F) : horn F (D ++ [d]) % F = d ∧ horn F (D ++ [d]) / F = horn F D := by
  rw [horn_snoc]
  have hF : 0 < F := by omega
  refine ⟨?_, ?_⟩
  · rw [Nat.add_comm, Nat.add_mul_mod_self_right, Nat.mod_eq_of_lt h]
  · rw [Nat.add_comm, Nat.add_mul_div_right _ _ hF, Nat.div_eq_of_lt h, Nat.zero_add]

theorem horn_inj {F : Nat} : ∀ (n : Nat) (D E : List Nat), D.length = n → E.length = n → (∀ d, d ∈ D → d < F) → (∀ d, d ∈ E → d < F) → horn F D = horn F E → D = E
  | 0, D, E, hD, hE, _, _, _ => by
    rw [List.length_eq_zero_iff.1 hD, List.length_eq_zero_iff.1 hE]
  | n + 1, D, E, hD, hE, h1, h2, h => by
    rcases snoc_cases D with rfl | ⟨D', d, rfl⟩
    · simp at hD
    · rcases snoc_cases E with rfl | ⟨E', e, rfl⟩
      · simp at hE
      · have hd := h1 d (by simp)
        have he := h2 e (by simp)
        have m1 := horn_mod (D := D') hd
        have m2 := horn_mod (D := E') he
        rw [h] at m1
        have e1 : d = e := by rw [← m1.1, m2.1]
        have e2 : horn F D' = horn F E' := by rw [← m1.2, m2.2]
        rw [e1, horn_inj n D' E' (by simpa using hD) (by simpa using hE) (fun x hx => h1 x (List.mem_append_left _ hx)) (fun x hx => h2 x (List.mem_append_left _ hx)) e2]

/-- The free cells below k, in order. -/
def frees (f : Nat → Bool) (k : Nat) : List Nat := (List.range k).filter f

/-- How many free cells lie below one. -/
def rankOf (f : Nat → Bool) (c : Nat) : Nat := (frees f c).length

theorem frees_succ_in {f : Nat → Bool} {k : Nat} (h : f k = true) : frees f (k + 1) = frees f k ++ [k] := by
  unfold frees
  rw [List.range_succ, List.filter_append]
  simp [h]

theorem frees_succ_out {f : Nat → Bool} {k : Nat} (h : f k = false) : frees f (k + 1) = frees f k := by
  unfold frees
  rw [List.range_succ, List.filter_append]
  simp [h]

/-- The free cells below a greater number begin with those below a smaller one. -/
theorem frees_pre {f : Nat → Bool} {c : Nat} : ∀ (d : Nat), ∃ r, frees f (c + d) = frees f c ++ r
  | 0 => ⟨[], by simp⟩
  | d + 1 => by
    obtain ⟨r, hr⟩ := frees_pre (f := f) (c := c) d
    by_cases h : f (c + d) = true
    · exact ⟨r ++ [c + d], by rw [← Nat.add_assoc, frees_succ_in h, hr, List.append_assoc]⟩
    · exact ⟨r, by rw [← Nat.add_assoc, frees_succ_out (by simpa using h), hr]⟩

theorem rank_at {f : Nat → Bool} {c N : Nat} (hf : f c = true) (hc : c < N) : rankOf f c < (frees f N).length ∧ (frees f N)[rankOf f c]? = some c := by
  obtain ⟨r, hr⟩ := frees_pre (f := f) (c := c + 1) (N - (c + 1))
  rw [show c + 1 + (N - (c + 1)) = N by omega, frees_succ_in hf, List.append_assoc] at hr
  rw [hr]
  unfold rankOf
  refine ⟨by simp, ?_⟩
  rw [List.getElem?_append_right (Nat.le_refl _), Nat.sub_self]; rfl

theorem rank_inj {f : Nat → Bool} {a b N : Nat} (ha : f a = true) (hb : f b = true) (haN : a < N) (hbN : b < N) (h : rankOf f a = rankOf f b) : a = b := by
  have h1 := (rank_at ha haN).2
  have h2 := (rank_at hb hbN).2
  rw [h, h2] at h1
  exact (Option.some.inj h1).symm

/-- The number of a position. -/
def numOf (f : Nat → Bool) (N : Nat) (q : List Nat) : Nat := horn (frees f N).length (q.map (rankOf f))

theorem numOf_lt {f : Nat → Bool} {N : Nat} {q : List Nat} (h : ∀ c, c ∈ q → c < N ∧ f c = true) : numOf f N q < (frees f N).length ^ q.length := by
  refine horn_lt q.length _ (by simp) fun d hd => ?_
  obtain ⟨c, hc, rfl⟩ := List.mem_map.1 hd
  exact (rank_at (h c hc).2 (h c hc).1).1

theorem numOf_inj {f : Nat → Bool} {N : Nat} {p q : List Nat} (hl : p.length = q.length) (hp : ∀ c, c ∈ p → c < N ∧ f c = true) (hq : ∀ c, c ∈ q → c < N ∧ f c = true) (h : numOf f N p = numOf f N q) : p = q := by
  have e := horn_inj q.length _ _ (by simpa using hl) (by simp) (fun d hd => by
    obtain ⟨c, hc, rfl⟩ := List.mem_map.1 hd
    exact (rank_at (hp c hc).2 (hp c hc).1).1) (fun d hd => by
    obtain ⟨c, hc, rfl⟩ := List.mem_map.1 hd
    exact (rank_at (hq c hc).2 (hq c hc).1).1) h
  have hm : ∀ k : Nat, (p.map (rankOf f))[k]? = (q.map (rankOf f))[k]? := fun k => by rw [e]
  refine List.ext_getElem hl fun k h1 h2 => ?_
  have h3 := hm k
  rw [List.getElem?_map, List.getElem?_map, List.getElem?_eq_getElem h1, List.getElem?_eq_getElem h2] at h3
  simp at h3
  have a1 := hp _ (List.getElem_mem h1)
  have a2 := hq _ (List.getElem_mem h2)
  exact rank_inj a1.2 a2.2 a1.1 a2.1 h3

end Go.Proofs.YtnkgpinadgacgaaDoor.M

namespace Go.Proofs.YtnkgpinadgacgaaDoor
open Go.RowKit M
/-- The cells to which a cart may go from cell c, as the document lists them. -/
def mayN (co : Int) (cs : ByteArray) (c : Nat) : List Nat := (List.range cs.size).filter fun z => mayM co cs c z

/-- To which positions one may go, as the document lists them. -/
def stepR (co : Int) (cs : ByteArray) (m : Nat) (p q : List Nat) : Prop := q ∈ growL (mayN co cs) p m

theorem mayN_mem {co : Int} {cs : ByteArray} {c z : Nat} : z ∈ mayN co cs c ↔ z < cs.size ∧ mayM co cs c z = true := by
  unfold mayN
  rw [List.mem_filter, List.mem_range]

theorem mvN_mem {ro co : Int} {cs : ByteArray} {c z : Nat} (h1 : 1 ≤ co) (h2 : co ≤ 6) (hsz : (cs.size : Int) = ro * co) (hc : c < cs.size) (hf : freeB cs c = true) : z ∈ mvN ro co cs c ↔ z ∈ mayN co cs c := by
  rw [mayN_mem]
  unfold mayM
  constructor
  · intro h
    obtain ⟨r, hr, e⟩ := List.mem_iff_getElem.1 h
    obtain ⟨e1, e2, e3⟩ := mvN_at hf hr
    have hr2 : r < (mvL ro co cs c).length := by rw [← mvN_len]; exact hr
    have hz := List.getElem_mem hr2
    have e4 : (mvL ro co cs c)[r] = ((mvN ro co cs c)[r] : Nat) := by
      unfold ints at e1
      rw [List.getElem?_map, List.getElem?_eq_getElem hr2] at e1
      simpa using e1
    rw [e4] at hz
    rw [e] at e2 e3 hz
    refine ⟨e2, ?_⟩
    rw [e3, mvL_near h1 h2 hz]
    simp; omega
  · rintro ⟨hz, h⟩
    simp only [Bool.and_eq_true, decide_eq_true_eq] at h
    have hm := mvL_all (ro := ro) h1 h2 hsz (by omega) (by omega) h.1 h.2.2.2
    unfold mvN
    rw [List.mem_map]
    exact ⟨(z : Int), hm, by simp⟩

theorem step_iff {ro co : Int} {cs : ByteArray} {m : Nat} {p q : List Nat} (h1 : 1 ≤ co) (h2 : co ≤ 6) (hsz : (cs.size : Int) = ro * co) (hp : Good cs m p) : stepP ro co cs m p q ↔ stepR co cs m p q := by
  unfold stepP stepR
  rw [growL_mem, growL_mem]
  constructor
  · rintro ⟨hl, h⟩
    exact ⟨hl, fun k hk => ⟨(mvN_mem h1 h2 hsz (hp.2 k hk).1 (hp.2 k hk).2).1 (h k hk).1, (h k hk).2⟩⟩
  · rintro ⟨hl, h⟩
    exact ⟨hl, fun k hk => ⟨(mvN_mem h1 h2 hsz (hp.2 k hk).1 (hp.2 k hk).2).2 (h k hk).1, (h k hk).2⟩⟩

/-- Two steps that are one on good positions come to the same. -/
theorem come_congr {S S' : List Nat → List Nat → Prop} {G : List Nat → Prop} {s : List Nat} (hs : G s) (hg : ∀ p q, G p → S p q → G q) (hi : ∀ p q, G p → (S p q ↔ S' p q)) {q : List Nat} (h : Come S s q) : Come S' s q ∧ G q := by
  obtain ⟨n, hn⟩ := h
  induction n generalizing q with
  | zero => rw [show q = s from hn]; exact ⟨Come.start, hs⟩
  | succ n ih =>
    obtain ⟨p, hp, hpq⟩ := hn
    obtain ⟨h1, h2⟩ := ih hp
    exact ⟨h1.next ((hi p q h2).1 hpq), hg p q h2 hpq⟩

theorem work_congr {S S' : List Nat → List Nat → Prop} {G : List Nat → Prop} {s : List Nat} {L : List (List Nat)} {i : Nat} (hs : G s) (hg : ∀ p q, G p → S p q → G q) (hi : ∀ p q, G p → (S p q ↔ S' p q)) (h : Work S s L i) : Work S' s L i :=
  ⟨h.nodup, fun q hq => (come_congr hs hg hi (h.come q hq)).1, h.start, h.le, fun j hj q hq => h.done j hj q ((hi _ q (come_congr hs hg hi (h.come _ (List.getElem_mem (by have := h.le; omega)))).2).2 hq)⟩

theorem told_congr {S S' : List Nat → List Nat → Prop} {G : List Nat → Prop} {s g : List Nat} {bu : Int} {n : Nat} {b : Bool} (hs : G s) (hg : ∀ p q, G p → S p q → G q) (hi : ∀ p q, G p → (S p q ↔ S' p q)) (h : M.Told S s g bu n b) : M.Told S' s g bu n b := by
  rcases h with ⟨L, hw, hn, hb⟩ | ⟨L, i, hw, hn, hb⟩
  · exact .inl ⟨L, work_congr hs hg hi hw, hn, hb⟩
  · exact .inr ⟨L, i, work_congr hs hg hi hw, hn, hb⟩

/-- What the program tells, in the document's step. -/
theorem told_doc {ro co bu : Int} {cs : ByteArray} {m n : Nat} {s g : List Nat} {b : Bool} (h1 : 1 ≤ co) (h2 : co ≤ 6) (hsz : (cs.size : Int) = ro * co) (hs : Good cs m s) (h : M.Told (stepP ro co cs m) s g bu n b) : M.Told (stepR co cs m) s g bu n b :=
  told_congr (G := Good cs m) hs (fun _ _ hp hq => hp.next hq) (fun _ _ hp => step_iff h1 h2 hsz hp) h

end Go.Proofs.YtnkgpinadgacgaaDoor

namespace Go.Proofs.YtnkgpinadgacgaaDoor
open Go.RowKit M
/-- The free cells of a yard. -/
def frB (cs : ByteArray) (c : Nat) : Bool := freeB cs (c : Int)

/-- A table as a value. -/
def tabV (ro co bu : Int) (cs : ByteArray) (ac : Option Addr) (m cc gf cf gr cr cnt : Nat) : Value := .agg #[.int .i64 ro, .int .i64 co, .string cs, .slice ac m cc, .int .i64 bu, .slice (some ⟨gf, 0, none⟩) (frees (frB cs) cs.size).length cf, .slice (some ⟨gr, 0, none⟩) cs.size cr, .int .i64 cnt]

/-- Its two lists in memory: the free cells in order; for each cell its number among them. -/
def TabIn (w : World) (cs : ByteArray) (gf gr : Nat) : Prop :=
  (∀ j, j < (frees (frB cs) cs.size).length → w.cell? ⟨gf, j, none⟩ = some (.int .i64 ((frees (frB cs) cs.size).getD j 0 : Nat))) ∧
  (∀ c, c < cs.size → w.cell? ⟨gr, c, none⟩ = some (.int .i64 (if frB cs c then ((rankOf (frB cs) c : Nat) : Int) else -1)))

theorem TabIn.below {w w' : World} {cs : ByteArray} {gf gr : Nat} (h : TabIn w cs gf gr) (hb : Below w.heap.size w w') : TabIn w' cs gf gr :=
  ⟨fun j hj => cell_later hb (h.1 j hj), fun c hc => cell_later hb (h.2 c hc)⟩

/-- The number of the first k carts' cells. -/
def numTo (cs : ByteArray) (q : List Nat) (k : Nat) : Nat := numOf (frB cs) cs.size (q.take k)

theorem numTo_zero (cs : ByteArray) (q : List Nat) : numTo cs q 0 = 0 := by simp [numTo, numOf, horn]

theorem numTo_next {cs : ByteArray} {q : List Nat} {k : Nat} (hk : k < q.length) : numTo cs q (k + 1) = numTo cs q k * (frees (frB cs) cs.size).length + rankOf (frB cs) (q.getD k 0) := by
  unfold numTo numOf
  rw [List.take_succ_eq_append_getElem hk, List.map_append]
  simp only [List.map_cons, List.map_nil]
  rw [horn_snoc]
  congr 2
  rw [List.getD_eq_getElem?_getD, List.getElem?_eq_getElem hk]; rfl

theorem frees_le (cs : ByteArray) : (frees (frB cs) cs.size).length ≤ cs.size := by
  unfold frees
  exact Nat.le_trans (List.length_filter_le _ _) (by simp)

theorem numTo_lt {cs : ByteArray} {m : Nat} {q : List Nat} (hq : Good cs m q) (hm : m ≤ 4) (hs : cs.size ≤ 36) (k : Nat) (hk : k ≤ m) : numTo cs q k < 36 ^ 4 := by
  have h1 : numTo cs q k < (frees (frB cs) cs.size).length ^ (q.take k).length := by
    refine numOf_lt fun c hc => ?_
    obtain ⟨i, hi, e⟩ := List.mem_iff_getElem.1 (List.mem_of_mem_take hc)
    have h := hq.2 i (by rw [← hq.1]; exact hi)
    rw [List.getD_eq_getElem?_getD, List.getElem?_eq_getElem hi] at h
    subst e
    exact h
  have hl : (q.take k).length = k := by rw [List.length_take, hq.1]; omega
  rw [hl] at h1
  have h2 := frees_le cs
  have h3 : (frees (frB cs) cs.size).length ^ k ≤ 36 ^ k := Nat.pow_le_pow_left (by omega) k
  have h4 : 36 ^ k ≤ 36 ^ 4 := Nat.pow_le_pow_right (by omega) (by omega)
  omega

set_option maxRecDepth 100000 in
set_option maxHeartbeats 2000000 in
theorem number_any (ro co bu : Int) (cs : ByteArray) (ac : Option Addr) (mm cc gf cf gr cr cnt m : Nat) (b off cq : Nat) (q : List Nat) (w : World) (hs : cs.size ≤ 36) (hm : m ≤ 4) (hq : Good cs m q) (ht : TabIn w cs gf gr) (hx : ∀ k, k < m → w.cell? ⟨b, off + k, none⟩ = some (.int .i64 (q.getD k 0 : Nat))) :
    Calls Tryd.prog 89 #[tabV ro co bu cs ac mm cc gf cf gr cr cnt, .slice (some ⟨b, off, none⟩) m cq] w fun e w' => e = .returned (.int .i64 (numOf (frB cs) cs.size q : Nat)) ∧ Below w.heap.size w w' := by
  have HT := Hid.mk ht
  have HX := Hid.mk hx
  have HQ := Hid.mk hq
  obtain ⟨F, hF⟩ : ∃ F, F = (frees (frB cs) cs.size).length := ⟨_, rfl⟩
  have hFN : F ≤ cs.size := by rw [hF]; exact frees_le cs
  unfold tabV
  rw [← hF]
  have HF := Hid.mk hF
  clear ht hx hq hF
  go_enter Tryd.func89, Tryd.ntmps89
  go_wp2
  have B0 : Hid (Below w.heap.size w (w.alloc (Obj.cells #[Value.int IntKind.i64 ro, Value.int IntKind.i64 co, Value.string cs, .slice ac mm cc, Value.int IntKind.i64 bu, .slice (some ⟨gf, 0, none⟩) F cf, .slice (some ⟨gr, 0, none⟩) cs.size cr, Value.int IntKind.i64 (cnt : Nat)] 122))) := (Below.refl _ w).alloc (Nat.le_refl _) _
  have t5 : (w.alloc (Obj.cells #[Value.int IntKind.i64 ro, Value.int IntKind.i64 co, Value.string cs, .slice ac mm cc, Value.int IntKind.i64 bu, .slice (some ⟨gf, 0, none⟩) F cf, .slice (some ⟨gr, 0, none⟩) cs.size cr, Value.int IntKind.i64 (cnt : Nat)] 122)).cell? ⟨w.heap.size, 5, none⟩ = some (.slice (some ⟨gf, 0, none⟩) F cf) := by go_simp
  have t6 : (w.alloc (Obj.cells #[Value.int IntKind.i64 ro, Value.int IntKind.i64 co, Value.string cs, .slice ac mm cc, Value.int IntKind.i64 bu, .slice (some ⟨gf, 0, none⟩) F cf, .slice (some ⟨gr, 0, none⟩) cs.size cr, Value.int IntKind.i64 (cnt : Nat)] 122)).cell? ⟨w.heap.size, 6, none⟩ = some (.slice (some ⟨gr, 0, none⟩) cs.size cr) := by go_simp
  have hz : (w.alloc (Obj.cells #[Value.int IntKind.i64 ro, Value.int IntKind.i64 co, Value.string cs, .slice ac mm cc, Value.int IntKind.i64 bu, .slice (some ⟨gf, 0, none⟩) F cf, .slice (some ⟨gr, 0, none⟩) cs.size cr, Value.int IntKind.i64 (cnt : Nat)] 122)).heap.size = w.heap.size + 1 := by simp
  generalize (w.alloc (Obj.cells #[Value.int IntKind.i64 ro, Value.int IntKind.i64 co, Value.string cs, .slice ac mm cc, Value.int IntKind.i64 bu, .slice (some ⟨gf, 0, none⟩) F cf, .slice (some ⟨gr, 0, none⟩) cs.size cr, Value.int IntKind.i64 (cnt : Nat)] 122)) = w0 at *
  have T5 := Hid.mk t5
  have T6 := Hid.mk t6
  clear t5 t6
  go_loopw [5, 6] (fun v5 v6 wr => ∃ k : Nat, k ≤ m ∧ v6 = .int .i64 k ∧ v5 = .int .i64 (numTo cs q k : Nat) ∧ Below w0.heap.size w0 wr) (fun _ v6 _ => m - (intOf v6).toNat)
  case atStart => exact ⟨0, Nat.zero_le _, rfl, by rw [numTo_zero]; rfl, Below.refl _ _⟩
  case round =>
    obtain ⟨w1, rfl⟩ : ∃ q, q = wr := ⟨_, rfl⟩
    obtain ⟨k, hk, rfl, rfl, hbr⟩ := hrel
    have HBR := Hid.mk hbr
    by_cases hlt : k < m
    · have d5 := cell_later hbr T5.out
      have d6 := cell_later hbr T6.out
      obtain ⟨c, hc⟩ : ∃ c, c = q.getD k 0 := ⟨_, rfl⟩
      have hgk := HQ.out.2 k hlt
      rw [← hc] at hgk
      have hcN := hgk.1
      have d0 := cell_later hbr (cell_later B0.out (HX.out k hlt))
      rw [← hc] at d0
      have d1 := cell_later hbr (cell_later B0.out (HT.out.2 c hcN))
      rw [if_pos (show frB cs c = true from hgk.2)] at d1
      obtain ⟨R, hR⟩ : ∃ R, R = rankOf (frB cs) c := ⟨_, rfl⟩
      rw [← hR] at d1
      obtain ⟨n0, hn0⟩ : ∃ n0, n0 = numTo cs q k := ⟨_, rfl⟩
      have hnext : Hid (numTo cs q (k + 1) = n0 * F + R) := by
        unfold Hid
        rw [numTo_next (by rw [HQ.out.1]; exact hlt), ← HF.out, ← hn0, ← hc, ← hR]
      have hb1 := numTo_lt HQ.out hm hs (k + 1) (by omega)
      have hb0 := numTo_lt HQ.out hm hs k (by omega)
      rw [hnext.out] at hb1
      rw [← hn0] at hb0 ⊢
      obtain ⟨nF, hnF⟩ : ∃ nF, nF = n0 * F := ⟨_, rfl⟩
      rw [← hnF] at hb1
      have hmul : ((n0 : Nat) : Int) * ((F : Nat) : Int) = ((nF : Nat) : Int) := by rw [hnF]; exact (Int.natCast_mul n0 F).symm
      have hw1 : IntKind.i64.wrap ((n0 : Int) * (F : Int)) = ((nF : Nat) : Int) := by rw [hmul]; simp [IntKind.wrap, IntKind.signed, IntKind.bits]; omega
      have hw2 : IntKind.i64.wrap ((nF : Int) + (R : Int)) = ((nF + R : Nat) : Int) := by simp [IntKind.wrap, IntKind.signed, IntKind.bits]; omega
      have hcNI : (c : Int) < (cs.size : Int) := by omega
      have HN := Hid.mk hnF
      clear hc hR hn0 hbr hgk hnF
      go_upto_region 5 with fail
      go_quiet (fail)
      go_wp2
      go_roundw
      case rel => exact ⟨k + 1, by omega, by go_num, by rw [hnext.out, ← HN.out]; go_num, below_drewN HBR.out _⟩
      case measure => simp [intOf]; omega
    · have e : k = m := by omega
      have hfin : Hid (numTo cs q k = numOf (frB cs) cs.size q) := by
        unfold Hid numTo
        rw [List.take_of_length_le (by rw [HQ.out.1]; omega)]
      go_wp2
      go_ret
      exact ⟨by rw [← hfin.out]; rfl, B0.out.trans (HBR.out.mono (by omega))⟩

end Go.Proofs.YtnkgpinadgacgaaDoor
