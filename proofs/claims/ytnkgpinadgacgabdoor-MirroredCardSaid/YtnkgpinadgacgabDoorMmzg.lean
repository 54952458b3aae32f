/- Several texts in one: Hk, Kc, Kd. -/
import Derived.Test.YtnkgpinadgacgabDoorMmz
import Derived.Test.YtnkgpinadgacgabDoorMmza
import Derived.Test.YtnkgpinadgacgabDoorMmzf
namespace Go.Proofs.YtnkgpinadgacgabDoor
open M SM BM
section
variable {ro co bu : Int} {cs : ByteArray} {m : Nat} {fr tt : Nat → Int} {L : List (List Nat)} {F0 : Nat}
theorem stY_is (hs : PosG cs m (cellsOf fr m)) : ∀ t, t < m → IsFar cs.size (adjM co cs) ((cellsOf fr m).getD t 0) (stY co cs fr t) := fun t ht => by
  have h := (hs.1.2 t ht).1
  rw [cellsOf_at ht] at h ⊢
  exact stF_is (orow_isFar h)

theorem sol_gnd (hck : (checkM ro co cs m fr tt bu).1 = 0) (hW : Work (stepP ro co cs m) (cellsOf fr m) L L.length) (hg : cellsOf tt m ∈ L) (hL : L.length ≤ 20000) :
    Gnd (fun p => growL (mvN ro co cs) p m) (restF (stY co cs fr) m) m (cellsOf fr m) (cellsOf tt m) L ∧ (∀ p, p ∈ L → PosG cs m p ∧ PosOK m cs.size (stY co cs fr) p) ∧
      ∃ j b K, BM.Way (E (fun p => growL (mvN ro co cs) p m) m L) j (s0 m (cellsOf tt m)) b K ∧ b.1 = cellsOf fr m := by
  obtain ⟨s1, s2, s3⟩ := checkM_good hck
  obtain ⟨r1, r2⟩ := side_bd s1
  obtain ⟨r3, r4⟩ := side_bd s2
  obtain ⟨hm4, hfree⟩ := carts_free hck
  obtain ⟨_, hs36⟩ := mul_bd r1 r2 r3 r4
  obtain ⟨hp1, hp2⟩ := cells_pos hck
  obtain ⟨h1, h2⟩ := gnd_yard r3 r4 s3 (by omega) hm4 hp1 (stY_is (co := co) hp1) hW hg hL
  exact ⟨h1, h2, way_yard r3 r4 s3 hp1 hW hg h1⟩

/-- What the search tells is a way, and there is none of less. -/
theorem sol_least (hF : 200400000 ≤ F0) (hck : (checkM ro co cs m fr tt bu).1 = 0) (hW : Work (stepP ro co cs m) (cellsOf fr m) L L.length) (hg : cellsOf tt m ∈ L) (hL : L.length ≤ 20000) {b : St} {s' : SM.Srch} (hsol : solY F0 ro co cs m fr tt = some (b, s')) :
    b.1 = cellsOf fr m ∧ (∃ j, BM.Way (E (fun p => growL (mvN ro co cs) p m) m L) j (s0 m (cellsOf tt m)) b (costO (s'.seen b))) ∧
      (∀ j b' K, BM.Way (E (fun p => growL (mvN ro co cs) p m) m L) j (s0 m (cellsOf tt m)) b' K → b'.1 = cellsOf fr m → costO (s'.seen b) ≤ K) := by
  obtain ⟨G, _, hway⟩ := sol_gnd hck hW hg hL
  obtain ⟨R, hn⟩ := run_begin G
  obtain ⟨x, s2, X2, hcome, hx, ⟨s3, hseen, hR3⟩, g, hgx, hleast⟩ := come_ok G hway F0 _ [] R (by unfold left; rw [hn]; simp only [List.length_nil]; omega)
  have e : some (x, s2) = some (b, s') := hcome.symm.trans hsol
  injection e with e
  injection e with e1 e2
  subst e1 e2
  have hk : costO (s2.seen x) = g := by
    cases e : s2.seen x with
    | none => rw [e] at hgx; cases hgx
    | some v => rw [e] at hgx; simp at hgx; exact hgx
  refine ⟨hx, ?_, fun j b' K W hb => by rw [hk]; exact hleast j b' K W hb⟩
  rw [hk]
  exact hR3.best.way x g (by rw [hseen]; exact hgx)

end
end Go.Proofs.YtnkgpinadgacgabDoor

namespace Go.Proofs.YtnkgpinadgacgabDoor
open M SM BM
/-- The second yard's cells, with a wall at r. -/
def wallC (cs : ByteArray) (r : Nat) : ByteArray := (cs.extract 0 r ++ ⟨#[35]⟩) ++ cs.extract (r + 1) cs.size

theorem wallC_size {cs : ByteArray} {r : Nat} (hr : r < cs.size) : (wallC cs r).size = cs.size := by
  unfold wallC
  rw [ByteArray.size_append, ByteArray.size_append, ByteArray.size_extract, ByteArray.size_extract]
  show min r cs.size - 0 + 1 + (min cs.size cs.size - (r + 1)) = cs.size
  omega

theorem wallC_at {cs : ByteArray} {r j : Nat} (hr : r < cs.size) (hj : j < (wallC cs r).size) : (wallC cs r)[j] = if h : j = r then 35 else cs[j]'(by rw [wallC_size hr] at hj; exact hj) := by
  have hs := wallC_size hr
  have e : (wallC cs r).data = (cs.data.extract 0 r ++ #[35]) ++ cs.data.extract (r + 1) cs.size := by
    unfold wallC
    rw [ByteArray.data_append, ByteArray.data_append, ByteArray.data_extract, ByteArray.data_extract]
  have hz : cs.data.size = cs.size := rfl
  have hl : (cs.data.extract 0 r).size = r := by rw [Array.size_extract]; omega
  have h1 : (wallC cs r)[j] = ((cs.data.extract 0 r ++ #[35]) ++ cs.data.extract (r + 1) cs.size)[j]'(by rw [← e]; exact hj) := by
    show (wallC cs r).data[j]'hj = _
    simp only [e]
  rw [h1]
  by_cases h : j = r
  · subst h
    rw [dif_pos rfl, Array.getElem_append_left (by rw [Array.size_append, hl]; simp), Array.getElem_append_right (by omega)]
    simp [hl]
  · rw [dif_neg h]
    by_cases h2 : j < r
    · rw [Array.getElem_append_left (by rw [Array.size_append, hl]; simp; omega), Array.getElem_append_left (by omega), Array.getElem_extract]
      show cs.data[0 + j]'_ = cs.data[j]'_
      simp
    · rw [Array.getElem_append_right (by rw [Array.size_append, hl]; simp; omega), Array.getElem_extract]
      show cs.data[_]'_ = cs.data[j]'_
      congr 1
      rw [Array.size_append, hl]
      show r + 1 + (j - (r + 1)) = j
      omega

/-- What is free with the wall is free without it. -/
def SubC (cs2 cs : ByteArray) : Prop := cs2.size = cs.size ∧ ∀ z : Int, freeB cs2 z = true → freeB cs z = true

theorem wall_sub {cs : ByteArray} {r : Nat} (hr : r < cs.size) : SubC (wallC cs r) cs ∧ (∀ z : Int, freeB cs z = true → z ≠ r → freeB (wallC cs r) z = true) := by
  have hs := wallC_size hr
  refine ⟨⟨hs, fun z hz => ?_⟩, fun z hz hne => ?_⟩
  · obtain ⟨n, e, hn⟩ := free_nat hz
    subst e
    rw [freeB_in (by omega) (by omega)] at hz ⊢
    simp only [Int.toNat_natCast] at hz ⊢
    rw [wallC_at hr] at hz
    by_cases h : n = r
    · rw [dif_pos h] at hz; cases hz
    · rw [dif_neg h] at hz; exact hz
  · obtain ⟨n, e, hn⟩ := free_nat hz
    subst e
    rw [freeB_in (by omega) (by omega)] at hz ⊢
    simp only [Int.toNat_natCast] at hz ⊢
    rw [wallC_at hr, dif_neg (by omega)]
    exact hz

theorem wall_bad {cs : ByteArray} {r : Nat} (hr : r < cs.size) (h : ∀ j, j < cs.size → badB cs j = false) : ∀ j, j < (wallC cs r).size → badB (wallC cs r) j = false := fun j hj => by
  have hs := wallC_size hr
  have hb := h j (by omega)
  rw [badB_in hj, wallC_at hr]
  rw [badB_in (by omega)] at hb
  by_cases e : j = r
  · rw [dif_pos e]; rfl
  · rw [dif_neg e]; exact hb

/-- The yard with the wall is a good one. -/
theorem check_wall {ro co U : Int} {cs : ByteArray} {m r : Nat} {fr tt : Nat → Int} (hr : r < cs.size) (h : (checkM ro co cs m fr tt U).1 = 0) (hc : ∀ i, i < m → fr i ≠ r ∧ tt i ≠ r) : (checkM ro co (wallC cs r) m fr tt U).1 = 0 := by
  have hs := wallC_size hr
  obtain ⟨_, hfree⟩ := carts_free h
  obtain ⟨_, hsub⟩ := wall_sub hr
  unfold checkM at h ⊢
  by_cases h1 : (sideB ro && sideB co) = false
  · rw [if_pos h1] at h; simp at h
  · rw [if_neg h1] at h ⊢
    by_cases h2 : 0 ≤ cellsM ro co cs
    · rw [if_pos h2] at h; simp at h
    · have h2' : ¬ 0 ≤ cellsM ro co (wallC cs r) := by
        unfold cellsM at h2 ⊢
        rw [hs]
        by_cases e : (cs.size : Int) ≠ ro * co
        · rw [if_pos e] at h2; exact absurd (Int.natCast_nonneg _) h2
        · rw [if_neg e] at h2 ⊢
          by_cases e2 : firstOf (badB cs) cs.size < cs.size
          · rw [if_pos e2] at h2; exact absurd (Int.natCast_nonneg _) h2
          · have e3 : ¬ firstOf (badB (wallC cs r)) cs.size < cs.size := fun hh => by
              have h7 := M.firstOf_is (p := badB (wallC cs r)) cs.size hh
              rw [wall_bad hr (fun j hj => M.firstOf_none e2 j hj) _ (by rw [hs]; exact hh)] at h7
              cases h7
            rw [if_neg e3]; decide
      rw [if_neg h2] at h
      rw [if_neg h2']
      by_cases h3 : m < 1 ∨ 4 < m
      · rw [if_pos h3] at h; simp at h
      · rw [if_neg h3] at h ⊢
        have ec : ∀ i, i < m → cartM (wallC cs r) fr tt i = cartM cs fr tt i := fun i hi => by
          unfold cartM
          obtain ⟨f1, f2⟩ := hfree i hi
          rw [f1, f2, hsub _ f1 (hc i hi).1, hsub _ f2 (hc i hi).2]
        by_cases h4 : firstOf (fun i => !(cartM cs fr tt i == 0)) m < m
        · rw [if_pos h4] at h
          have := M.firstOf_is (p := fun i => !(cartM cs fr tt i == 0)) m h4
          simp only [] at h this
          rw [h] at this; cases this
        · have h4' : ¬ firstOf (fun i => !(cartM (wallC cs r) fr tt i == 0)) m < m := fun hh => by
            have h7 := M.firstOf_is (p := fun i => !(cartM (wallC cs r) fr tt i == 0)) m hh
            rw [ec _ hh] at h7
            have h8 := M.firstOf_none h4 _ hh
            rw [h8] at h7
            cases h7
          rw [if_neg h4] at h
          rw [if_neg h4']
          exact h

section
variable {ro co : Int} {cs cs2 : ByteArray} {m : Nat}
theorem sub_pos (hS : SubC cs2 cs) {q : List Nat} (h : PosG cs2 m q) : PosG cs m q :=
  ⟨⟨h.1.1, fun k hk => ⟨by rw [← hS.1]; exact (h.1.2 k hk).1, hS.2 _ (h.1.2 k hk).2⟩⟩, h.2⟩

/-- Each step with the wall is one without it. -/
theorem sub_step (h1 : 1 ≤ co) (h2 : co ≤ 6) (hsz : (cs.size : Int) = ro * co) (hS : SubC cs2 cs) {p q : List Nat} (hp : PosG cs2 m p) (h : q ∈ growL (mvN ro co cs2) p m) : q ∈ growL (mvN ro co cs) p m := by
  have h3 := (step_same h1 h2 (by rw [hS.1]; exact hsz) hp.1).1 h
  refine (step_same h1 h2 hsz (sub_pos hS hp).1).2 ?_
  obtain ⟨g1, g2⟩ := growL_mem.1 h3
  refine growL_mem.2 ⟨g1, fun k hk => ⟨?_, (g2 k hk).2⟩⟩
  obtain ⟨g3, g4⟩ := mayN_mem.1 (g2 k hk).1
  refine mayN_mem.2 ⟨by rw [← hS.1]; exact g3, ?_⟩
  unfold mayM at g4 ⊢
  simp only [Bool.and_eq_true, decide_eq_true_eq] at g4 ⊢
  exact ⟨hS.2 _ g4.1, g4.2.1, by rw [← hS.1]; exact g4.2.2.1, g4.2.2.2⟩

theorem sub_reach (h1 : 1 ≤ co) (h2 : co ≤ 6) (hsz : (cs.size : Int) = ro * co) (hS : SubC cs2 cs) {s : List Nat} (hs : PosG cs2 m s) : ∀ {n : Nat} {q : List Nat}, reachN (stepP ro co cs2 m) s n q → reachN (stepP ro co cs m) s n q
  | 0, _, h => h
  | _ + 1, _, ⟨p, hp, h⟩ => ⟨p, sub_reach h1 h2 hsz hS hs hp, sub_step h1 h2 hsz hS (come_pos hs hp) h⟩

theorem sub_in (h1 : 1 ≤ co) (h2 : co ≤ 6) (hsz : (cs.size : Int) = ro * co) (hS : SubC cs2 cs) {s : List Nat} (hs : PosG cs2 m s) {L L2 : List (List Nat)} {i : Nat} (hW : Work (stepP ro co cs m) s L L.length) (hW2 : Work (stepP ro co cs2 m) s L2 i) : ∀ q, q ∈ L2 → q ∈ L := fun q hq => by
  obtain ⟨n, hn⟩ := hW2.come q hq
  exact hW.all rfl q ⟨n, sub_reach h1 h2 hsz hS hs hn⟩

theorem sub_way (h1 : 1 ≤ co) (h2 : co ≤ 6) (hsz : (cs.size : Int) = ro * co) (hS : SubC cs2 cs) {s t : List Nat} (hs : PosG cs2 m s) {L L2 : List (List Nat)} (hW : Work (stepP ro co cs m) s L L.length) (hW2 : Work (stepP ro co cs2 m) s L2 L2.length) :
    ∀ {j : Nat} {b : St} {K : Nat}, BM.Way (E (fun p => growL (mvN ro co cs2) p m) m L2) j (s0 m t) b K → BM.Way (E (fun p => growL (mvN ro co cs) p m) m L) j (s0 m t) b K
  | 0, b, K, W => W
  | j + 1, b, K, ⟨c, k1, d, W1, ⟨⟨g1, g2⟩, g3, g4, g5, g6⟩, e⟩ => by
    refine ⟨c, k1, d, sub_way h1 h2 hsz hS hs hW hW2 W1, ⟨⟨sub_in h1 h2 hsz hS hs hW hW2 _ g1, g2⟩, ?_, g4, g5, g6⟩, e⟩
    obtain ⟨n, hn⟩ := hW2.come _ g1
    exact sub_step h1 h2 hsz hS (come_pos hs hn) g3

end
end Go.Proofs.YtnkgpinadgacgabDoor

namespace Go.Proofs.YtnkgpinadgacgabDoor
open Go.RowKit M SM
section
variable {ro co bu : Int} {cs : ByteArray} {m : Nat} {fr tt : Nat → Int}
theorem pos_told (g cc : Nat) (w : World) (hck : (checkM ro co cs m fr tt bu).1 = 0) (hmc : m ≤ cc) (hm4 : m ≤ 4) (hs : cs.size ≤ 36) (hsd : SidesIn w) (hcs : CartsIn w g 0 m fr tt) :
    Calls Tryd.prog 14 #[.agg #[.int .i64 ro, .int .i64 co, .string cs, .slice (some ⟨g, 0, none⟩) m cc, .int .i64 bu]] w fun e w' =>
      ∃ (n : Nat) (d : Bool), M.Told (stepP ro co cs m) (cellsOf fr m) (cellsOf tt m) bu n d ∧ ((bu < n ∧ e = .returned (.tuple #[.int .i64 0, .bool false, .int .i64 10])) ∨ (¬ bu < n ∧ e = .returned (.tuple #[.int .i64 n, .bool d, .int .i64 0]))) ∧ Below w.heap.size w w' := by
  refine (positions_any ro co bu cs (some ⟨g, 0, none⟩) m cc fr tt w (by unfold maxLen; omega) (by unfold maxLen; omega) hmc hsd (fun _ => ⟨g, 0, rfl, hcs⟩)).mono ?_
  rintro e w' ⟨x, y, z, rfl, hp, hb⟩
  rcases hp with ⟨hc, _⟩ | ⟨_, n, d, ht, hp⟩
  · exact absurd hck hc
  · refine ⟨n, d, ht, ?_, hb⟩
    rcases hp with ⟨q, rfl, rfl, rfl⟩ | ⟨q, rfl, rfl, rfl⟩
    · exact .inl ⟨q, rfl⟩
    · exact .inr ⟨q, rfl⟩

theorem sol_told (F0 : Nat) (hF0 : 200400000 ≤ F0) (g cc : Nat) (w : World) (hck : (checkM ro co cs m fr tt bu).1 = 0) (hmc : m ≤ cc) (hm4 : m ≤ 4) (hs : cs.size ≤ 36) (hsd : SidesIn w) (hcs : CartsIn w g 0 m fr tt) :
    Calls Tryd.prog 15 #[.agg #[.int .i64 ro, .int .i64 co, .string cs, .slice (some ⟨g, 0, none⟩) m cc, .int .i64 bu]] w fun e w' =>
      ∃ (n : Nat) (d : Bool), M.Told (stepP ro co cs m) (cellsOf fr m) (cellsOf tt m) bu n d ∧ ((bu < n ∧ e = .returned (.tuple #[.slice none 0 0, .int .i64 0, .int .i64 10])) ∨ (¬ bu < n ∧ d = false ∧ e = .returned (.tuple #[.slice none 0 0, .int .i64 0, .int .i64 9])) ∨
        (¬ bu < n ∧ d = true ∧ ∃ b l, e = .returned (.tuple #[.slice (some ⟨b, 0, none⟩) l l, .int .i64 (costY F0 ro co cs m fr tt : Nat), .int .i64 0]))) ∧ Below w.heap.size w w' := by
  refine (solve_any F0 hF0 ro co bu cs (some ⟨g, 0, none⟩) m cc fr tt w (by unfold maxLen; omega) (by unfold maxLen; omega) hmc hsd (fun _ => ⟨g, 0, rfl, hcs⟩)).mono ?_
  rintro e w' ⟨x, y, z, rfl, hp, hb⟩
  rcases hp with ⟨hc, _⟩ | ⟨_, n, d, ht, hp⟩
  · exact absurd hck hc
  · refine ⟨n, d, ht, ?_, hb⟩
    rcases hp with ⟨q, rfl, rfl, rfl⟩ | ⟨q, rfl, rfl, rfl, rfl⟩ | ⟨q, rfl, rfl, L, k, b, s', _, _, _, hsol, hk, rfl, hpl⟩
    · exact .inl ⟨q, rfl⟩
    · exact .inr (.inl ⟨q, rfl, rfl⟩)
    · obtain ⟨gp, A, rfl, _⟩ := hpl
      have e : k = costY F0 ro co cs m fr tt := by
        rw [hk]
        unfold costY
        rw [hsol]
      exact .inr (.inr ⟨q, rfl, gp, _, by rw [e]⟩)

theorem many_told (g cc : Nat) (w : World) (hck : (checkM ro co cs m fr tt bu).1 = 0) (hs : cs.size ≤ 36) (hm4 : m ≤ 4) :
    Calls Tryd.prog 16 #[.agg #[.int .i64 ro, .int .i64 co, .string cs, .slice (some ⟨g, 0, none⟩) m cc, .int .i64 bu]] w fun e w' => ∃ mb : Bool, e = .returned (.bool mb) ∧ ((∃ n d, M.Told (stepP ro co cs m) (cellsOf fr m) (cellsOf tt m) bu n d ∧ bu < n) → mb = true) ∧ Below w.heap.size w w' := by
  obtain ⟨hpf, _⟩ := cells_pos hck
  have hfm : m ≤ (freeTo cs cs.size).length := by
    have := few_pos (m := m) (L := [cellsOf fr m]) (cs := cs) (by simp) (fun q hq => by simp at hq; rw [hq]; exact hpf)
    refine Nat.le_of_not_lt fun hlt => ?_
    have hz : ∀ k, (freeTo cs cs.size).length < k → k ≤ 4 → fallF (freeTo cs cs.size).length k = 0 := by
      intro k hk
      induction k with
      | zero => omega
      | succ k ih =>
        intro h4
        simp only [fallF]
        by_cases e : (freeTo cs cs.size).length = k
        · rw [e, Nat.sub_self, Nat.mul_zero]
        · rw [ih (by omega) (by omega), Nat.zero_mul]
    rw [hz m hlt hm4] at this
    simp at this
  refine (many_any ro co bu cs g m cc w hs hm4 hfm).mono ?_
  rintro e w' ⟨rfl, hb⟩
  refine ⟨_, rfl, fun ⟨n, d, ht, hlt⟩ => ?_, hb⟩
  obtain ⟨L, i, hW, hnL⟩ := told_work ht
  have h3 := few_pos (cs := cs) (m := m) hW.nodup fun q hq => by
    obtain ⟨j, hj⟩ := hW.come q hq
    exact come_pos hpf hj
  refine decide_eq_true ?_
  omega

theorem sol_some (F0 : Nat) (hF : 200400000 ≤ F0) {L : List (List Nat)} (hck : (checkM ro co cs m fr tt bu).1 = 0) (hW : Work (stepP ro co cs m) (cellsOf fr m) L L.length) (hg : cellsOf tt m ∈ L) (hL : L.length ≤ 20000) : ∃ b s', solY F0 ro co cs m fr tt = some (b, s') := by
  obtain ⟨G, _, hway⟩ := sol_gnd hck hW hg hL
  obtain ⟨R, hn⟩ := run_begin G
  obtain ⟨x, s2, X2, hcome, _⟩ := come_ok G hway F0 _ [] R (by unfold left; rw [hn]; simp only [List.length_nil]; omega)
  exact ⟨x, s2, hcome⟩

/-- What a wall more changes of what is told. -/
theorem wall_told (F0 : Nat) (hF : 200400000 ≤ F0) {cs2 : ByteArray} (hS : SubC cs2 cs) (hck : (checkM ro co cs m fr tt bu).1 = 0) (hck2 : (checkM ro co cs2 m fr tt bu).1 = 0) {n n2 : Nat} {d d2 : Bool}
    (h : M.Told (stepP ro co cs m) (cellsOf fr m) (cellsOf tt m) bu n d) (hn : ¬ bu < n) (h2 : M.Told (stepP ro co cs2 m) (cellsOf fr m) (cellsOf tt m) bu n2 d2) :
    n2 ≤ n ∧ 1 ≤ n2 ∧ (d2 = true → d = true ∧ costY F0 ro co cs m fr tt ≤ costY F0 ro co cs2 m fr tt) := by
  obtain ⟨s1, s2, s3⟩ := checkM_good hck
  obtain ⟨r3, r4⟩ := side_bd s2
  obtain ⟨_, hb20, _⟩ := check_bu hck
  obtain ⟨hp2, _⟩ := cells_pos hck2
  rcases h with ⟨L, hW, hnL, hd⟩ | ⟨L, i, _, _, q⟩
  · have key : ∀ {L2 : List (List Nat)} {i : Nat}, Work (stepP ro co cs2 m) (cellsOf fr m) L2 i → L2.length ≤ L.length ∧ 1 ≤ L2.length := fun {L2 i} hW2 =>
      ⟨nodup_len hW2.nodup (sub_in r3 r4 s3 hS hp2 hW hW2), List.length_pos_of_mem hW2.start⟩
    rcases h2 with ⟨L2, hW2, hnL2, hd2⟩ | ⟨L2, i, hW2, hnL2, q2⟩
    · obtain ⟨k1, k2⟩ := key hW2
      refine ⟨by omega, by omega, fun e => ?_⟩
      have hg2 : cellsOf tt m ∈ L2 := of_decide_eq_true (by rw [← hd2]; exact e)
      have hg := sub_in r3 r4 s3 hS hp2 hW hW2 _ hg2
      obtain ⟨b, s', hsol⟩ := sol_some F0 hF hck hW hg (by omega)
      obtain ⟨b2, s2', hsol2⟩ := sol_some F0 hF hck2 hW2 hg2 (by omega)
      obtain ⟨_, _, hleast⟩ := sol_least hF hck hW hg (by omega) hsol
      obtain ⟨hb2, ⟨j2, hway2⟩, _⟩ := sol_least hF hck2 hW2 hg2 (by omega) hsol2
      refine ⟨by rw [hd]; exact decide_eq_true hg, ?_⟩
      unfold costY
      rw [hsol, hsol2]
      exact hleast j2 b2 _ (sub_way r3 r4 s3 hS hp2 hW hW2 hway2) hb2
    · obtain ⟨k1, k2⟩ := key hW2
      omega
  · exact absurd q hn

end
end Go.Proofs.YtnkgpinadgacgabDoor
