/- Hn. -/
import Derived.Test.YtnkgpinadgacgaaGreatDoorQzf
import Derived.Test.YtnkgpinadgacgaaGreatDoorQzg
import Derived.Test.YtnkgpinadgacgaaGreatDoorQzl
set_option maxRecDepth 1000000
set_option maxHeartbeats 16000000
namespace Go.Proofs.YtnkgpinadgacgaaGreatDoor
section
open Go.RowKit M SM SV
theorem rs_way {co : Int} {cs : ByteArray} {m : Nat} {s t : List Nat} (h : Come (stepR co cs m) s t) : ∃ n z K, BM.Way (RS (fun p => growL (mayN co cs) p m) m t) n (s, List.replicate m false) z K ∧ z.2 = List.replicate m true := by
 obtain ⟨n, hn⟩ := h; have rf : ∀ i, (List.replicate m false).getD i false = false := fun i => by
  rw [zg, List.getElem?_replicate]; split <;> rfl
 have key : ∀ (n : Nat) (q : List Nat), reachN (stepR co cs m) s n q -> ∃ K, BM.Way (RS (fun p => growL (mayN co cs) p m) m t) n (s, List.replicate m false) (q, List.replicate m false) K := by
  intro n; induction n with
  | zero =>
    intro q hq; rw [show q = s from hq]; exact ⟨0, rfl, rfl⟩
  | succ n ih =>
    rintro q ⟨p, hp, hst⟩; obtain ⟨K, W⟩ := ih p hp; refine ⟨_, (p, List.replicate m false), K, _, W, .inl ⟨rfl, hst, ?_, rfl⟩, rfl⟩; intro i _ hh; have hh : (List.replicate m false).getD i false = true := hh; rw [rf i] at hh; cases hh
 obtain ⟨K, W⟩ := key n t hn; obtain ⟨n2, W2⟩ := stay_way (rnx := fun p => growL (mayN co cs) p m) (tt := t) (m := m) (p := t) (u := List.replicate m false) (v := List.replicate m true) (by simp) (by simp) (fun i _ hh => by rw [rf i] at hh; cases hh) (fun _ _ _ _ => rfl); exact ⟨_, _, _, way_trans W W2, rfl⟩
def bestR (ro co bu : Int) (cs : ByteArray) (m : Nat) (fr tt : Nat -> Int) (k : Nat) (e : Int) : Prop :=
 ((checkM ro co cs m fr tt bu).1 ≠ 0 ∧ k = 0 ∧ e = (checkM ro co cs m fr tt bu).1) ∨
 ((checkM ro co cs m fr tt bu).1 = 0 ∧ ∃ (n : Nat) (d : Bool), M.Told (stepR co cs m) (cellsOf fr m) (cellsOf tt m) bu n d ∧
   ((bu < n ∧ k = 0 ∧ e = 10) ∨ (¬ bu < n ∧ d = false ∧ k = 0 ∧ e = 9) ∨
     (¬ bu < n ∧ d = true ∧ e = 0 ∧ (∃ j z, BM.Way (RS (fun p => growL (mayN co cs) p m) m (cellsOf tt m)) j (cellsOf fr m, List.replicate m false) z k ∧ z.2 = List.replicate m true) ∧
      ∀ j z K, BM.Way (RS (fun p => growL (mayN co cs) p m) m (cellsOf tt m)) j (cellsOf fr m, List.replicate m false) z K -> z.2 = List.replicate m true -> k <= K)))
theorem own_fz {w : World} {base g n cap : Nat} {e : TypeId} {xs : List Value} (h : w.ownsRow base e 1 (.slice (some ⟨g, 0, none⟩) n cap) n xs) (o : Nat) : w.frozen? ⟨g, o, none⟩ = false := by
 rcases h.2 with ⟨h0, _⟩ | ⟨g', cap', cur, hv, _, hh, _⟩
 . cases h0
 . cases hv; simp [World.frozen?, hh]
theorem mayN_len {ro co : Int} {cs : ByteArray} {c : Nat} (h1 : 1 <= co) (h2 : co <= 6) (hsz : (cs.size : Int) = ro * co) (hc : c < cs.size) (hf : freeB cs c = true) : (mayN co cs c).length <= 5 := by
 refine Nat.le_trans (List.Nodup.length_le_of_subset (l₂ := mvN ro co cs c) ?_ fun z hz => (mvN_mem h1 h2 hsz hc hf).2 hz) (mvN_le ro co cs c); unfold mayN; exact List.Nodup.sublist List.filter_sublist List.nodup_range
theorem fromL_le {ro co : Int} {cs : ByteArray} {m : Nat} {q : St} (h1 : 1 <= co) (h2 : co <= 6) (hsz : (cs.size : Int) = ro * co) (hq : GoodS cs m q) (hm : m <= 4) : (fromL co cs m q).length <= 640 := by
 unfold fromL; rw [List.length_map]; have key : ∀ i, i <= m -> (growX (mayX co cs (fun i => q.2.getD i false) q.1) q.1 i).length <= 5 ^ i := by
  intro i; induction i with
  | zero => intro _; simp [growX]
  | succ i ih =>
    intro hi; have h3 := ih (by omega); have h4 : (mayX co cs (fun i => q.2.getD i false) q.1 i).length <= 5 := by
     unfold mayX; refine Nat.le_trans (List.length_filter_le _ _) ?_; exact mayN_len h1 h2 hsz (hq.1.2 i (by omega)).1 (hq.1.2 i (by omega)).2
    simp only [growX, List.length_flatMap]; have : ∀ L : List (List Nat), ((L.map fun r => (((mayX co cs (fun i => q.2.getD i false) q.1 i).filter fun c => fitB q.1 (r ++ [c]) i).map fun c => r ++ [c]).length).sum) <= L.length * 5 := by
     intro L; induction L with
     | nil => simp
     | cons r L ihL =>
       simp only [List.map_cons, List.sum_cons, List.length_cons, List.length_map] at ihL ⊢; have h5 := List.length_filter_le (fun c => fitB q.1 (r ++ [c]) i) (mayX co cs (fun i => q.2.getD i false) q.1 i); rw [Nat.add_mul, Nat.one_mul]; omega
    refine Nat.le_trans (this _) ?_; rw [Nat.pow_succ]; exact Nat.mul_le_mul h3 zl
 have h6 : 5 ^ m <= 5 ^ 4 := Nat.pow_le_pow_right (by omega) hm; have := key m zl; omega
theorem run_shl4 {i : Nat} (hi : i <= 4) : wrap64 (2 ^ i) = ((2 ^ i : Nat) : Int) := by
 have h1 : i = 0 ∨ i = 1 ∨ i = 2 ∨ i = 3 ∨ i = 4 := by omega
 rcases h1 with rfl | rfl | rfl | rfl | rfl <;> simp [wrap64]
theorem rbest_any (ro co bu : Int) (cs : ByteArray) (a : Option Addr) (m cc : Nat) (fr tt : Nat -> Int) (w : World) (hs : cs.size <= maxLen) (hn : m <= maxLen)
 (ha : 0 < m -> ∃ b off, a = some ⟨b, off, none⟩ ∧ CartsIn w b off m fr tt) :
 Calls Tryz.prog 13 #[.agg #[.int .i64 ro, .int .i64 co, .string cs, .slice a m cc, .int .i64 bu]] w fun e w' => ∃ (k : Nat) (e2 : Int), e = .returned (.tuple #[.int .i64 k, .int .i64 e2]) ∧ bestR ro co bu cs m fr tt k e2 ∧ Below w.heap.size w w' := by
 have HA := zx ha; clear ha; go_enter Tryz.func13, Tryz.ntmps13; go_wp2_with fail; have B1 : Hid (Below w.heap.size w (w.alloc (.cells #[.int .i64 ro, .int .i64 co, .string cs, .slice a m cc, .int .i64 bu] 34))) := (Below.refl _ w).alloc zl _; have yc : ∀ o, (w.alloc (.cells #[.int .i64 ro, .int .i64 co, .string cs, .slice a m cc, .int .i64 bu] 34)).cell? ⟨w.heap.size, o, none⟩ = #[Value.int .i64 ro, .int .i64 co, .string cs, .slice a m cc, .int .i64 bu][o]? := by
  intro o; go_simp
 have hz1 : (w.alloc (.cells #[.int .i64 ro, .int .i64 co, .string cs, .slice a m cc, .int .i64 bu] 34)).heap.size = w.heap.size + 1 := by simp
 generalize w.alloc (.cells #[.int .i64 ro, .int .i64 co, .string cs, .slice a m cc, .int .i64 bu] 34) = w1 at *; refine (rpositions_any ro co bu cs a m cc fr tt _ hs hn (by exact opt_below HA.out B1.out)).mono ?_; rintro e w2 ⟨x, y, z, rfl, hpos, hb2⟩; have hz2 := hb2.size; have y0 := zj hb2 (yc 0); have y1 := zj hb2 (yc 1); have y2 := zj hb2 (yc 2); have y3 := zj hb2 (yc 3); have y4 := zj hb2 (yc 4); have B2 := zx (B1.out.trans (hb2.mono (by omega))); clear yc hb2; rcases hpos with ⟨hck, rfl, rfl, rfl⟩ | ⟨hck, n, d, htold, hpos⟩
 . obtain ⟨zc, hzc⟩ : ∃ zc, zc = (checkM ro co cs m fr tt bu).1 := ⟨_, rfl⟩
   have HZ := zx hzc; rw [<- hzc] at hck ⊢; clear hzc y0 y1 y2 y3 y4; go_wp2_with fail; go_ret2; exact ⟨0, zc, rfl, .inl ⟨by rw [<- HZ.out]; exact hck, rfl, HZ.out⟩, B2.out⟩
 have HT := zx htold; have HCK := zx hck; rcases hpos with ⟨hbn, rfl, rfl, rfl⟩ | ⟨hbn, rfl, rfl, rfl⟩
 . have HBN := zx hbn; clear htold hck hbn y0 y1 y2 y3 y4; go_wp2_with fail; go_ret2; exact ⟨0, 10, rfl, .inr ⟨HCK.out, n, d, HT.out, .inl ⟨HBN.out, rfl, rfl⟩⟩, B2.out⟩
 have HBN := zx hbn; clear htold hck hbn; cases d
 . clear y0 y1 y2 y3 y4; go_wp2_with fail; go_ret2; exact ⟨0, 9, rfl, .inr ⟨HCK.out, n, false, HT.out, .inr (.inl ⟨(by have := HBN.out; omega), rfl, rfl, rfl⟩)⟩, B2.out⟩
 obtain ⟨s1, s2, s3⟩ := checkM_good HCK.out; obtain ⟨r1, r2⟩ := side_bd s1; obtain ⟨r3, r4⟩ := side_bd s2; obtain ⟨hp1, hp2⟩ := mul_bd r1 r2 r3 r4; have hs6 : cs.size <= 36 := by omega
 obtain ⟨hm4, hfree⟩ := carts_free HCK.out; obtain ⟨hb1, hb2, hm1⟩ := check_bu HCK.out; obtain ⟨b, off, rfl, hcs⟩ := HA.out (by omega); have HCS := zx hcs; have HFR := zx hfree; have GS : Hid (Good cs m (cellsOf fr m)) := good_cellsOf fun k hk => (hfree k hk).1
 have GT : Hid (Good cs m (cellsOf tt m)) := good_cellsOf fun k hk => (hfree k hk).2
 have HTT : Hid (∀ k, k < m -> 0 <= tt k) := fun k hk => free_pos (hfree k hk).2
 have WAYS : Hid (∃ n z K, BM.Way (RS (fun p => growL (mayN co cs) p m) m (cellsOf tt m)) n (cellsOf fr m, List.replicate m false) z K ∧ z.2 = List.replicate m true) := by
  rcases HT.out with ⟨L, h1, h2, h3⟩ | ⟨L, i, h1, h2, h3⟩
  . exact rs_way (h1.come _ (of_decide_eq_true h3.symm))
  . exact absurd h3 (by have := HBN.out; omega)
 have HSZ := zx s3; clear hcs hfree s3 hp1 hp2 s1 s2; obtain ⟨F, hF⟩ : ∃ F, F = (frees (frB cs) cs.size).length := ⟨_, rfl⟩
 have hF36 : F <= 36 := by rw [hF]; have := frees_le cs; omega
 obtain ⟨T, hT⟩ : ∃ T, T = F ^ m := ⟨_, rfl⟩
 have hT36 : T <= 1679616 := by
  rw [hT]; exact Nat.le_trans (Nat.pow_le_pow_left hF36 _) (Nat.pow_le_pow_right (by omega) hm4)
 obtain ⟨al, hal⟩ : ∃ al, al + 1 = 2 ^ m := ⟨2 ^ m - 1, by have : 0 < 2 ^ m := Nat.pow_pos (by decide); omega⟩
 have hal16 : al + 1 <= 16 := by rw [hal]; exact Nat.pow_le_pow_right (n := 2) (by omega) hm4
 obtain ⟨NB, hNB⟩ : ∃ NB, NB = T * (al + 1) := ⟨_, rfl⟩
 have hNBb : NB <= 26873856 := by rw [hNB]; exact Nat.le_trans (Nat.mul_le_mul hT36 hal16) (by decide)
 have hshl : wrap64 (2 ^ m) = (al : Int) + 1 := by
  rw [run_shl4 hm4, <- hal]; rfl
 have ELT : Hid (∀ q : St, GoodS cs m q -> encS cs m q < NB) := fun q hq => by
  rw [hNB, hT, hF, hal]; exact enc_lt hq
 have TABC : Hid (∀ u : World, Calls Tryz.prog 32 #[.agg #[.int .i64 ro, .int .i64 co, .string cs, .slice (some ⟨b, off, none⟩) m cc, .int .i64 bu]] u fun e w' => ∃ gf cf gr cr : Nat, e = .returned (.agg #[Value.int .i64 ro, .int .i64 co, .string cs, .slice (some ⟨b, off, none⟩) m cc, .int .i64 bu, .slice (some ⟨gf, 0, none⟩) F cf, .slice (some ⟨gr, 0, none⟩) cs.size cr, .int .i64 (T : Nat)]) ∧ TabIn w' cs gf gr ∧ Below u.heap.size u w') := fun u => by
  have h := tabled_any ro co bu cs (some ⟨b, off, none⟩) m cc u hs6 hm4 (rank_pos hm1 GS.out); unfold tabV at h; rw [<- hF, <- hT] at h; exact h
 have ENDS : Hid (∀ (gf cf gr cr : Nat) (u : World), TabIn u cs gf gr -> CartsIn u b off m fr tt ->
  Calls Tryz.prog 33 #[.agg #[Value.int .i64 ro, .int .i64 co, .string cs, .slice (some ⟨b, off, none⟩) m cc, .int .i64 bu, .slice (some ⟨gf, 0, none⟩) F cf, .slice (some ⟨gr, 0, none⟩) cs.size cr, .int .i64 (T : Nat)]] u fun e w' => e = .returned (.tuple #[.int .i64 (numOf (frB cs) cs.size (cellsOf fr m) : Nat), .int .i64 (numOf (frB cs) cs.size (cellsOf tt m) : Nat)]) ∧ Below u.heap.size u w') := fun gf cf gr cr u h1 h2 => by
  have h := ends_any ro co bu cs b off m cc gf cf gr cr T fr tt u hs6 hm4 hm1 GS.out GT.out h1 h2 (fun k hk => ⟨free_pos (HFR.out k hk).1, free_pos (HFR.out k hk).2⟩); unfold tabV at h; rw [<- hF] at h; exact h
 have FROM : Hid (∀ (gf cf gr cr : Nat) (q : St) (u : World), GoodS cs m q -> TabIn u cs gf gr -> Calls Tryz.prog 34 #[.agg #[Value.int .i64 ro, .int .i64 co, .string cs, .slice (some ⟨b, off, none⟩) m cc, .int .i64 bu, .slice (some ⟨gf, 0, none⟩) F cf, .slice (some ⟨gr, 0, none⟩) cs.size cr, .int .i64 (T : Nat)], .int .i64 (encS cs m q : Nat), .int .i64 (al : Nat)] u fun e w' =>
  ∃ v, e = .returned (.tuple #[v, .int .i64 ((m - cntU q.2 : Nat) : Int)]) ∧ OwnN w' u.heap.size v (fromL co cs m q) ∧ (fromL co cs m q = [] -> v = .slice none 0 0) ∧ Below u.heap.size u w') := fun gf cf gr cr q u q1 q2 => by
  have h := rfrom_any ro co bu cs (some ⟨b, off, none⟩) m cc gf cf gr cr T al q u hs6 r3 r4 hm1 hm4 hal q1 q2; unfold tabV at h; rw [<- hF] at h; exact h
 have STAYS : Hid (∀ (gf cf gr cr : Nat) (q : St) (u : World), GoodS cs m q -> TabIn u cs gf gr -> CartsIn u b off m fr tt -> Calls Tryz.prog 35 #[.agg #[Value.int .i64 ro, .int .i64 co, .string cs, .slice (some ⟨b, off, none⟩) m cc, .int .i64 bu, .slice (some ⟨gf, 0, none⟩) F cf, .slice (some ⟨gr, 0, none⟩) cs.size cr, .int .i64 (T : Nat)], .int .i64 (encS cs m q : Nat), .int .i64 (al : Nat)] u fun e w' =>
  ∃ v, e = .returned v ∧ OwnN w' u.heap.size v (stayL cs m (cellsOf tt m) q m) ∧ (stayL cs m (cellsOf tt m) q m = [] -> v = .slice none 0 0) ∧ Below u.heap.size u w') := fun gf cf gr cr q u q1 q2 q3 => by
  have h := rstays_any ro co bu cs b off m cc gf cf gr cr T al fr tt q u hs6 hm1 hm4 hal q1 q2 q3 HTT.out; unfold tabV at h; rw [<- hF] at h; exact h
 obtain ⟨ns, hns⟩ : ∃ n, n = numOf (frB cs) cs.size (cellsOf fr m) := ⟨_, rfl⟩
 obtain ⟨ng, hng⟩ : ∃ n, n = numOf (frB cs) cs.size (cellsOf tt m) := ⟨_, rfl⟩
 rw [<- hns, <- hng] at ENDS; obtain ⟨a0, ha0⟩ : ∃ a0 : St, a0 = (cellsOf fr m, List.replicate m false) := ⟨_, rfl⟩
 have G0 : Hid (GoodS cs m a0) := by rw [ha0]; exact ⟨GS.out, by simp⟩
 obtain ⟨X0, hX0⟩ : ∃ x, x = encS cs m a0 := ⟨_, rfl⟩
 have hX0v : X0 = ns * (al + 1) := by
  have hz : ∀ k, maskU (List.replicate k false) = 0 := by
   intro k; induction k with
   | zero => rfl
   | succ k ih => simp only [List.replicate_succ, maskU, ih]; rfl
  rw [hX0, ha0, hal, hns]; unfold encS; rw [hz, Nat.add_zero]
 have hX0N : X0 < NB := by rw [hX0]; exact ELT.out _ G0.out
 have HX0 := zx hX0; have HA0 := zx ha0; have HAL := zx hal; have HSHL := zx hshl; have HNB := zx hNB; have HX0V := zx hX0v; clear hF hT hns hng hX0 ha0 hal hshl hNB hX0v; go_wp2_with fail; refine (TABC.out _).mono ?_; rintro e w3 ⟨gf, cf, gr, cr, rfl, htab, hb3⟩; have HTAB := zx htab; have B3 := zx (B2.out.trans (hb3.mono (by omega))); have hz3 := B3.out.size; have y3 := zj hb3 y3; have hz3' : w.heap.size < w3.heap.size := by have := hb3.size; omega
 have hm63 : m < 63 := by omega
 clear hb3 htab y0 y1 y2 y4; go_upto_region 7 with fail; have B34 : Hid (Below w3.heap.size w3 (w3.alloc (.cells #[.int .i64 ro, .int .i64 co, .string cs, .slice (some ⟨b, off, none⟩) m cc, .int .i64 bu, .slice (some ⟨gf, 0, none⟩) F cf, .slice (some ⟨gr, 0, none⟩) cs.size cr, .int .i64 (T : Nat)] 79))) := (Below.refl _ w3).alloc zl _
 have x4 : ∀ o, (w3.alloc (.cells #[.int .i64 ro, .int .i64 co, .string cs, .slice (some ⟨b, off, none⟩) m cc, .int .i64 bu, .slice (some ⟨gf, 0, none⟩) F cf, .slice (some ⟨gr, 0, none⟩) cs.size cr, .int .i64 (T : Nat)] 79)).cell? ⟨w3.heap.size, o, none⟩ = #[Value.int .i64 ro, .int .i64 co, .string cs, .slice (some ⟨b, off, none⟩) m cc, .int .i64 bu, .slice (some ⟨gf, 0, none⟩) F cf, .slice (some ⟨gr, 0, none⟩) cs.size cr, .int .i64 (T : Nat)][o]? := by
  intro o; go_simp
 have hz4 : (w3.alloc (.cells #[.int .i64 ro, .int .i64 co, .string cs, .slice (some ⟨b, off, none⟩) m cc, .int .i64 bu, .slice (some ⟨gf, 0, none⟩) F cf, .slice (some ⟨gr, 0, none⟩) cs.size cr, .int .i64 (T : Nat)] 79)).heap.size = w3.heap.size + 1 := by simp
 generalize (w3.alloc (.cells #[.int .i64 ro, .int .i64 co, .string cs, .slice (some ⟨b, off, none⟩) m cc, .int .i64 bu, .slice (some ⟨gf, 0, none⟩) F cf, .slice (some ⟨gr, 0, none⟩) cs.size cr, .int .i64 (T : Nat)] 79)) = w4 at *; have y3 := zj B34.out y3; have X4 := zx x4; have x43 := x4 7; clear x4; go_upto_region 8 with fail; have hw2 : wrap64 ((al : Int) + 1 - 1) = (al : Int) := by
  rw [show (al : Int) + 1 - 1 = (al : Int) by omega]; unfold wrap64; omega
 rw [HSHL.out, hw2]; have hprod : (T : Int) * ((al : Int) + 1) = (NB : Int) := by
  rw [HNB.out, Int.natCast_mul]; rfl
 clear hw2 y3; go_upto_region 9 with (at_make; go_must (refine wpList_make_all _ rfl _ _ 81 rfl 4 _ _ _ Tryz.underlying81 Tryz.infoBool _ _ _ _ NB rfl rfl rfl rfl (by omega) (by omega) ?_))
 have ROW0 := zx (brow_zero NB w4 4 (w3.heap.size + 1) (by omega)); have B45 : Hid (Below w4.heap.size w4 (w4.alloc (.cells (madeCells #[Value.bool false] NB) 4))) := (Below.refl _ w4).alloc zl _; have hz5 : (w4.alloc (.cells (madeCells #[Value.bool false] NB) 4)).heap.size = w4.heap.size + 1 := by simp
 generalize (w4.alloc (.cells (madeCells #[Value.bool false] NB) 4)) = w5 at *; have B35 := zx (B34.out.trans (B45.out.mono (by omega))); have X5 : Hid (∀ o, w5.cell? ⟨w3.heap.size, o, none⟩ = #[Value.int .i64 ro, .int .i64 co, .string cs, .slice (some ⟨b, off, none⟩) m cc, .int .i64 bu, .slice (some ⟨gf, 0, none⟩) F cf, .slice (some ⟨gr, 0, none⟩) cs.size cr, .int .i64 (T : Nat)][o]?) := fun o => (B45.out.cell (p := ⟨w3.heap.size, o, none⟩) (by show w3.heap.size < w4.heap.size; omega)).trans (X4.out o)
 have q0 := X5.out 0; have q1 := X5.out 1; have q2 := X5.out 2; have q3 := X5.out 3; have q4 := X5.out 4; have q5 := X5.out 5; have q6 := X5.out 6; have q7 := X5.out 7; clear x43 hprod; go_wp2_with fail; refine (ENDS.out gf cf gr cr _ (HTAB.out.below B35.out) (HCS.out.below (B3.out.trans (B35.out.mono (by omega))))).mono ?_; rintro e w6 ⟨rfl, hb6⟩; have hz6 := hb6.size; have HB6 := zx hb6; have ROW6 := zx (rowIs_below ROW0.out hb6); have B36 := zx (B35.out.trans (hb6.mono (by omega)))
 have X6 : Hid (∀ o, w6.cell? ⟨w3.heap.size, o, none⟩ = #[Value.int .i64 ro, .int .i64 co, .string cs, .slice (some ⟨b, off, none⟩) m cc, .int .i64 bu, .slice (some ⟨gf, 0, none⟩) F cf, .slice (some ⟨gr, 0, none⟩) cs.size cr, .int .i64 (T : Nat)][o]?) := fun o => (hb6.cell (p := ⟨w3.heap.size, o, none⟩) (by show w3.heap.size < w5.heap.size; omega)).trans (X5.out o)
 have hprod2 : (ns : Int) * ((al : Int) + 1) = (X0 : Int) := by
  rw [HX0V.out, Int.natCast_mul]; rfl
 obtain ⟨i0, hi0, hi1, hi2, hi3⟩ := info_parts Tryz.infoSl; clear hb6 q0 q1 q2 q3 q4 q5 q6 q7; go_upto_region 12 with (at_builtin; go_must (refine wpList_append_lies _ rfl _ _ _ rfl w6.heap.size 23 i0 _ 1 24 Tryz.underlying39 hi0 hi1 hi2 hi3 rfl (by omega) (.slice none 0 0) 0 [] rfl ⟨rfl, .inl ⟨rfl, rfl⟩⟩ ⟨w6.heap.size + 1, 0, none⟩ 1 1 [.slice (some ⟨w6.heap.size, 0, none⟩) 1 1] rfl rfl ?cells ?one (by omega) (by unfold maxLen; omega) (by omega) (by simp; omega) (w6.heap.size + 2) (by simp) ?_))
 case cells =>
  intro j u hj; match j, hj with
  | 0, hj => simp at hj; subst hj; simp [Addr.add]
  | j + 1, hj => simp at hj
 case one => intro u hu; simp at hu; subst hu; rfl
 intro g9 c9 w9 ho9 hg9 hl9 _; have hg9e : g9 = w6.heap.size + 2 := hl9.resolve_left (fun e => by cases e); have B68 : Hid (Below w6.heap.size w6 ((w6.alloc (.cells #[.int .i64 (X0 : Nat)] 3)).alloc (.cells #[.slice (some ⟨w6.heap.size, 0, none⟩) 1 1] 23))) := ((Below.refl _ w6).alloc zl _).alloc (by simp) _; have hz8 : ((w6.alloc (.cells #[.int .i64 (X0 : Nat)] 3)).alloc (.cells #[.slice (some ⟨w6.heap.size, 0, none⟩) 1 1] 23)).heap.size = w6.heap.size + 2 := by simp
 have LX : Hid (OwnN ((w6.alloc (.cells #[.int .i64 (X0 : Nat)] 3)).alloc (.cells #[.slice (some ⟨w6.heap.size, 0, none⟩) 1 1] 23)) w6.heap.size (.slice (some ⟨w6.heap.size, 0, none⟩) 1 1) [X0]) := (own_oneN w6 X0 w6.heap.size rfl).below ((Below.refl _ _).alloc zl _); have O89 : Only (fun _ => False) ((w6.alloc (.cells #[.int .i64 (X0 : Nat)] 3)).alloc (.cells #[.slice (some ⟨w6.heap.size, 0, none⟩) 1 1] 23)) w9 := ⟨hg9.os, hg9.tape, hg9.output, hg9.size, fun k hk _ => hg9.block k hk (fun e => by cases e)⟩
 have B69 := zx (B68.out.trans ⟨O89.os, O89.tape, O89.output, O89.size, fun k hk => O89.block k (by omega) (fun e => e)⟩); have L9 : Hid (OwnN w9 w6.heap.size (.slice (some ⟨w6.heap.size, 0, none⟩) 1 1) [X0]) := own_keep LX.out fun k _ hk _ => O89.block k hk (fun e => e)
 have SH9 : Hid (ShIn w9 w6.heap.size (.slice (some ⟨g9, 0, none⟩) 1 c9) 1 (fun _ => .slice (some ⟨w6.heap.size, 0, none⟩) 1 1) (fun c => if c = 0 then [X0] else [])) := by
  refine ⟨by simpa using ho9, fun c hc => ?_, fun c g hc hg hh => ?_, fun c d h hc hd hcd => by omega⟩
  . rw [if_pos (by omega)]; exact L9.out
  . have e1 : g9 = g := Option.some.inj hg; have e2 : w6.heap.size = g := Option.some.inj hh; omega
 have hz9 := O89.size; have ROW9 : Hid (w9.rowIs (w3.heap.size + 1) 4 NB (boolV (fun x => ((fun _ => none : Nat -> Option Nat) x).isSome))) := rowIs_below ROW6.out B69.out; have X9 : Hid (∀ o, w9.cell? ⟨w3.heap.size, o, none⟩ = #[Value.int .i64 ro, .int .i64 co, .string cs, .slice (some ⟨b, off, none⟩) m cc, .int .i64 bu, .slice (some ⟨gf, 0, none⟩) F cf, .slice (some ⟨gr, 0, none⟩) cs.size cr, .int .i64 (T : Nat)][o]?) := fun o => (B69.out.cell (p := ⟨w3.heap.size, o, none⟩) (by show w3.heap.size < w6.heap.size; omega)).trans (X6.out o)
 have BW9 := zx (B3.out.trans ((B36.out.trans (B69.out.mono (by omega))).mono (by omega))); have B39 := zx (B36.out.trans (B69.out.mono (by omega))); have hgb : w3.heap.size + 1 < w6.heap.size := by omega
 clear ho9 hg9 hl9 hg9e O89 hprod2 hi0 hi1 hi2 hi3; go_wp2_with fail; go_loopg [12, 13] (5 * NB + 2) (fun gk v12 v13 wr => ∃ (D : Nat -> Option Nat) (sh : Nat -> List Nat) (len cost : Nat) (X : List Nat) (V : Value) (A : Nat -> Value), V = v12 ∧ v13 = .int .i64 cost ∧ cost <= len ∧ Shelf (RN co cs m (cellsOf tt m)) (fun x => x % (al + 1) = al) X0 NB D sh len cost 0 X ∧ ShIn wr w6.heap.size V len A sh ∧ wr.rowIs (w3.heap.size + 1) 4 NB (boolV (fun x => (D x).isSome)) ∧ Below (w3.heap.size + 1) w9 wr ∧ 5 * (NB - X.length) + (len - cost) < gk)
 case atStart => exact ⟨fun _ => none, _, 1, 0, [], _, _, rfl, rfl, by omega, shelf_start hX0N, SH9.out, ROW9.out, Below.refl _ _, by simp only [List.length_nil]; omega⟩
 case round =>
  obtain ⟨wo, rfl⟩ : ∃ q, q = wr := ⟨_, rfl⟩
  obtain ⟨G1, rfl⟩ : ∃ q, q = gk := ⟨_, rfl⟩
  rename_i hrel
  obtain ⟨D, sh, len, cost, X, V, A, rfl, rfl, hcl, hsf, hsh, hrow, hbr, hms⟩ := hrel; have SF := zx hsf; have SHO := zx hsh; have ROWO := zx hrow; have BO := zx hbr; have hzo := hbr.size; have hfew := shelf_few hsf; have hlens := hsf.lens; have hpos := hsf.pos; obtain ⟨av, cv, rfl, hav, hcv⟩ := hsh.form; clear hsf hsh hrow hbr; by_cases hlt : cost < len
  . obtain ⟨gv, rfl⟩ := hav (by omega); have hltI : (cost : Int) < (len : Int) := by omega
    clear hav; go_wp2_with fail; go_loopg [12, 14] (leftS NB X (sh cost).length 0 + 1) (fun g2 v12 v14 wr => ∃ (D : Nat -> Option Nat) (sh : Nat -> List Nat) (len : Nat) (X : List Nat) (V : Value) (A : Nat -> Value) (i : Nat), V = v12 ∧ v14 = .int .i64 i ∧ cost < len ∧ Shelf (RN co cs m (cellsOf tt m)) (fun x => x % (al + 1) = al) X0 NB D sh len cost i X ∧ ShIn wr w6.heap.size V len A sh ∧ wr.rowIs (w3.heap.size + 1) 4 NB (boolV (fun x => (D x).isSome)) ∧ Below (w3.heap.size + 1) w9 wr ∧ 5 * (NB - X.length) + (len - cost) < G1 ∧ leftS NB X (sh cost).length i < g2)
    case atStart => exact ⟨D, sh, len, X, _, A, 0, rfl, rfl, hlt, SF.out, SHO.out, ROWO.out, BO.out, hms, Nat.lt_succ_self _⟩
    case round =>
     obtain ⟨wi, rfl⟩ : ∃ q, q = wr := ⟨_, rfl⟩
     obtain ⟨G2, rfl⟩ : ∃ q, q = gk := ⟨_, rfl⟩
     rename_i hrel
     obtain ⟨D, sh, len, X, V, A, i, rfl, rfl, hlt, hsf, hsh, hrow, hbr, hms, hm2⟩ := hrel; have SF := zx hsf; have SHI := zx hsh; have ROWI := zx hrow; have BI := zx hbr; have hzi := hbr.size; have hfew := shelf_few hsf; have hlens := hsf.lens; have hmost := hsf.most cost; have hle := hsf.le; obtain ⟨av, cv, rfl, hav, hcv⟩ := hsh.form; obtain ⟨gv, rfl⟩ := hav (by omega); obtain ⟨ax, cx, hax, haxn, _⟩ := (hsh.rows cost hlt).form; have hcell := hsh.cell hlt; rw [hax] at hcell; have HAX := zx hax; have HAXN := zx haxn; have HCELL := zx hcell
     clear hsf hsh hrow hbr hav hax haxn; by_cases hin : i < (sh cost).length
     . have hinI : (i : Int) < ((sh cost).length : Int) := by omega
       obtain ⟨x, hx⟩ : ∃ x, x = (sh cost).getD i 0 := ⟨_, rfl⟩
       have hxi : (sh cost)[i]? = some x := by
        rw [hx, zg, List.getElem?_eq_getElem hin]; rfl
       have hxm : x ∈ sh cost := List.mem_of_getElem? hxi; have hxN : x < NB := SF.out.all cost x hxm; obtain ⟨jw, hway⟩ := SF.out.way cost x hxm; rw [HX0.out] at hway; obtain ⟨q, hgq, hxq, hwq⟩ := wayN_to G0.out hway; have HXI := zx hxi; have HXQ := zx hxq; have GQ := zx hgq; have HWQ := zx hwq; obtain ⟨gx, rfl⟩ := HAXN.out (by omega); have hxc : wi.cell? ⟨gx, i, none⟩ = some (.int .i64 (x : Nat)) := by
        have h7 := (SHI.out.rows cost hlt)
        rw [HAX.out] at h7; rw [h7.cell hin, <- hx]
       have hsc : wi.cell? ⟨w3.heap.size + 1, x, none⟩ = some (.bool (D x).isSome) := ROWI.out.cell hxN; have hfz := ROWI.out.frozen; have XI : Hid (∀ o, wi.cell? ⟨w3.heap.size, o, none⟩ = #[Value.int .i64 ro, .int .i64 co, .string cs, .slice (some ⟨b, off, none⟩) m cc, .int .i64 bu, .slice (some ⟨gf, 0, none⟩) F cf, .slice (some ⟨gr, 0, none⟩) cs.size cr, .int .i64 (T : Nat)][o]?) := fun o => (BI.out.cell (p := ⟨w3.heap.size, o, none⟩) (by show w3.heap.size < w3.heap.size + 1; omega)).trans (X9.out o)
       clear hx hxi hxm hway hgq hxq hwq; rcases hD : D x with _ | kd
       . -- it was not looked at
         have HD := zx hD; rw [hD] at hsc; clear hD; have hrem : (x : Int) % ((al : Int) + 1) = ((maskU q.2 : Nat) : Int) := by
          have h7 := (enc_mod (cs := cs) GQ.out.2).1; rw [<- HXQ.out, <- HAL.out] at h7; rw [show (al : Int) + 1 = ((al + 1 : Nat) : Int) from rfl, <- Int.natCast_emod, h7]
         have hfin : x % (al + 1) = maskU q.2 := by
          have h7 := (enc_mod (cs := cs) GQ.out.2).1; rw [<- HXQ.out, <- HAL.out] at h7; exact h7
         have HFIN := zx hfin; obtain ⟨fx, hfx⟩ : ∃ fx, fx = maskU q.2 := ⟨_, rfl⟩
         rw [<- hfx] at hrem; have HFX := zx hfx; have HREM := zx hrem; clear hfin hfx hrem; go_upto_region 21 with fail; have ROW10 : Hid ((wi.setCell ⟨w3.heap.size + 1, x, none⟩ (.bool true)).rowIs (w3.heap.size + 1) 4 NB (boolV (fun z => (updD D x cost z).isSome))) := brow_store ROWI.out x true fun j _ => by
          unfold updD; by_cases e : j = x
          . rw [if_pos e, if_pos e]; rfl
          . rw [if_neg e, if_neg e]
         have O10 : Only (fun k => k = w3.heap.size + 1) wi (wi.setCell ⟨w3.heap.size + 1, x, none⟩ (.bool true)) := Only.setCell (S := fun k => k = w3.heap.size + 1) (p := ⟨w3.heap.size + 1, x, none⟩) (Only.refl _ wi) (fun _ => rfl) _; have SH10 : Hid (ShIn (wi.setCell ⟨w3.heap.size + 1, x, none⟩ (.bool true)) w6.heap.size (.slice (some ⟨gv, 0, none⟩) len cv) len A sh) := by
          have h7 := SHI.out; exact ⟨own_keep h7.own fun g hg1 hg _ => O10.block g hg (by omega), fun c hc => own_keep (h7.rows c hc) fun g hg1 hg _ => O10.block g hg (by omega), h7.ne, h7.inj⟩
         have B10 : Hid (Below (w3.heap.size + 1) w9 (wi.setCell ⟨w3.heap.size + 1, x, none⟩ (.bool true))) := BI.out.setCell (p := ⟨w3.heap.size + 1, x, none⟩) zl _; have hz10 : (wi.setCell ⟨w3.heap.size + 1, x, none⟩ (.bool true)).heap.size = wi.heap.size := by simp [World.setCell]
         generalize (wi.setCell ⟨w3.heap.size + 1, x, none⟩ (.bool true)) = w10 at *; have X10 : Hid (∀ o, w10.cell? ⟨w3.heap.size, o, none⟩ = #[Value.int .i64 ro, .int .i64 co, .string cs, .slice (some ⟨b, off, none⟩) m cc, .int .i64 bu, .slice (some ⟨gf, 0, none⟩) F cf, .slice (some ⟨gr, 0, none⟩) cs.size cr, .int .i64 (T : Nat)][o]?) := fun o => (B10.out.cell (p := ⟨w3.heap.size, o, none⟩) (by show w3.heap.size < w3.heap.size + 1; omega)).trans (X9.out o)
         have BW10 := zx (BW9.out.trans (B10.out.mono (by omega))); have TAB10 : Hid (TabIn w10 cs gf gr) := HTAB.out.below (B39.out.trans (B10.out.mono (by omega))); clear hxc hsc hfz O10; by_cases hfe : fx = al
         . have hremI : (x : Int) % ((al : Int) + 1) = (al : Int) := by rw [HREM.out, hfe]
           have HFE := zx hfe; clear hfe; go_wp2_with fail; go_ret2; refine ⟨cost, 0, rfl, .inr ⟨HCK.out, n, true, HT.out, .inr (.inr ⟨(by have := HBN.out; omega), rfl, rfl, ?_, ?_⟩)⟩, BW10.out⟩
           . refine ⟨jw, q, by rw [<- HA0.out]; exact HWQ.out, ?_⟩; have h8 := (maskU_all (u := q.2)).1 (by rw [<- HFX.out, HFE.out, GQ.out.2, <- HAL.out]; omega); rw [GQ.out.2] at h8; exact h8
           . intro j z K hW hz; rw [<- HA0.out] at hW; obtain ⟨hgz, hW2⟩ := wayN_of G0.out hW; rw [<- HX0.out] at hW2; refine (shelf_least SF.out HXI.out).2 j _ K hW2 ?_; show encS cs m z % (al + 1) = al; rw [HAL.out, (enc_mod hgz.2).1]; have h8 := (maskU_all (u := z.2)).2 (by rw [hgz.2]; exact hz); rw [hgz.2] at h8; have := HAL.out; omega
         . have hremI : ¬ (x : Int) % ((al : Int) + 1) = (al : Int) := by rw [HREM.out]; omega
           have HFE := zx hfe; clear hfe; have q0 := X10.out 0; have q1 := X10.out 1; have q2 := X10.out 2; have q3 := X10.out 3; have q4 := X10.out 4; have q5 := X10.out 5; have q6 := X10.out 6; have q7 := X10.out 7; have FRQ : Hid (Calls Tryz.prog 34 #[.agg #[Value.int .i64 ro, .int .i64 co, .string cs, .slice (some ⟨b, off, none⟩) m cc, .int .i64 bu, .slice (some ⟨gf, 0, none⟩) F cf, .slice (some ⟨gr, 0, none⟩) cs.size cr, .int .i64 (T : Nat)], .int .i64 (x : Nat), .int .i64 (al : Nat)] w10 fun e w' =>
            ∃ v, e = .returned (.tuple #[v, .int .i64 ((m - cntU q.2 : Nat) : Int)]) ∧ OwnN w' w10.heap.size v (fromL co cs m q) ∧ (fromL co cs m q = [] -> v = .slice none 0 0) ∧ Below w10.heap.size w10 w') := by
            rw [HXQ.out]; exact FROM.out gf cf gr cr q w10 GQ.out TAB10.out
           go_wp2_with fail; refine FRQ.out.mono ?_; rintro e w11 ⟨v11, rfl, hv11, hnil11, hb11⟩; obtain ⟨a11, c11, rfl, _, _⟩ := hv11.form; have FL := zx hv11; have FNIL := zx hnil11; have HB11 := zx hb11; have hz11 := hb11.size; obtain ⟨mo, hmo⟩ : ∃ mo, mo = m - cntU q.2 := ⟨_, rfl⟩
           have hmo4 : mo <= 4 := by omega
           rw [<- hmo]; have HMO := zx hmo; have SH11 := zx (SH10.out.below hb11); have ROW11 := zx (rowIs_below ROW10.out hb11); have B11 := zx (B10.out.trans (hb11.mono (by omega))); have hfl := FL.out.lt; have hgvl := (SH10.out.lt gv rfl)
           obtain ⟨nf, hnf⟩ : ∃ nf, nf = (fromL co cs m q).length := ⟨_, rfl⟩
           have hnfb : nf <= 640 := by
            rw [hnf]; exact fromL_le r3 r4 HSZ.out GQ.out hm4
           rw [<- hnf]; have HNF := zx hnf; have DIS : Hid (∀ g, Value.ownBlock (.slice a11 nf c11) = some g -> w10.heap.size <= g) := fun g hg => (FL.out.lt g (by rw [<- HNF.out]; exact hg)).1
           clear hv11 hnil11 hb11 hmo hnf hfl q0 q1 q2 q3 q4 q5 q6 q7; go_wp2_with fail
           go_loopg [12] 6 (fun g3 v12 wr => ∃ (len' : Nat) (V : Value) (A' : Nat -> Value), V = v12 ∧ len <= len' ∧ len' <= (if len <= cost + mo then cost + mo + 1 else len) ∧ ShIn wr w6.heap.size V len' A' sh ∧ wr.rowIs (w3.heap.size + 1) 4 NB (boolV (fun z => (updD D x cost z).isSome)) ∧ OwnN wr w10.heap.size (.slice a11 nf c11) (fromL co cs m q) ∧ (∀ g, V.ownBlock = some g -> Value.ownBlock (.slice a11 nf c11) ≠ some g) ∧ (∀ c g, c < len' -> (A' c).ownBlock = some g -> Value.ownBlock (.slice a11 nf c11) ≠ some g) ∧ Below (w3.heap.size + 1) w9 wr ∧ w11.heap.size <= wr.heap.size ∧ (cost + mo + 1) - len' < g3)
           case atStart =>
            refine ⟨len, _, A, rfl, zl, by split <;> omega, SH11.out, ROW11.out, by have h7 := FL.out; rw [<- HNF.out] at h7; exact h7, fun g hg hh => ?_, fun c g hc hg hh => ?_, B11.out, zl, by omega⟩
            . have h1 := (SH10.out.lt g hg).2; have h2 := DIS.out g hh; omega
            . have h1 := ((SH10.out.rows c hc).lt g hg).2; have h2 := DIS.out g hh; omega
           case round =>
            obtain ⟨wl, rfl⟩ : ∃ q, q = wr := ⟨_, rfl⟩
            obtain ⟨G3, rfl⟩ : ∃ q, q = gk := ⟨_, rfl⟩
            rename_i hrel
            obtain ⟨len', V, A', rfl, hl1, hl2, hsh, hrow, hfr, hd1, hd2, hbl, hzl, hm3⟩ := hrel; have SHL := zx hsh; have ROWL := zx hrow; have FRL := zx hfr; have D1 := zx hd1; have D2 := zx hd2; have BL := zx hbl; obtain ⟨av, cv2, rfl, hav, hcv2⟩ := hsh.form; obtain ⟨gl, rfl⟩ := hav (by omega); clear hsh hrow hfr hd1 hd2 hbl hav; have hlen600 : len' <= 200000000 := by split at hl2 <;> omega
            by_cases hle' : len' <= cost + mo
            . have hleI : (len' : Int) <= (cost : Int) + (mo : Int) := by omega
              have hl3 : len' + 1 <= (if len <= cost + mo then cost + mo + 1 else len) := by rw [if_pos (by omega)]; omega
              obtain ⟨i0, hi0, hi1, hi2, hi3⟩ := info_parts Tryz.infoSl; have HL2 := zx hl2; have HL3 := zx hl3; clear hl2 hl3; go_wp2_with (at_builtin; go_must (refine wpList_append_lies _ rfl _ _ _ rfl w6.heap.size 23 i0 _ 1 24 Tryz.underlying39 hi0 hi1 hi2 hi3 rfl (by omega) (.slice (some ⟨gl, 0, none⟩) len' cv2) len' _ rfl (own_later SHL.out.own ((Below.refl _ wl).alloc zl _)) ⟨wl.heap.size, 0, none⟩ 1 1 [.slice none 0 0] rfl rfl ?cells ?one (by omega) (by unfold maxLen; omega) (by omega) (by simp; omega) (wl.heap.size + 1) (by simp) ?_))
              case cells =>
               intro j u hj; match j, hj with
               | 0, hj => simp at hj; subst hj; simp [Addr.add]
               | j + 1, hj => simp at hj
              case one => intro u hu; simp at hu; subst hu; rfl
              intro g5 c5 w5' ho5 hg5 hl5 _; have O5 : Only (fun k => Value.ownBlock (.slice (some ⟨gl, 0, none⟩) len' cv2) = some k) wl w5' := ⟨hg5.os, hg5.tape, hg5.output, Nat.le_trans (by simp) hg5.size, fun k hk hn => (hg5.block k (by simp; omega) (fun e => hn e.symm)).trans (Below.heap_alloc _ _ _ hk)⟩
              have hgl := SHL.out.lt gl rfl; have hl5' : Value.ownBlock (.slice (some ⟨gl, 0, none⟩) len' cv2) = some g5 ∨ wl.heap.size <= g5 := hl5.imp id (fun e => by omega); have SH5 := zx (SHL.out.more (SF.out.out len' hl1) ho5 O5 hl5'); have R5 : Hid (w5'.rowIs (w3.heap.size + 1) 4 NB (boolV (fun z => (updD D x cost z).isSome))) := row_block ROWL.out (O5.block _ (by have := ROWL.out.lt; omega) (fun e => by have e := Option.some.inj e; have e : gl = w3.heap.size + 1 := e; omega))
              have F5 : Hid (OwnN w5' w10.heap.size (.slice a11 nf c11) (fromL co cs m q)) := own_keep FRL.out fun g _ hg hv => O5.block g hg (fun e => D1.out g e hv)
              have hz5s := O5.size; have B5' : Hid (Below (w3.heap.size + 1) w9 w5') := BL.out.trans ⟨O5.os, O5.tape, O5.output, O5.size, fun k hk => O5.block k (by have := BL.out.size; omega) (fun e => by have e := Option.some.inj e; have e : gl = k := e; omega)⟩; have D1' : Hid (∀ g, Value.ownBlock (.slice (some ⟨g5, 0, none⟩) (len' + 1) c5) = some g -> Value.ownBlock (.slice a11 nf c11) ≠ some g) := fun g hg hh => by
               have e : g5 = g := Option.some.inj hg; rcases hl5' with h7 | h7
               . exact D1.out g5 h7 (by rw [e]; exact hh)
               . have := (FRL.out.lt g hh).2; omega
              clear ho5 hg5 hl5 O5 hi0 hi1 hi2 hi3; go_wp2_with fail; go_roundg (G3 - 1)
              case measure => omega
              refine ⟨len' + 1, _, _, rfl, by omega, HL3.out, SH5.out, R5.out, F5.out, D1'.out, fun c g hc hg hh => ?_, B5'.out, by omega, by omega⟩; by_cases e : c = len'
              . rw [if_pos e] at hg; cases hg
              . rw [if_neg e] at hg; exact D2.out c g (by omega) hg hh
            . have HLE : Hid (len' = if len <= cost + mo then cost + mo + 1 else len) := by
               unfold Hid; by_cases e : len <= cost + mo
               . rw [if_pos e] at hl2 ⊢; omega
               . rw [if_neg e] at hl2 ⊢; omega
              have hnleI : ¬ (len' : Int) <= (cost : Int) + (mo : Int) := by omega
              have hcm : cost + mo < len' := by omega
              have hcmI : (cost : Int) + (mo : Int) < (len' : Int) := by omega
              obtain ⟨a12, c12, e12, _, _⟩ := (SHL.out.rows (cost + mo) hcm).form; have h12 := SHL.out.cell hcm; rw [e12] at h12; have E12 := zx e12; have OW12 : Hid (OwnN wl w6.heap.size (.slice a12 (sh (cost + mo)).length c12) (sh (cost + mo))) := by
               have h7 := SHL.out.rows (cost + mo) hcm; rw [e12] at h7; exact h7
              have hgl := SHL.out.lt gl rfl; have NE12 : Hid (Value.ownBlock (.slice a12 (sh (cost + mo)).length c12) ≠ some gl) := by
               have h7 := SHL.out.ne (cost + mo) gl hcm rfl; rw [e12] at h7; exact h7
              have hfz12 := own_fz SHL.out.own; have FZ12 := zx hfz12; have H12 := zx h12; have hmb := SF.out.most (cost + mo); clear e12 hl2 hfz12; go_upto_region 26 with fail
              go_upto_region 27 with (at_builtin; go_must (refine wpList_catN rfl _ _ rfl w6.heap.size w10.heap.size (.slice a12 (sh (cost + mo)).length c12) (.slice a11 nf c11) (sh (cost + mo)) (fromL co cs m q) rfl OW12.out (by have := BL.out.size; omega) rfl FRL.out (fun e => by have h7 := FNIL.out e; rw [<- HNF.out] at h7; exact h7) (by rw [<- HNF.out]; omega) ?_; intro a13 c13 w12 ho12 hon12 hl12; have z12 : w12.cell? ⟨gl, cost + mo, none⟩ = some (.slice a12 (sh (cost + mo)).length c12) := (World.cell?_of_block (hon12.block gl hgl.2 NE12.out)).trans H12.out; have zf12 : w12.frozen? ⟨gl, cost + mo, none⟩ = false := (World.frozen?_of_block (hon12.block gl hgl.2 NE12.out)).trans (FZ12.out _)))
              have SH13 : Hid (ShIn (w12.setCell ⟨gl, cost + mo, none⟩ (.slice a13 ((sh (cost + mo)).length + (fromL co cs m q).length) c13)) w6.heap.size (.slice (some ⟨gl, 0, none⟩) len' cv2) len' (fun d => if d = cost + mo then (.slice a13 ((sh (cost + mo)).length + (fromL co cs m q).length) c13) else A' d) (addS sh (cost + mo) (fromL co cs m q))) := by
               refine SHL.out.put (w' := w12) hcm ho12 ?_ ?_
               . rw [E12.out]; exact hon12
               . rw [E12.out]; exact hl12
              have hsz12 := hon12.size; have B12 := zx (BL.out.trans ⟨hon12.os, hon12.tape, hon12.output, hon12.size, fun k hk => hon12.block k (by have := BL.out.size; omega) (fun e => by have := (OW12.out.lt k e).1; omega)⟩); have R12 : Hid (w12.rowIs (w3.heap.size + 1) 4 NB (boolV (fun z => (updD D x cost z).isSome))) := row_block ROWL.out (hon12.block _ (by have := ROWL.out.lt; omega) (fun e => by have := (OW12.out.lt _ e).1; omega))
              have B13 : Hid (Below (w3.heap.size + 1) w9 (w12.setCell ⟨gl, cost + mo, none⟩ (.slice a13 ((sh (cost + mo)).length + (fromL co cs m q).length) c13))) := B12.out.setCell (p := ⟨gl, cost + mo, none⟩) (by show w3.heap.size + 1 <= gl; omega) _; have R13 : Hid ((w12.setCell ⟨gl, cost + mo, none⟩ (.slice a13 ((sh (cost + mo)).length + (fromL co cs m q).length) c13)).rowIs (w3.heap.size + 1) 4 NB (boolV (fun z => (updD D x cost z).isSome))) := row_block R12.out (Below.heap_setCell _ _ _ _ (by show w3.heap.size + 1 ≠ gl; omega))
              have hz13 : (w12.setCell ⟨gl, cost + mo, none⟩ (.slice a13 ((sh (cost + mo)).length + (fromL co cs m q).length) c13)).heap.size = w12.heap.size := by simp [World.setCell]
              generalize (w12.setCell ⟨gl, cost + mo, none⟩ (.slice a13 ((sh (cost + mo)).length + (fromL co cs m q).length) c13)) = w13 at *; have X13 : Hid (∀ o, w13.cell? ⟨w3.heap.size, o, none⟩ = #[Value.int .i64 ro, .int .i64 co, .string cs, .slice (some ⟨b, off, none⟩) m cc, .int .i64 bu, .slice (some ⟨gf, 0, none⟩) F cf, .slice (some ⟨gr, 0, none⟩) cs.size cr, .int .i64 (T : Nat)][o]?) := fun o => (B13.out.cell (p := ⟨w3.heap.size, o, none⟩) (by show w3.heap.size < w3.heap.size + 1; omega)).trans (X9.out o)
              have BW13 := zx (BW9.out.trans (B13.out.mono (by omega))); have TAB13 : Hid (TabIn w13 cs gf gr) := HTAB.out.below (B39.out.trans (B13.out.mono (by omega))); have hz613 : w6.heap.size <= w13.heap.size := by have := BL.out.size; omega
              have STQ : Hid (Calls Tryz.prog 35 #[.agg #[Value.int .i64 ro, .int .i64 co, .string cs, .slice (some ⟨b, off, none⟩) m cc, .int .i64 bu, .slice (some ⟨gf, 0, none⟩) F cf, .slice (some ⟨gr, 0, none⟩) cs.size cr, .int .i64 (T : Nat)], .int .i64 (x : Nat), .int .i64 (al : Nat)] w13 fun e w' =>
               ∃ v, e = .returned v ∧ OwnN w' w13.heap.size v (stayL cs m (cellsOf tt m) q m) ∧ (stayL cs m (cellsOf tt m) q m = [] -> v = .slice none 0 0) ∧ Below w13.heap.size w13 w') := by
               rw [HXQ.out]; exact STAYS.out gf cf gr cr q w13 GQ.out TAB13.out (HCS.out.below BW13.out)
              clear ho12 hon12 hl12 z12 zf12 h12; have q0 := X13.out 0; have q1 := X13.out 1; have q2 := X13.out 2; have q3 := X13.out 3; have q4 := X13.out 4; have q5 := X13.out 5; have q6 := X13.out 6; have q7 := X13.out 7; go_wp2_with fail; refine STQ.out.mono ?_; rintro e w14 ⟨v14, rfl, hv14, hnil14, hb14⟩; obtain ⟨a14, c14, rfl, _, _⟩ := hv14.form; have hz14 := hb14.size; have SH14 := zx (SH13.out.below hb14); have R14 := zx (rowIs_below R13.out hb14); have B14 := zx (B13.out.trans (hb14.mono (by omega))); have ST14 := zx hv14; have NIL14 := zx hnil14
              have hcl' : cost < len' := by omega
              obtain ⟨sh2, hsh2⟩ : ∃ f, f = addS sh (cost + mo) (fromL co cs m q) := ⟨_, rfl⟩
              obtain ⟨A2, hA2⟩ : ∃ f : Nat -> Value, f = fun d => if d = cost + mo then (.slice a13 ((sh (cost + mo)).length + (fromL co cs m q).length) c13) else A' d := ⟨_, rfl⟩
              rw [<- hsh2, <- hA2] at SH14; have HSH2 := zx hsh2; obtain ⟨a15, c15, e15, _, _⟩ := (SH14.out.rows cost hcl').form; have h15 := SH14.out.cell hcl'; rw [e15] at h15; have E15 := zx e15; have OW15 : Hid (OwnN w14 w6.heap.size (.slice a15 (sh2 cost).length c15) (sh2 cost)) := by
               have h7 := SH14.out.rows cost hcl'; rw [e15] at h7; exact h7
              have hgl14 := SH14.out.lt gl rfl; have NE15 : Hid (Value.ownBlock (.slice a15 (sh2 cost).length c15) ≠ some gl) := by
               have h7 := SH14.out.ne cost gl hcl' rfl; rw [e15] at h7; exact h7
              have FZ15 := zx (own_fz SH14.out.own); have H15 := zx h15; have hstl := stayL_le (cs := cs) (m := m) (tt := cellsOf tt m) q m; have hfle := fromL_le r3 r4 HSZ.out GQ.out hm4; have hsh2l : (sh2 cost).length <= (sh cost).length + 640 := by
               rw [HSH2.out]; have := (addS_len (sh := sh) (c := cost + mo) (l := fromL co cs m q) (j := cost)).2; omega
              have hclI' : (cost : Int) < (len' : Int) := by omega
              clear hv14 hnil14 hb14 hsh2 hA2 e15 q0 q1 q2 q3 q4 q5 q6 q7; go_upto_region 28 with fail
              go_upto_region 17 with (at_builtin; go_must (refine wpList_catN rfl _ _ rfl w6.heap.size w13.heap.size (.slice a15 (sh2 cost).length c15) (.slice a14 (stayL cs m (cellsOf tt m) q m).length c14) (sh2 cost) (stayL cs m (cellsOf tt m) q m) rfl OW15.out (by omega) rfl ST14.out NIL14.out (by omega) ?_; intro a16 c16 w15 ho15 hon15 hl15; have z15 : w15.cell? ⟨gl, cost, none⟩ = some (.slice a15 (sh2 cost).length c15) := (World.cell?_of_block (hon15.block gl hgl14.2 NE15.out)).trans H15.out; have zf15 : w15.frozen? ⟨gl, cost, none⟩ = false := (World.frozen?_of_block (hon15.block gl hgl14.2 NE15.out)).trans (FZ15.out _)))
              have SH16 : Hid (ShIn (w15.setCell ⟨gl, cost, none⟩ (.slice a16 ((sh2 cost).length + (stayL cs m (cellsOf tt m) q m).length) c16)) w6.heap.size (.slice (some ⟨gl, 0, none⟩) len' cv2) len' (fun d => if d = cost then (.slice a16 ((sh2 cost).length + (stayL cs m (cellsOf tt m) q m).length) c16) else A2 d) (addS sh2 cost (stayL cs m (cellsOf tt m) q m))) := by
               refine SH14.out.put (w' := w15) hcl' ho15 ?_ ?_
               . rw [E15.out]; exact hon15
               . rw [E15.out]; exact hl15
              have hsz15 := hon15.size; have B15 := zx (B14.out.trans ⟨hon15.os, hon15.tape, hon15.output, hon15.size, fun k hk => hon15.block k (by have := B14.out.size; omega) (fun e => by have := (OW15.out.lt k e).1; omega)⟩); have R15 : Hid (w15.rowIs (w3.heap.size + 1) 4 NB (boolV (fun z => (updD D x cost z).isSome))) := row_block R14.out (hon15.block _ (by have := R14.out.lt; omega) (fun e => by have := (OW15.out.lt _ e).1; omega))
              have B16 : Hid (Below (w3.heap.size + 1) w9 (w15.setCell ⟨gl, cost, none⟩ (.slice a16 ((sh2 cost).length + (stayL cs m (cellsOf tt m) q m).length) c16))) := B15.out.setCell (p := ⟨gl, cost, none⟩) (by show w3.heap.size + 1 <= gl; omega) _; have R16 : Hid ((w15.setCell ⟨gl, cost, none⟩ (.slice a16 ((sh2 cost).length + (stayL cs m (cellsOf tt m) q m).length) c16)).rowIs (w3.heap.size + 1) 4 NB (boolV (fun z => (updD D x cost z).isSome))) := row_block R15.out (Below.heap_setCell _ _ _ _ (by show w3.heap.size + 1 ≠ gl; omega))
              generalize (w15.setCell ⟨gl, cost, none⟩ (.slice a16 ((sh2 cost).length + (stayL cs m (cellsOf tt m) q m).length) c16)) = w16 at *; have TAKE : Hid (Shelf (RN co cs m (cellsOf tt m)) (fun x => x % (al + 1) = al) X0 NB (updD D x cost) (addS sh2 cost (stayL cs m (cellsOf tt m) q m)) len' cost (i + 1) (x :: X)) := by
               unfold Hid; rw [HSH2.out]; refine shelf_take SF.out HXI.out HD.out ?_ (by omega) hmo4 (fun y d => ?_) (fun y hy => ?_) HLE.out
               . show ¬ x % (al + 1) = al; rw [HFIN.out, <- HFX.out]; exact HFE.out
               . rw [HXQ.out, HMO.out]; exact rn_iff GQ.out y d
               . rcases hy with h7 | h7
                 . obtain ⟨b7, g7, e7⟩ := fromL_good GQ.out h7; rw [e7]; exact ELT.out _ g7
                 . obtain ⟨b7, g7, e7⟩ := stayL_good GQ.out h7; rw [e7]; exact ELT.out _ g7
              have hfew2 := shelf_few TAKE.out; simp only [List.length_cons] at hfew2; have hn16 : (addS sh2 cost (stayL cs m (cellsOf tt m) q m) cost).length <= (sh cost).length + 644 := by
               have := (addS_len (sh := sh2) (c := cost) (l := stayL cs m (cellsOf tt m) q m) (j := cost)).2; omega
              have hlen4 : len' <= len + 4 := by
               have h7 := HLE.out; by_cases e : len <= cost + mo
               . rw [if_pos e] at h7; omega
               . rw [if_neg e] at h7; omega
              clear ho15 hon15 hl15 z15 zf15 h15; go_wp2_with fail; go_roundg (G2 - 1)
              case measure => omega
              refine ⟨updD D x cost, _, len', x :: X, _, _, i + 1, rfl, by go_num, hcl', TAKE.out, SH16.out, R16.out, B16.out, ?_, ?_⟩
              . simp only [List.length_cons]; omega
              . unfold leftS at hm2 ⊢; simp only [List.length_cons]; omega
       . -- it was looked at before
         have HD := zx hD; rw [hD] at hsc; clear hD; go_wp2_with fail; go_roundg (G2 - 1)
         case measure => omega
         exact ⟨D, sh, len, X, _, A, i + 1, rfl, by go_num, hlt, shelf_skip SF.out HXI.out (by rw [HD.out]; rfl), SHI.out, ROWI.out, BI.out, hms, by unfold leftS at hm2 ⊢; omega⟩
     . have hie : i = (sh cost).length := by omega
       have SFN : Hid (Shelf (RN co cs m (cellsOf tt m)) (fun x => x % (al + 1) = al) X0 NB D sh len (cost + 1) 0 X) := by
        have h7 := SF.out; rw [hie] at h7; exact shelf_next h7
       clear hie; go_wp2_with fail; go_roundg (G1 - 1)
       case measure => omega
       exact ⟨D, sh, len, cost + 1, X, _, A, rfl, by go_num, by omega, SFN.out, SHI.out, ROWI.out, BI.out, by omega⟩
  . exfalso; have hce : cost = len := by omega
    obtain ⟨jn, zn, Kn, hW, hz⟩ := WAYS.out; rw [<- HA0.out] at hW; obtain ⟨hgz, hW2⟩ := wayN_of G0.out hW; rw [<- HX0.out] at hW2; have h7 := SF.out; rw [hce] at h7; refine shelf_end h7 jn _ Kn hW2 ?_; show encS cs m zn % (al + 1) = al; rw [HAL.out, (enc_mod hgz.2).1]; have h8 := (maskU_all (u := zn.2)).2 (by rw [hgz.2]; exact hz); rw [hgz.2] at h8; have := HAL.out; omega
end
end Go.Proofs.YtnkgpinadgacgaaGreatDoor
