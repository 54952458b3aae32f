/- Walks of sameInts, fill, filled. -/
import Derived.Test.YtnkgpinadgacgaaDoorBd
namespace Go.Proofs.YtnkgpinadgacgaaDoor
open Go.RowKit M

set_option maxRecDepth 100000 in
set_option maxHeartbeats 400000 in
theorem sameInts_row (g1 g2 N : Nat) (f1 f2 : Nat → Int) (w : World) (hN : N ≤ 1000) (h1 : w.rowIs g1 3 N (intV f1)) (h2 : w.rowIs g2 3 N (intV f2)) (he : ∀ j, j < N → f1 j = f2 j) :
    Calls Tryd.prog 17 #[.slice (some ⟨g1, 0, none⟩) N N, .slice (some ⟨g2, 0, none⟩) N N] w fun e w' => e = .returned (.bool true) ∧ Below w.heap.size w w' := by
  have H1 := Hid.mk h1
  have H2 := Hid.mk h2
  have HE := Hid.mk he
  clear h1 h2 he
  go_enter Tryd.func17, Tryd.ntmps17
  go_wp2
  go_loopw [5] (fun s wr => ∃ k : Nat, k ≤ N ∧ s = .int .i64 k ∧ Below w.heap.size w wr) (fun s _ => N - (intOf s).toNat)
  case atStart => exact ⟨0, Nat.zero_le _, rfl, Below.refl _ _⟩
  case round =>
    obtain ⟨k, hk, rfl, hbr⟩ := hrel
    have HB := Hid.mk hbr
    by_cases hlt : k < N
    · have c1 := (rowIs_below H1.out hbr).cell hlt
      have c2 := (rowIs_below H2.out hbr).cell hlt
      rw [show intV f1 k = Value.int .i64 (f1 k) from rfl, HE.out k hlt] at c1
      rw [show intV f2 k = Value.int .i64 (f2 k) from rfl] at c2
      clear hbr
      go_wp2
      go_quiet (fail)
      go_wp2
      go_roundw
      case rel => exact ⟨k + 1, by omega, by go_num, below_drewN HB.out _⟩
      case measure => simp [intOf]; omega
    · clear hbr
      go_wp2
      go_ret
      exact ⟨rfl, HB.out⟩

set_option maxHeartbeats 400000 in
theorem sameInts_nil (w : World) :
    Calls Tryd.prog 17 #[.slice none 0 0, .slice none 0 0] w fun e w' => e = .returned (.bool true) ∧ Below w.heap.size w w' := by
  go_enter Tryd.func17, Tryd.ntmps17
  go_wp2
  go_loopw [5] (fun s wr => s = .int .i64 0 ∧ wr = w) (fun _ _ => 0)
  case atStart => exact ⟨rfl, rfl⟩
  case round =>
    obtain ⟨rfl, rfl⟩ := hrel
    go_wp2
    go_ret
    exact ⟨rfl, Below.refl _ _⟩

theorem row_olds {w w' : World} {g N : Nat} {t : TypeId} {m : Int} (h : w.rowIs g t N (intV (fun _ => m))) (hb : Below w.heap.size w w') :
    ∀ b, some (⟨g, 0, none⟩ : Addr) = some b → ∀ j u, (List.replicate N (Value.int .i64 m))[j]? = some u → w'.cell? (b.add j) = some u := by
  intro b hb' j u hj
  cases hb'
  have hjl : j < N := by have := (List.getElem?_eq_some_iff.1 hj).1; simpa using this
  have e1 : (⟨g, 0, none⟩ : Addr).add j = ⟨g, j, none⟩ := by unfold Addr.add; split <;> simp_all
  rw [e1, (rowIs_below h hb).cell hjl]
  simp [hjl] at hj
  rw [← hj]; rfl

set_option maxRecDepth 100000 in
set_option maxHeartbeats 400000 in
theorem fill_row (g N : Nat) (f : Nat → Int) (m : Int) (w : World) (hN : N ≤ 1000) (h1 : w.rowIs g 3 N (intV f)) :
    Calls Tryd.prog 66 #[.slice (some ⟨g, 0, none⟩) N N, .int .i64 m] w fun e w' =>
      ∃ g' cap', e = .returned (.slice (some ⟨g', 0, none⟩) (N + 1) cap') ∧ w'.ownsRow w.heap.size 3 1 (.slice (some ⟨g', 0, none⟩) (N + 1) cap') (N + 1) (List.replicate (N + 1) (.int .i64 m)) ∧
        w'.rowIs g 3 N (intV (fun _ => m)) ∧ w.grownBy w' (some g) := by
  have hg := h1.lt
  have H1 := Hid.mk h1
  clear h1
  go_enter Tryd.func66, Tryd.ntmps66
  go_wp2
  go_loopw [5] (fun s wr => ∃ k : Nat, k ≤ N ∧ s = .int .i64 k ∧ wr.rowIs g 3 N (intV (fun j => if j < k then m else f j)) ∧ w.grownBy wr (some g) ∧ wr.heap.size = w.heap.size) (fun s _ => N - (intOf s).toNat)
  case atStart => exact ⟨0, Nat.zero_le _, rfl, H1.out.congr (fun i _ => by simp [intV]), ⟨rfl, rfl, rfl, Nat.le_refl _, fun _ _ _ => rfl⟩, rfl⟩
  case round =>
    obtain ⟨k, hk, rfl, hrw, hgr, hsz⟩ := hrel
    have HR := Hid.mk hrw
    have HG := Hid.mk hgr
    have HS := Hid.mk hsz
    by_cases hlt : k < N
    · have x1 := hrw.cell (i := k) hlt
      have x3 := hrw.frozen
      clear hrw hgr hsz
      go_wp2
      go_roundw
      case rel =>
        refine ⟨k + 1, by omega, by go_num, row_store HR.out k m (fun j _ => by by_cases e : j = k <;> simp [e] <;> split <;> split <;> (try rfl) <;> omega), ?_, by simp [World.setCell]; exact HS.out⟩
        exact ⟨HG.out.os, HG.out.tape, HG.out.output, by simp [World.setCell]; exact HG.out.size, fun i hi hne => by
          rw [Below.heap_setCell _ _ _ _ (by show i ≠ g; intro e; exact hne (by rw [e]))]; exact HG.out.block i hi hne⟩
      case measure => simp [intOf]; omega
    · have hd : k = N := by omega
      have HRm : Hid (wr.rowIs g 3 N (intV (fun _ => m))) := row_same HR.out (fun j hj => by rw [if_pos (by omega)])
      clear hrw hgr hsz
      go_wp2_with (at_builtin; go_must (refine wpList_push_full rfl _ _ 26 rfl 3 _ _ Tryd.underlying26 Tryd.infoInt rfl (some ⟨g, 0, none⟩) N (List.replicate N (.int .i64 m)) rfl (fun h => by cases h) (by simp) (by exact row_olds HRm.out ((Below.refl _ _).alloc (Nat.le_refl _) _)) _ _ (.int .i64 m) rfl (by go_simp) rfl (by unfold maxLen; omega) (by omega) ?_))
      intro g' cap' w8 ho hb
      have hs8 : w.heap.size ≤ wr.heap.size := HG.out.size
      have HO := Hid.mk ho
      have HB8 := Hid.mk (((Below.refl _ wr).alloc (Nat.le_refl _) _).trans (hb.mono (by simp)) : Below wr.heap.size wr w8)
      clear ho hb
      go_wp2
      go_ret
      refine ⟨g', cap', rfl, ?_, rowIs_below HRm.out HB8.out, ?_⟩
      · have := own_base HO.out (show w.heap.size ≤ wr.heap.size + 1 by omega)
        rw [List.replicate_succ']; exact this
      · exact ⟨HB8.out.os.trans HG.out.os, HB8.out.tape.trans HG.out.tape, HB8.out.output.trans HG.out.output, Nat.le_trans HG.out.size HB8.out.size, fun i hi hne => (HB8.out.block i (by omega)).trans (HG.out.block i hi hne)⟩

set_option maxRecDepth 100000 in
set_option maxHeartbeats 400000 in
theorem fill_nil (m : Int) (w : World) :
    Calls Tryd.prog 66 #[.slice none 0 0, .int .i64 m] w fun e w' =>
      ∃ g' cap', e = .returned (.slice (some ⟨g', 0, none⟩) 1 cap') ∧ w'.ownsRow w.heap.size 3 1 (.slice (some ⟨g', 0, none⟩) 1 cap') 1 (List.replicate 1 (.int .i64 m)) ∧ Below w.heap.size w w' := by
  go_enter Tryd.func66, Tryd.ntmps66
  go_wp2
  go_loopw [5] (fun s wr => s = .int .i64 0 ∧ wr = w) (fun _ _ => 0)
  case atStart => exact ⟨rfl, rfl⟩
  case round =>
    obtain ⟨rfl, hwr⟩ := hrel
    have hwr := hwr.symm
    subst hwr
    go_wp2_with (at_builtin; go_must (refine wpList_push_full rfl _ _ 26 rfl 3 _ _ Tryd.underlying26 Tryd.infoInt rfl none 0 [] rfl (fun _ => ⟨rfl, rfl⟩) rfl (fun b h => by cases h) _ _ (.int .i64 m) rfl (by go_simp) rfl (by decide) (by decide) ?_))
    intro g' cap' w8 ho hb
    have HO := Hid.mk ho
    have HB8 := Hid.mk (((Below.refl _ w).alloc (Nat.le_refl _) _).trans (hb.mono (by simp)) : Below w.heap.size w w8)
    clear ho hb
    go_wp2
    go_ret
    exact ⟨g', cap', rfl, own_base HO.out (by simp), HB8.out⟩

set_option maxRecDepth 100000 in
set_option maxHeartbeats 400000 in
theorem filled_any (ao : Option Addr) (n cap : Nat) (m : Int) (w : World) (hn : n ≤ 1100) (h1 : 0 < n → ∃ g, ao = some ⟨g, 0, none⟩ ∧ ∀ j, j < n → w.cell? ⟨g, j, none⟩ = some (.int .i64 m)) :
    Calls Tryd.prog 67 #[.slice ao n cap, .int .i64 m] w fun e w' => e = .returned (.bool true) ∧ w' = w := by
  have H1 := Hid.mk h1
  clear h1
  go_enter Tryd.func67, Tryd.ntmps67
  go_wp2
  go_loop [5] (fun s => ∃ k : Nat, k ≤ n ∧ s = .int .i64 k) (fun s => n - (intOf s).toNat)
  case atStart => exact ⟨0, Nat.zero_le _, rfl⟩
  case round =>
    obtain ⟨k, hk, rfl⟩ := hrel
    by_cases hlt : k < n
    · obtain ⟨g, rfl, hc⟩ := H1.out (by omega)
      have c1 := hc k hlt
      clear hc
      go_wp2
      go_round
      case rel => exact ⟨k + 1, by omega, by go_num⟩
      case measure => simp [intOf]; omega
    · go_wp2
      go_ret
      exact ⟨rfl, rfl⟩

end Go.Proofs.YtnkgpinadgacgaaDoor

/- Walk of apart over two lists. -/
namespace Go.Proofs.YtnkgpinadgacgaaDoor
open Go.RowKit M

theorem Tryd.infoInts : (Tryd.prog.info? 26).map (fun i => (i.zero, i.size, i.bytes)) = some (some (.slice none 0 0), 1, 24) := by kernel_rfl

/-- Of what was there no block has turned but one. -/
theorem grown_trans {a b c : World} {g : Nat} (h : a.grownBy b (some g)) (k : Below b.heap.size b c) : a.grownBy c (some g) :=
  ⟨k.os.trans h.os, k.tape.trans h.tape, k.output.trans h.output, Nat.le_trans h.size k.size, fun i hi hne => (k.block i (Nat.lt_of_lt_of_le hi h.size)).trans (h.block i hi hne)⟩

theorem rep_cell {w : World} {base n : Nat} {e : TypeId} {g cap : Nat} {m : Int} (h : w.ownsRow base e 1 (.slice (some ⟨g, 0, none⟩) n cap) n (List.replicate n (.int .i64 m))) : ∀ j, j < n → w.cell? ⟨g, j, none⟩ = some (.int .i64 m) := by
  intro j hj
  rw [own_cell h hj]
  simp [hj]

/-- What holds when the first list is written over. -/
structure Part1 (B P ga gc N : Nat) (fc : Nat → Int) (w wr : World) (T cT t0 k0 : Nat) : Prop where
  tails : wr.ownsRow w.heap.size 26 1 (.slice (some ⟨T, 0, none⟩) 1 cT) 1 [.slice (some ⟨t0, 0, none⟩) (N + 1) k0]
  tail0 : wr.ownsRow w.heap.size 3 1 (.slice (some ⟨t0, 0, none⟩) (N + 1) k0) (N + 1) (List.replicate (N + 1) (.int .i64 (-9)))
  ne : T ≠ t0
  rowa : wr.rowIs ga 3 N (intV (fun _ => -9))
  rowc : wr.rowIs gc 3 N (intV fc)
  p0 : wr.cell? ⟨P, 0, none⟩ = some (.slice (some ⟨ga, 0, none⟩) N N)
  p1 : wr.cell? ⟨P, 1, none⟩ = some (.slice (some ⟨gc, 0, none⟩) N N)
  size : w.heap.size ≤ wr.heap.size
  below : Below B w wr

/-- What holds when both are. -/
structure Part2 (B P ga gc N : Nat) (w wr : World) (T cT t0 k0 t1 k1 : Nat) : Prop where
  tails : wr.ownsRow w.heap.size 26 1 (.slice (some ⟨T, 0, none⟩) 2 cT) 2 [.slice (some ⟨t0, 0, none⟩) (N + 1) k0, .slice (some ⟨t1, 0, none⟩) (N + 1) k1]
  tail0 : wr.ownsRow w.heap.size 3 1 (.slice (some ⟨t0, 0, none⟩) (N + 1) k0) (N + 1) (List.replicate (N + 1) (.int .i64 (-9)))
  tail1 : wr.ownsRow w.heap.size 3 1 (.slice (some ⟨t1, 0, none⟩) (N + 1) k1) (N + 1) (List.replicate (N + 1) (.int .i64 (-10)))
  rowa : wr.rowIs ga 3 N (intV (fun _ => -9))
  rowc : wr.rowIs gc 3 N (intV (fun _ => -10))
  p0 : wr.cell? ⟨P, 0, none⟩ = some (.slice (some ⟨ga, 0, none⟩) N N)
  p1 : wr.cell? ⟨P, 1, none⟩ = some (.slice (some ⟨gc, 0, none⟩) N N)
  below : Below B w wr

theorem cell_grown {w w' : World} {b g o : Nat} {v : Value} (h : w.cell? ⟨b, o, none⟩ = some v) (hg : w.grownBy w' (some g)) (hne : b ≠ g) : w'.cell? ⟨b, o, none⟩ = some v := by
  have hb := World.block_lt_of_cell? _ _ h
  rw [World.cell?_of_block (w := w) (w' := w') (a := ⟨b, o, none⟩) (hg.block b hb (by simpa using hne))]; exact h

theorem row_grown {w w' : World} {b g : Nat} {t : TypeId} {N : Nat} {f : Nat → Value} (h : w.rowIs b t N f) (hg : w.grownBy w' (some g)) (hne : b ≠ g) : w'.rowIs b t N f :=
  h.of_block (hg.block b h.lt (by simpa using hne))

theorem own_grown {w w' : World} {base n g : Nat} {e : TypeId} {v : Value} {xs : List Value} (h : w.ownsRow base e 1 v n xs) (hg : w.grownBy w' (some g)) (hne : ∀ k, v.ownBlock = some k → k ≠ g) : w'.ownsRow base e 1 v n xs :=
  own_block_keep h fun k _ hk hv => hg.block k hk (by simpa using hne k hv)

/-- The first list's round. -/
theorem part1_mk {B P ga gc N : Nat} {fc : Nat → Int} {w w1 w3 : World} {T cT t0 k0 : Nat} (hac : ga ≠ gc) (hPa : P ≠ ga) (hBa : B ≤ ga) (hBw : B ≤ w.heap.size)
    (p0 : w.cell? ⟨P, 0, none⟩ = some (.slice (some ⟨ga, 0, none⟩) N N)) (p1 : w.cell? ⟨P, 1, none⟩ = some (.slice (some ⟨gc, 0, none⟩) N N)) (h2 : w.rowIs gc 3 N (intV fc))
    (ho : w1.ownsRow w.heap.size 3 1 (.slice (some ⟨t0, 0, none⟩) (N + 1) k0) (N + 1) (List.replicate (N + 1) (.int .i64 (-9)))) (hr : w1.rowIs ga 3 N (intV (fun _ => -9))) (hg : w.grownBy w1 (some ga))
    (ht : w3.ownsRow (w1.heap.size + 1) 26 1 (.slice (some ⟨T, 0, none⟩) 1 cT) 1 [.slice (some ⟨t0, 0, none⟩) (N + 1) k0]) (hb : Below w1.heap.size w1 w3) : Part1 B P ga gc N fc w w3 T cT t0 k0 := by
  have hsz := hg.size
  have hl := (own_lt ho)
  have hT := (own_lt ht)
  refine ⟨own_base ht (by omega), own_below ho hb, by omega, rowIs_below hr hb, rowIs_below (row_grown h2 hg (fun e => hac e.symm)) hb, cell_later hb (cell_grown p0 hg hPa), cell_later hb (cell_grown p1 hg hPa), Nat.le_trans hsz hb.size, ?_⟩
  exact ((Below.refl B w).grown hg hBw (fun k hk => by cases hk; exact hBa)).trans (hb.mono (by omega))

/-- The second list's round. -/
theorem part2_mk {B P ga gc N : Nat} {fc : Nat → Int} {w wr w1 w2 w3 : World} {T cT t0 k0 t1 k1 T2 cT2 : Nat} (h : Part1 B P ga gc N fc w wr T cT t0 k0) (hac : ga ≠ gc) (hPc : P ≠ gc) (hBc : B ≤ gc) (hgcl : gc < w.heap.size) (hgal : ga < w.heap.size) (hPl : P < w.heap.size)
    (ho : w1.ownsRow wr.heap.size 3 1 (.slice (some ⟨t1, 0, none⟩) (N + 1) k1) (N + 1) (List.replicate (N + 1) (.int .i64 (-10)))) (hr : w1.rowIs gc 3 N (intV (fun _ => -10))) (hg : wr.grownBy w1 (some gc)) (h12 : Below w1.heap.size w1 w2)
    (ht : w3.ownsRow w.heap.size 26 1 (.slice (some ⟨T2, 0, none⟩) 2 cT2) 2 [.slice (some ⟨t0, 0, none⟩) (N + 1) k0, .slice (some ⟨t1, 0, none⟩) (N + 1) k1]) (hg3 : w2.grownBy w3 (some T)) : Part2 B P ga gc N w w3 T2 cT2 t0 k0 t1 k1 := by
  have hsw := h.size
  have hT := own_lt h.tails
  have ht0 := own_lt h.tail0
  have ht1 := own_lt ho
  have hs1 := hg.size
  have hs2 := h12.size
  refine ⟨ht, ?_, ?_, ?_, ?_, ?_, ?_, ?_⟩
  · refine own_grown (own_below (own_grown h.tail0 hg fun k hk => ?_) h12) hg3 fun k hk => ?_
    · have : t0 = k := by simpa [Value.ownBlock] using hk
      omega
    · have : t0 = k := by simpa [Value.ownBlock] using hk
      subst this; exact fun e => h.ne e.symm
  · refine own_grown (own_below (own_base ho hsw) h12) hg3 fun k hk => ?_
    have : t1 = k := by simpa [Value.ownBlock] using hk
    omega
  · exact row_grown (rowIs_below (row_grown h.rowa hg hac) h12) hg3 (by omega)
  · exact row_grown (rowIs_below hr h12) hg3 (by omega)
  · exact cell_grown (cell_later h12 (cell_grown h.p0 hg hPc)) hg3 (by omega)
  · exact cell_grown (cell_later h12 (cell_grown h.p1 hg hPc)) hg3 (by omega)
  · exact ((h.below.grown hg (by omega) (fun k hk => by cases hk; exact hBc)).trans (h12.mono (by omega))).grown hg3 (by omega) (fun k hk => by cases hk; omega)

set_option maxRecDepth 100000 in
set_option maxHeartbeats 1000000 in
theorem apart_rows (B P ga gc N : Nat) (fa fc : Nat → Int) (w : World) (hN : N ≤ 1000) (hac : ga ≠ gc) (hPa : P ≠ ga) (hPc : P ≠ gc) (hBa : B ≤ ga) (hBc : B ≤ gc) (hBw : B ≤ w.heap.size) (hPl : P < w.heap.size)
    (p0 : w.cell? ⟨P, 0, none⟩ = some (.slice (some ⟨ga, 0, none⟩) N N)) (p1 : w.cell? ⟨P, 1, none⟩ = some (.slice (some ⟨gc, 0, none⟩) N N))
    (h1 : w.rowIs ga 3 N (intV fa)) (h2 : w.rowIs gc 3 N (intV fc)) :
    Calls Tryd.prog 18 #[.slice (some ⟨P, 0, none⟩) 2 2] w fun e w' => e = .returned (.bool true) ∧ Below B w w' := by
  have hgal := h1.lt
  have hgcl := h2.lt
  have H1 := Hid.mk h1
  have H2 := Hid.mk h2
  have P0 := Hid.mk p0
  have P1 := Hid.mk p1
  clear h1 h2 p0 p1
  go_enter Tryd.func18, Tryd.ntmps18
  go_wp2
  go_loopw [3, 4] (fun v s wr => (s = .int .i64 0 ∧ v = .slice none 0 0 ∧ wr = w) ∨ (s = .int .i64 1 ∧ ∃ T cT t0 k0, v = .slice (some ⟨T, 0, none⟩) 1 cT ∧ Part1 B P ga gc N fc w wr T cT t0 k0) ∨
    (s = .int .i64 2 ∧ ∃ T cT t0 k0 t1 k1, v = .slice (some ⟨T, 0, none⟩) 2 cT ∧ Part2 B P ga gc N w wr T cT t0 k0 t1 k1)) (fun _ s _ => 2 - (intOf s).toNat)
  case atStart => exact Or.inl ⟨rfl, rfl, rfl⟩
  case round =>
    rcases hrel with ⟨rfl, rfl, hwr⟩ | ⟨rfl, T, cT, t0, k0, rfl, hp⟩ | ⟨rfl, T, cT, t0, k0, t1, k1, rfl, hp⟩
    · have hwr := hwr.symm
      subst hwr
      have p0 := P0.out
      have p1 := P1.out
      go_wp2_with fail
      refine (fill_row ga N fa (-9) _ hN (by exact H1.out)).mono ?_
      rintro e w1 ⟨t0, k0, rfl, ho, hr, hg⟩
      have HO := Hid.mk ho
      have HR := Hid.mk hr
      have HG := Hid.mk hg
      clear ho hr hg p0 p1
      go_wp2_with (at_builtin; go_must (refine wpList_push_full rfl _ _ 35 rfl 26 _ _ Tryd.underlying35 Tryd.infoInts rfl none 0 [] rfl (fun _ => ⟨rfl, rfl⟩) rfl (fun b h => by cases h) _ _ (.slice (some ⟨t0, 0, none⟩) (N + 1) k0) rfl (by go_simp) rfl (by decide) (by decide) ?_))
      intro T cT w3 ht hb
      have HT := Hid.mk ht
      have HB := Hid.mk (((Below.refl _ w1).alloc (Nat.le_refl _) _).trans (hb.mono (by simp)) : Below w1.heap.size w1 w3)
      clear ht hb
      go_wp2
      go_roundw
      case rel => exact Or.inr (Or.inl ⟨rfl, T, cT, t0, k0, rfl, part1_mk hac hPa hBa hBw P0.out P1.out H2.out HO.out HR.out HG.out (by simpa using HT.out) HB.out⟩)
      case measure => simp [intOf]
    · have HP := Hid.mk hp
      have p0 := hp.p0
      have p1 := hp.p1
      clear hp
      go_wp2_with fail
      refine (fill_row gc N fc (-10) _ hN (by exact HP.out.rowc)).mono ?_
      rintro e w1 ⟨t1, k1, rfl, ho, hr, hg⟩
      have HO := Hid.mk ho
      have HR := Hid.mk hr
      have HG := Hid.mk hg
      have hTl := Hid.mk (own_lt HP.out.tails)
      have HT1 : Hid (w1.ownsRow w.heap.size 26 1 (.slice (some ⟨T, 0, none⟩) 1 cT) 1 [.slice (some ⟨t0, 0, none⟩) (N + 1) k0]) :=
        own_grown HP.out.tails hg fun k hk => by
          have h3 : T = k := by simpa [Value.ownBlock] using hk
          have h4 := hTl.out
          omega
      have hsz1 := Hid.mk (Nat.le_trans HP.out.size hg.size)
      clear ho hr hg p0 p1
      go_wp2_with (at_builtin; go_must (refine wpList_push2 rfl _ _ 35 rfl w.heap.size 26 _ _ Tryd.underlying35 Tryd.infoInts rfl T 1 cT _ rfl (by exact own_below HT1.out ((Below.refl _ _).alloc (Nat.le_refl _) _)) _ _ (.slice (some ⟨t1, 0, none⟩) (N + 1) k1) rfl (by go_simp) rfl (by decide) (by decide) (by have := hsz1.out; simp; omega) ?_))
      intro T2 cT2 w3 ht hg3 _
      have HT := Hid.mk ht
      have HG3 := Hid.mk hg3
      clear ht hg3
      go_wp2
      go_roundw
      case rel => exact Or.inr (Or.inr ⟨rfl, T2, cT2, t0, k0, t1, k1, rfl, part2_mk HP.out hac hPc hBc hgcl hgal hPl HO.out HR.out HG.out ((Below.refl _ _).alloc (Nat.le_refl _) _) HT.out HG3.out⟩)
      case measure => simp [intOf]
    · have HP := Hid.mk hp
      clear hp
      obtain ⟨wf, rfl⟩ : ∃ x, x = wr := ⟨_, rfl⟩
      go_wp2
      go_loopw [6] (fun s wr => wr = wf ∧ (s = .int .i64 0 ∨ s = .int .i64 1 ∨ s = .int .i64 2)) (fun s _ => 2 - (intOf s).toNat)
      case atStart => exact ⟨rfl, Or.inl rfl⟩
      case round =>
        obtain ⟨hwr, hrel⟩ := hrel
        have hwr := hwr.symm
        subst hwr
        have p0 := HP.out.p0
        have p1 := HP.out.p1
        have q0 := own_cell HP.out.tails (j := 0) (by omega)
        have q1 := own_cell HP.out.tails (j := 1) (by omega)
        simp only [List.getElem?_cons_zero, List.getElem?_cons_succ] at q0 q1
        rcases hrel with rfl | rfl | rfl
        · go_wp2_with fail
          refine (filled_any _ N N (-9) _ (by omega) (by exact fun _ => ⟨ga, rfl, fun j hj => HP.out.rowa.cell hj⟩)).mono ?_
          rintro e w5 ⟨rfl, hw5⟩
          have hw5 := hw5.symm
          subst hw5
          go_wp2_with fail
          refine (filled_any _ (N + 1) k0 (-9) _ (by omega) (by exact fun _ => ⟨t0, rfl, rep_cell HP.out.tail0⟩)).mono ?_
          rintro e w5 ⟨rfl, hw5⟩
          have hw5 := hw5.symm
          subst hw5
          go_wp2
          go_roundw
          case rel => exact ⟨trivial, Or.inr (Or.inl rfl)⟩
          case measure => simp [intOf]
        · go_wp2_with fail
          refine (filled_any _ N N (-10) _ (by omega) (by exact fun _ => ⟨gc, rfl, fun j hj => HP.out.rowc.cell hj⟩)).mono ?_
          rintro e w5 ⟨rfl, hw5⟩
          have hw5 := hw5.symm
          subst hw5
          go_wp2_with fail
          refine (filled_any _ (N + 1) k1 (-10) _ (by omega) (by exact fun _ => ⟨t1, rfl, rep_cell HP.out.tail1⟩)).mono ?_
          rintro e w5 ⟨rfl, hw5⟩
          have hw5 := hw5.symm
          subst hw5
          go_wp2
          go_roundw
          case rel => exact ⟨trivial, Or.inr (Or.inr rfl)⟩
          case measure => simp [intOf]
        · go_wp2
          go_ret
          exact ⟨rfl, HP.out.below⟩

theorem grown_none_below {w w' : World} (h : w.grownBy w' none) : Below w.heap.size w w' := (Below.refl _ w).grown h (Nat.le_refl _) (fun k hk => by cases hk)

set_option maxRecDepth 100000 in
set_option maxHeartbeats 1000000 in
theorem apart_nils (P : Nat) (w : World)
    (p0 : w.cell? ⟨P, 0, none⟩ = some (.slice none 0 0)) (p1 : w.cell? ⟨P, 1, none⟩ = some (.slice none 0 0)) :
    Calls Tryd.prog 18 #[.slice (some ⟨P, 0, none⟩) 2 2] w fun e w' => e = .returned (.bool true) ∧ Below w.heap.size w w' := by
  have P0 := Hid.mk p0
  have P1 := Hid.mk p1
  clear p0 p1
  go_enter Tryd.func18, Tryd.ntmps18
  go_wp2
  go_loopw [3, 4] (fun v s wr => (s = .int .i64 0 ∧ v = .slice none 0 0 ∧ wr = w) ∨ (s = .int .i64 1 ∧ ∃ T cT t0 k0, v = .slice (some ⟨T, 0, none⟩) 1 cT ∧ wr.ownsRow w.heap.size 26 1 (.slice (some ⟨T, 0, none⟩) 1 cT) 1 [.slice (some ⟨t0, 0, none⟩) 1 k0] ∧
      wr.ownsRow w.heap.size 3 1 (.slice (some ⟨t0, 0, none⟩) 1 k0) 1 (List.replicate 1 (.int .i64 (-9))) ∧ T ≠ t0 ∧ Below w.heap.size w wr) ∨
    (s = .int .i64 2 ∧ ∃ T cT t0 k0 t1 k1, v = .slice (some ⟨T, 0, none⟩) 2 cT ∧ wr.ownsRow w.heap.size 26 1 (.slice (some ⟨T, 0, none⟩) 2 cT) 2 [.slice (some ⟨t0, 0, none⟩) 1 k0, .slice (some ⟨t1, 0, none⟩) 1 k1] ∧
      wr.ownsRow w.heap.size 3 1 (.slice (some ⟨t0, 0, none⟩) 1 k0) 1 (List.replicate 1 (.int .i64 (-9))) ∧ wr.ownsRow w.heap.size 3 1 (.slice (some ⟨t1, 0, none⟩) 1 k1) 1 (List.replicate 1 (.int .i64 (-10))) ∧ Below w.heap.size w wr)) (fun _ s _ => 2 - (intOf s).toNat)
  case atStart => exact Or.inl ⟨rfl, rfl, rfl⟩
  case round =>
    rcases hrel with ⟨rfl, rfl, hwr⟩ | ⟨rfl, T, cT, t0, k0, rfl, hT, h0, hne, hbr⟩ | ⟨rfl, T, cT, t0, k0, t1, k1, rfl, hT, h0, h1, hbr⟩
    · have hwr := hwr.symm
      subst hwr
      have p0 := P0.out
      go_wp2_with fail
      refine (fill_nil (-9) _).mono ?_
      rintro e w1 ⟨t0, k0, rfl, ho, hg⟩
      have HO := Hid.mk ho
      have HG := Hid.mk hg
      clear ho hg p0
      go_wp2_with (at_builtin; go_must (refine wpList_push_full rfl _ _ 35 rfl 26 _ _ Tryd.underlying35 Tryd.infoInts rfl none 0 [] rfl (fun _ => ⟨rfl, rfl⟩) rfl (fun b h => by cases h) _ _ (.slice (some ⟨t0, 0, none⟩) 1 k0) rfl (by go_simp) rfl (by decide) (by decide) ?_))
      intro T cT w3 ht hb
      have HT := Hid.mk ht
      have HB := Hid.mk (((Below.refl _ w1).alloc (Nat.le_refl _) _).trans (hb.mono (by simp)) : Below w1.heap.size w1 w3)
      clear ht hb
      go_wp2
      go_roundw
      case rel =>
        have hs := HG.out.size
        have h3 : w3.ownsRow (w1.heap.size + 1) 26 1 (.slice (some ⟨T, 0, none⟩) 1 cT) 1 [.slice (some ⟨t0, 0, none⟩) 1 k0] := by simpa using HT.out
        have hl := own_lt HO.out
        have hl3 := own_lt h3
        exact Or.inr (Or.inl ⟨rfl, T, cT, t0, k0, rfl, own_base h3 (by omega), own_below HO.out HB.out, by omega, HG.out.trans (HB.out.mono (by omega))⟩)
      case measure => simp [intOf]
    · have HT := Hid.mk hT
      have H0 := Hid.mk h0
      have HN := Hid.mk hne
      have HB := Hid.mk hbr
      have p1 := cell_later hbr P1.out
      clear hT h0 hne hbr
      go_wp2_with fail
      refine (fill_nil (-10) _).mono ?_
      rintro e w1 ⟨t1, k1, rfl, ho, hg⟩
      have HO := Hid.mk ho
      have HG := Hid.mk hg
      have HT1 := Hid.mk (own_below HT.out hg)
      clear ho hg p1
      go_wp2_with (at_builtin; go_must (refine wpList_push2 rfl _ _ 35 rfl w.heap.size 26 _ _ Tryd.underlying35 Tryd.infoInts rfl T 1 cT _ rfl (by exact own_below HT1.out ((Below.refl _ _).alloc (Nat.le_refl _) _)) _ _ (.slice (some ⟨t1, 0, none⟩) 1 k1) rfl (by go_simp) rfl (by decide) (by decide) (by have := HB.out.size; have := HG.out.size; simp; omega) ?_))
      intro T2 cT2 w3 ht hg3 _
      have HT2 := Hid.mk ht
      have HG3 := Hid.mk hg3
      clear ht hg3
      go_wp2
      go_roundw
      case rel =>
        have hs := HG.out.size
        have hsb := HB.out.size
        have hlT := own_lt HT.out
        have hl1 := own_lt HO.out
        refine Or.inr (Or.inr ⟨rfl, T2, cT2, t0, k0, t1, k1, rfl, HT2.out, ?_, ?_, ?_⟩)
        · refine own_grown (own_below (own_below H0.out HG.out) ((Below.refl _ _).alloc (Nat.le_refl _) _)) HG3.out fun k hk => ?_
          have : t0 = k := by simpa [Value.ownBlock] using hk
          subst this; exact fun e => HN.out e.symm
        · refine own_grown (own_below (own_base HO.out (by omega)) ((Below.refl _ _).alloc (Nat.le_refl _) _)) HG3.out fun k hk => ?_
          have : t1 = k := by simpa [Value.ownBlock] using hk
          omega
        · exact ((HB.out.trans (HG.out.mono (by omega))).alloc (by omega) _).grown HG3.out (by simp; omega) (fun k hk => by cases hk; omega)
      case measure => simp [intOf]
    · have HT := Hid.mk hT
      have H0 := Hid.mk h0
      have H1 := Hid.mk h1
      have HB := Hid.mk hbr
      clear hT h0 h1 hbr
      obtain ⟨wf, rfl⟩ : ∃ x, x = wr := ⟨_, rfl⟩
      go_wp2
      go_loopw [6] (fun s wr => wr = wf ∧ (s = .int .i64 0 ∨ s = .int .i64 1 ∨ s = .int .i64 2)) (fun s _ => 2 - (intOf s).toNat)
      case atStart => exact ⟨rfl, Or.inl rfl⟩
      case round =>
        obtain ⟨hwr, hrel⟩ := hrel
        have hwr := hwr.symm
        subst hwr
        have p0 := cell_later HB.out P0.out
        have p1 := cell_later HB.out P1.out
        have q0 := own_cell HT.out (j := 0) (by omega)
        have q1 := own_cell HT.out (j := 1) (by omega)
        simp only [List.getElem?_cons_zero, List.getElem?_cons_succ] at q0 q1
        rcases hrel with rfl | rfl | rfl
        · go_wp2_with fail
          refine (filled_any _ 0 0 (-9) _ (by omega) (fun h => absurd h (Nat.lt_irrefl 0))).mono ?_
          rintro e w5 ⟨rfl, hw5⟩
          have hw5 := hw5.symm
          subst hw5
          go_wp2_with fail
          refine (filled_any _ 1 k0 (-9) _ (by omega) (by exact fun _ => ⟨t0, rfl, rep_cell H0.out⟩)).mono ?_
          rintro e w5 ⟨rfl, hw5⟩
          have hw5 := hw5.symm
          subst hw5
          go_wp2
          go_roundw
          case rel => exact ⟨trivial, Or.inr (Or.inl rfl)⟩
          case measure => simp [intOf]
        · go_wp2_with fail
          refine (filled_any _ 0 0 (-10) _ (by omega) (fun h => absurd h (Nat.lt_irrefl 0))).mono ?_
          rintro e w5 ⟨rfl, hw5⟩
          have hw5 := hw5.symm
          subst hw5
          go_wp2_with fail
          refine (filled_any _ 1 k1 (-10) _ (by omega) (by exact fun _ => ⟨t1, rfl, rep_cell H1.out⟩)).mono ?_
          rintro e w5 ⟨rfl, hw5⟩
          have hw5 := hw5.symm
          subst hw5
          go_wp2
          go_roundw
          case rel => exact ⟨trivial, Or.inr (Or.inr rfl)⟩
          case measure => simp [intOf]
        · go_wp2
          go_ret
          exact ⟨rfl, HB.out⟩

end Go.Proofs.YtnkgpinadgacgaaDoor

/- Walks of both Fars: the error, or the table of distances. -/
namespace Go.Proofs.YtnkgpinadgacgaaDoor
open Go.RowKit M

theorem ret_si {a : Value} {b c : Int} (h : b = c) : Ending.returned (.tuple #[a, .int .i64 b]) = .returned (.tuple #[a, .int .i64 c]) := by rw [h]

/-- The error of a call of Far. -/
def farE (ro co bu : Int) (cs : ByteArray) (n : Nat) (fr tt : Nat → Int) (cell : Int) : Int :=
  if (checkM ro co cs n fr tt bu).1 = 0 then (if freeB cs cell then 0 else 7) else (checkM ro co cs n fr tt bu).1

set_option maxRecDepth 100000 in
set_option maxHeartbeats 1000000 in
theorem rfar_err (ro co bu : Int) (cs : ByteArray) (a : Option Addr) (n cap : Nat) (fr tt : Nat → Int) (cell : Int) (w : World) (hs : cs.size ≤ maxLen) (hn : n ≤ maxLen)
    (ha : 0 < n → ∃ b off, a = some ⟨b, off, none⟩ ∧ CartsIn w b off n fr tt) (he : farE ro co bu cs n fr tt cell ≠ 0) :
    Calls Tryd.prog 16 #[.agg #[.int .i64 ro, .int .i64 co, .string cs, .slice a n cap, .int .i64 bu], .int .i64 cell] w fun e w' =>
      e = .returned (.tuple #[.slice none 0 0, .int .i64 (farE ro co bu cs n fr tt cell)]) ∧ Below w.heap.size w w' := by
  have HE := Hid.mk he
  clear he
  go_enter Tryd.func16, Tryd.ntmps16
  go_wp2_with fail
  refine (rcheck_any _ _ _ _ _ _ _ fr tt _ hs hn (by exact opt_below ha ((Below.refl _ _).alloc (Nat.le_refl _) _))).mono ?_
  rintro e w1 ⟨rfl, hb1⟩
  have y1 : ∀ o, w1.cell? ⟨w.heap.size, o, none⟩ = #[Value.int .i64 ro, .int .i64 co, .string cs, .slice a n cap, .int .i64 bu][o]? := by
    intro o
    rw [hb1.cell (p := ⟨w.heap.size, o, none⟩) (by show w.heap.size < _; simp)]; go_simp
  have hB1 := Hid.mk (((Below.refl _ w).alloc (Nat.le_refl _) _).trans (hb1.mono (by simp)) : Below w.heap.size w w1)
  have hz1 : w.heap.size < w1.heap.size := by have := hb1.size; simp at this; omega
  clear hb1 ha
  by_cases hck : (checkM ro co cs n fr tt bu).1 = 0
  · have hck' : ((checkM ro co cs n fr tt bu).1 != 0) = false := by rw [hck]; rfl
    have HK := Hid.mk hck
    clear hck
    go_wp2_with fail
    refine (rfree_any _ _ _ _ _ _ _ hs).mono ?_
    rintro e w2 ⟨rfl, hb2⟩
    by_cases hf : freeB cs cell = true
    · exact absurd (by unfold farE; rw [if_pos HK.out, if_pos hf]) HE.out
    · have hf' : freeB cs cell = false := by simpa using hf
      go_wp2
      go_ret2
      exact ⟨ret_si (by unfold farE; rw [if_pos HK.out, if_neg hf]), hB1.out.trans (hb2.mono (by omega))⟩
  · have hck' : ((checkM ro co cs n fr tt bu).1 != 0) = true := by simpa using hck
    have HK := Hid.mk hck
    clear hck
    go_wp2
    go_ret2
    exact ⟨ret_si (by unfold farE; rw [if_neg HK.out]), hB1.out⟩

set_option maxHeartbeats 400000 in
theorem fault_any (ro co bu : Int) (cs : ByteArray) (a : Option Addr) (n cap : Nat) (fr tt : Nat → Int) (w : World) (hs : cs.size ≤ maxLen) (hn : n ≤ maxLen) (hcap : n ≤ cap)
    (ha : 0 < n → ∃ b off, a = some ⟨b, off, none⟩ ∧ CartsIn w b off n fr tt) :
    Calls Tryd.prog 60 #[.agg #[.int .i64 ro, .int .i64 co, .string cs, .slice a n cap, .int .i64 bu]] w fun e w' =>
      e = .returned (.int .i64 (checkM ro co cs n fr tt bu).1) ∧ Below w.heap.size w w' := by
  go_enter Tryd.func60, Tryd.ntmps60
  go_wp2_with fail
  refine (gcheck_any _ _ _ _ _ _ _ fr tt _ hs hn hcap (by exact opt_below ha ((Below.refl _ _).alloc (Nat.le_refl _) _))).mono ?_
  rintro e w1 ⟨rfl, hb1⟩
  go_wp2
  go_ret
  exact ⟨rfl, ((Below.refl _ _).alloc (Nat.le_refl _) _).trans (hb1.mono (by simp))⟩

set_option maxRecDepth 100000 in
set_option maxHeartbeats 1000000 in
theorem yfar_err (ro co bu : Int) (cs : ByteArray) (a : Option Addr) (n cap : Nat) (fr tt : Nat → Int) (cell : Int) (w : World) (hs : cs.size ≤ maxLen) (hn : n ≤ maxLen) (hcap : n ≤ cap)
    (ha : 0 < n → ∃ b off, a = some ⟨b, off, none⟩ ∧ CartsIn w b off n fr tt) (he : farE ro co bu cs n fr tt cell ≠ 0) :
    Calls Tryd.prog 14 #[.agg #[.int .i64 ro, .int .i64 co, .string cs, .slice a n cap, .int .i64 bu], .int .i64 cell] w fun e w' =>
      e = .returned (.tuple #[.slice none 0 0, .int .i64 (farE ro co bu cs n fr tt cell)]) ∧ Below w.heap.size w w' := by
  have HE := Hid.mk he
  clear he
  go_enter Tryd.func14, Tryd.ntmps14
  go_wp2_with fail
  refine (fault_any _ _ _ _ _ _ _ fr tt _ hs hn hcap (by exact opt_below ha ((Below.refl _ _).alloc (Nat.le_refl _) _))).mono ?_
  rintro e w1 ⟨rfl, hb1⟩
  have y1 : ∀ o, w1.cell? ⟨w.heap.size, o, none⟩ = #[Value.int .i64 ro, .int .i64 co, .string cs, .slice a n cap, .int .i64 bu][o]? := by
    intro o
    rw [hb1.cell (p := ⟨w.heap.size, o, none⟩) (by show w.heap.size < _; simp)]; go_simp
  have hB1 := Hid.mk (((Below.refl _ w).alloc (Nat.le_refl _) _).trans (hb1.mono (by simp)) : Below w.heap.size w w1)
  have hz1 : w.heap.size < w1.heap.size := by have := hb1.size; simp at this; omega
  clear hb1 ha
  by_cases hck : (checkM ro co cs n fr tt bu).1 = 0
  · have hck' : ((checkM ro co cs n fr tt bu).1 != 0) = false := by rw [hck]; rfl
    have HK := Hid.mk hck
    clear hck
    go_wp2_with fail
    refine (gfree_any _ _ _ _ _ _ _ hs).mono ?_
    rintro e w2 ⟨rfl, hb2⟩
    by_cases hf : freeB cs cell = true
    · exact absurd (by unfold farE; rw [if_pos HK.out, if_pos hf]) HE.out
    · have hf' : freeB cs cell = false := by simpa using hf
      go_wp2
      go_ret2
      exact ⟨ret_si (by unfold farE; rw [if_pos HK.out, if_neg hf]), hB1.out.trans (hb2.mono (by omega))⟩
  · have hck' : ((checkM ro co cs n fr tt bu).1 != 0) = true := by simpa using hck
    have HK := Hid.mk hck
    clear hck
    go_wp2
    go_ret2
    exact ⟨ret_si (by unfold farE; rw [if_neg HK.out]), hB1.out⟩

set_option maxRecDepth 100000 in
set_option maxHeartbeats 1000000 in
theorem yfar_ok (ro co bu : Int) (cs : ByteArray) (a : Option Addr) (n cap : Nat) (fr tt : Nat → Int) (c : Nat) (w : World) (hs : cs.size ≤ maxLen) (hn : n ≤ maxLen) (hcap : n ≤ cap) (hsd : SidesIn w)
    (ha : 0 < n → ∃ b off, a = some ⟨b, off, none⟩ ∧ CartsIn w b off n fr tt) (hck : (checkM ro co cs n fr tt bu).1 = 0) (hfr : freeB cs c = true) :
    Calls Tryd.prog 14 #[.agg #[.int .i64 ro, .int .i64 co, .string cs, .slice a n cap, .int .i64 bu], .int .i64 c] w fun e w' =>
      ∃ (g : Nat) (st : Nat → Int), e = .returned (.tuple #[.slice (some ⟨g, 0, none⟩) cs.size cs.size, .int .i64 0]) ∧ w.heap.size ≤ g ∧ IsFar cs.size (adjM co cs) c st ∧ w'.rowIs g 3 cs.size (intV st) ∧ Below w.heap.size w w' := by
  obtain ⟨sd1, sd2, hsz⟩ := checkM_good hck
  obtain ⟨r1, r2⟩ := side_bd sd1
  obtain ⟨r3, r4⟩ := side_bd sd2
  have Hsz := Hid.mk hsz
  have Hsd := Hid.mk hsd
  have hck' : ((checkM ro co cs n fr tt bu).1 != 0) = false := by rw [hck]; rfl
  clear hsz sd1 sd2 hck hsd
  go_enter Tryd.func14, Tryd.ntmps14
  go_wp2_with fail
  refine (fault_any _ _ _ _ _ _ _ fr tt _ hs hn hcap (by exact opt_below ha ((Below.refl _ _).alloc (Nat.le_refl _) _))).mono ?_
  rintro e w1 ⟨rfl, hb1⟩
  have y1 : ∀ o, w1.cell? ⟨w.heap.size, o, none⟩ = #[Value.int .i64 ro, .int .i64 co, .string cs, .slice a n cap, .int .i64 bu][o]? := by
    intro o
    rw [hb1.cell (p := ⟨w.heap.size, o, none⟩) (by show w.heap.size < _; simp)]; go_simp
  have hB1 := Hid.mk (((Below.refl _ w).alloc (Nat.le_refl _) _).trans (hb1.mono (by simp)) : Below w.heap.size w w1)
  have hz1 : w.heap.size < w1.heap.size := by have := hb1.size; simp at this; omega
  clear hb1 ha
  go_wp2_with fail
  refine (gfree_any _ _ _ _ _ _ _ hs).mono ?_
  rintro e w2 ⟨rfl, hb2⟩
  have y2 : ∀ o, w2.cell? ⟨w.heap.size, o, none⟩ = #[Value.int .i64 ro, .int .i64 co, .string cs, .slice a n cap, .int .i64 bu][o]? := fun o => (hb2.cell (p := ⟨w.heap.size, o, none⟩) hz1).trans (y1 o)
  have hz2 := hb2.size
  have hB2 := Hid.mk (hB1.out.trans (hb2.mono (by omega)) : Below w.heap.size w w2)
  clear y1 hb2
  go_wp2_with fail
  refine (gfar_any _ _ _ _ _ c _ (by exact Hsd.out.below hB2.out) r1 r2 r3 r4 Hsz.out hfr).mono ?_
  rintro e w3 ⟨g, st, rfl, hg, hf, hr, hb3⟩
  have HF := Hid.mk hf
  have HR := Hid.mk hr
  clear hf hr
  go_wp2
  go_ret2
  exact ⟨g, st, rfl, by omega, HF.out, HR.out, hB2.out.trans (hb3.mono (by omega))⟩

end Go.Proofs.YtnkgpinadgacgaaDoor

/- Walk of Fars: the law answers true. -/
namespace Go.Proofs.YtnkgpinadgacgaaDoor
open Go.RowKit M

set_option maxRecDepth 100000 in
set_option maxHeartbeats 1000000 in
theorem fars_ok (ro co bu : Int) (cs : ByteArray) (a : Option Addr) (n cap : Nat) (fr tt : Nat → Int) (c : Nat) (w : World) (hs : cs.size ≤ maxLen) (hn : n * 16 ≤ 140737488351232) (hsd : SidesIn w)
    (ha : 0 < n → ∃ b off, a = some ⟨b, off, none⟩ ∧ CartsIn w b off n fr tt) (hck : (checkM ro co cs n fr tt bu).1 = 0) (hfr : freeB cs c = true) :
    Calls Tryd.prog 3 #[.agg #[.int .i64 ro, .int .i64 co, .string cs, .slice a n cap, .int .i64 bu], .int .i64 c] w fun e w' =>
      e = .returned (.bool true) ∧ Below w.heap.size w w' := by
  have hnm : n ≤ maxLen := by unfold maxLen; omega
  have HA := Hid.mk ha
  have HSD := Hid.mk hsd
  obtain ⟨sd1, sd2, hsz⟩ := checkM_good hck
  obtain ⟨r1, r2⟩ := side_bd sd1
  obtain ⟨r3, r4⟩ := side_bd sd2
  obtain ⟨hp1, hp2⟩ := mul_bd r1 r2 r3 r4
  have hN2 : cs.size ≤ 36 := by omega
  have hcN : c < cs.size := by
    by_cases e : c < cs.size
    · exact e
    · rw [freeB_out (by omega)] at hfr; cases hfr
  have HK := Hid.mk hck
  have HF := Hid.mk hfr
  clear ha hsd sd1 sd2 hsz hp1 hp2 hck hfr r1 r2 r3 r4
  go_enter Tryd.func3, Tryd.ntmps3
  go_wp2_with fail
  refine (handed_any _ _ _ _ _ _ _ fr tt _ hn (by exact opt_below HA.out ((Below.refl _ _).alloc (Nat.le_refl _) _))).mono ?_
  rintro e w1 ⟨g, rfl, hg, hrow, hb1⟩
  have y1 : ∀ o, w1.cell? ⟨w.heap.size, o, none⟩ = #[Value.int .i64 ro, .int .i64 co, .string cs, .slice a n cap, .int .i64 bu][o]? := by
    intro o
    rw [hb1.cell (p := ⟨w.heap.size, o, none⟩) (by show w.heap.size < _; simp)]; go_simp
  have hB1 := Hid.mk (((Below.refl _ w).alloc (Nat.le_refl _) _).trans (hb1.mono (by simp)) : Below w.heap.size w w1)
  have hz1 : w.heap.size < w1.heap.size := by have := hb1.size; simp at this; omega
  have HR := Hid.mk hrow
  have HA1 := Hid.mk (opt_below HA.out hB1.out)
  have HS1 := Hid.mk (HSD.out.below hB1.out)
  clear hrow hb1
  go_wp2_with fail
  refine (yfar_ok _ _ _ _ _ _ _ fr tt c _ hs hnm (by omega) (by exact HS1.out.below ((Below.refl _ _).alloc (Nat.le_refl _) _)) (by exact fun _ => ⟨g, 0, rfl, (row_carts HR.out).below ((Below.refl _ _).alloc (Nat.le_refl _) _)⟩) HK.out HF.out).mono ?_
  rintro e w2 ⟨ga, sa, rfl, hga, hfa, hra, hb2⟩
  have HFA := Hid.mk hfa
  have hga : w1.heap.size < ga := by simp at hga; omega
  have hB2 := Hid.mk (((Below.refl _ w1).alloc (Nat.le_refl _) _).trans (hb2.mono (by simp)) : Below w1.heap.size w1 w2)
  have y2 : ∀ o, w2.cell? ⟨w.heap.size, o, none⟩ = #[Value.int .i64 ro, .int .i64 co, .string cs, .slice a n cap, .int .i64 bu][o]? := fun o => (hB2.out.cell (p := ⟨w.heap.size, o, none⟩) hz1).trans (y1 o)
  have h2 : ∀ o, w2.cell? ⟨w1.heap.size, o, none⟩ = #[Value.int .i64 ro, .int .i64 co, .string cs, .slice (some ⟨g, 0, none⟩) n (n + 8), .int .i64 bu][o]? := by
    intro o
    rw [hb2.cell (p := ⟨w1.heap.size, o, none⟩) (by show w1.heap.size < _; simp)]; go_simp
  have hz2 : w1.heap.size < w2.heap.size := by have := hb2.size; simp at this; omega
  have HR2 := Hid.mk (rowIs_below HR.out hB2.out)
  have HA2 := Hid.mk (opt_below HA1.out hB2.out)
  have HS2 := Hid.mk (HS1.out.below hB2.out)
  have HRA2 := Hid.mk hra
  clear y1 hb2 hfa hra
  go_wp2_with fail
  refine (yfar_ok _ _ _ _ _ _ _ fr tt c _ hs hnm (by omega) (by exact HS2.out) (by exact fun _ => ⟨g, 0, rfl, row_carts HR2.out⟩) HK.out HF.out).mono ?_
  rintro e w3 ⟨gc, sc, rfl, hgc, hfc, hrc, hb3⟩
  have HFC := Hid.mk hfc
  have hgc : ga < gc := by have := HRA2.out.lt; omega
  have hB3 := Hid.mk hb3
  have y3 : ∀ o, w3.cell? ⟨w.heap.size, o, none⟩ = #[Value.int .i64 ro, .int .i64 co, .string cs, .slice a n cap, .int .i64 bu][o]? := fun o => (hb3.cell (p := ⟨w.heap.size, o, none⟩) (by show w.heap.size < _; omega)).trans (y2 o)
  have h3 : ∀ o, w3.cell? ⟨w1.heap.size, o, none⟩ = #[Value.int .i64 ro, .int .i64 co, .string cs, .slice (some ⟨g, 0, none⟩) n (n + 8), .int .i64 bu][o]? := fun o => (hb3.cell (p := ⟨w1.heap.size, o, none⟩) (by show w1.heap.size < _; omega)).trans (h2 o)
  have hz3 : w2.heap.size ≤ w3.heap.size := hb3.size
  have HR3 := Hid.mk (rowIs_below HR2.out hb3)
  have HA3 := Hid.mk (opt_below HA2.out hb3)
  have HRA3 := Hid.mk (rowIs_below HRA2.out hb3)
  have HRC3 := Hid.mk hrc
  clear y2 h2 hb3 hfc hrc
  go_wp2_with fail
  refine (still_any _ _ _ _ _ _ _ _ fr tt _ hn (by exact HA3.out) (by exact HR3.out)).mono ?_
  rintro e w4 ⟨rfl, hb4⟩
  have hB4 := Hid.mk hb4
  have y4 : ∀ o, w4.cell? ⟨w.heap.size, o, none⟩ = #[Value.int .i64 ro, .int .i64 co, .string cs, .slice a n cap, .int .i64 bu][o]? := fun o => (hb4.cell (p := ⟨w.heap.size, o, none⟩) (by show w.heap.size < _; omega)).trans (y3 o)
  have HA4 := Hid.mk (opt_below HA3.out hb4)
  have hz4 : w3.heap.size ≤ w4.heap.size := hb4.size
  have HRA4 := Hid.mk (rowIs_below HRA3.out hb4)
  have HRC4 := Hid.mk (rowIs_below HRC3.out hb4)
  clear y3 h3 hb4
  go_wp2_with fail
  refine (rfar_ok _ _ _ _ _ _ _ fr tt c _ hs hnm (by exact HA4.out) HK.out HF.out).mono ?_
  rintro e w5 ⟨gb, rfl, hgb, hrb, hb5⟩
  have HRB5 := Hid.mk hrb
  have HRA5 := Hid.mk (rowIs_below HRA4.out hb5)
  have HRC5 := Hid.mk (rowIs_below HRC4.out hb5)
  have hB5 := Hid.mk hb5
  have hz5 : w4.heap.size ≤ w5.heap.size := hb5.size
  clear hrb hb5 y4
  go_wp2_with fail
  refine (sameInts_row ga gb cs.size sa _ _ (by omega) (by exact HRA5.out) (by exact HRB5.out) (fun j hj => HFA.out.unique (orow_isFar hcN) j hj)).mono ?_
  rintro e w6 ⟨rfl, hb6⟩
  have HRA6 := Hid.mk (rowIs_below HRA5.out hb6)
  have HRB6 := Hid.mk (rowIs_below HRB5.out hb6)
  have HRC6 := Hid.mk (rowIs_below HRC5.out hb6)
  have hB6 := Hid.mk hb6
  have hz6 : w5.heap.size ≤ w6.heap.size := hb6.size
  clear hb6
  go_wp2_with fail
  refine (sameInts_row gc gb cs.size sc _ _ (by omega) (by exact HRC6.out) (by exact HRB6.out) (fun j hj => HFC.out.unique (orow_isFar hcN) j hj)).mono ?_
  rintro e w7 ⟨rfl, hb7⟩
  have HRA7 := Hid.mk (rowIs_below HRA6.out hb7)
  have HRC7 := Hid.mk (rowIs_below HRC6.out hb7)
  have hB7 := Hid.mk hb7
  have hz7 : w6.heap.size ≤ w7.heap.size := hb7.size
  clear hb7
  go_wp2_with fail
  refine (apart_rows w.heap.size w7.heap.size ga gc cs.size sa sc _ (by omega) (by omega) (by have := HRA7.out.lt; omega) (by have := HRC7.out.lt; omega) (by omega) (by omega) (by simp; omega) (by simp) (by go_simp) (by go_simp) (by exact HRA7.out.alloc _) (by exact HRC7.out.alloc _)).mono ?_
  rintro e w8 ⟨rfl, hb8⟩
  have hB8 := Hid.mk (((hB5.out.mono (by omega)).trans ((hB6.out.mono (by omega)).trans (hB7.out.mono (by omega)))).trans ((((Below.refl _ w7).alloc (by omega) _).trans hb8) : Below w.heap.size w7 w8) : Below w.heap.size w4 w8)
  clear hb8
  go_wp2_with fail
  refine (num_any _ _).mono ?_
  rintro e w9 ⟨rfl, hw9⟩
  have hw9 := hw9.symm
  subst hw9
  go_wp2_with fail
  refine (num_any _ _).mono ?_
  rintro e w9 ⟨rfl, hw9⟩
  have hw9 := hw9.symm
  subst hw9
  go_wp2
  go_ret
  exact ⟨rfl, (((hB1.out.trans (hB2.out.mono (by omega))).trans (hB3.out.mono (by omega))).trans (hB4.out.mono (by omega))).trans hB8.out⟩

set_option maxRecDepth 100000 in
set_option maxHeartbeats 1000000 in
theorem fars_err (ro co bu : Int) (cs : ByteArray) (a : Option Addr) (n cap : Nat) (fr tt : Nat → Int) (cell : Int) (w : World) (hs : cs.size ≤ maxLen) (hn : n * 16 ≤ 140737488351232) (hsd : SidesIn w)
    (ha : 0 < n → ∃ b off, a = some ⟨b, off, none⟩ ∧ CartsIn w b off n fr tt) (he : farE ro co bu cs n fr tt cell ≠ 0) :
    Calls Tryd.prog 3 #[.agg #[.int .i64 ro, .int .i64 co, .string cs, .slice a n cap, .int .i64 bu], .int .i64 cell] w fun e w' =>
      e = .returned (.bool true) ∧ Below w.heap.size w w' := by
  have hnm : n ≤ maxLen := by unfold maxLen; omega
  have HA := Hid.mk ha
  have HSD := Hid.mk hsd
  have HE := Hid.mk he
  clear ha hsd he
  go_enter Tryd.func3, Tryd.ntmps3
  go_wp2_with fail
  refine (handed_any _ _ _ _ _ _ _ fr tt _ hn (by exact opt_below HA.out ((Below.refl _ _).alloc (Nat.le_refl _) _))).mono ?_
  rintro e w1 ⟨g, rfl, hg, hrow, hb1⟩
  have y1 : ∀ o, w1.cell? ⟨w.heap.size, o, none⟩ = #[Value.int .i64 ro, .int .i64 co, .string cs, .slice a n cap, .int .i64 bu][o]? := by
    intro o
    rw [hb1.cell (p := ⟨w.heap.size, o, none⟩) (by show w.heap.size < _; simp)]; go_simp
  have hB1 := Hid.mk (((Below.refl _ w).alloc (Nat.le_refl _) _).trans (hb1.mono (by simp)) : Below w.heap.size w w1)
  have hz1 : w.heap.size < w1.heap.size := by have := hb1.size; simp at this; omega
  have HR := Hid.mk hrow
  have HA1 := Hid.mk (opt_below HA.out hB1.out)
  have HS1 := Hid.mk (HSD.out.below hB1.out)
  clear hrow hb1
  go_wp2_with fail
  refine (yfar_err _ _ _ _ _ _ _ fr tt cell _ hs hnm (by omega) (by exact fun _ => ⟨g, 0, rfl, (row_carts HR.out).below ((Below.refl _ _).alloc (Nat.le_refl _) _)⟩) HE.out).mono ?_
  rintro e w2 ⟨rfl, hb2⟩
  have hB2 := Hid.mk (((Below.refl _ w1).alloc (Nat.le_refl _) _).trans (hb2.mono (by simp)) : Below w1.heap.size w1 w2)
  have y2 : ∀ o, w2.cell? ⟨w.heap.size, o, none⟩ = #[Value.int .i64 ro, .int .i64 co, .string cs, .slice a n cap, .int .i64 bu][o]? := fun o => (hB2.out.cell (p := ⟨w.heap.size, o, none⟩) hz1).trans (y1 o)
  have h2 : ∀ o, w2.cell? ⟨w1.heap.size, o, none⟩ = #[Value.int .i64 ro, .int .i64 co, .string cs, .slice (some ⟨g, 0, none⟩) n (n + 8), .int .i64 bu][o]? := by
    intro o
    rw [hb2.cell (p := ⟨w1.heap.size, o, none⟩) (by show w1.heap.size < _; simp)]; go_simp
  have hz2 : w1.heap.size < w2.heap.size := by have := hb2.size; simp at this; omega
  have HR2 := Hid.mk (rowIs_below HR.out hB2.out)
  have HA2 := Hid.mk (opt_below HA1.out hB2.out)
  have HS2 := Hid.mk (HS1.out.below hB2.out)
  clear y1 hb2
  go_wp2_with fail
  refine (yfar_err _ _ _ _ _ _ _ fr tt cell _ hs hnm (by omega) (by exact fun _ => ⟨g, 0, rfl, row_carts HR2.out⟩) HE.out).mono ?_
  rintro e w3 ⟨rfl, hb3⟩
  have hB3 := Hid.mk hb3
  have y3 : ∀ o, w3.cell? ⟨w.heap.size, o, none⟩ = #[Value.int .i64 ro, .int .i64 co, .string cs, .slice a n cap, .int .i64 bu][o]? := fun o => (hb3.cell (p := ⟨w.heap.size, o, none⟩) (by show w.heap.size < _; omega)).trans (y2 o)
  have h3 : ∀ o, w3.cell? ⟨w1.heap.size, o, none⟩ = #[Value.int .i64 ro, .int .i64 co, .string cs, .slice (some ⟨g, 0, none⟩) n (n + 8), .int .i64 bu][o]? := fun o => (hb3.cell (p := ⟨w1.heap.size, o, none⟩) (by show w1.heap.size < _; omega)).trans (h2 o)
  have hz3 : w2.heap.size ≤ w3.heap.size := hb3.size
  have HR3 := Hid.mk (rowIs_below HR2.out hb3)
  have HA3 := Hid.mk (opt_below HA2.out hb3)
  clear y2 h2 hb3
  go_wp2_with fail
  refine (still_any _ _ _ _ _ _ _ _ fr tt _ hn (by exact HA3.out) (by exact HR3.out)).mono ?_
  rintro e w4 ⟨rfl, hb4⟩
  have hB4 := Hid.mk hb4
  have y4 : ∀ o, w4.cell? ⟨w.heap.size, o, none⟩ = #[Value.int .i64 ro, .int .i64 co, .string cs, .slice a n cap, .int .i64 bu][o]? := fun o => (hb4.cell (p := ⟨w.heap.size, o, none⟩) (by show w.heap.size < _; omega)).trans (y3 o)
  have HA4 := Hid.mk (opt_below HA3.out hb4)
  have hz4 : w3.heap.size ≤ w4.heap.size := hb4.size
  clear y3 h3 hb4
  go_wp2_with fail
  refine (rfar_err _ _ _ _ _ _ _ fr tt cell _ hs hnm (by exact HA4.out) HE.out).mono ?_
  rintro e w5 ⟨rfl, hb5⟩
  have hB5 := Hid.mk hb5
  have hz5 : w4.heap.size ≤ w5.heap.size := hb5.size
  clear hb5 y4
  go_wp2_with fail
  refine (sameInts_nil _).mono ?_
  rintro e w6 ⟨rfl, hb6⟩
  have hB6 := Hid.mk hb6
  have hz6 : w5.heap.size ≤ w6.heap.size := hb6.size
  clear hb6
  go_wp2_with fail
  refine (sameInts_nil _).mono ?_
  rintro e w7 ⟨rfl, hb7⟩
  have hB7 := Hid.mk hb7
  have hz7 : w6.heap.size ≤ w7.heap.size := hb7.size
  clear hb7
  go_wp2_with fail
  refine (apart_nils w7.heap.size _ (by go_simp) (by go_simp)).mono ?_
  rintro e w8 ⟨rfl, hb8⟩
  have hB8 := Hid.mk (((hB5.out.mono (by omega)).trans ((hB6.out.mono (by omega)).trans (hB7.out.mono (by omega)))).trans ((((Below.refl _ w7).alloc (by omega) _).trans (hb8.mono (by simp; omega))) : Below w.heap.size w7 w8) : Below w.heap.size w4 w8)
  clear hb8
  go_wp2_with fail
  refine (num_any _ _).mono ?_
  rintro e w9 ⟨rfl, hw9⟩
  have hw9 := hw9.symm
  subst hw9
  go_wp2_with fail
  refine (num_any _ _).mono ?_
  rintro e w9 ⟨rfl, hw9⟩
  have hw9 := hw9.symm
  subst hw9
  go_wp2
  go_ret
  exact ⟨rfl, (((hB1.out.trans (hB2.out.mono (by omega))).trans (hB3.out.mono (by omega))).trans (hB4.out.mono (by omega))).trans hB8.out⟩

end Go.Proofs.YtnkgpinadgacgaaDoor
