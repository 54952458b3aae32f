/- Walks of sameInts, fill, filled. -/
import Derived.Test.YtaldfpoolajoiaaDoorWk
namespace Go.Proofs.YtaldfpoolajoiaaDoor
open Go.RowKit M

set_option maxRecDepth 100000 in
set_option maxHeartbeats 400000 in
theorem sameInts_row (g1 g2 N : Nat) (f1 f2 : Nat → Int) (w : World) (hN : N ≤ 1000) (h1 : w.rowIs g1 3 N (intV f1)) (h2 : w.rowIs g2 3 N (intV f2)) (he : ∀ j, j < N → f1 j = f2 j) :
    Calls Tryd.prog 13 #[.slice (some ⟨g1, 0, none⟩) N N, .slice (some ⟨g2, 0, none⟩) N N] w fun e w' => e = .returned (.bool true) ∧ Below w.heap.size w w' := by
  have H1 := Hid.mk h1
  have H2 := Hid.mk h2
  have HE := Hid.mk he
  clear h1 h2 he
  go_enter Tryd.func13, Tryd.ntmps13
  go_wp2
  go_loopw [5] (fun s wr => ∃ k : Nat, k ≤ N ∧ s = .int .i64 k ∧ Below w.heap.size w wr) (fun s _ => N - (intOf s).toNat)
  case atStart => exact ⟨0, Nat.zero_le _, rfl, Below.refl _ _⟩
  case round =>
    obtain ⟨k, hk, rfl, hbr⟩ := hrel
    have HB := Hid.mk hbr
    by_cases hlt : k < N
    · have c1 := (rowIs_below H1.out hbr).cell hlt
      have c2 := (rowIs_below H2.out hbr).cell hlt
      rw [show intV f1 k = Value.int .i64 (f1 k) from rfl, HE.out k hlt] at c1
      rw [show intV f2 k = Value.int .i64 (f2 k) from rfl] at c2
      clear hbr
      go_wp2
      go_quiet (fail)
      go_wp2
      go_roundw
      case rel => exact ⟨k + 1, by omega, by go_num, below_drewN HB.out _⟩
      case measure => simp [intOf]; omega
    · clear hbr
      go_wp2
      go_ret
      exact ⟨rfl, HB.out⟩

set_option maxHeartbeats 400000 in
theorem sameInts_nil (w : World) :
    Calls Tryd.prog 13 #[.slice none 0 0, .slice none 0 0] w fun e w' => e = .returned (.bool true) ∧ Below w.heap.size w w' := by
  go_enter Tryd.func13, Tryd.ntmps13
  go_wp2
  go_loopw [5] (fun s wr => s = .int .i64 0 ∧ wr = w) (fun _ _ => 0)
  case atStart => exact ⟨rfl, rfl⟩
  case round =>
    obtain ⟨rfl, rfl⟩ := hrel
    go_wp2
    go_ret
    exact ⟨rfl, Below.refl _ _⟩

theorem row_olds {w w' : World} {g N : Nat} {t : TypeId} {m : Int} (h : w.rowIs g t N (intV (fun _ => m))) (hb : Below w.heap.size w w') :
    ∀ b, some (⟨g, 0, none⟩ : Addr) = some b → ∀ j u, (List.replicate N (Value.int .i64 m))[j]? = some u → w'.cell? (b.add j) = some u := by
  intro b hb' j u hj
  cases hb'
  have hjl : j < N := by have := (List.getElem?_eq_some_iff.1 hj).1; simpa using this
  have e1 : (⟨g, 0, none⟩ : Addr).add j = ⟨g, j, none⟩ := by unfold Addr.add; split <;> simp_all
  rw [e1, (rowIs_below h hb).cell hjl]
  simp [hjl] at hj
  rw [← hj]; rfl

set_option maxRecDepth 100000 in
set_option maxHeartbeats 400000 in
theorem fill_row (g N : Nat) (f : Nat → Int) (m : Int) (w : World) (hN : N ≤ 1000) (h1 : w.rowIs g 3 N (intV f)) :
    Calls Tryd.prog 44 #[.slice (some ⟨g, 0, none⟩) N N, .int .i64 m] w fun e w' =>
      ∃ g' cap', e = .returned (.slice (some ⟨g', 0, none⟩) (N + 1) cap') ∧ w'.ownsRow w.heap.size 3 1 (.slice (some ⟨g', 0, none⟩) (N + 1) cap') (N + 1) (List.replicate (N + 1) (.int .i64 m)) ∧
        w'.rowIs g 3 N (intV (fun _ => m)) ∧ w.grownBy w' (some g) := by
  have hg := h1.lt
  have H1 := Hid.mk h1
  clear h1
  go_enter Tryd.func44, Tryd.ntmps44
  go_wp2
  go_loopw [5] (fun s wr => ∃ k : Nat, k ≤ N ∧ s = .int .i64 k ∧ wr.rowIs g 3 N (intV (fun j => if j < k then m else f j)) ∧ w.grownBy wr (some g) ∧ wr.heap.size = w.heap.size) (fun s _ => N - (intOf s).toNat)
  case atStart => exact ⟨0, Nat.zero_le _, rfl, H1.out.congr (fun i _ => by simp [intV]), ⟨rfl, rfl, rfl, Nat.le_refl _, fun _ _ _ => rfl⟩, rfl⟩
  case round =>
    obtain ⟨k, hk, rfl, hrw, hgr, hsz⟩ := hrel
    have HR := Hid.mk hrw
    have HG := Hid.mk hgr
    have HS := Hid.mk hsz
    by_cases hlt : k < N
    · have x1 := hrw.cell (i := k) hlt
      have x3 := hrw.frozen
      clear hrw hgr hsz
      go_wp2
      go_roundw
      case rel =>
        refine ⟨k + 1, by omega, by go_num, row_store HR.out k m (fun j _ => by by_cases e : j = k <;> simp [e] <;> split <;> split <;> (try rfl) <;> omega), ?_, by simp [World.setCell]; exact HS.out⟩
        exact ⟨HG.out.os, HG.out.tape, HG.out.output, by simp [World.setCell]; exact HG.out.size, fun i hi hne => by
          rw [Below.heap_setCell _ _ _ _ (by show i ≠ g; intro e; exact hne (by rw [e]))]; exact HG.out.block i hi hne⟩
      case measure => simp [intOf]; omega
    · have hd : k = N := by omega
      have HRm : Hid (wr.rowIs g 3 N (intV (fun _ => m))) := row_same HR.out (fun j hj => by rw [if_pos (by omega)])
      clear hrw hgr hsz
      go_wp2_with (at_builtin; go_must (refine wpList_push_full rfl _ _ 26 rfl 3 _ _ Tryd.underlying26 Tryd.infoInt rfl (some ⟨g, 0, none⟩) N (List.replicate N (.int .i64 m)) rfl (fun h => by cases h) (by simp) (by exact row_olds HRm.out ((Below.refl _ _).alloc (Nat.le_refl _) _)) _ _ (.int .i64 m) rfl (by go_simp) rfl (by unfold maxLen; omega) (by omega) ?_))
      intro g' cap' w8 ho hb
      have hs8 : w.heap.size ≤ wr.heap.size := HG.out.size
      have HO := Hid.mk ho
      have HB8 := Hid.mk (((Below.refl _ wr).alloc (Nat.le_refl _) _).trans (hb.mono (by simp)) : Below wr.heap.size wr w8)
      clear ho hb
      go_wp2
      go_ret
      refine ⟨g', cap', rfl, ?_, rowIs_below HRm.out HB8.out, ?_⟩
      · have := own_base HO.out (show w.heap.size ≤ wr.heap.size + 1 by omega)
        rw [List.replicate_succ']; exact this
      · exact ⟨HB8.out.os.trans HG.out.os, HB8.out.tape.trans HG.out.tape, HB8.out.output.trans HG.out.output, Nat.le_trans HG.out.size HB8.out.size, fun i hi hne => (HB8.out.block i (by omega)).trans (HG.out.block i hi hne)⟩

set_option maxRecDepth 100000 in
set_option maxHeartbeats 400000 in
theorem fill_nil (m : Int) (w : World) :
    Calls Tryd.prog 44 #[.slice none 0 0, .int .i64 m] w fun e w' =>
      ∃ g' cap', e = .returned (.slice (some ⟨g', 0, none⟩) 1 cap') ∧ w'.ownsRow w.heap.size 3 1 (.slice (some ⟨g', 0, none⟩) 1 cap') 1 (List.replicate 1 (.int .i64 m)) ∧ Below w.heap.size w w' := by
  go_enter Tryd.func44, Tryd.ntmps44
  go_wp2
  go_loopw [5] (fun s wr => s = .int .i64 0 ∧ wr = w) (fun _ _ => 0)
  case atStart => exact ⟨rfl, rfl⟩
  case round =>
    obtain ⟨rfl, hwr⟩ := hrel
    have hwr := hwr.symm
    subst hwr
    go_wp2_with (at_builtin; go_must (refine wpList_push_full rfl _ _ 26 rfl 3 _ _ Tryd.underlying26 Tryd.infoInt rfl none 0 [] rfl (fun _ => ⟨rfl, rfl⟩) rfl (fun b h => by cases h) _ _ (.int .i64 m) rfl (by go_simp) rfl (by decide) (by decide) ?_))
    intro g' cap' w8 ho hb
    have HO := Hid.mk ho
    have HB8 := Hid.mk (((Below.refl _ w).alloc (Nat.le_refl _) _).trans (hb.mono (by simp)) : Below w.heap.size w w8)
    clear ho hb
    go_wp2
    go_ret
    exact ⟨g', cap', rfl, own_base HO.out (by simp), HB8.out⟩

set_option maxRecDepth 100000 in
set_option maxHeartbeats 400000 in
theorem filled_any (ao : Option Addr) (n cap : Nat) (m : Int) (w : World) (hn : n ≤ 1100) (h1 : 0 < n → ∃ g, ao = some ⟨g, 0, none⟩ ∧ ∀ j, j < n → w.cell? ⟨g, j, none⟩ = some (.int .i64 m)) :
    Calls Tryd.prog 45 #[.slice ao n cap, .int .i64 m] w fun e w' => e = .returned (.bool true) ∧ w' = w := by
  have H1 := Hid.mk h1
  clear h1
  go_enter Tryd.func45, Tryd.ntmps45
  go_wp2
  go_loop [5] (fun s => ∃ k : Nat, k ≤ n ∧ s = .int .i64 k) (fun s => n - (intOf s).toNat)
  case atStart => exact ⟨0, Nat.zero_le _, rfl⟩
  case round =>
    obtain ⟨k, hk, rfl⟩ := hrel
    by_cases hlt : k < n
    · obtain ⟨g, rfl, hc⟩ := H1.out (by omega)
      have c1 := hc k hlt
      clear hc
      go_wp2
      go_round
      case rel => exact ⟨k + 1, by omega, by go_num⟩
      case measure => simp [intOf]; omega
    · go_wp2
      go_ret
      exact ⟨rfl, rfl⟩

end Go.Proofs.YtaldfpoolajoiaaDoor
