/- Several texts in one: Gm, Gn, Gq. -/
import Derived.Test.YtnkgpinadgacgabDoorMkz
namespace Go.Proofs.YtnkgpinadgacgabDoor
open Go.RowKit M SM
set_option maxRecDepth 1000000 in
set_option maxHeartbeats 4000000 in
theorem swapL_any (S G cap n i j : Nat) (c0 c1 c2 c3 : Value) (it : Nat → LeadM) (w : World) (hh : SrcAt w S c0 c1 c2 c3 (.slice (some ⟨G, 0, none⟩) n cap)) (hit : ItemsL w G cap n it) (hi : i < n) (hj : j < n) :
    Calls Tryd.prog 108 #[.pointer (some ⟨S, 4, none⟩), .int .i64 i, .int .i64 j] w fun e w' =>
      e = .returned (.tuple #[]) ∧ ItemsL w' G cap n (HM.swapIt it i j) ∧ Only (fun k => k = G) w w' := by
  have hrm := hit.room.1
  have HS : (fun u : World => u.cell? ⟨S, 5, none⟩ = some (.slice (some ⟨G, 0, none⟩) n cap) ∧ u.rangeAt G (i * 10) (ldL (it i)) ∧ u.rangeAt G (j * 10) (ldL (it j))) w.drew := ⟨hh.cells.2.2.2.2.2, by simpa using hit.range hi, by simpa using hit.range hj⟩
  have T1 := Hid.mk (show w.drew.there G (i * 10) 10 from by simpa using hit.there (show i < cap by omega))
  have T2 := Hid.mk (show (w.drew.setCells G (i * 10) (ldL (it j))).there G (j * 10) 10 from World.there_setCells (by simpa using hit.there (show j < cap by omega)) _ _ _)
  have W0 : Hid (ItemsL ((w.drew.setCells G (i * 10) (ldL (it j))).setCells G (j * 10) (ldL (it i))) G cap n (HM.swapIt it i j)) := by
    refine ((hit.drew.put i (it j)).put j (it i)).same fun k _ => ?_
    unfold HM.swapIt
    by_cases k1 : k = i
    · subst k1
      by_cases k3 : k = j
      · subst k3; simp
      · simp [k3]
    · by_cases k3 : k = j
      · subst k3; simp [k1]
      · simp [k1, k3]
  have W2 : Hid (Only (fun k => k = G) w ((w.drew.setCells G (i * 10) (ldL (it j))).setCells G (j * 10) (ldL (it i)))) := by
    have O0 : Only (fun k => k = G) w w.drew := (Only.refl _ w).drew
    exact Only.setCells (S := fun k => k = G) (fun _ => rfl) _ _ _ (Only.setCells (S := fun k => k = G) (fun _ => rfl) _ _ _ O0)
  have i1 : (i : Int) < (n : Int) := by omega
  have j1 : (j : Int) < (n : Int) := by omega
  clear hh hit
  go_enter Tryd.func108, Tryd.ntmps108
  go_wp2
  refine wp_region_any (by kernel_rfl) ?_
  change wpAny _ _ _ _ _ _ _ (World.drew _)
  refine wpAny_take (i := 0) (v := .pointer (some ⟨S, 4, none⟩)) rfl (by kernel_rfl) (by kernel_rfl) (by kernel_rfl) (fun _ _ _ h => h) (Or.inl ⟨by rfl, fun u => by go_simp⟩) ?_
  refine wpAny_take (i := 1) (v := .pointer (some ⟨S, 4, none⟩)) rfl (by kernel_rfl) (by kernel_rfl) (by kernel_rfl) (fun _ _ _ h => h) (Or.inl ⟨by rfl, fun u => by go_simp⟩) ?_
  refine wpAny_take (i := 2) (v := .pointer (some ⟨S, 5, none⟩)) rfl (by kernel_rfl) (by kernel_rfl) (by kernel_rfl) (fun _ _ _ h => h) (Or.inl ⟨by rfl, fun u => by go_simp⟩) ?_
  refine wpAny_take (i := 4) (v := .int .i64 (i : Int)) rfl (by kernel_rfl) (by kernel_rfl) (by kernel_rfl) (fun _ _ _ h => h) (Or.inl ⟨by rfl, fun u => by go_simp⟩) ?_
  refine wpAny_take (i := 5) (v := .pointer (some ⟨S, 4, none⟩)) rfl (by kernel_rfl) (by kernel_rfl) (by kernel_rfl) (fun _ _ _ h => h) (Or.inl ⟨by rfl, fun u => by go_simp⟩) ?_
  refine wpAny_take (i := 6) (v := .pointer (some ⟨S, 4, none⟩)) rfl (by kernel_rfl) (by kernel_rfl) (by kernel_rfl) (fun _ _ _ h => h) (Or.inl ⟨by rfl, fun u => by go_simp⟩) ?_
  refine wpAny_take (i := 7) (v := .pointer (some ⟨S, 5, none⟩)) rfl (by kernel_rfl) (by kernel_rfl) (by kernel_rfl) (fun _ _ _ h => h) (Or.inl ⟨by rfl, fun u => by go_simp⟩) ?_
  refine wpAny_take (i := 9) (v := .int .i64 (j : Int)) rfl (by kernel_rfl) (by kernel_rfl) (by kernel_rfl) (fun _ _ _ h => h) (Or.inl ⟨by rfl, fun u => by go_simp⟩) ?_
  refine wpAny_take (i := 10) (v := .pointer (some ⟨S, 4, none⟩)) rfl (by kernel_rfl) (by kernel_rfl) (by kernel_rfl) (fun _ _ _ h => h) (Or.inl ⟨by rfl, fun u => by go_simp⟩) ?_
  refine wpAny_take (i := 11) (v := .pointer (some ⟨S, 4, none⟩)) rfl (by kernel_rfl) (by kernel_rfl) (by kernel_rfl) (fun _ _ _ h => h) (Or.inl ⟨by rfl, fun u => by go_simp⟩) ?_
  refine wpAny_take (i := 12) (v := .pointer (some ⟨S, 5, none⟩)) rfl (by kernel_rfl) (by kernel_rfl) (by kernel_rfl) (fun _ _ _ h => h) (Or.inl ⟨by rfl, fun u => by go_simp⟩) ?_
  refine wpAny_take (i := 14) (v := .int .i64 (j : Int)) rfl (by kernel_rfl) (by kernel_rfl) (by kernel_rfl) (fun _ _ _ h => h) (Or.inl ⟨by rfl, fun u => by go_simp⟩) ?_
  refine wpAny_take (i := 17) (v := .pointer (some ⟨S, 4, none⟩)) rfl (by kernel_rfl) (by kernel_rfl) (by kernel_rfl) (fun _ _ _ h => h) (Or.inl ⟨by rfl, fun u => by go_simp⟩) ?_
  refine wpAny_take (i := 18) (v := .pointer (some ⟨S, 4, none⟩)) rfl (by kernel_rfl) (by kernel_rfl) (by kernel_rfl) (fun _ _ _ h => h) (Or.inl ⟨by rfl, fun u => by go_simp⟩) ?_
  refine wpAny_take (i := 19) (v := .pointer (some ⟨S, 5, none⟩)) rfl (by kernel_rfl) (by kernel_rfl) (by kernel_rfl) (fun _ _ _ h => h) (Or.inl ⟨by rfl, fun u => by go_simp⟩) ?_
  refine wpAny_take (i := 21) (v := .int .i64 (i : Int)) rfl (by kernel_rfl) (by kernel_rfl) (by kernel_rfl) (fun _ _ _ h => h) (Or.inl ⟨by rfl, fun u => by go_simp⟩) ?_
  refine LM.any_of_L (late := LM.lateOf [25, 26, 27]) (S := fun u => u.cell? ⟨S, 5, none⟩ = some (.slice (some ⟨G, 0, none⟩) n cap) ∧ u.rangeAt G (i * 10) (ldL (it i)) ∧ u.rangeAt G (j * 10) (ldL (it j))) _ _ _ _ ?_
  refine LM.L_take (i := 3) (v := .slice (some ⟨G, 0, none⟩) n cap) rfl (by kernel_rfl) (by kernel_rfl) (by kernel_rfl) (by kernel_rfl) (fun _ _ _ h => h) (Or.inl ⟨by rfl, fun u hu => by have h5 := hu.1; go_simp⟩) HS ?_
  refine LM.L_take (i := 8) (v := .slice (some ⟨G, 0, none⟩) n cap) rfl (by kernel_rfl) (by kernel_rfl) (by kernel_rfl) (by kernel_rfl) (fun _ _ _ h => h) (Or.inl ⟨by rfl, fun u hu => by have h5 := hu.1; go_simp⟩) HS ?_
  refine LM.L_take (i := 13) (v := .slice (some ⟨G, 0, none⟩) n cap) rfl (by kernel_rfl) (by kernel_rfl) (by kernel_rfl) (by kernel_rfl) (fun _ _ _ h => h) (Or.inl ⟨by rfl, fun u hu => by have h5 := hu.1; go_simp⟩) HS ?_
  refine LM.L_take (i := 20) (v := .slice (some ⟨G, 0, none⟩) n cap) rfl (by kernel_rfl) (by kernel_rfl) (by kernel_rfl) (by kernel_rfl) (fun _ _ _ h => h) (Or.inl ⟨by rfl, fun u hu => by have h5 := hu.1; go_simp⟩) HS ?_
  refine LM.L_take (i := 15) (v := .pointer (some ⟨G, j * 10, none⟩)) rfl (by kernel_rfl) (by kernel_rfl) (by kernel_rfl) (by kernel_rfl) (fun _ _ _ h => h) (Or.inl ⟨by rfl, fun u _ => by go_simp⟩) HS ?_
  refine LM.L_take (i := 22) (v := .pointer (some ⟨G, i * 10, none⟩)) rfl (by kernel_rfl) (by kernel_rfl) (by kernel_rfl) (by kernel_rfl) (fun _ _ _ h => h) (Or.inl ⟨by rfl, fun u _ => by go_simp⟩) HS ?_
  refine LM.L_take (i := 16) (v := .agg (ldL (it j)).toArray) rfl (by kernel_rfl) (by kernel_rfl) (by kernel_rfl) (by kernel_rfl) (fun _ _ _ h => h) (yieldsIf_load_mid (by rfl) 149 (.tmp 21) rfl G (j * 10) (by go_simp) (ldL (it j)) _ (fun u hu => hu.2.2) Tryd.underlying149 rfl ((congrArg some (ldL_len (it j))).symm ▸ Tryd.sizeLead)) HS ?_
  refine LM.L_take (i := 23) (v := .agg (ldL (it i)).toArray) rfl (by kernel_rfl) (by kernel_rfl) (by kernel_rfl) (by kernel_rfl) (fun _ _ _ h => h) (yieldsIf_load_mid (by rfl) 149 (.tmp 28) rfl G (i * 10) (by go_simp) (ldL (it i)) _ (fun u hu => hu.2.1) Tryd.underlying149 rfl ((congrArg some (ldL_len (it i))).symm ▸ Tryd.sizeLead)) HS ?_
  refine LM.L_take (i := 24) (v := .pointer (some ⟨G, i * 10, none⟩)) rfl (by kernel_rfl) (by kernel_rfl) (by kernel_rfl) (by kernel_rfl) (fun _ _ _ h => h) (Or.inl ⟨by rfl, fun u _ => by go_simp⟩) HS ?_
  refine LM.L_rest (by kernel_rfl) ?_
  refine LM.any_store (i := 25) rfl (by kernel_rfl) rfl 149 (.tmp 30) (.tmp 22) rfl G (i * 10) (ldL (it j)).toArray (by go_simp) (by go_simp) (by exact T1.out) ((congrArg some (ldL_len (it j))).symm ▸ Tryd.sizeLead) (all_oneCell_toArray (ldL_one _)) ?_
  refine wpAny_take (i := 26) (v := .pointer (some ⟨G, j * 10, none⟩)) rfl (by kernel_rfl) (by kernel_rfl) (by kernel_rfl) (fun _ _ _ h => h) (Or.inl ⟨by rfl, fun u => by go_simp⟩) ?_
  refine LM.any_store (i := 27) rfl (by kernel_rfl) rfl 149 (.tmp 31) (.tmp 29) rfl G (j * 10) (ldL (it i)).toArray (by go_simp) (by go_simp) (by exact T2.out) ((congrArg some (ldL_len (it i))).symm ▸ Tryd.sizeLead) (all_oneCell_toArray (ldL_one _)) ?_
  refine wpAny_done (by kernel_rfl) ?_ _
  go_end0
  exact ⟨rfl, W0.out, W2.out⟩

end Go.Proofs.YtnkgpinadgacgabDoor

namespace Go.Proofs.YtnkgpinadgacgabDoor
open Go.RowKit M SM
theorem ltL_is (x y : LeadM) : aheadB (x.c : Nat) (x.k : Nat) (y.c : Nat) (y.k : Nat) = ltL x y := by
  unfold aheadB ltL
  rw [Bool.eq_iff_iff]
  simp only [Bool.or_eq_true, Bool.and_eq_true, decide_eq_true_eq, beq_iff_eq]
  omega

theorem aheadL_any (x y : LeadM) (w : World) : Calls Tryd.prog 80 #[.agg (ldL x).toArray, .agg (ldL y).toArray] w fun e w' => e = .returned (.bool (ltL x y)) ∧ Below w.heap.size w w' := by
  rw [← ltL_is]
  exact jahead_any _ _ _ _ _ _ _ _ _ _ _ _ _ _ _ _ _ _ _ _ w

set_option maxRecDepth 1000000 in
set_option maxHeartbeats 4000000 in
theorem riseL_any (S G cap n a0 f0 : Nat) (c0 c1 c2 c3 : Value) (it : Nat → LeadM) (w : World) (hh : SrcAt w S c0 c1 c2 c3 (.slice (some ⟨G, 0, none⟩) n cap)) (hit : ItemsL w G cap n it) (han : a0 < n) (haf : a0 ≤ f0) (hn : n ≤ 1000000000) :
    Calls Tryd.prog 101 #[.pointer (some ⟨S, 4, none⟩), .int .i64 a0] w fun e w' =>
      e = .returned (.tuple #[]) ∧ ItemsL w' G cap n (HM.riseF ltL f0 it a0) ∧ Only (fun k => k = G) w w' := by
  have HH := Hid.mk hh
  have NE := Hid.mk (src_apart hh hit)
  have hHl := hh.lt
  have IT := Hid.mk hit
  obtain ⟨R, hR⟩ : ∃ R, R = HM.riseF ltL f0 it a0 := ⟨_, rfl⟩
  rw [← hR]
  have HR := Hid.mk hR.symm
  clear hh hit hR
  go_enter Tryd.func101, Tryd.ntmps101
  go_wp2
  go_loopw [1] (fun s wr => ∃ (f b : Nat) (it' : Nat → LeadM), s = .int .i64 b ∧ b < n ∧ b ≤ f ∧ HM.riseF ltL f it' b = R ∧ ItemsL wr G cap n it' ∧ Only (fun k => k = G) w wr) (fun s _ => (intOf s).toNat)
  case atStart => exact ⟨f0, a0, it, rfl, han, haf, HR.out, IT.out, Only.refl _ _⟩
  case round =>
    obtain ⟨wo, rfl⟩ : ∃ x, x = wr := ⟨_, rfl⟩
    obtain ⟨f, b, it', rfl, hb, hbf, hrr, hit, honly⟩ := hrel
    have RR := Hid.mk hrr
    have IT' := Hid.mk hit
    have HO := Hid.mk honly
    have hz := honly.size
    have HHr := Hid.mk (HH.out.block (honly.block _ hHl NE.out))
    clear hrr hit honly
    by_cases h0 : 0 < b
    · obtain ⟨g, rfl⟩ : ∃ g, f = g + 1 := ⟨f - 1, by omega⟩
      obtain ⟨p, hp⟩ : ∃ p, p = (b - 1) / 2 := ⟨_, rfl⟩
      have hpb : p < b := by omega
      have d0 : ((b : Int) - 1) / 2 = (p : Int) := by omega
      have HP := Hid.mk hp
      have b1 : (b : Int) < (n : Int) := by omega
      have p2 : (p : Int) < (n : Int) := by omega
      have hzG : G < wo.heap.size := IT'.out.lt
      have HS : (fun u => u.cell? ⟨S, 4, none⟩ = some (.func (.func 80) #[] #[]) ∧ u.cell? ⟨S, 5, none⟩ = some (.slice (some ⟨G, 0, none⟩) n cap) ∧ u.rangeAt G (b * 10) (ldL (it' b)) ∧ u.rangeAt G (p * 10) (ldL (it' p))) wo.drew := ⟨HHr.out.cells.2.2.2.2.1, HHr.out.cells.2.2.2.2.2, by simpa using IT'.out.range hb, by simpa using IT'.out.range (show p < n by omega)⟩
      clear hp
      go_upto_region 2 with fail
      refine wp_region_any (by kernel_rfl) ?_
      change wpAny _ _ _ _ _ _ _ (World.drew _)
      refine wpAny_take (i := 0) (v := .pointer (some ⟨S, 4, none⟩)) rfl (by kernel_rfl) (by kernel_rfl) (by kernel_rfl) (fun _ _ _ h => h) (Or.inl ⟨by rfl, fun u => by go_simp⟩) ?_
      refine wpAny_take (i := 1) (v := .pointer (some ⟨S, 4, none⟩)) rfl (by kernel_rfl) (by kernel_rfl) (by kernel_rfl) (fun _ _ _ h => h) (Or.inl ⟨by rfl, fun u => by go_simp⟩) ?_
      refine wpAny_take (i := 2) (v := .pointer (some ⟨S, 4, none⟩)) rfl (by kernel_rfl) (by kernel_rfl) (by kernel_rfl) (fun _ _ _ h => h) (Or.inl ⟨by rfl, fun u => by go_simp⟩) ?_
      refine wpAny_take (i := 4) (v := .pointer (some ⟨S, 4, none⟩)) rfl (by kernel_rfl) (by kernel_rfl) (by kernel_rfl) (fun _ _ _ h => h) (Or.inl ⟨by rfl, fun u => by go_simp⟩) ?_
      refine wpAny_take (i := 5) (v := .pointer (some ⟨S, 4, none⟩)) rfl (by kernel_rfl) (by kernel_rfl) (by kernel_rfl) (fun _ _ _ h => h) (Or.inl ⟨by rfl, fun u => by go_simp⟩) ?_
      refine wpAny_take (i := 6) (v := .pointer (some ⟨S, 5, none⟩)) rfl (by kernel_rfl) (by kernel_rfl) (by kernel_rfl) (fun _ _ _ h => h) (Or.inl ⟨by rfl, fun u => by go_simp⟩) ?_
      refine wpAny_take (i := 8) (v := .int .i64 (b : Int)) rfl (by kernel_rfl) (by kernel_rfl) (by kernel_rfl) (fun _ _ _ h => h) (Or.inl ⟨by rfl, fun u => by go_simp⟩) ?_
      refine wpAny_take (i := 11) (v := .pointer (some ⟨S, 4, none⟩)) rfl (by kernel_rfl) (by kernel_rfl) (by kernel_rfl) (fun _ _ _ h => h) (Or.inl ⟨by rfl, fun u => by go_simp⟩) ?_
      refine wpAny_take (i := 12) (v := .pointer (some ⟨S, 4, none⟩)) rfl (by kernel_rfl) (by kernel_rfl) (by kernel_rfl) (fun _ _ _ h => h) (Or.inl ⟨by rfl, fun u => by go_simp⟩) ?_
      refine wpAny_take (i := 13) (v := .pointer (some ⟨S, 5, none⟩)) rfl (by kernel_rfl) (by kernel_rfl) (by kernel_rfl) (fun _ _ _ h => h) (Or.inl ⟨by rfl, fun u => by go_simp⟩) ?_
      refine wpAny_take (i := 15) (v := .int .i64 (p : Int)) rfl (by kernel_rfl) (by kernel_rfl) (by kernel_rfl) (fun _ _ _ h => h) (Or.inl ⟨by rfl, fun u => by go_simp⟩) ?_
      refine LM.any_of_L (late := LM.lateOf [18, 19]) (S := fun u => u.cell? ⟨S, 4, none⟩ = some (.func (.func 80) #[] #[]) ∧ u.cell? ⟨S, 5, none⟩ = some (.slice (some ⟨G, 0, none⟩) n cap) ∧ u.rangeAt G (b * 10) (ldL (it' b)) ∧ u.rangeAt G (p * 10) (ldL (it' p))) _ _ _ _ ?_
      refine LM.L_take (i := 3) (v := .func (.func 80) #[] #[]) rfl (by kernel_rfl) (by kernel_rfl) (by kernel_rfl) (by kernel_rfl) (fun _ _ _ h => h) (Or.inl ⟨by rfl, fun u hu => by have h5 := hu.1; go_simp⟩) HS ?_
      refine LM.L_take (i := 7) (v := .slice (some ⟨G, 0, none⟩) n cap) rfl (by kernel_rfl) (by kernel_rfl) (by kernel_rfl) (by kernel_rfl) (fun _ _ _ h => h) (Or.inl ⟨by rfl, fun u hu => by have h5 := hu.2.1; go_simp⟩) HS ?_
      refine LM.L_take (i := 14) (v := .slice (some ⟨G, 0, none⟩) n cap) rfl (by kernel_rfl) (by kernel_rfl) (by kernel_rfl) (by kernel_rfl) (fun _ _ _ h => h) (Or.inl ⟨by rfl, fun u hu => by have h5 := hu.2.1; go_simp⟩) HS ?_
      refine LM.L_take (i := 9) (v := .pointer (some ⟨G, b * 10, none⟩)) rfl (by kernel_rfl) (by kernel_rfl) (by kernel_rfl) (by kernel_rfl) (fun _ _ _ h => h) (Or.inl ⟨by rfl, fun u _ => by go_simp⟩) HS ?_
      refine LM.L_take (i := 16) (v := .pointer (some ⟨G, p * 10, none⟩)) rfl (by kernel_rfl) (by kernel_rfl) (by kernel_rfl) (by kernel_rfl) (fun _ _ _ h => h) (Or.inl ⟨by rfl, fun u _ => by go_simp⟩) HS ?_
      refine LM.L_take (i := 10) (v := .agg (ldL (it' b)).toArray) rfl (by kernel_rfl) (by kernel_rfl) (by kernel_rfl) (by kernel_rfl) (fun _ _ _ h => h) (yieldsIf_load_mid (by rfl) 149 (.tmp 19) rfl G (b * 10) (by go_simp) (ldL (it' b)) _ (fun u hu => hu.2.2.1) Tryd.underlying149 rfl ((congrArg some (ldL_len (it' b))).symm ▸ Tryd.sizeLead)) HS ?_
      refine LM.L_take (i := 17) (v := .agg (ldL (it' p)).toArray) rfl (by kernel_rfl) (by kernel_rfl) (by kernel_rfl) (by kernel_rfl) (fun _ _ _ h => h) (yieldsIf_load_mid (by rfl) 149 (.tmp 26) rfl G (p * 10) (by go_simp) (ldL (it' p)) _ (fun u hu => hu.2.2.2) Tryd.underlying149 rfl ((congrArg some (ldL_len (it' p))).symm ▸ Tryd.sizeLead)) HS ?_
      refine LM.L_rest (by kernel_rfl) ?_
      refine LM.any_one (i := 18) rfl (by kernel_rfl) rfl (fun K hK => ?_)
      go_simp
      refine (aheadL_any (it' b) (it' p) _).mono ?_
      rintro e w4 ⟨rfl, hb4⟩
      have O4 : Hid (Only (fun k => k = G) w w4) := HO.out.drew.trans (Only.of_below hb4 : Only (fun _ => False) wo.drew w4) (fun _ _ e => e.elim)
      have IT4 := Hid.mk (IT'.out.drew.block (hb4.block _ hzG))
      have HH4 := Hid.mk (HHr.out.block (hb4.block S HHr.out.lt))
      obtain ⟨g2, hg⟩ : ∃ g2, g2 = ltL (it' b) (it' p) := ⟨_, rfl⟩
      have HG := Hid.mk hg
      rw [← hg]
      clear hb4 hg HS
      refine hK _ _ ?_
      refine wpAny_take (i := 19) (v := .bool (!g2)) rfl (by kernel_rfl) (by kernel_rfl) (by kernel_rfl) (fun _ _ _ h => h) (Or.inl ⟨by rfl, fun u => by go_simp⟩) ?_
      refine wpAny_done (by kernel_rfl) ?_ _
      cases g2
      · go_wp2
        refine bodyPost_ret (results_none Tryd.results101 _ _ _) rfl ?_
        refine ⟨rfl, ?_, O4.out⟩
        have h1 := RR.out
        unfold HM.riseF at h1
        rw [if_neg (by rw [← HP.out, ← HG.out]; simp)] at h1
        rw [← h1]; exact IT4.out
      · go_wp2_with fail
        refine (swapL_any S G cap n b p c0 c1 c2 c3 it' _ HH4.out IT4.out hb (by omega)).mono ?_
        rintro e w5 ⟨rfl, hi5, ho5⟩
        have IT5 := Hid.mk hi5
        have HO5 : Hid (Only (fun k => k = G) w w5) := O4.out.trans ho5 (fun _ _ e => e)
        clear hi5 ho5
        go_wp2
        go_roundw
        case rel =>
          refine ⟨g, p, HM.swapIt it' b p, rfl, by omega, by omega, ?_, IT5.out, HO5.out⟩
          have h1 := RR.out
          unfold HM.riseF at h1
          rw [if_pos ⟨h0, by rw [← HP.out]; exact HG.out.symm⟩, ← HP.out] at h1
          exact h1
        case measure => simp [intOf]; omega
    · have e0 : b = 0 := by omega
      subst e0
      have E1 : Hid (it' = R) := by
        have h1 := RR.out
        cases f with
        | zero => exact h1
        | succ f => unfold HM.riseF at h1; rw [if_neg (by omega)] at h1; exact h1
      go_wp2
      go_end0
      exact ⟨rfl, by rw [← E1.out]; exact IT'.out, HO.out⟩

end Go.Proofs.YtnkgpinadgacgabDoor

namespace Go.Proofs.YtnkgpinadgacgabDoor
open Go.RowKit M SM
set_option maxRecDepth 1000000 in
set_option maxHeartbeats 8000000 in
theorem sinkL_any (S G cap n f0 : Nat) (c0 c1 c2 c3 : Value) (it : Nat → LeadM) (w : World) (hh : SrcAt w S c0 c1 c2 c3 (.slice (some ⟨G, 0, none⟩) n cap)) (hit : ItemsL w G cap n it) (hf0 : n ≤ f0) (hn : n ≤ 1000000000) :
    Calls Tryd.prog 102 #[.pointer (some ⟨S, 4, none⟩), .int .i64 0] w fun e w' =>
      e = .returned (.tuple #[]) ∧ ItemsL w' G cap n (HM.sinkF ltL n f0 it 0) ∧ Only (fun k => k = G) w w' := by
  have HH := Hid.mk hh
  have NE := Hid.mk (src_apart hh hit)
  have hHl := hh.lt
  have IT := Hid.mk hit
  obtain ⟨R, hR⟩ : ∃ R, R = HM.sinkF ltL n f0 it 0 := ⟨_, rfl⟩
  rw [← hR]
  have HR := Hid.mk hR.symm
  clear hh hit hR
  go_enter Tryd.func102, Tryd.ntmps102
  go_wp2
  go_loopw [1] (fun s wr => ∃ (f b : Nat) (it' : Nat → LeadM), s = .int .i64 b ∧ b ≤ n ∧ n ≤ f + b ∧ HM.sinkF ltL n f it' b = R ∧ ItemsL wr G cap n it' ∧ Only (fun k => k = G) w wr) (fun s _ => n - (intOf s).toNat)
  case atStart => exact ⟨f0, 0, it, rfl, Nat.zero_le _, hf0, HR.out, IT.out, Only.refl _ _⟩
  case round =>
    obtain ⟨wo, rfl⟩ : ∃ x, x = wr := ⟨_, rfl⟩
    obtain ⟨f, b, it', rfl, hb, hbf, hrr, hit, honly⟩ := hrel
    have RR := Hid.mk hrr
    have IT' := Hid.mk hit
    have HO := Hid.mk honly
    have hz := honly.size
    have HHr := Hid.mk (HH.out.block (honly.block _ hHl NE.out))
    have hzH : S < wo.heap.size := by omega
    have hzG : G < wo.heap.size := IT'.out.lt
    clear hrr hit honly
    go_wp2
    go_loopw [4, 5] (fun v s wr => ∃ ff ch : Nat, v = .int .i64 ff ∧ s = .int .i64 ch ∧ 2 * b + 1 ≤ ch ∧ ch ≤ 2 * b + 3 ∧ ff = HM.kidAt ltL n it' b ch ∧ Below wo.heap.size wo wr) (fun _ s _ => 2 * b + 3 - (intOf s).toNat)
    case atStart => exact ⟨b, 2 * b + 1, rfl, by go_num, by omega, by omega, HM.kidAt_start _ _ _ _, Below.refl _ _⟩
    case round =>
      obtain ⟨ff, ch, rfl, rfl, hc1, hc2, hff, hbr⟩ := hrel
      have FF := Hid.mk hff
      have HB := Hid.mk hbr
      have x1 := (HHr.out.block (hbr.block _ hzH)).cells.2.2.2.2.2
      have hzr := hbr.size
      clear hff hbr
      by_cases t1 : ch ≤ 2 * b + 2
      · by_cases t2 : ch < n
        · have hfn : ff < n := by rw [FF.out]; exact HM.kidAt_lt (by omega)
          have ITr := Hid.mk (IT'.out.block (HB.out.block _ hzG))
          have HHq := Hid.mk (HHr.out.block (HB.out.block _ hzH))
          have HS : (fun u => u.cell? ⟨S, 4, none⟩ = some (.func (.func 80) #[] #[]) ∧ u.cell? ⟨S, 5, none⟩ = some (.slice (some ⟨G, 0, none⟩) n cap) ∧ u.rangeAt G (ch * 10) (ldL (it' ch)) ∧ u.rangeAt G (ff * 10) (ldL (it' ff))) wr.drew := ⟨HHq.out.cells.2.2.2.2.1, HHq.out.cells.2.2.2.2.2, by simpa using ITr.out.range t2, by simpa using ITr.out.range hfn⟩
          have b1 : (ch : Int) < (n : Int) := by omega
          have b2 : (ff : Int) < (n : Int) := by omega
          have b3 : (ch : Int) ≤ 2 * (b : Int) + 2 := by omega
          go_upto_region 4 with fail
          refine wp_region_any (by kernel_rfl) ?_
          change wpAny _ _ _ _ _ _ _ (World.drew _)
          refine wpAny_take (i := 0) (v := .pointer (some ⟨S, 4, none⟩)) rfl (by kernel_rfl) (by kernel_rfl) (by kernel_rfl) (fun _ _ _ h => h) (Or.inl ⟨by rfl, fun u => by go_simp⟩) ?_
          refine wpAny_take (i := 1) (v := .pointer (some ⟨S, 4, none⟩)) rfl (by kernel_rfl) (by kernel_rfl) (by kernel_rfl) (fun _ _ _ h => h) (Or.inl ⟨by rfl, fun u => by go_simp⟩) ?_
          refine wpAny_take (i := 2) (v := .pointer (some ⟨S, 4, none⟩)) rfl (by kernel_rfl) (by kernel_rfl) (by kernel_rfl) (fun _ _ _ h => h) (Or.inl ⟨by rfl, fun u => by go_simp⟩) ?_
          refine wpAny_take (i := 4) (v := .pointer (some ⟨S, 4, none⟩)) rfl (by kernel_rfl) (by kernel_rfl) (by kernel_rfl) (fun _ _ _ h => h) (Or.inl ⟨by rfl, fun u => by go_simp⟩) ?_
          refine wpAny_take (i := 5) (v := .pointer (some ⟨S, 4, none⟩)) rfl (by kernel_rfl) (by kernel_rfl) (by kernel_rfl) (fun _ _ _ h => h) (Or.inl ⟨by rfl, fun u => by go_simp⟩) ?_
          refine wpAny_take (i := 6) (v := .pointer (some ⟨S, 5, none⟩)) rfl (by kernel_rfl) (by kernel_rfl) (by kernel_rfl) (fun _ _ _ h => h) (Or.inl ⟨by rfl, fun u => by go_simp⟩) ?_
          refine wpAny_take (i := 8) (v := .int .i64 (ch : Int)) rfl (by kernel_rfl) (by kernel_rfl) (by kernel_rfl) (fun _ _ _ h => h) (Or.inl ⟨by rfl, fun u => by go_simp⟩) ?_
          refine wpAny_take (i := 11) (v := .pointer (some ⟨S, 4, none⟩)) rfl (by kernel_rfl) (by kernel_rfl) (by kernel_rfl) (fun _ _ _ h => h) (Or.inl ⟨by rfl, fun u => by go_simp⟩) ?_
          refine wpAny_take (i := 12) (v := .pointer (some ⟨S, 4, none⟩)) rfl (by kernel_rfl) (by kernel_rfl) (by kernel_rfl) (fun _ _ _ h => h) (Or.inl ⟨by rfl, fun u => by go_simp⟩) ?_
          refine wpAny_take (i := 13) (v := .pointer (some ⟨S, 5, none⟩)) rfl (by kernel_rfl) (by kernel_rfl) (by kernel_rfl) (fun _ _ _ h => h) (Or.inl ⟨by rfl, fun u => by go_simp⟩) ?_
          refine wpAny_take (i := 15) (v := .int .i64 (ff : Int)) rfl (by kernel_rfl) (by kernel_rfl) (by kernel_rfl) (fun _ _ _ h => h) (Or.inl ⟨by rfl, fun u => by go_simp⟩) ?_
          refine LM.any_of_L (late := LM.lateOf [18]) (S := fun u => u.cell? ⟨S, 4, none⟩ = some (.func (.func 80) #[] #[]) ∧ u.cell? ⟨S, 5, none⟩ = some (.slice (some ⟨G, 0, none⟩) n cap) ∧ u.rangeAt G (ch * 10) (ldL (it' ch)) ∧ u.rangeAt G (ff * 10) (ldL (it' ff))) _ _ _ _ ?_
          refine LM.L_take (i := 3) (v := .func (.func 80) #[] #[]) rfl (by kernel_rfl) (by kernel_rfl) (by kernel_rfl) (by kernel_rfl) (fun _ _ _ h => h) (Or.inl ⟨by rfl, fun u hu => by have h5 := hu.1; go_simp⟩) HS ?_
          refine LM.L_take (i := 7) (v := .slice (some ⟨G, 0, none⟩) n cap) rfl (by kernel_rfl) (by kernel_rfl) (by kernel_rfl) (by kernel_rfl) (fun _ _ _ h => h) (Or.inl ⟨by rfl, fun u hu => by have h5 := hu.2.1; go_simp⟩) HS ?_
          refine LM.L_take (i := 14) (v := .slice (some ⟨G, 0, none⟩) n cap) rfl (by kernel_rfl) (by kernel_rfl) (by kernel_rfl) (by kernel_rfl) (fun _ _ _ h => h) (Or.inl ⟨by rfl, fun u hu => by have h5 := hu.2.1; go_simp⟩) HS ?_
          refine LM.L_take (i := 9) (v := .pointer (some ⟨G, ch * 10, none⟩)) rfl (by kernel_rfl) (by kernel_rfl) (by kernel_rfl) (by kernel_rfl) (fun _ _ _ h => h) (Or.inl ⟨by rfl, fun u _ => by go_simp⟩) HS ?_
          refine LM.L_take (i := 16) (v := .pointer (some ⟨G, ff * 10, none⟩)) rfl (by kernel_rfl) (by kernel_rfl) (by kernel_rfl) (by kernel_rfl) (fun _ _ _ h => h) (Or.inl ⟨by rfl, fun u _ => by go_simp⟩) HS ?_
          refine LM.L_take (i := 10) (v := .agg (ldL (it' ch)).toArray) rfl (by kernel_rfl) (by kernel_rfl) (by kernel_rfl) (by kernel_rfl) (fun _ _ _ h => h) (yieldsIf_load_mid (by rfl) 149 (.tmp 35) rfl G (ch * 10) (by go_simp) (ldL (it' ch)) _ (fun u hu => hu.2.2.1) Tryd.underlying149 rfl ((congrArg some (ldL_len (it' ch))).symm ▸ Tryd.sizeLead)) HS ?_
          refine LM.L_take (i := 17) (v := .agg (ldL (it' ff)).toArray) rfl (by kernel_rfl) (by kernel_rfl) (by kernel_rfl) (by kernel_rfl) (fun _ _ _ h => h) (yieldsIf_load_mid (by rfl) 149 (.tmp 42) rfl G (ff * 10) (by go_simp) (ldL (it' ff)) _ (fun u hu => hu.2.2.2) Tryd.underlying149 rfl ((congrArg some (ldL_len (it' ff))).symm ▸ Tryd.sizeLead)) HS ?_
          refine LM.L_rest (by kernel_rfl) ?_
          refine LM.any_one (i := 18) rfl (by kernel_rfl) rfl (fun K hK => ?_)
          go_simp
          refine (aheadL_any (it' ch) (it' ff) _).mono ?_
          rintro e w4 ⟨rfl, hb4⟩
          have HB4 : Hid (Below wo.heap.size wo w4) := HB.out.drew.trans (hb4.mono (by show wo.heap.size ≤ wr.heap.size; omega))
          obtain ⟨g2, hg⟩ : ∃ g2, g2 = ltL (it' ch) (it' ff) := ⟨_, rfl⟩
          have HG := Hid.mk hg
          rw [← hg]
          clear hb4 hg HS x1
          refine hK _ _ ?_
          refine wpAny_done (by kernel_rfl) ?_ _
          have KS := Hid.mk (HM.kidAt_step (lt := ltL) (n := n) (it := it') (b := b) (ch := ch) hc1 t1 t2)
          cases g2
          · go_wp2
            go_roundw
            case rel =>
              refine ⟨ff, ch + 1, rfl, by go_num, by omega, by omega, ?_, HB4.out⟩
              rw [KS.out, ← FF.out, if_neg (by rw [← HG.out]; simp)]
            case measure => simp [intOf]; omega
          · go_wp2
            go_roundw
            case rel =>
              refine ⟨ch, ch + 1, rfl, by go_num, by omega, by omega, ?_, HB4.out⟩
              rw [KS.out, ← FF.out, if_pos HG.out.symm]
            case measure => simp [intOf]; omega
        · have t3 : ¬ (ch : Int) < (n : Int) := by omega
          have KD : Hid (ff = HM.kid2 ltL n it' b) := by unfold Hid; rw [FF.out]; exact HM.kidAt_done hc1 hc2 (.inr t2)
          have ITr := Hid.mk (IT'.out.block (HB.out.block _ hzG))
          have HHf := Hid.mk (HHr.out.block (HB.out.block _ hzH))
          have HOr : Hid (Only (fun k => k = G) w wr) := HO.out.trans (Only.of_below HB.out : Only (fun _ => False) wo wr) (fun _ _ e => e.elim)
          by_cases q : ((ff : Int) == (b : Int)) = true
          · have Q : Hid (ff = b) := by
              have : (ff : Int) = b := by simpa using q
              unfold Hid; omega
            go_wp2
            refine bodyPost_ret (results_none Tryd.results102 _ _ _) rfl ?_
            refine ⟨rfl, ?_, HOr.out⟩
            have h1 := RR.out
            have e1 : it' = R := by
              cases f with
              | zero => exact h1
              | succ f => unfold HM.sinkF at h1; rw [if_pos (by rw [← KD.out]; exact Q.out)] at h1; exact h1
            rw [← e1]; exact ITr.out
          · have q' : ((ff : Int) == (b : Int)) = false := by simpa using q
            have Q : Hid (ff ≠ b) := by
              have : ¬ (ff : Int) = b := by simpa using q
              unfold Hid; omega
            clear q
            have hk := HM.kid2_is ltL n it' b
            rw [← KD.out] at hk
            have hfn : b < ff ∧ ff < n := by
              rcases hk with e | e
              · exact absurd e Q.out
              · exact ⟨e.1, e.2.1⟩
            clear hk
            obtain ⟨y1, y2⟩ := hfn
            obtain ⟨g, rfl⟩ : ∃ g, f = g + 1 := ⟨f - 1, by omega⟩
            go_wp2_with fail
            refine (swapL_any S G cap n b ff c0 c1 c2 c3 it' _ HHf.out ITr.out (by omega) y2).mono ?_
            rintro e w5 ⟨rfl, hi5, ho5⟩
            have IT5 := Hid.mk hi5
            have HO5 : Hid (Only (fun k => k = G) w w5) := HOr.out.trans ho5 (fun _ _ e => e)
            clear hi5 ho5 x1
            go_wp2
            go_roundw
            case rel =>
              refine ⟨g, ff, HM.swapIt it' b ff, rfl, by omega, by omega, ?_, IT5.out, HO5.out⟩
              have h1 := RR.out
              unfold HM.sinkF at h1
              rw [if_neg (by rw [← KD.out]; exact Q.out), ← KD.out] at h1
              exact h1
            case measure => simp [intOf]; omega
      · have t3 : ¬ (ch : Int) ≤ 2 * (b : Int) + 2 := by omega
        have KD : Hid (ff = HM.kid2 ltL n it' b) := by unfold Hid; rw [FF.out]; exact HM.kidAt_done hc1 hc2 (.inl t1)
        have ITr := Hid.mk (IT'.out.block (HB.out.block _ hzG))
        have HHf := Hid.mk (HHr.out.block (HB.out.block _ hzH))
        have HOr : Hid (Only (fun k => k = G) w wr) := HO.out.trans (Only.of_below HB.out : Only (fun _ => False) wo wr) (fun _ _ e => e.elim)
        by_cases q : ((ff : Int) == (b : Int)) = true
        · have Q : Hid (ff = b) := by
            have : (ff : Int) = b := by simpa using q
            unfold Hid; omega
          go_wp2
          refine bodyPost_ret (results_none Tryd.results102 _ _ _) rfl ?_
          refine ⟨rfl, ?_, HOr.out⟩
          have h1 := RR.out
          have e1 : it' = R := by
            cases f with
            | zero => exact h1
            | succ f => unfold HM.sinkF at h1; rw [if_pos (by rw [← KD.out]; exact Q.out)] at h1; exact h1
          rw [← e1]; exact ITr.out
        · have q' : ((ff : Int) == (b : Int)) = false := by simpa using q
          have Q : Hid (ff ≠ b) := by
            have : ¬ (ff : Int) = b := by simpa using q
            unfold Hid; omega
          clear q
          have hk := HM.kid2_is ltL n it' b
          rw [← KD.out] at hk
          have hfn : b < ff ∧ ff < n := by
            rcases hk with e | e
            · exact absurd e Q.out
            · exact ⟨e.1, e.2.1⟩
          clear hk
          obtain ⟨y1, y2⟩ := hfn
          obtain ⟨g, rfl⟩ : ∃ g, f = g + 1 := ⟨f - 1, by omega⟩
          go_wp2_with fail
          refine (swapL_any S G cap n b ff c0 c1 c2 c3 it' _ HHf.out ITr.out (by omega) y2).mono ?_
          rintro e w5 ⟨rfl, hi5, ho5⟩
          have IT5 := Hid.mk hi5
          have HO5 : Hid (Only (fun k => k = G) w w5) := HOr.out.trans ho5 (fun _ _ e => e)
          clear hi5 ho5 x1
          go_wp2
          go_roundw
          case rel =>
            refine ⟨g, ff, HM.swapIt it' b ff, rfl, by omega, by omega, ?_, IT5.out, HO5.out⟩
            have h1 := RR.out
            unfold HM.sinkF at h1
            rw [if_neg (by rw [← KD.out]; exact Q.out), ← KD.out] at h1
            exact h1
          case measure => simp [intOf]; omega

end Go.Proofs.YtnkgpinadgacgabDoor
