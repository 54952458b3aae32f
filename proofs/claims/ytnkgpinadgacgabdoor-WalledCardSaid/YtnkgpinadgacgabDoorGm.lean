/- Walk of swap: two places of the search's heap change their leads. -/
import Derived.Test.YtnkgpinadgacgabDoorGk
namespace Go.Proofs.YtnkgpinadgacgabDoor
open Go.RowKit M SM
set_option maxRecDepth 1000000 in
set_option maxHeartbeats 4000000 in
theorem swapL_any (S G cap n i j : Nat) (c0 c1 c2 c3 : Value) (it : Nat → LeadM) (w : World) (hh : SrcAt w S c0 c1 c2 c3 (.slice (some ⟨G, 0, none⟩) n cap)) (hit : ItemsL w G cap n it) (hi : i < n) (hj : j < n) :
    Calls Tryd.prog 108 #[.pointer (some ⟨S, 4, none⟩), .int .i64 i, .int .i64 j] w fun e w' =>
      e = .returned (.tuple #[]) ∧ ItemsL w' G cap n (HM.swapIt it i j) ∧ Only (fun k => k = G) w w' := by
  have hrm := hit.room.1
  have HS : (fun u : World => u.cell? ⟨S, 5, none⟩ = some (.slice (some ⟨G, 0, none⟩) n cap) ∧ u.rangeAt G (i * 10) (ldL (it i)) ∧ u.rangeAt G (j * 10) (ldL (it j))) w.drew := ⟨hh.cells.2.2.2.2.2, by simpa using hit.range hi, by simpa using hit.range hj⟩
  have T1 := Hid.mk (show w.drew.there G (i * 10) 10 from by simpa using hit.there (show i < cap by omega))
  have T2 := Hid.mk (show (w.drew.setCells G (i * 10) (ldL (it j))).there G (j * 10) 10 from World.there_setCells (by simpa using hit.there (show j < cap by omega)) _ _ _)
  have W0 : Hid (ItemsL ((w.drew.setCells G (i * 10) (ldL (it j))).setCells G (j * 10) (ldL (it i))) G cap n (HM.swapIt it i j)) := by
    refine ((hit.drew.put i (it j)).put j (it i)).same fun k _ => ?_
    unfold HM.swapIt
    by_cases k1 : k = i
    · subst k1
      by_cases k3 : k = j
      · subst k3; simp
      · simp [k3]
    · by_cases k3 : k = j
      · subst k3; simp [k1]
      · simp [k1, k3]
  have W2 : Hid (Only (fun k => k = G) w ((w.drew.setCells G (i * 10) (ldL (it j))).setCells G (j * 10) (ldL (it i)))) := by
    have O0 : Only (fun k => k = G) w w.drew := (Only.refl _ w).drew
    exact Only.setCells (S := fun k => k = G) (fun _ => rfl) _ _ _ (Only.setCells (S := fun k => k = G) (fun _ => rfl) _ _ _ O0)
  have i1 : (i : Int) < (n : Int) := by omega
  have j1 : (j : Int) < (n : Int) := by omega
  clear hh hit
  go_enter Tryd.func108, Tryd.ntmps108
  go_wp2
  refine wp_region_any (by kernel_rfl) ?_
  change wpAny _ _ _ _ _ _ _ (World.drew _)
  refine wpAny_take (i := 0) (v := .pointer (some ⟨S, 4, none⟩)) rfl (by kernel_rfl) (by kernel_rfl) (by kernel_rfl) (fun _ _ _ h => h) (Or.inl ⟨by rfl, fun u => by go_simp⟩) ?_
  refine wpAny_take (i := 1) (v := .pointer (some ⟨S, 4, none⟩)) rfl (by kernel_rfl) (by kernel_rfl) (by kernel_rfl) (fun _ _ _ h => h) (Or.inl ⟨by rfl, fun u => by go_simp⟩) ?_
  refine wpAny_take (i := 2) (v := .pointer (some ⟨S, 5, none⟩)) rfl (by kernel_rfl) (by kernel_rfl) (by kernel_rfl) (fun _ _ _ h => h) (Or.inl ⟨by rfl, fun u => by go_simp⟩) ?_
  refine wpAny_take (i := 4) (v := .int .i64 (i : Int)) rfl (by kernel_rfl) (by kernel_rfl) (by kernel_rfl) (fun _ _ _ h => h) (Or.inl ⟨by rfl, fun u => by go_simp⟩) ?_
  refine wpAny_take (i := 5) (v := .pointer (some ⟨S, 4, none⟩)) rfl (by kernel_rfl) (by kernel_rfl) (by kernel_rfl) (fun _ _ _ h => h) (Or.inl ⟨by rfl, fun u => by go_simp⟩) ?_
  refine wpAny_take (i := 6) (v := .pointer (some ⟨S, 4, none⟩)) rfl (by kernel_rfl) (by kernel_rfl) (by kernel_rfl) (fun _ _ _ h => h) (Or.inl ⟨by rfl, fun u => by go_simp⟩) ?_
  refine wpAny_take (i := 7) (v := .pointer (some ⟨S, 5, none⟩)) rfl (by kernel_rfl) (by kernel_rfl) (by kernel_rfl) (fun _ _ _ h => h) (Or.inl ⟨by rfl, fun u => by go_simp⟩) ?_
  refine wpAny_take (i := 9) (v := .int .i64 (j : Int)) rfl (by kernel_rfl) (by kernel_rfl) (by kernel_rfl) (fun _ _ _ h => h) (Or.inl ⟨by rfl, fun u => by go_simp⟩) ?_
  refine wpAny_take (i := 10) (v := .pointer (some ⟨S, 4, none⟩)) rfl (by kernel_rfl) (by kernel_rfl) (by kernel_rfl) (fun _ _ _ h => h) (Or.inl ⟨by rfl, fun u => by go_simp⟩) ?_
  refine wpAny_take (i := 11) (v := .pointer (some ⟨S, 4, none⟩)) rfl (by kernel_rfl) (by kernel_rfl) (by kernel_rfl) (fun _ _ _ h => h) (Or.inl ⟨by rfl, fun u => by go_simp⟩) ?_
  refine wpAny_take (i := 12) (v := .pointer (some ⟨S, 5, none⟩)) rfl (by kernel_rfl) (by kernel_rfl) (by kernel_rfl) (fun _ _ _ h => h) (Or.inl ⟨by rfl, fun u => by go_simp⟩) ?_
  refine wpAny_take (i := 14) (v := .int .i64 (j : Int)) rfl (by kernel_rfl) (by kernel_rfl) (by kernel_rfl) (fun _ _ _ h => h) (Or.inl ⟨by rfl, fun u => by go_simp⟩) ?_
  refine wpAny_take (i := 17) (v := .pointer (some ⟨S, 4, none⟩)) rfl (by kernel_rfl) (by kernel_rfl) (by kernel_rfl) (fun _ _ _ h => h) (Or.inl ⟨by rfl, fun u => by go_simp⟩) ?_
  refine wpAny_take (i := 18) (v := .pointer (some ⟨S, 4, none⟩)) rfl (by kernel_rfl) (by kernel_rfl) (by kernel_rfl) (fun _ _ _ h => h) (Or.inl ⟨by rfl, fun u => by go_simp⟩) ?_
  refine wpAny_take (i := 19) (v := .pointer (some ⟨S, 5, none⟩)) rfl (by kernel_rfl) (by kernel_rfl) (by kernel_rfl) (fun _ _ _ h => h) (Or.inl ⟨by rfl, fun u => by go_simp⟩) ?_
  refine wpAny_take (i := 21) (v := .int .i64 (i : Int)) rfl (by kernel_rfl) (by kernel_rfl) (by kernel_rfl) (fun _ _ _ h => h) (Or.inl ⟨by rfl, fun u => by go_simp⟩) ?_
  refine LM.any_of_L (late := LM.lateOf [25, 26, 27]) (S := fun u => u.cell? ⟨S, 5, none⟩ = some (.slice (some ⟨G, 0, none⟩) n cap) ∧ u.rangeAt G (i * 10) (ldL (it i)) ∧ u.rangeAt G (j * 10) (ldL (it j))) _ _ _ _ ?_
  refine LM.L_take (i := 3) (v := .slice (some ⟨G, 0, none⟩) n cap) rfl (by kernel_rfl) (by kernel_rfl) (by kernel_rfl) (by kernel_rfl) (fun _ _ _ h => h) (Or.inl ⟨by rfl, fun u hu => by have h5 := hu.1; go_simp⟩) HS ?_
  refine LM.L_take (i := 8) (v := .slice (some ⟨G, 0, none⟩) n cap) rfl (by kernel_rfl) (by kernel_rfl) (by kernel_rfl) (by kernel_rfl) (fun _ _ _ h => h) (Or.inl ⟨by rfl, fun u hu => by have h5 := hu.1; go_simp⟩) HS ?_
  refine LM.L_take (i := 13) (v := .slice (some ⟨G, 0, none⟩) n cap) rfl (by kernel_rfl) (by kernel_rfl) (by kernel_rfl) (by kernel_rfl) (fun _ _ _ h => h) (Or.inl ⟨by rfl, fun u hu => by have h5 := hu.1; go_simp⟩) HS ?_
  refine LM.L_take (i := 20) (v := .slice (some ⟨G, 0, none⟩) n cap) rfl (by kernel_rfl) (by kernel_rfl) (by kernel_rfl) (by kernel_rfl) (fun _ _ _ h => h) (Or.inl ⟨by rfl, fun u hu => by have h5 := hu.1; go_simp⟩) HS ?_
  refine LM.L_take (i := 15) (v := .pointer (some ⟨G, j * 10, none⟩)) rfl (by kernel_rfl) (by kernel_rfl) (by kernel_rfl) (by kernel_rfl) (fun _ _ _ h => h) (Or.inl ⟨by rfl, fun u _ => by go_simp⟩) HS ?_
  refine LM.L_take (i := 22) (v := .pointer (some ⟨G, i * 10, none⟩)) rfl (by kernel_rfl) (by kernel_rfl) (by kernel_rfl) (by kernel_rfl) (fun _ _ _ h => h) (Or.inl ⟨by rfl, fun u _ => by go_simp⟩) HS ?_
  refine LM.L_take (i := 16) (v := .agg (ldL (it j)).toArray) rfl (by kernel_rfl) (by kernel_rfl) (by kernel_rfl) (by kernel_rfl) (fun _ _ _ h => h) (yieldsIf_load_mid (by rfl) 149 (.tmp 21) rfl G (j * 10) (by go_simp) (ldL (it j)) _ (fun u hu => hu.2.2) Tryd.underlying149 rfl ((congrArg some (ldL_len (it j))).symm ▸ Tryd.sizeLead)) HS ?_
  refine LM.L_take (i := 23) (v := .agg (ldL (it i)).toArray) rfl (by kernel_rfl) (by kernel_rfl) (by kernel_rfl) (by kernel_rfl) (fun _ _ _ h => h) (yieldsIf_load_mid (by rfl) 149 (.tmp 28) rfl G (i * 10) (by go_simp) (ldL (it i)) _ (fun u hu => hu.2.1) Tryd.underlying149 rfl ((congrArg some (ldL_len (it i))).symm ▸ Tryd.sizeLead)) HS ?_
  refine LM.L_take (i := 24) (v := .pointer (some ⟨G, i * 10, none⟩)) rfl (by kernel_rfl) (by kernel_rfl) (by kernel_rfl) (by kernel_rfl) (fun _ _ _ h => h) (Or.inl ⟨by rfl, fun u _ => by go_simp⟩) HS ?_
  refine LM.L_rest (by kernel_rfl) ?_
  refine LM.any_store (i := 25) rfl (by kernel_rfl) rfl 149 (.tmp 30) (.tmp 22) rfl G (i * 10) (ldL (it j)).toArray (by go_simp) (by go_simp) (by exact T1.out) ((congrArg some (ldL_len (it j))).symm ▸ Tryd.sizeLead) (all_oneCell_toArray (ldL_one _)) ?_
  refine wpAny_take (i := 26) (v := .pointer (some ⟨G, j * 10, none⟩)) rfl (by kernel_rfl) (by kernel_rfl) (by kernel_rfl) (fun _ _ _ h => h) (Or.inl ⟨by rfl, fun u => by go_simp⟩) ?_
  refine LM.any_store (i := 27) rfl (by kernel_rfl) rfl 149 (.tmp 31) (.tmp 29) rfl G (j * 10) (ldL (it i)).toArray (by go_simp) (by go_simp) (by exact T2.out) ((congrArg some (ldL_len (it i))).symm ▸ Tryd.sizeLead) (all_oneCell_toArray (ldL_one _)) ?_
  refine wpAny_done (by kernel_rfl) ?_ _
  go_end0
  exact ⟨rfl, W0.out, W2.out⟩

end Go.Proofs.YtnkgpinadgacgabDoor
