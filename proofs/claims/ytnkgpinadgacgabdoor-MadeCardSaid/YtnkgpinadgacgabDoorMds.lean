/- Several texts in one: Gq. -/
import Derived.Test.YtnkgpinadgacgabDoorMdr
namespace Go.Proofs.YtnkgpinadgacgabDoor
open Go.RowKit M SM
set_option maxRecDepth 1000000 in
set_option maxHeartbeats 8000000 in
theorem sinkL_any (S G cap n f0 : Nat) (c0 c1 c2 c3 : Value) (it : Nat → LeadM) (w : World) (hh : SrcAt w S c0 c1 c2 c3 (.slice (some ⟨G, 0, none⟩) n cap)) (hit : ItemsL w G cap n it) (hf0 : n ≤ f0) (hn : n ≤ 1000000000) :
    Calls Tryd.prog 102 #[.pointer (some ⟨S, 4, none⟩), .int .i64 0] w fun e w' =>
      e = .returned (.tuple #[]) ∧ ItemsL w' G cap n (HM.sinkF ltL n f0 it 0) ∧ Only (fun k => k = G) w w' := by
  have HH := Hid.mk hh
  have NE := Hid.mk (src_apart hh hit)
  have hHl := hh.lt
  have IT := Hid.mk hit
  obtain ⟨R, hR⟩ : ∃ R, R = HM.sinkF ltL n f0 it 0 := ⟨_, rfl⟩
  rw [← hR]
  have HR := Hid.mk hR.symm
  clear hh hit hR
  go_enter Tryd.func102, Tryd.ntmps102
  go_wp2
  go_loopw [1] (fun s wr => ∃ (f b : Nat) (it' : Nat → LeadM), s = .int .i64 b ∧ b ≤ n ∧ n ≤ f + b ∧ HM.sinkF ltL n f it' b = R ∧ ItemsL wr G cap n it' ∧ Only (fun k => k = G) w wr) (fun s _ => n - (intOf s).toNat)
  case atStart => exact ⟨f0, 0, it, rfl, Nat.zero_le _, hf0, HR.out, IT.out, Only.refl _ _⟩
  case round =>
    obtain ⟨wo, rfl⟩ : ∃ x, x = wr := ⟨_, rfl⟩
    obtain ⟨f, b, it', rfl, hb, hbf, hrr, hit, honly⟩ := hrel
    have RR := Hid.mk hrr
    have IT' := Hid.mk hit
    have HO := Hid.mk honly
    have hz := honly.size
    have HHr := Hid.mk (HH.out.block (honly.block _ hHl NE.out))
    have hzH : S < wo.heap.size := by omega
    have hzG : G < wo.heap.size := IT'.out.lt
    clear hrr hit honly
    go_wp2
    go_loopw [4, 5] (fun v s wr => ∃ ff ch : Nat, v = .int .i64 ff ∧ s = .int .i64 ch ∧ 2 * b + 1 ≤ ch ∧ ch ≤ 2 * b + 3 ∧ ff = HM.kidAt ltL n it' b ch ∧ Below wo.heap.size wo wr) (fun _ s _ => 2 * b + 3 - (intOf s).toNat)
    case atStart => exact ⟨b, 2 * b + 1, rfl, by go_num, by omega, by omega, HM.kidAt_start _ _ _ _, Below.refl _ _⟩
    case round =>
      obtain ⟨ff, ch, rfl, rfl, hc1, hc2, hff, hbr⟩ := hrel
      have FF := Hid.mk hff
      have HB := Hid.mk hbr
      have x1 := (HHr.out.block (hbr.block _ hzH)).cells.2.2.2.2.2
      have hzr := hbr.size
      clear hff hbr
      by_cases t1 : ch ≤ 2 * b + 2
      · by_cases t2 : ch < n
        · have hfn : ff < n := by rw [FF.out]; exact HM.kidAt_lt (by omega)
          have ITr := Hid.mk (IT'.out.block (HB.out.block _ hzG))
          have HHq := Hid.mk (HHr.out.block (HB.out.block _ hzH))
          have HS : (fun u => u.cell? ⟨S, 4, none⟩ = some (.func (.func 80) #[] #[]) ∧ u.cell? ⟨S, 5, none⟩ = some (.slice (some ⟨G, 0, none⟩) n cap) ∧ u.rangeAt G (ch * 10) (ldL (it' ch)) ∧ u.rangeAt G (ff * 10) (ldL (it' ff))) wr.drew := ⟨HHq.out.cells.2.2.2.2.1, HHq.out.cells.2.2.2.2.2, by simpa using ITr.out.range t2, by simpa using ITr.out.range hfn⟩
          have b1 : (ch : Int) < (n : Int) := by omega
          have b2 : (ff : Int) < (n : Int) := by omega
          have b3 : (ch : Int) ≤ 2 * (b : Int) + 2 := by omega
          go_upto_region 4 with fail
          refine wp_region_any (by kernel_rfl) ?_
          change wpAny _ _ _ _ _ _ _ (World.drew _)
          refine wpAny_take (i := 0) (v := .pointer (some ⟨S, 4, none⟩)) rfl (by kernel_rfl) (by kernel_rfl) (by kernel_rfl) (fun _ _ _ h => h) (Or.inl ⟨by rfl, fun u => by go_simp⟩) ?_
          refine wpAny_take (i := 1) (v := .pointer (some ⟨S, 4, none⟩)) rfl (by kernel_rfl) (by kernel_rfl) (by kernel_rfl) (fun _ _ _ h => h) (Or.inl ⟨by rfl, fun u => by go_simp⟩) ?_
          refine wpAny_take (i := 2) (v := .pointer (some ⟨S, 4, none⟩)) rfl (by kernel_rfl) (by kernel_rfl) (by kernel_rfl) (fun _ _ _ h => h) (Or.inl ⟨by rfl, fun u => by go_simp⟩) ?_
          refine wpAny_take (i := 4) (v := .pointer (some ⟨S, 4, none⟩)) rfl (by kernel_rfl) (by kernel_rfl) (by kernel_rfl) (fun _ _ _ h => h) (Or.inl ⟨by rfl, fun u => by go_simp⟩) ?_
          refine wpAny_take (i := 5) (v := .pointer (some ⟨S, 4, none⟩)) rfl (by kernel_rfl) (by kernel_rfl) (by kernel_rfl) (fun _ _ _ h => h) (Or.inl ⟨by rfl, fun u => by go_simp⟩) ?_
          refine wpAny_take (i := 6) (v := .pointer (some ⟨S, 5, none⟩)) rfl (by kernel_rfl) (by kernel_rfl) (by kernel_rfl) (fun _ _ _ h => h) (Or.inl ⟨by rfl, fun u => by go_simp⟩) ?_
          refine wpAny_take (i := 8) (v := .int .i64 (ch : Int)) rfl (by kernel_rfl) (by kernel_rfl) (by kernel_rfl) (fun _ _ _ h => h) (Or.inl ⟨by rfl, fun u => by go_simp⟩) ?_
          refine wpAny_take (i := 11) (v := .pointer (some ⟨S, 4, none⟩)) rfl (by kernel_rfl) (by kernel_rfl) (by kernel_rfl) (fun _ _ _ h => h) (Or.inl ⟨by rfl, fun u => by go_simp⟩) ?_
          refine wpAny_take (i := 12) (v := .pointer (some ⟨S, 4, none⟩)) rfl (by kernel_rfl) (by kernel_rfl) (by kernel_rfl) (fun _ _ _ h => h) (Or.inl ⟨by rfl, fun u => by go_simp⟩) ?_
          refine wpAny_take (i := 13) (v := .pointer (some ⟨S, 5, none⟩)) rfl (by kernel_rfl) (by kernel_rfl) (by kernel_rfl) (fun _ _ _ h => h) (Or.inl ⟨by rfl, fun u => by go_simp⟩) ?_
          refine wpAny_take (i := 15) (v := .int .i64 (ff : Int)) rfl (by kernel_rfl) (by kernel_rfl) (by kernel_rfl) (fun _ _ _ h => h) (Or.inl ⟨by rfl, fun u => by go_simp⟩) ?_
          refine LM.any_of_L (late := LM.lateOf [18]) (S := fun u => u.cell? ⟨S, 4, none⟩ = some (.func (.func 80) #[] #[]) ∧ u.cell? ⟨S, 5, none⟩ = some (.slice (some ⟨G, 0, none⟩) n cap) ∧ u.rangeAt G (ch * 10) (ldL (it' ch)) ∧ u.rangeAt G (ff * 10) (ldL (it' ff))) _ _ _ _ ?_
          refine LM.L_take (i := 3) (v := .func (.func 80) #[] #[]) rfl (by kernel_rfl) (by kernel_rfl) (by kernel_rfl) (by kernel_rfl) (fun _ _ _ h => h) (Or.inl ⟨by rfl, fun u hu => by have h5 := hu.1; go_simp⟩) HS ?_
          refine LM.L_take (i := 7) (v := .slice (some ⟨G, 0, none⟩) n cap) rfl (by kernel_rfl) (by kernel_rfl) (by kernel_rfl) (by kernel_rfl) (fun _ _ _ h => h) (Or.inl ⟨by rfl, fun u hu => by have h5 := hu.2.1; go_simp⟩) HS ?_
          refine LM.L_take (i := 14) (v := .slice (some ⟨G, 0, none⟩) n cap) rfl (by kernel_rfl) (by kernel_rfl) (by kernel_rfl) (by kernel_rfl) (fun _ _ _ h => h) (Or.inl ⟨by rfl, fun u hu => by have h5 := hu.2.1; go_simp⟩) HS ?_
          refine LM.L_take (i := 9) (v := .pointer (some ⟨G, ch * 10, none⟩)) rfl (by kernel_rfl) (by kernel_rfl) (by kernel_rfl) (by kernel_rfl) (fun _ _ _ h => h) (Or.inl ⟨by rfl, fun u _ => by go_simp⟩) HS ?_
          refine LM.L_take (i := 16) (v := .pointer (some ⟨G, ff * 10, none⟩)) rfl (by kernel_rfl) (by kernel_rfl) (by kernel_rfl) (by kernel_rfl) (fun _ _ _ h => h) (Or.inl ⟨by rfl, fun u _ => by go_simp⟩) HS ?_
          refine LM.L_take (i := 10) (v := .agg (ldL (it' ch)).toArray) rfl (by kernel_rfl) (by kernel_rfl) (by kernel_rfl) (by kernel_rfl) (fun _ _ _ h => h) (yieldsIf_load_mid (by rfl) 149 (.tmp 35) rfl G (ch * 10) (by go_simp) (ldL (it' ch)) _ (fun u hu => hu.2.2.1) Tryd.underlying149 rfl ((congrArg some (ldL_len (it' ch))).symm ▸ Tryd.sizeLead)) HS ?_
          refine LM.L_take (i := 17) (v := .agg (ldL (it' ff)).toArray) rfl (by kernel_rfl) (by kernel_rfl) (by kernel_rfl) (by kernel_rfl) (fun _ _ _ h => h) (yieldsIf_load_mid (by rfl) 149 (.tmp 42) rfl G (ff * 10) (by go_simp) (ldL (it' ff)) _ (fun u hu => hu.2.2.2) Tryd.underlying149 rfl ((congrArg some (ldL_len (it' ff))).symm ▸ Tryd.sizeLead)) HS ?_
          refine LM.L_rest (by kernel_rfl) ?_
          refine LM.any_one (i := 18) rfl (by kernel_rfl) rfl (fun K hK => ?_)
          go_simp
          refine (aheadL_any (it' ch) (it' ff) _).mono ?_
          rintro e w4 ⟨rfl, hb4⟩
          have HB4 : Hid (Below wo.heap.size wo w4) := HB.out.drew.trans (hb4.mono (by show wo.heap.size ≤ wr.heap.size; omega))
          obtain ⟨g2, hg⟩ : ∃ g2, g2 = ltL (it' ch) (it' ff) := ⟨_, rfl⟩
          have HG := Hid.mk hg
          rw [← hg]
          clear hb4 hg HS x1
          refine hK _ _ ?_
          refine wpAny_done (by kernel_rfl) ?_ _
          have KS := Hid.mk (HM.kidAt_step (lt := ltL) (n := n) (it := it') (b := b) (ch := ch) hc1 t1 t2)
          cases g2
          · go_wp2
            go_roundw
            case rel =>
              refine ⟨ff, ch + 1, rfl, by go_num, by omega, by omega, ?_, HB4.out⟩
              rw [KS.out, ← FF.out, if_neg (by rw [← HG.out]; simp)]
            case measure => simp [intOf]; omega
          · go_wp2
            go_roundw
            case rel =>
              refine ⟨ch, ch + 1, rfl, by go_num, by omega, by omega, ?_, HB4.out⟩
              rw [KS.out, ← FF.out, if_pos HG.out.symm]
            case measure => simp [intOf]; omega
        · have t3 : ¬ (ch : Int) < (n : Int) := by omega
          have KD : Hid (ff = HM.kid2 ltL n it' b) := by unfold Hid; rw [FF.out]; exact HM.kidAt_done hc1 hc2 (.inr t2)
          have ITr := Hid.mk (IT'.out.block (HB.out.block _ hzG))
          have HHf := Hid.mk (HHr.out.block (HB.out.block _ hzH))
          have HOr : Hid (Only (fun k => k = G) w wr) := HO.out.trans (Only.of_below HB.out : Only (fun _ => False) wo wr) (fun _ _ e => e.elim)
          by_cases q : ((ff : Int) == (b : Int)) = true
          · have Q : Hid (ff = b) := by
              have : (ff : Int) = b := by simpa using q
              unfold Hid; omega
            go_wp2
            refine bodyPost_ret (results_none Tryd.results102 _ _ _) rfl ?_
            refine ⟨rfl, ?_, HOr.out⟩
            have h1 := RR.out
            have e1 : it' = R := by
              cases f with
              | zero => exact h1
              | succ f => unfold HM.sinkF at h1; rw [if_pos (by rw [← KD.out]; exact Q.out)] at h1; exact h1
            rw [← e1]; exact ITr.out
          · have q' : ((ff : Int) == (b : Int)) = false := by simpa using q
            have Q : Hid (ff ≠ b) := by
              have : ¬ (ff : Int) = b := by simpa using q
              unfold Hid; omega
            clear q
            have hk := HM.kid2_is ltL n it' b
            rw [← KD.out] at hk
            have hfn : b < ff ∧ ff < n := by
              rcases hk with e | e
              · exact absurd e Q.out
              · exact ⟨e.1, e.2.1⟩
            clear hk
            obtain ⟨y1, y2⟩ := hfn
            obtain ⟨g, rfl⟩ : ∃ g, f = g + 1 := ⟨f - 1, by omega⟩
            go_wp2_with fail
            refine (swapL_any S G cap n b ff c0 c1 c2 c3 it' _ HHf.out ITr.out (by omega) y2).mono ?_
            rintro e w5 ⟨rfl, hi5, ho5⟩
            have IT5 := Hid.mk hi5
            have HO5 : Hid (Only (fun k => k = G) w w5) := HOr.out.trans ho5 (fun _ _ e => e)
            clear hi5 ho5 x1
            go_wp2
            go_roundw
            case rel =>
              refine ⟨g, ff, HM.swapIt it' b ff, rfl, by omega, by omega, ?_, IT5.out, HO5.out⟩
              have h1 := RR.out
              unfold HM.sinkF at h1
              rw [if_neg (by rw [← KD.out]; exact Q.out), ← KD.out] at h1
              exact h1
            case measure => simp [intOf]; omega
      · have t3 : ¬ (ch : Int) ≤ 2 * (b : Int) + 2 := by omega
        have KD : Hid (ff = HM.kid2 ltL n it' b) := by unfold Hid; rw [FF.out]; exact HM.kidAt_done hc1 hc2 (.inl t1)
        have ITr := Hid.mk (IT'.out.block (HB.out.block _ hzG))
        have HHf := Hid.mk (HHr.out.block (HB.out.block _ hzH))
        have HOr : Hid (Only (fun k => k = G) w wr) := HO.out.trans (Only.of_below HB.out : Only (fun _ => False) wo wr) (fun _ _ e => e.elim)
        by_cases q : ((ff : Int) == (b : Int)) = true
        · have Q : Hid (ff = b) := by
            have : (ff : Int) = b := by simpa using q
            unfold Hid; omega
          go_wp2
          refine bodyPost_ret (results_none Tryd.results102 _ _ _) rfl ?_
          refine ⟨rfl, ?_, HOr.out⟩
          have h1 := RR.out
          have e1 : it' = R := by
            cases f with
            | zero => exact h1
            | succ f => unfold HM.sinkF at h1; rw [if_pos (by rw [← KD.out]; exact Q.out)] at h1; exact h1
          rw [← e1]; exact ITr.out
        · have q' : ((ff : Int) == (b : Int)) = false := by simpa using q
          have Q : Hid (ff ≠ b) := by
            have : ¬ (ff : Int) = b := by simpa using q
            unfold Hid; omega
          clear q
          have hk := HM.kid2_is ltL n it' b
          rw [← KD.out] at hk
          have hfn : b < ff ∧ ff < n := by
            rcases hk with e | e
            · exact absurd e Q.out
            · exact ⟨e.1, e.2.1⟩
          clear hk
          obtain ⟨y1, y2⟩ := hfn
          obtain ⟨g, rfl⟩ : ∃ g, f = g + 1 := ⟨f - 1, by omega⟩
          go_wp2_with fail
          refine (swapL_any S G cap n b ff c0 c1 c2 c3 it' _ HHf.out ITr.out (by omega) y2).mono ?_
          rintro e w5 ⟨rfl, hi5, ho5⟩
          have IT5 := Hid.mk hi5
          have HO5 : Hid (Only (fun k => k = G) w w5) := HOr.out.trans ho5 (fun _ _ e => e)
          clear hi5 ho5 x1
          go_wp2
          go_roundw
          case rel =>
            refine ⟨g, ff, HM.swapIt it' b ff, rfl, by omega, by omega, ?_, IT5.out, HO5.out⟩
            have h1 := RR.out
            unfold HM.sinkF at h1
            rw [if_neg (by rw [← KD.out]; exact Q.out), ← KD.out] at h1
            exact h1
          case measure => simp [intOf]; omega

end Go.Proofs.YtnkgpinadgacgabDoor
