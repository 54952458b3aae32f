/- Cd, Ce. -/
import Derived.Test.YtnkgpinadgacgaaGreatDoorQzr
set_option maxRecDepth 1000000
set_option maxHeartbeats 4000000
namespace Go.Proofs.YtnkgpinadgacgaaGreatDoor
section
open Go.RowKit M
theorem span_zero {n m : Nat} (h : n = 0 ∨ m = 0) : spanM n m = 0 := by unfold spanM; rw [if_pos h]
theorem span_max {n m : Nat} (h : ¬ (n = 0 ∨ m = 0)) : spanM n m = max n m := by unfold spanM; rw [if_neg h]
theorem rpairs_3 (a : Option Addr) (n cap : Nat) (p : PlanM) (w : World) (hn : n <= 4) (hB : ∀ i, i < n -> p.len i <= 1048576) (hp : PlanAt w a n p) :
 Calls Tryz.prog 62 #[.slice a n cap, .int .i64 3] w fun e w' => ∃ v, e = .returned v ∧ OwnF w' w.heap.size v (pairsF 3 n p.len p.num n) ∧ Below w.heap.size w w' := by
 have HP := zx hp; have HB := zx hB; clear hp hB; go_enter Tryz.func62, Tryz.ntmps62; go_wp2; go_loopw [5, 6] (fun v5 v6 wr => ∃ (i : Nat) (L : Value), i <= n ∧ L = v5 ∧ v6 = .int .i64 i ∧ OwnF wr w.heap.size L (pairsF 3 n p.len p.num i) ∧ Below w.heap.size w wr) (fun _ v6 _ => n - (intOf v6).toNat)
 case atStart => exact ⟨0, _, Nat.zero_le _, rfl, rfl, OwnF.nil _ _, Below.refl _ _⟩
 case round =>
  obtain ⟨wo, rfl⟩ : ∃ q, q = wr := ⟨_, rfl⟩
  obtain ⟨i, L, hi, rfl, rfl, hown, hbr⟩ := hrel; have OWN := zx hown; have BR := zx hbr; clear hown hbr; by_cases hlt : i < n
  . go_wp2; go_loopw [5, 7] (fun v5 v7 wr => ∃ (k : Nat) (L : Value), i + 1 <= k ∧ k <= n ∧ L = v5 ∧ v7 = .int .i64 k ∧ OwnF wr w.heap.size L (pairsF 3 n p.len p.num i ++ othersF 3 i p.len p.num k) ∧ Below w.heap.size w wr) (fun _ v7 _ => n - (intOf v7).toNat)
    case atStart => exact ⟨i + 1, _, zl, by omega, rfl, by go_num, by rw [othersF_low zl, List.append_nil]; exact OWN.out, BR.out⟩
    case round =>
     obtain ⟨wp, rfl⟩ : ∃ q, q = wr := ⟨_, rfl⟩
     obtain ⟨k, L2, hk1, hk2, rfl, rfl, hown2, hbr2⟩ := hrel; have OWN2 := zx hown2; have BR2 := zx hbr2; clear hown2 hbr2; by_cases hlk : k < n
     . obtain ⟨b, off, rfl, hpi⟩ := HP.out (by omega); have hpi2 := hpi.below BR2.out; have c1 := (hpi2 i hlt).1; have c2 := (hpi2 k hlk).1; have BI := HB.out i hlt; have BK := HB.out k hlk; have SP := zx (span_le BI BK); obtain ⟨ai, hai⟩ : ∃ q, q = p.ad i := ⟨_, rfl⟩
       obtain ⟨ak, hak⟩ : ∃ q, q = p.ad k := ⟨_, rfl⟩
       obtain ⟨li, hli⟩ : ∃ q, q = p.len i := ⟨_, rfl⟩
       obtain ⟨lk, hlk'⟩ : ∃ q, q = p.len k := ⟨_, rfl⟩
       obtain ⟨ci, hci⟩ : ∃ q, q = p.cap i := ⟨_, rfl⟩
       obtain ⟨ck, hck⟩ : ∃ q, q = p.cap k := ⟨_, rfl⟩
       have NI : Hid (NumsAt w ai li (p.num i)) := by rw [hai, hli]; exact (hpi i hlt).2
       have NK : Hid (NumsAt w ak lk (p.num k)) := by rw [hak, hlk']; exact (hpi k hlk).2
       rw [<- hai, <- hli, <- hci] at c1; rw [<- hak, <- hlk', <- hck] at c2; have E1 : Hid (othersF 3 i p.len p.num (k + 1) = othersF 3 i p.len p.num k ++ timesF 3 i k (posM li (p.num i)) (posM lk (p.num k)) (spanM li lk)) := by rw [hli, hlk']; exact othersF_step (by omega)
       rw [<- hli, <- hlk'] at SP; rw [<- hli] at BI; rw [<- hlk'] at BK; have LP := zx (pairs_bd (lvl := 3) (num := p.num) hn HB.out hi); have LO := zx (others_bd (lvl := 3) (num := p.num) hn HB.out hlt hk2); have C1 : Hid (w.cell? ⟨b, off + i, none⟩ = some (.slice ai li ci)) := by rw [hai, hli, hci]; exact (hpi i hlt).1
       have C2 : Hid (w.cell? ⟨b, off + k, none⟩ = some (.slice ak lk ck)) := by rw [hak, hlk', hck]; exact (hpi k hlk).1
       clear hpi hpi2 hai hak hli hlk' hci hck; by_cases z : li = 0 ∨ lk = 0
       . have E2 : Hid (pairsF 3 n p.len p.num i ++ othersF 3 i p.len p.num (k + 1) = pairsF 3 n p.len p.num i ++ othersF 3 i p.len p.num k) := by
          unfold Hid; rw [E1.out, span_zero z]; simp [timesF]
         by_cases z1 : li = 0
         . have zi : ((li : Int) == 0) = true := by simp [z1]
           clear z z1; go_wp2; go_roundw; case rel => exact ⟨k + 1, L2, by omega, by omega, rfl, by go_num, by rw [E2.out]; exact OWN2.out, BR2.out⟩
           case measure => simp [intOf]; omega
         . have zi : ((li : Int) == 0) = false := by simp; omega
           have zk : ((lk : Int) == 0) = true := by simp; omega
           clear z z1; go_wp2; go_roundw; case rel => exact ⟨k + 1, L2, by omega, by omega, rfl, by go_num, by rw [E2.out]; exact OWN2.out, BR2.out⟩
           case measure => simp [intOf]; omega
       . have zi : ((li : Int) == 0) = false := by simp; omega
         have zk : ((lk : Int) == 0) = false := by simp; omega
         have z1 : 0 < li := by omega
         have z2 : 0 < lk := by omega
         have hS : spanM li lk = max li lk := span_max z; rw [hS] at E1 SP; obtain ⟨S, hS2⟩ : ∃ S, S = max li lk := ⟨_, rfl⟩
         rw [<- hS2] at E1 SP; have HS := zx hS2; clear z hS hS2; go_wp2; go_loopw [5, 8] (fun v5 v8 wr => ∃ (t : Nat) (L : Value), t <= S ∧ L = v5 ∧ v8 = .int .i64 t ∧ OwnF wr w.heap.size L ((pairsF 3 n p.len p.num i ++ othersF 3 i p.len p.num k) ++ timesF 3 i k (posM li (p.num i)) (posM lk (p.num k)) t) ∧ Below w.heap.size w wr) (fun _ v8 _ => S - (intOf v8).toNat)
         case atStart => exact ⟨0, _, Nat.zero_le _, rfl, rfl, by simp only [timesF]; rw [List.append_nil]; exact OWN2.out, BR2.out⟩
         case round =>
          obtain ⟨wt, rfl⟩ : ∃ q, q = wr := ⟨_, rfl⟩
          obtain ⟨t, L3, ht, rfl, rfl, hown4, hbr4⟩ := hrel; have OWN4 := zx hown4; have BR4 := zx hbr4; have hsp := SP.out; have c1 := zj BR4.out C1.out; have c2 := zj BR4.out C2.out; have LG : Hid (∀ w', Calls Tryz.prog 88 #[.slice ai li ci, .slice ak lk ck] w' fun e w2 => e = .returned (.int .i64 (S : Nat)) ∧ w2 = w') := fun w' => by
           rw [HS.out]; exact longer_any ai ak li ci lk ck w'
          clear hown4 hbr4; go_wp2_with fail; go_quiet ((go_at_call 88; exact Calls.quiet_of_same (LG.out _))); have OWN5 : Hid (OwnF (wt.drewN nq) w.heap.size L3 ((pairsF 3 n p.len p.num i ++ othersF 3 i p.len p.num k) ++ timesF 3 i k (posM li (p.num i)) (posM lk (p.num k)) t)) := OWN4.out; have BR5 : Hid (Below w.heap.size w (wt.drewN nq)) := below_drewN BR4.out _; generalize wt.drewN nq = wu at *; clear OWN4 BR4 c1 c2 LG; by_cases hlt3 : t < S
          . have c1 := zj BR5.out C1.out; have c2 := zj BR5.out C2.out; have NI5 := zx (NI.out.below BR5.out); have NK5 := zx (NK.out.below BR5.out); obtain ⟨pa, hpa⟩ : ∃ q, q = posM li (p.num i) t := ⟨_, rfl⟩
            obtain ⟨pb, hpb⟩ : ∃ q, q = posM lk (p.num k) t := ⟨_, rfl⟩
            obtain ⟨pc, hpc⟩ : ∃ q, q = posM li (p.num i) (t + 1) := ⟨_, rfl⟩
            obtain ⟨pd, hpd⟩ : ∃ q, q = posM lk (p.num k) (t + 1) := ⟨_, rfl⟩
            have Q1 : Hid (Calls Tryz.prog 89 #[.slice ai li ci, .int .i64 t] wu fun e w2 => e = .returned (.int .i64 pa) ∧ w2 = wu) := by unfold Hid; rw [hpa]; exact rat_any ai li ci t (p.num i) _ z1 BI NI5.out
            have Q2 : Hid (Calls Tryz.prog 89 #[.slice ak lk ck, .int .i64 t] wu fun e w2 => e = .returned (.int .i64 pb) ∧ w2 = wu) := by unfold Hid; rw [hpb]; exact rat_any ak lk ck t (p.num k) _ z2 BK NK5.out
            have Q3 : Hid (Calls Tryz.prog 89 #[.slice ai li ci, .int .i64 ((t : Int) + 1)] wu fun e w2 => e = .returned (.int .i64 pc) ∧ w2 = wu) := by unfold Hid; rw [hpc]; exact rat_any ai li ci (t + 1) (p.num i) _ z1 BI NI5.out
            have Q4 : Hid (Calls Tryz.prog 89 #[.slice ak lk ck, .int .i64 ((t : Int) + 1)] wu fun e w2 => e = .returned (.int .i64 pd) ∧ w2 = wu) := by unfold Hid; rw [hpd]; exact rat_any ak lk ck (t + 1) (p.num k) _ z2 BK NK5.out
            have LT := zx (timesF_len 3 i k (posM li (p.num i)) (posM lk (p.num k)) t); have HIT : Hid (pairB 3 pa pb pc pd = true -> timesF 3 i k (posM li (p.num i)) (posM lk (p.num k)) (t + 1) = timesF 3 i k (posM li (p.num i)) (posM lk (p.num k)) t ++ [⟨3, i, k, t⟩]) := by rw [hpa, hpb, hpc, hpd]; exact fun h => times_hit h
            have MISS : Hid (pairB 3 pa pb pc pd = false -> timesF 3 i k (posM li (p.num i)) (posM lk (p.num k)) (t + 1) = timesF 3 i k (posM li (p.num i)) (posM lk (p.num k)) t) := by rw [hpa, hpb, hpc, hpd]; exact fun h => times_miss h
            clear hpa hpb hpc hpd; go_wp2_with fail; refine (Q1.out).mono ?_; rintro e w2 ⟨rfl, hw⟩; have hw := hw.symm; subst hw; go_wp2_with fail; refine (Q2.out).mono ?_; rintro e w2 ⟨rfl, hw⟩; have hw := hw.symm; subst hw; go_wp2_with fail; refine (Q3.out).mono ?_; rintro e w2 ⟨rfl, hw⟩; have hw := hw.symm; subst hw; go_wp2_with fail; refine (Q4.out).mono ?_; rintro e w2 ⟨rfl, hw⟩; have hw := hw.symm; subst hw; clear Q1 Q2 Q3 Q4 c1 c2 NI5 NK5; have hbs : Hid (w.heap.size <= wu.heap.size) := BR5.out.size
            have HLEN : Hid (((pairsF 3 n p.len p.num i ++ othersF 3 i p.len p.num k) ++ timesF 3 i k (posM li (p.num i)) (posM lk (p.num k)) t).length <= 100000000) := by
             have h1 := LP.out; have h2 := LO.out; have h3 := LT.out; unfold Hid; simp only [List.length_append]; omega
            by_cases e1 : (pa == pd) = true
            . by_cases e2 : (pb == pc) = true
              . by_cases e3 : (pa == pb) = true
                . have e3n : (pa != pb) = false := by simp at e3 ⊢; exact e3
                  have EM : Hid _ := MISS.out (by unfold pairB; rw [if_neg (by decide), e1, e2, e3]; rfl); go_wp2; go_roundw; case rel => exact ⟨t + 1, L3, by omega, rfl, by go_num, by rw [EM.out]; exact OWN5.out, BR5.out⟩
                  case measure => simp [intOf]; omega
                . have e3n : (pa != pb) = true := by simpa using e3
                  have e3f : (pa == pb) = false := by simpa using e3
                  have EH : Hid _ := HIT.out (by unfold pairB; rw [if_neg (by decide), e1, e2, e3f]; rfl); clear e3; go_wp2_with (at_builtin; go_must (refine wpList_pushF rfl _ _ rfl w.heap.size L3 _ ⟨3, i, k, t⟩ rfl OWN5.out hbs.out _ rfl HLEN.out ?_; intro v5 w5 hown5 hb5))
                  have OWN6 := zx hown5; have BR6 := zx (BR5.out.trans hb5); clear hown5 hb5; go_wp2; go_roundw; case rel => exact ⟨t + 1, v5, by omega, rfl, by go_num, by rw [EH.out, <- List.append_assoc]; exact OWN6.out, BR6.out⟩
                  case measure => simp [intOf]; omega
              . have e2n : (pb == pc) = false := by simpa using e2
                have EM : Hid _ := MISS.out (by unfold pairB; rw [if_neg (by decide), e2n]; simp); clear e2; go_wp2; go_roundw; case rel => exact ⟨t + 1, L3, by omega, rfl, by go_num, by rw [EM.out]; exact OWN5.out, BR5.out⟩
                case measure => simp [intOf]; omega
            . have e1n : (pa == pd) = false := by simpa using e1
              have EM : Hid _ := MISS.out (by unfold pairB; rw [if_neg (by decide), e1n]; simp); clear e1; go_wp2; go_roundw; case rel => exact ⟨t + 1, L3, by omega, rfl, by go_num, by rw [EM.out]; exact OWN5.out, BR5.out⟩
              case measure => simp [intOf]; omega
          . have E3 : Hid (pairsF 3 n p.len p.num i ++ othersF 3 i p.len p.num (k + 1) = (pairsF 3 n p.len p.num i ++ othersF 3 i p.len p.num k) ++ timesF 3 i k (posM li (p.num i)) (posM lk (p.num k)) t) := by
             have e : t = S := by omega
             unfold Hid; rw [e, E1.out, List.append_assoc]
            go_wp2; go_roundw; case rel => exact ⟨k + 1, L3, by omega, by omega, rfl, by go_num, by rw [E3.out]; exact OWN5.out, BR5.out⟩
            case measure => simp [intOf]; omega
     . have E4 : Hid (pairsF 3 n p.len p.num (i + 1) = pairsF 3 n p.len p.num i ++ othersF 3 i p.len p.num k) := by
        have e : k = n := by omega
        unfold Hid; rw [e]; rfl
       go_wp2; go_roundw; case rel => exact ⟨i + 1, L2, by omega, rfl, by go_num, by rw [E4.out]; exact OWN2.out, BR2.out⟩
       case measure => simp [intOf]; omega
  . have E5 : Hid (pairsF 3 n p.len p.num i = pairsF 3 n p.len p.num n) := by
     have e : i = n := by omega
     unfold Hid; rw [e]
    go_wp2; go_ret; exact ⟨L, rfl, by rw [<- E5.out]; exact OWN.out, BR.out⟩
theorem rpairs_2 (a : Option Addr) (n cap : Nat) (p : PlanM) (w : World) (hn : n <= 4) (hB : ∀ i, i < n -> p.len i <= 1048576) (hp : PlanAt w a n p) :
 Calls Tryz.prog 62 #[.slice a n cap, .int .i64 2] w fun e w' => ∃ v, e = .returned v ∧ OwnF w' w.heap.size v (pairsF 2 n p.len p.num n) ∧ Below w.heap.size w w' := by
 have HP := zx hp; have HB := zx hB; clear hp hB; go_enter Tryz.func62, Tryz.ntmps62; go_wp2; go_loopw [5, 6] (fun v5 v6 wr => ∃ (i : Nat) (L : Value), i <= n ∧ L = v5 ∧ v6 = .int .i64 i ∧ OwnF wr w.heap.size L (pairsF 2 n p.len p.num i) ∧ Below w.heap.size w wr) (fun _ v6 _ => n - (intOf v6).toNat)
 case atStart => exact ⟨0, _, Nat.zero_le _, rfl, rfl, OwnF.nil _ _, Below.refl _ _⟩
 case round =>
  obtain ⟨wo, rfl⟩ : ∃ q, q = wr := ⟨_, rfl⟩
  obtain ⟨i, L, hi, rfl, rfl, hown, hbr⟩ := hrel; have OWN := zx hown; have BR := zx hbr; clear hown hbr; by_cases hlt : i < n
  . go_wp2; go_loopw [5, 7] (fun v5 v7 wr => ∃ (k : Nat) (L : Value), i + 1 <= k ∧ k <= n ∧ L = v5 ∧ v7 = .int .i64 k ∧ OwnF wr w.heap.size L (pairsF 2 n p.len p.num i ++ othersF 2 i p.len p.num k) ∧ Below w.heap.size w wr) (fun _ v7 _ => n - (intOf v7).toNat)
    case atStart => exact ⟨i + 1, _, zl, by omega, rfl, by go_num, by rw [othersF_low zl, List.append_nil]; exact OWN.out, BR.out⟩
    case round =>
     obtain ⟨wp, rfl⟩ : ∃ q, q = wr := ⟨_, rfl⟩
     obtain ⟨k, L2, hk1, hk2, rfl, rfl, hown2, hbr2⟩ := hrel; have OWN2 := zx hown2; have BR2 := zx hbr2; clear hown2 hbr2; by_cases hlk : k < n
     . obtain ⟨b, off, rfl, hpi⟩ := HP.out (by omega); have hpi2 := hpi.below BR2.out; have c1 := (hpi2 i hlt).1; have c2 := (hpi2 k hlk).1; have BI := HB.out i hlt; have BK := HB.out k hlk; have SP := zx (span_le BI BK); obtain ⟨ai, hai⟩ : ∃ q, q = p.ad i := ⟨_, rfl⟩
       obtain ⟨ak, hak⟩ : ∃ q, q = p.ad k := ⟨_, rfl⟩
       obtain ⟨li, hli⟩ : ∃ q, q = p.len i := ⟨_, rfl⟩
       obtain ⟨lk, hlk'⟩ : ∃ q, q = p.len k := ⟨_, rfl⟩
       obtain ⟨ci, hci⟩ : ∃ q, q = p.cap i := ⟨_, rfl⟩
       obtain ⟨ck, hck⟩ : ∃ q, q = p.cap k := ⟨_, rfl⟩
       have NI : Hid (NumsAt w ai li (p.num i)) := by rw [hai, hli]; exact (hpi i hlt).2
       have NK : Hid (NumsAt w ak lk (p.num k)) := by rw [hak, hlk']; exact (hpi k hlk).2
       rw [<- hai, <- hli, <- hci] at c1; rw [<- hak, <- hlk', <- hck] at c2; have E1 : Hid (othersF 2 i p.len p.num (k + 1) = othersF 2 i p.len p.num k ++ timesF 2 i k (posM li (p.num i)) (posM lk (p.num k)) (spanM li lk)) := by rw [hli, hlk']; exact othersF_step (by omega)
       rw [<- hli, <- hlk'] at SP; rw [<- hli] at BI; rw [<- hlk'] at BK; have LP := zx (pairs_bd (lvl := 2) (num := p.num) hn HB.out hi); have LO := zx (others_bd (lvl := 2) (num := p.num) hn HB.out hlt hk2); have C1 : Hid (w.cell? ⟨b, off + i, none⟩ = some (.slice ai li ci)) := by rw [hai, hli, hci]; exact (hpi i hlt).1
       have C2 : Hid (w.cell? ⟨b, off + k, none⟩ = some (.slice ak lk ck)) := by rw [hak, hlk', hck]; exact (hpi k hlk).1
       clear hpi hpi2 hai hak hli hlk' hci hck; by_cases z : li = 0 ∨ lk = 0
       . have E2 : Hid (pairsF 2 n p.len p.num i ++ othersF 2 i p.len p.num (k + 1) = pairsF 2 n p.len p.num i ++ othersF 2 i p.len p.num k) := by
          unfold Hid; rw [E1.out, span_zero z]; simp [timesF]
         by_cases z1 : li = 0
         . have zi : ((li : Int) == 0) = true := by simp [z1]
           clear z z1; go_wp2; go_roundw; case rel => exact ⟨k + 1, L2, by omega, by omega, rfl, by go_num, by rw [E2.out]; exact OWN2.out, BR2.out⟩
           case measure => simp [intOf]; omega
         . have zi : ((li : Int) == 0) = false := by simp; omega
           have zk : ((lk : Int) == 0) = true := by simp; omega
           clear z z1; go_wp2; go_roundw; case rel => exact ⟨k + 1, L2, by omega, by omega, rfl, by go_num, by rw [E2.out]; exact OWN2.out, BR2.out⟩
           case measure => simp [intOf]; omega
       . have zi : ((li : Int) == 0) = false := by simp; omega
         have zk : ((lk : Int) == 0) = false := by simp; omega
         have z1 : 0 < li := by omega
         have z2 : 0 < lk := by omega
         have hS : spanM li lk = max li lk := span_max z; rw [hS] at E1 SP; obtain ⟨S, hS2⟩ : ∃ S, S = max li lk := ⟨_, rfl⟩
         rw [<- hS2] at E1 SP; have HS := zx hS2; clear z hS hS2; go_wp2; go_loopw [5, 8] (fun v5 v8 wr => ∃ (t : Nat) (L : Value), t <= S ∧ L = v5 ∧ v8 = .int .i64 t ∧ OwnF wr w.heap.size L ((pairsF 2 n p.len p.num i ++ othersF 2 i p.len p.num k) ++ timesF 2 i k (posM li (p.num i)) (posM lk (p.num k)) t) ∧ Below w.heap.size w wr) (fun _ v8 _ => S - (intOf v8).toNat)
         case atStart => exact ⟨0, _, Nat.zero_le _, rfl, rfl, by simp only [timesF]; rw [List.append_nil]; exact OWN2.out, BR2.out⟩
         case round =>
          obtain ⟨wt, rfl⟩ : ∃ q, q = wr := ⟨_, rfl⟩
          obtain ⟨t, L3, ht, rfl, rfl, hown4, hbr4⟩ := hrel; have OWN4 := zx hown4; have BR4 := zx hbr4; have hsp := SP.out; have c1 := zj BR4.out C1.out; have c2 := zj BR4.out C2.out; have LG : Hid (∀ w', Calls Tryz.prog 88 #[.slice ai li ci, .slice ak lk ck] w' fun e w2 => e = .returned (.int .i64 (S : Nat)) ∧ w2 = w') := fun w' => by
           rw [HS.out]; exact longer_any ai ak li ci lk ck w'
          clear hown4 hbr4; go_wp2_with fail; go_quiet ((go_at_call 88; exact Calls.quiet_of_same (LG.out _))); have OWN5 : Hid (OwnF (wt.drewN nq) w.heap.size L3 ((pairsF 2 n p.len p.num i ++ othersF 2 i p.len p.num k) ++ timesF 2 i k (posM li (p.num i)) (posM lk (p.num k)) t)) := OWN4.out; have BR5 : Hid (Below w.heap.size w (wt.drewN nq)) := below_drewN BR4.out _; generalize wt.drewN nq = wu at *; clear OWN4 BR4 c1 c2 LG; by_cases hlt3 : t < S
          . have c1 := zj BR5.out C1.out; have c2 := zj BR5.out C2.out; have NI5 := zx (NI.out.below BR5.out); have NK5 := zx (NK.out.below BR5.out); obtain ⟨pa, hpa⟩ : ∃ q, q = posM li (p.num i) t := ⟨_, rfl⟩
            obtain ⟨pb, hpb⟩ : ∃ q, q = posM lk (p.num k) t := ⟨_, rfl⟩
            obtain ⟨pc, hpc⟩ : ∃ q, q = posM li (p.num i) (t + 1) := ⟨_, rfl⟩
            obtain ⟨pd, hpd⟩ : ∃ q, q = posM lk (p.num k) (t + 1) := ⟨_, rfl⟩
            have Q1 : Hid (Calls Tryz.prog 89 #[.slice ai li ci, .int .i64 t] wu fun e w2 => e = .returned (.int .i64 pa) ∧ w2 = wu) := by unfold Hid; rw [hpa]; exact rat_any ai li ci t (p.num i) _ z1 BI NI5.out
            have Q2 : Hid (Calls Tryz.prog 89 #[.slice ak lk ck, .int .i64 t] wu fun e w2 => e = .returned (.int .i64 pb) ∧ w2 = wu) := by unfold Hid; rw [hpb]; exact rat_any ak lk ck t (p.num k) _ z2 BK NK5.out
            have Q3 : Hid (Calls Tryz.prog 89 #[.slice ai li ci, .int .i64 ((t : Int) + 1)] wu fun e w2 => e = .returned (.int .i64 pc) ∧ w2 = wu) := by unfold Hid; rw [hpc]; exact rat_any ai li ci (t + 1) (p.num i) _ z1 BI NI5.out
            have Q4 : Hid (Calls Tryz.prog 89 #[.slice ak lk ck, .int .i64 ((t : Int) + 1)] wu fun e w2 => e = .returned (.int .i64 pd) ∧ w2 = wu) := by unfold Hid; rw [hpd]; exact rat_any ak lk ck (t + 1) (p.num k) _ z2 BK NK5.out
            have LT := zx (timesF_len 2 i k (posM li (p.num i)) (posM lk (p.num k)) t); have HIT : Hid (pairB 2 pa pb pc pd = true -> timesF 2 i k (posM li (p.num i)) (posM lk (p.num k)) (t + 1) = timesF 2 i k (posM li (p.num i)) (posM lk (p.num k)) t ++ [⟨2, i, k, t⟩]) := by rw [hpa, hpb, hpc, hpd]; exact fun h => times_hit h
            have MISS : Hid (pairB 2 pa pb pc pd = false -> timesF 2 i k (posM li (p.num i)) (posM lk (p.num k)) (t + 1) = timesF 2 i k (posM li (p.num i)) (posM lk (p.num k)) t) := by rw [hpa, hpb, hpc, hpd]; exact fun h => times_miss h
            clear hpa hpb hpc hpd; go_wp2_with fail; refine (Q1.out).mono ?_; rintro e w2 ⟨rfl, hw⟩; have hw := hw.symm; subst hw; go_wp2_with fail; refine (Q2.out).mono ?_; rintro e w2 ⟨rfl, hw⟩; have hw := hw.symm; subst hw; go_wp2_with fail; refine (Q3.out).mono ?_; rintro e w2 ⟨rfl, hw⟩; have hw := hw.symm; subst hw; go_wp2_with fail; refine (Q4.out).mono ?_; rintro e w2 ⟨rfl, hw⟩; have hw := hw.symm; subst hw; clear Q1 Q2 Q3 Q4 c1 c2 NI5 NK5; have hbs : Hid (w.heap.size <= wu.heap.size) := BR5.out.size
            have HLEN : Hid (((pairsF 2 n p.len p.num i ++ othersF 2 i p.len p.num k) ++ timesF 2 i k (posM li (p.num i)) (posM lk (p.num k)) t).length <= 100000000) := by
             have h1 := LP.out; have h2 := LO.out; have h3 := LT.out; unfold Hid; simp only [List.length_append]; omega
            by_cases e1 : (pa == pb) = true
            . have EH : Hid _ := HIT.out (by unfold pairB; rw [if_pos rfl]; exact e1); go_wp2_with (at_builtin; go_must (refine wpList_pushF rfl _ _ rfl w.heap.size L3 _ ⟨2, i, k, t⟩ rfl OWN5.out hbs.out _ rfl HLEN.out ?_; intro v5 w5 hown5 hb5))
              have OWN6 := zx hown5; have BR6 := zx (BR5.out.trans hb5); clear hown5 hb5; go_wp2; go_roundw; case rel => exact ⟨t + 1, v5, by omega, rfl, by go_num, by rw [EH.out, <- List.append_assoc]; exact OWN6.out, BR6.out⟩
              case measure => simp [intOf]; omega
            . have e1n : (pa == pb) = false := by simpa using e1
              have EM : Hid _ := MISS.out (by unfold pairB; rw [if_pos rfl]; exact e1n); clear e1; go_wp2; go_roundw; case rel => exact ⟨t + 1, L3, by omega, rfl, by go_num, by rw [EM.out]; exact OWN5.out, BR5.out⟩
              case measure => simp [intOf]; omega
          . have E3 : Hid (pairsF 2 n p.len p.num i ++ othersF 2 i p.len p.num (k + 1) = (pairsF 2 n p.len p.num i ++ othersF 2 i p.len p.num k) ++ timesF 2 i k (posM li (p.num i)) (posM lk (p.num k)) t) := by
             have e : t = S := by omega
             unfold Hid; rw [e, E1.out, List.append_assoc]
            go_wp2; go_roundw; case rel => exact ⟨k + 1, L3, by omega, by omega, rfl, by go_num, by rw [E3.out]; exact OWN5.out, BR5.out⟩
            case measure => simp [intOf]; omega
     . have E4 : Hid (pairsF 2 n p.len p.num (i + 1) = pairsF 2 n p.len p.num i ++ othersF 2 i p.len p.num k) := by
        have e : k = n := by omega
        unfold Hid; rw [e]; rfl
       go_wp2; go_roundw; case rel => exact ⟨i + 1, L2, by omega, rfl, by go_num, by rw [E4.out]; exact OWN2.out, BR2.out⟩
       case measure => simp [intOf]; omega
  . have E5 : Hid (pairsF 2 n p.len p.num i = pairsF 2 n p.len p.num n) := by
     have e : i = n := by omega
     unfold Hid; rw [e]
    go_wp2; go_ret; exact ⟨L, rfl, by rw [<- E5.out]; exact OWN.out, BR.out⟩
end
section
open Go.RowKit M
namespace M
def stepB (co : Int) (cs : ByteArray) (n : Nat) (x : Nat -> Int) (t : Nat) : Bool := (decide (t + 1 < n) && !mayM co cs (x t) (x (t + 1))) || (decide (t = 0) && !freeB cs (x t))
def cellsF (co : Int) (cs : ByteArray) (i n : Nat) (x : Nat -> Int) : Nat -> List FaultM
 | 0 => []
 | t + 1 => cellsF co cs i n x t ++ (if M.stepB co cs n x t = true then [⟨1, i, -1, t⟩] else [])
def stepsF (co : Int) (cs : ByteArray) (len : Nat -> Nat) (num : Nat -> Nat -> Int) : Nat -> List FaultM
 | 0 => []
 | i + 1 => stepsF co cs len num i ++ cellsF co cs i (len i) (num i) (len i)
theorem cellsF_len (co : Int) (cs : ByteArray) (i n : Nat) (x : Nat -> Int) : ∀ t, (cellsF co cs i n x t).length <= t
 | 0 => by simp [cellsF]
 | t + 1 => by
   have := cellsF_len co cs i n x t; simp only [cellsF, List.length_append]; split <;> simp <;> omega
theorem stepsF_len {co : Int} {cs : ByteArray} {n B : Nat} {len : Nat -> Nat} {num : Nat -> Nat -> Int} (h : ∀ j, j < n -> len j <= B) : ∀ i, i <= n -> (stepsF co cs len num i).length <= i * B
 | 0, _ => by simp [stepsF]
 | i + 1, hi => by
   have ih := stepsF_len (co := co) (cs := cs) (num := num) h i (by omega); have h1 := cellsF_len co cs i (len i) (num i) (len i); have h2 := h i (by omega); have h3 : (i + 1) * B = i * B + B := Nat.succ_mul i B; simp only [stepsF, List.length_append]; omega
theorem cells_hit {co : Int} {cs : ByteArray} {i n t : Nat} {x : Nat -> Int} (h : M.stepB co cs n x t = true) : cellsF co cs i n x (t + 1) = cellsF co cs i n x t ++ [⟨1, i, -1, t⟩] := by simp only [cellsF]; rw [if_pos h]
theorem cells_miss {co : Int} {cs : ByteArray} {i n t : Nat} {x : Nat -> Int} (h : M.stepB co cs n x t = false) : cellsF co cs i n x (t + 1) = cellsF co cs i n x t := by simp only [cellsF]; rw [if_neg (by rw [h]; decide), List.append_nil]
end M
theorem steps_bd {co : Int} {cs : ByteArray} {n : Nat} {len : Nat -> Nat} {num : Nat -> Nat -> Int} (hn : n <= 4) (h : ∀ j, j < n -> len j <= 1048576) {i : Nat} (hi : i <= n) : (stepsF co cs len num i).length <= 4194304 := by
 have h1 := stepsF_len (co := co) (cs := cs) (num := num) h i hi; have h2 : i * 1048576 <= 4 * 1048576 := Nat.mul_le_mul (by omega) zl; omega
theorem may_all (ro co bu a b : Int) (cs : ByteArray) (ca : Value) (w : World) (hs : cs.size <= 36) (h1 : 1 <= co) (h2 : co <= 6) :
 Calls Tryz.prog 86 #[.agg #[.int .i64 ro, .int .i64 co, .string cs, ca, .int .i64 bu], .int .i64 a, .int .i64 b] w fun e w' => e = .returned (.bool (mayM co cs a b)) ∧ Below w.heap.size w w' := by
 by_cases hb : 0 <= b ∧ b <= 36
 . exact may_any ro co bu a b cs ca w hs h1 h2 hb.1 hb.2
 . have hf : freeB cs b = false := freeB_out (by omega); have HM : Hid (mayM co cs a b = false) := mayM_out (Or.inl hf); have hsm : cs.size <= maxLen := by unfold maxLen; omega
   have HF := zx hf; clear hf; go_enter Tryz.func86, Tryz.ntmps86; go_wp2_with fail; refine (rfree_any _ _ _ _ _ _ _ hsm).mono ?_; rintro e w1 ⟨he, hb1⟩; rw [HF.out] at he; subst he; have B1 : Hid (Below w.heap.size w w1) := ((Below.refl _ w).alloc zl _).trans (hb1.mono (by simp)); clear hb1; go_wp2; go_ret; exact ⟨ret_bool HM.out.symm, B1.out⟩
end
end Go.Proofs.YtnkgpinadgacgaaGreatDoor
