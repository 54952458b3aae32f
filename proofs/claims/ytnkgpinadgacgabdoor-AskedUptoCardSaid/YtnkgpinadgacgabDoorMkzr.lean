/- Several texts in one: Cc, Ce. -/
import Derived.Test.YtnkgpinadgacgabDoorMkzd
import Derived.Deep.DeepCutAuto
import Derived.Deep.RegionHeld3
import Derived.Deep.QuietTactic
import Derived.BigQuiet
namespace Go.Proofs.YtnkgpinadgacgabDoor
open Go.RowKit M
theorem pairs_bd {lvl n : Nat} {len : Nat → Nat} {num : Nat → Nat → Int} (hn : n ≤ 4) (h : ∀ j, j < n → len j ≤ 1048576) {i : Nat} (hi : i ≤ n) : (pairsF lvl n len num i).length ≤ 16777216 := by
  have h1 := pairsF_len (lvl := lvl) (num := num) (m := n) h i hi
  have h2 : n * 1048576 ≤ 4 * 1048576 := Nat.mul_le_mul hn (Nat.le_refl _)
  have h3 : i * (n * 1048576) ≤ 4 * (4 * 1048576) := Nat.mul_le_mul (by omega) h2
  omega

theorem others_bd {lvl n i k : Nat} {len : Nat → Nat} {num : Nat → Nat → Int} (hn : n ≤ 4) (h : ∀ j, j < n → len j ≤ 1048576) (hi : i < n) (hk : k ≤ n) : (othersF lvl i len num k).length ≤ 4194304 := by
  have h1 := othersF_len (lvl := lvl) (num := num) h hi k hk
  have h2 : k * 1048576 ≤ 4 * 1048576 := Nat.mul_le_mul (by omega) (Nat.le_refl _)
  omega

theorem times_hit {lvl i k t : Nat} {x y : Nat → Int} (h : pairB lvl (x t) (y t) (x (t + 1)) (y (t + 1)) = true) : timesF lvl i k x y (t + 1) = timesF lvl i k x y t ++ [⟨lvl, i, k, t⟩] := by simp only [timesF]; rw [if_pos h]

theorem times_miss {lvl i k t : Nat} {x y : Nat → Int} (h : pairB lvl (x t) (y t) (x (t + 1)) (y (t + 1)) = false) : timesF lvl i k x y (t + 1) = timesF lvl i k x y t := by simp only [timesF]; rw [if_neg (by rw [h]; decide), List.append_nil]

theorem jmeet2_any (a a2 : Option Addr) (n cap n2 cap2 t : Nat) (x y : Nat → Int) (w : World) (hn : 0 < n) (hm : n ≤ 1048576) (hn2 : 0 < n2) (hm2 : n2 ≤ 1048576) (_ht : t ≤ 1048576) (hx : NumsAt w a n x) (hy : NumsAt w a2 n2 y) :
    Calls Tryd.prog 63 #[.slice a n cap, .slice a2 n2 cap2, .int .i64 t] w fun e w' => e = .returned (.bool (pairB 2 (posM n x t) (posM n2 y t) (posM n x (t + 1)) (posM n2 y (t + 1)))) ∧ w' = w :=
  jmeet_any a a2 n cap n2 cap2 t x y w hn hm hn2 hm2 hx hy

set_option maxRecDepth 100000 in
set_option maxHeartbeats 4000000 in
theorem pairFaults_3 (a : Option Addr) (n cap : Nat) (p : PlanM) (w : World) (hn : n ≤ 4) (hB : ∀ i, i < n → p.len i ≤ 1048576) (hp : PlanAt w a n p) :
    Calls Tryd.prog 61 #[.slice a n cap, .int .i64 3, .func (.func 62) #[] #[]] w fun e w' => ∃ v, e = .returned v ∧ OwnF w' w.heap.size v (pairsF 3 n p.len p.num n) ∧ Below w.heap.size w w' := by
  have HP := Hid.mk hp
  have HB := Hid.mk hB
  clear hp hB
  go_enter Tryd.func61, Tryd.ntmps61
  go_wp2
  go_loopw [7, 13] (fun v7 v13 wr => ∃ (i : Nat) (L : Value), i ≤ n ∧ L = v7 ∧ v13 = .int .i64 i ∧ OwnF wr w.heap.size L (pairsF 3 n p.len p.num i) ∧ Below w.heap.size w wr) (fun _ v13 _ => n - (intOf v13).toNat)
  case atStart => exact ⟨0, _, Nat.zero_le _, rfl, rfl, OwnF.nil _ _, Below.refl _ _⟩
  case round =>
    obtain ⟨wo, rfl⟩ : ∃ q, q = wr := ⟨_, rfl⟩
    obtain ⟨i, L, hi, rfl, rfl, hown, hbr⟩ := hrel
    have OWN := Hid.mk hown
    have BR := Hid.mk hbr
    clear hown hbr
    by_cases hlt : i < n
    · go_wp2
      go_loopw [7, 9] (fun v7 v9 wr => ∃ (k : Nat) (L : Value), i + 1 ≤ k ∧ k ≤ n ∧ L = v7 ∧ v9 = .int .i64 k ∧ OwnF wr w.heap.size L (pairsF 3 n p.len p.num i ++ othersF 3 i p.len p.num k) ∧ Below w.heap.size w wr) (fun _ v9 _ => n - (intOf v9).toNat)
      case atStart => exact ⟨i + 1, _, Nat.le_refl _, by omega, rfl, by go_num, by rw [othersF_low (Nat.le_refl _), List.append_nil]; exact OWN.out, BR.out⟩
      case round =>
        obtain ⟨wp, rfl⟩ : ∃ q, q = wr := ⟨_, rfl⟩
        obtain ⟨k, L2, hk1, hk2, rfl, rfl, hown2, hbr2⟩ := hrel
        have OWN2 := Hid.mk hown2
        have BR2 := Hid.mk hbr2
        clear hown2 hbr2
        by_cases hlk : k < n
        · obtain ⟨b, off, rfl, hpi⟩ := HP.out (by omega)
          have hpi2 := hpi.below BR2.out
          have c1 := (hpi2 i hlt).1
          have c2 := (hpi2 k hlk).1
          have BI := HB.out i hlt
          have BK := HB.out k hlk
          have SP := Hid.mk (span_le BI BK)
          obtain ⟨ai, hai⟩ : ∃ q, q = p.ad i := ⟨_, rfl⟩
          obtain ⟨ak, hak⟩ : ∃ q, q = p.ad k := ⟨_, rfl⟩
          obtain ⟨li, hli⟩ : ∃ q, q = p.len i := ⟨_, rfl⟩
          obtain ⟨lk, hlk'⟩ : ∃ q, q = p.len k := ⟨_, rfl⟩
          obtain ⟨ci, hci⟩ : ∃ q, q = p.cap i := ⟨_, rfl⟩
          obtain ⟨ck, hck⟩ : ∃ q, q = p.cap k := ⟨_, rfl⟩
          have NI : Hid (NumsAt w ai li (p.num i)) := by rw [hai, hli]; exact (hpi i hlt).2
          have NK : Hid (NumsAt w ak lk (p.num k)) := by rw [hak, hlk']; exact (hpi k hlk).2
          rw [← hai, ← hli, ← hci] at c1
          rw [← hak, ← hlk', ← hck] at c2
          have E1 : Hid (othersF 3 i p.len p.num (k + 1) = othersF 3 i p.len p.num k ++ timesF 3 i k (posM li (p.num i)) (posM lk (p.num k)) (spanM li lk)) := by rw [hli, hlk']; exact othersF_step (by omega)
          rw [← hli, ← hlk'] at SP
          rw [← hli] at BI
          rw [← hlk'] at BK
          have LP := Hid.mk (pairs_bd (lvl := 3) (num := p.num) hn HB.out hi)
          have LO := Hid.mk (others_bd (lvl := 3) (num := p.num) hn HB.out hlt hk2)
          have C1 : Hid (w.cell? ⟨b, off + i, none⟩ = some (.slice ai li ci)) := by rw [hai, hli, hci]; exact (hpi i hlt).1
          have C2 : Hid (w.cell? ⟨b, off + k, none⟩ = some (.slice ak lk ck)) := by rw [hak, hlk', hck]; exact (hpi k hlk).1
          clear hpi hpi2 hai hak hli hlk' hci hck
          go_wp2_with fail
          go_quiet ((go_at_call 86; exact Calls.quiet_of_same (instants_any _ _ _ _ _ _ _)))
          have OWN3 : Hid (OwnF (wp.drewN nq) w.heap.size L2 (pairsF 3 n p.len p.num i ++ othersF 3 i p.len p.num k)) := OWN2.out
          have BR3 : Hid (Below w.heap.size w (wp.drewN nq)) := below_drewN BR2.out _
          generalize wp.drewN nq = wq at *
          clear OWN2 BR2 c1 c2
          obtain ⟨S, hS⟩ : ∃ S, S = spanM li lk := ⟨_, rfl⟩
          rw [← hS] at E1 SP ⊢
          have HS := Hid.mk hS
          clear hS
          go_wp2_with fail
          go_loopw [7, 33] (fun v7 v33 wr => ∃ (t : Nat) (L : Value), t ≤ S ∧ L = v7 ∧ v33 = .int .i64 t ∧ OwnF wr w.heap.size L ((pairsF 3 n p.len p.num i ++ othersF 3 i p.len p.num k) ++ timesF 3 i k (posM li (p.num i)) (posM lk (p.num k)) t) ∧ Below w.heap.size w wr) (fun _ v33 _ => S - (intOf v33).toNat)
          case atStart => exact ⟨0, _, Nat.zero_le _, rfl, rfl, by simp only [timesF]; rw [List.append_nil]; exact OWN3.out, BR3.out⟩
          case round =>
            obtain ⟨wt, rfl⟩ : ∃ q, q = wr := ⟨_, rfl⟩
            obtain ⟨t, L3, ht, rfl, rfl, hown4, hbr4⟩ := hrel
            have OWN4 := Hid.mk hown4
            have BR4 := Hid.mk hbr4
            have hsp := SP.out
            clear hown4 hbr4
            by_cases hlt3 : t < S
            · obtain ⟨z1, z2⟩ : 0 < li ∧ 0 < lk := by
                have := HS.out
                unfold spanM at this
                by_cases e : li = 0 ∨ lk = 0
                · rw [if_pos e] at this; omega
                · omega
              have c1 := cell_later BR4.out C1.out
              have c2 := cell_later BR4.out C2.out
              obtain ⟨pb, hpb⟩ : ∃ pb, pb = pairB 3 (posM li (p.num i) t) (posM lk (p.num k) t) (posM li (p.num i) (t + 1)) (posM lk (p.num k) (t + 1)) := ⟨_, rfl⟩
              have CT : Hid (∀ w', Below w.heap.size w w' → Calls Tryd.prog 62 #[.slice ai li ci, .slice ak lk ck, .int .i64 t] w' fun e w2 => e = .returned (.bool pb) ∧ w2 = w') := fun w' h => by
                rw [hpb]
                exact jswap_any ai ak li ci lk ck t (p.num i) (p.num k) _ z1 BI z2 BK (by omega) (NI.out.below h) (NK.out.below h)
              have PB := Hid.mk hpb
              clear hpb
              go_wp2_with fail
              go_region_held3 (fun w' => w'.cell? ⟨b, off + i, none⟩ = some (.slice ai li ci) ∧ w'.cell? ⟨b, off + k, none⟩ = some (.slice ak lk ck)) (go_keep)
                (first
                  | (go_at_call 62; refine (CT.out _ BR4.out.drew).mono ?_; rintro e w4 ⟨rfl, rfl⟩))
              have OWN5 : Hid (OwnF wt.drew w.heap.size L3 ((pairsF 3 n p.len p.num i ++ othersF 3 i p.len p.num k) ++ timesF 3 i k (posM li (p.num i)) (posM lk (p.num k)) t)) := OWN4.out
              have BR5 : Hid (Below w.heap.size w wt.drew) := BR4.out.drew
              have LT := Hid.mk (timesF_len 3 i k (posM li (p.num i)) (posM lk (p.num k)) t)
              generalize wt.drew = wu at *
              clear OWN4 BR4 c1 c2 CT
              cases pb
              · have E2 := Hid.mk (times_miss (lvl := 3) (i := i) (k := k) PB.out.symm)
                go_wp2
                go_roundw
                case rel => exact ⟨t + 1, L3, by omega, rfl, by go_num, by rw [E2.out]; exact OWN5.out, BR5.out⟩
                case measure => simp [intOf]; omega
              · have E2 := Hid.mk (times_hit (lvl := 3) (i := i) (k := k) PB.out.symm)
                have hbs : Hid (w.heap.size ≤ wu.heap.size) := BR5.out.size
                have HLEN : Hid (((pairsF 3 n p.len p.num i ++ othersF 3 i p.len p.num k) ++ timesF 3 i k (posM li (p.num i)) (posM lk (p.num k)) t).length ≤ 100000000) := by
                  have h1 := LP.out; have h2 := LO.out; have h3 := LT.out; unfold Hid; simp only [List.length_append]; omega
                go_wp2_with (at_builtin; go_must (refine wpList_pushF rfl _ _ rfl w.heap.size L3 _ ⟨3, i, k, t⟩ rfl OWN5.out hbs.out _ rfl HLEN.out ?_; intro v5 w5 hown5 hb5))
                have OWN6 := Hid.mk hown5
                have BR6 : Hid (Below w.heap.size w w5) := BR5.out.trans hb5
                clear hown5 hb5
                go_wp2
                go_roundw
                case rel => exact ⟨t + 1, v5, by omega, rfl, by go_num, by rw [E2.out, ← List.append_assoc]; exact OWN6.out, BR6.out⟩
                case measure => simp [intOf]; omega
            · have E3 : Hid (pairsF 3 n p.len p.num i ++ othersF 3 i p.len p.num (k + 1) = (pairsF 3 n p.len p.num i ++ othersF 3 i p.len p.num k) ++ timesF 3 i k (posM li (p.num i)) (posM lk (p.num k)) t) := by
                have e : t = S := by omega
                unfold Hid
                rw [e, E1.out, List.append_assoc]
              go_wp2
              go_roundw
              case rel => exact ⟨k + 1, L3, by omega, by omega, rfl, by go_num, by rw [E3.out]; exact OWN4.out, BR4.out⟩
              case measure => simp [intOf]; omega
        · have E4 : Hid (pairsF 3 n p.len p.num (i + 1) = pairsF 3 n p.len p.num i ++ othersF 3 i p.len p.num k) := by
            have e : k = n := by omega
            unfold Hid
            rw [e]; rfl
          go_wp2
          go_roundw
          case rel => exact ⟨i + 1, L2, by omega, rfl, by go_num, by rw [E4.out]; exact OWN2.out, BR2.out⟩
          case measure => simp [intOf]; omega
    · have E5 : Hid (pairsF 3 n p.len p.num i = pairsF 3 n p.len p.num n) := by
        have e : i = n := by omega
        unfold Hid
        rw [e]
      go_wp2
      go_ret
      exact ⟨L, rfl, by rw [← E5.out]; exact OWN.out, BR.out⟩

set_option maxRecDepth 100000 in
set_option maxHeartbeats 4000000 in
theorem pairFaults_2 (a : Option Addr) (n cap : Nat) (p : PlanM) (w : World) (hn : n ≤ 4) (hB : ∀ i, i < n → p.len i ≤ 1048576) (hp : PlanAt w a n p) :
    Calls Tryd.prog 61 #[.slice a n cap, .int .i64 2, .func (.func 63) #[] #[]] w fun e w' => ∃ v, e = .returned v ∧ OwnF w' w.heap.size v (pairsF 2 n p.len p.num n) ∧ Below w.heap.size w w' := by
  have HP := Hid.mk hp
  have HB := Hid.mk hB
  clear hp hB
  go_enter Tryd.func61, Tryd.ntmps61
  go_wp2
  go_loopw [7, 13] (fun v7 v13 wr => ∃ (i : Nat) (L : Value), i ≤ n ∧ L = v7 ∧ v13 = .int .i64 i ∧ OwnF wr w.heap.size L (pairsF 2 n p.len p.num i) ∧ Below w.heap.size w wr) (fun _ v13 _ => n - (intOf v13).toNat)
  case atStart => exact ⟨0, _, Nat.zero_le _, rfl, rfl, OwnF.nil _ _, Below.refl _ _⟩
  case round =>
    obtain ⟨wo, rfl⟩ : ∃ q, q = wr := ⟨_, rfl⟩
    obtain ⟨i, L, hi, rfl, rfl, hown, hbr⟩ := hrel
    have OWN := Hid.mk hown
    have BR := Hid.mk hbr
    clear hown hbr
    by_cases hlt : i < n
    · go_wp2
      go_loopw [7, 9] (fun v7 v9 wr => ∃ (k : Nat) (L : Value), i + 1 ≤ k ∧ k ≤ n ∧ L = v7 ∧ v9 = .int .i64 k ∧ OwnF wr w.heap.size L (pairsF 2 n p.len p.num i ++ othersF 2 i p.len p.num k) ∧ Below w.heap.size w wr) (fun _ v9 _ => n - (intOf v9).toNat)
      case atStart => exact ⟨i + 1, _, Nat.le_refl _, by omega, rfl, by go_num, by rw [othersF_low (Nat.le_refl _), List.append_nil]; exact OWN.out, BR.out⟩
      case round =>
        obtain ⟨wp, rfl⟩ : ∃ q, q = wr := ⟨_, rfl⟩
        obtain ⟨k, L2, hk1, hk2, rfl, rfl, hown2, hbr2⟩ := hrel
        have OWN2 := Hid.mk hown2
        have BR2 := Hid.mk hbr2
        clear hown2 hbr2
        by_cases hlk : k < n
        · obtain ⟨b, off, rfl, hpi⟩ := HP.out (by omega)
          have hpi2 := hpi.below BR2.out
          have c1 := (hpi2 i hlt).1
          have c2 := (hpi2 k hlk).1
          have BI := HB.out i hlt
          have BK := HB.out k hlk
          have SP := Hid.mk (span_le BI BK)
          obtain ⟨ai, hai⟩ : ∃ q, q = p.ad i := ⟨_, rfl⟩
          obtain ⟨ak, hak⟩ : ∃ q, q = p.ad k := ⟨_, rfl⟩
          obtain ⟨li, hli⟩ : ∃ q, q = p.len i := ⟨_, rfl⟩
          obtain ⟨lk, hlk'⟩ : ∃ q, q = p.len k := ⟨_, rfl⟩
          obtain ⟨ci, hci⟩ : ∃ q, q = p.cap i := ⟨_, rfl⟩
          obtain ⟨ck, hck⟩ : ∃ q, q = p.cap k := ⟨_, rfl⟩
          have NI : Hid (NumsAt w ai li (p.num i)) := by rw [hai, hli]; exact (hpi i hlt).2
          have NK : Hid (NumsAt w ak lk (p.num k)) := by rw [hak, hlk']; exact (hpi k hlk).2
          rw [← hai, ← hli, ← hci] at c1
          rw [← hak, ← hlk', ← hck] at c2
          have E1 : Hid (othersF 2 i p.len p.num (k + 1) = othersF 2 i p.len p.num k ++ timesF 2 i k (posM li (p.num i)) (posM lk (p.num k)) (spanM li lk)) := by rw [hli, hlk']; exact othersF_step (by omega)
          rw [← hli, ← hlk'] at SP
          rw [← hli] at BI
          rw [← hlk'] at BK
          have LP := Hid.mk (pairs_bd (lvl := 2) (num := p.num) hn HB.out hi)
          have LO := Hid.mk (others_bd (lvl := 2) (num := p.num) hn HB.out hlt hk2)
          have C1 : Hid (w.cell? ⟨b, off + i, none⟩ = some (.slice ai li ci)) := by rw [hai, hli, hci]; exact (hpi i hlt).1
          have C2 : Hid (w.cell? ⟨b, off + k, none⟩ = some (.slice ak lk ck)) := by rw [hak, hlk', hck]; exact (hpi k hlk).1
          clear hpi hpi2 hai hak hli hlk' hci hck
          go_wp2_with fail
          go_quiet ((go_at_call 86; exact Calls.quiet_of_same (instants_any _ _ _ _ _ _ _)))
          have OWN3 : Hid (OwnF (wp.drewN nq) w.heap.size L2 (pairsF 2 n p.len p.num i ++ othersF 2 i p.len p.num k)) := OWN2.out
          have BR3 : Hid (Below w.heap.size w (wp.drewN nq)) := below_drewN BR2.out _
          generalize wp.drewN nq = wq at *
          clear OWN2 BR2 c1 c2
          obtain ⟨S, hS⟩ : ∃ S, S = spanM li lk := ⟨_, rfl⟩
          rw [← hS] at E1 SP ⊢
          have HS := Hid.mk hS
          clear hS
          go_wp2_with fail
          go_loopw [7, 33] (fun v7 v33 wr => ∃ (t : Nat) (L : Value), t ≤ S ∧ L = v7 ∧ v33 = .int .i64 t ∧ OwnF wr w.heap.size L ((pairsF 2 n p.len p.num i ++ othersF 2 i p.len p.num k) ++ timesF 2 i k (posM li (p.num i)) (posM lk (p.num k)) t) ∧ Below w.heap.size w wr) (fun _ v33 _ => S - (intOf v33).toNat)
          case atStart => exact ⟨0, _, Nat.zero_le _, rfl, rfl, by simp only [timesF]; rw [List.append_nil]; exact OWN3.out, BR3.out⟩
          case round =>
            obtain ⟨wt, rfl⟩ : ∃ q, q = wr := ⟨_, rfl⟩
            obtain ⟨t, L3, ht, rfl, rfl, hown4, hbr4⟩ := hrel
            have OWN4 := Hid.mk hown4
            have BR4 := Hid.mk hbr4
            have hsp := SP.out
            clear hown4 hbr4
            by_cases hlt3 : t < S
            · obtain ⟨z1, z2⟩ : 0 < li ∧ 0 < lk := by
                have := HS.out
                unfold spanM at this
                by_cases e : li = 0 ∨ lk = 0
                · rw [if_pos e] at this; omega
                · omega
              have c1 := cell_later BR4.out C1.out
              have c2 := cell_later BR4.out C2.out
              obtain ⟨pb, hpb⟩ : ∃ pb, pb = pairB 2 (posM li (p.num i) t) (posM lk (p.num k) t) (posM li (p.num i) (t + 1)) (posM lk (p.num k) (t + 1)) := ⟨_, rfl⟩
              have CT : Hid (∀ w', Below w.heap.size w w' → Calls Tryd.prog 63 #[.slice ai li ci, .slice ak lk ck, .int .i64 t] w' fun e w2 => e = .returned (.bool pb) ∧ w2 = w') := fun w' h => by
                rw [hpb]
                exact jmeet2_any ai ak li ci lk ck t (p.num i) (p.num k) _ z1 BI z2 BK (by omega) (NI.out.below h) (NK.out.below h)
              have PB := Hid.mk hpb
              clear hpb
              go_wp2_with fail
              go_region_held3 (fun w' => w'.cell? ⟨b, off + i, none⟩ = some (.slice ai li ci) ∧ w'.cell? ⟨b, off + k, none⟩ = some (.slice ak lk ck)) (go_keep)
                (first
                  | (go_at_call 63; refine (CT.out _ BR4.out.drew).mono ?_; rintro e w4 ⟨rfl, rfl⟩))
              have OWN5 : Hid (OwnF wt.drew w.heap.size L3 ((pairsF 2 n p.len p.num i ++ othersF 2 i p.len p.num k) ++ timesF 2 i k (posM li (p.num i)) (posM lk (p.num k)) t)) := OWN4.out
              have BR5 : Hid (Below w.heap.size w wt.drew) := BR4.out.drew
              have LT := Hid.mk (timesF_len 2 i k (posM li (p.num i)) (posM lk (p.num k)) t)
              generalize wt.drew = wu at *
              clear OWN4 BR4 c1 c2 CT
              cases pb
              · have E2 := Hid.mk (times_miss (lvl := 2) (i := i) (k := k) PB.out.symm)
                go_wp2
                go_roundw
                case rel => exact ⟨t + 1, L3, by omega, rfl, by go_num, by rw [E2.out]; exact OWN5.out, BR5.out⟩
                case measure => simp [intOf]; omega
              · have E2 := Hid.mk (times_hit (lvl := 2) (i := i) (k := k) PB.out.symm)
                have hbs : Hid (w.heap.size ≤ wu.heap.size) := BR5.out.size
                have HLEN : Hid (((pairsF 2 n p.len p.num i ++ othersF 2 i p.len p.num k) ++ timesF 2 i k (posM li (p.num i)) (posM lk (p.num k)) t).length ≤ 100000000) := by
                  have h1 := LP.out; have h2 := LO.out; have h3 := LT.out; unfold Hid; simp only [List.length_append]; omega
                go_wp2_with (at_builtin; go_must (refine wpList_pushF rfl _ _ rfl w.heap.size L3 _ ⟨2, i, k, t⟩ rfl OWN5.out hbs.out _ rfl HLEN.out ?_; intro v5 w5 hown5 hb5))
                have OWN6 := Hid.mk hown5
                have BR6 : Hid (Below w.heap.size w w5) := BR5.out.trans hb5
                clear hown5 hb5
                go_wp2
                go_roundw
                case rel => exact ⟨t + 1, v5, by omega, rfl, by go_num, by rw [E2.out, ← List.append_assoc]; exact OWN6.out, BR6.out⟩
                case measure => simp [intOf]; omega
            · have E3 : Hid (pairsF 2 n p.len p.num i ++ othersF 2 i p.len p.num (k + 1) = (pairsF 2 n p.len p.num i ++ othersF 2 i p.len p.num k) ++ timesF 2 i k (posM li (p.num i)) (posM lk (p.num k)) t) := by
                have e : t = S := by omega
                unfold Hid
                rw [e, E1.out, List.append_assoc]
              go_wp2
              go_roundw
              case rel => exact ⟨k + 1, L3, by omega, by omega, rfl, by go_num, by rw [E3.out]; exact OWN4.out, BR4.out⟩
              case measure => simp [intOf]; omega
        · have E4 : Hid (pairsF 2 n p.len p.num (i + 1) = pairsF 2 n p.len p.num i ++ othersF 2 i p.len p.num k) := by
            have e : k = n := by omega
            unfold Hid
            rw [e]; rfl
          go_wp2
          go_roundw
          case rel => exact ⟨i + 1, L2, by omega, rfl, by go_num, by rw [E4.out]; exact OWN2.out, BR2.out⟩
          case measure => simp [intOf]; omega
    · have E5 : Hid (pairsF 2 n p.len p.num i = pairsF 2 n p.len p.num n) := by
        have e : i = n := by omega
        unfold Hid
        rw [e]
      go_wp2
      go_ret
      exact ⟨L, rfl, by rw [← E5.out]; exact OWN.out, BR.out⟩

end Go.Proofs.YtnkgpinadgacgabDoor

namespace Go.Proofs.YtnkgpinadgacgabDoor
open Go.RowKit M
namespace M
/-- Is there a fault of a step, or of the first cell, at an instant? -/
def stepB (co : Int) (cs : ByteArray) (n : Nat) (x : Nat → Int) (t : Nat) : Bool := (decide (t + 1 < n) && !mayM co cs (x t) (x (t + 1))) || (decide (t = 0) && !freeB cs (x t))

/-- The faults of a cart's steps, at the first instants. -/
def cellsF (co : Int) (cs : ByteArray) (i n : Nat) (x : Nat → Int) : Nat → List FaultM
  | 0 => []
  | t + 1 => cellsF co cs i n x t ++ (if M.stepB co cs n x t = true then [⟨1, i, -1, t⟩] else [])

/-- The faults of level 1. -/
def stepsF (co : Int) (cs : ByteArray) (len : Nat → Nat) (num : Nat → Nat → Int) : Nat → List FaultM
  | 0 => []
  | i + 1 => stepsF co cs len num i ++ cellsF co cs i (len i) (num i) (len i)

theorem cellsF_len (co : Int) (cs : ByteArray) (i n : Nat) (x : Nat → Int) : ∀ t, (cellsF co cs i n x t).length ≤ t
  | 0 => by simp [cellsF]
  | t + 1 => by
    have := cellsF_len co cs i n x t
    simp only [cellsF, List.length_append]
    split <;> simp <;> omega

theorem stepsF_len {co : Int} {cs : ByteArray} {n B : Nat} {len : Nat → Nat} {num : Nat → Nat → Int} (h : ∀ j, j < n → len j ≤ B) : ∀ i, i ≤ n → (stepsF co cs len num i).length ≤ i * B
  | 0, _ => by simp [stepsF]
  | i + 1, hi => by
    have ih := stepsF_len (co := co) (cs := cs) (num := num) h i (by omega)
    have h1 := cellsF_len co cs i (len i) (num i) (len i)
    have h2 := h i (by omega)
    have h3 : (i + 1) * B = i * B + B := Nat.succ_mul i B
    simp only [stepsF, List.length_append]
    omega

theorem cells_hit {co : Int} {cs : ByteArray} {i n t : Nat} {x : Nat → Int} (h : M.stepB co cs n x t = true) : cellsF co cs i n x (t + 1) = cellsF co cs i n x t ++ [⟨1, i, -1, t⟩] := by simp only [cellsF]; rw [if_pos h]

theorem cells_miss {co : Int} {cs : ByteArray} {i n t : Nat} {x : Nat → Int} (h : M.stepB co cs n x t = false) : cellsF co cs i n x (t + 1) = cellsF co cs i n x t := by simp only [cellsF]; rw [if_neg (by rw [h]; decide), List.append_nil]

end M
theorem steps_bd {co : Int} {cs : ByteArray} {n : Nat} {len : Nat → Nat} {num : Nat → Nat → Int} (hn : n ≤ 4) (h : ∀ j, j < n → len j ≤ 1048576) {i : Nat} (hi : i ≤ n) : (stepsF co cs len num i).length ≤ 4194304 := by
  have h1 := stepsF_len (co := co) (cs := cs) (num := num) h i hi
  have h2 : i * 1048576 ≤ 4 * 1048576 := Nat.mul_le_mul (by omega) (Nat.le_refl _)
  omega

/-- Does a number stand in a list? -/
def memB (z : Int) (L : List Int) : Bool := L.any (fun y => z == y)

theorem memB_iff {z : Int} {L : List Int} : memB z L = true ↔ z ∈ L := by
  unfold memB
  rw [List.any_eq_true]
  constructor
  · rintro ⟨y, hy, h⟩
    rw [show z = y by simpa using h]; exact hy
  · intro h
    exact ⟨z, h, by simp⟩

set_option maxRecDepth 100000 in
set_option maxHeartbeats 1000000 in
theorem sindex_any (base : Nat) (v : Value) (L : List Int) (z : Int) (w : World) (hL : L.length ≤ 1000) (hown : w.ownsRow base 3 1 v L.length (ints L)) :
    Calls Tryd.prog 111 #[v, .int .i64 z] w fun e w' => ∃ r : Int, e = .returned (.int .i64 r) ∧ decide (0 ≤ r) = memB z L ∧ w' = w := by
  obtain ⟨a, cap, rfl, hpos, _⟩ := own_form hown
  have HO := Hid.mk hown
  have HP := Hid.mk hpos
  clear hown hpos
  go_enter Tryd.func111, Tryd.ntmps111
  go_wp2
  go_loop [8] (fun v8 => ∃ k : Nat, v8 = .int .i64 k ∧ k ≤ L.length ∧ ∀ j, j < k → L[j]? ≠ some z) (fun v8 => L.length - (intOf v8).toNat)
  case atStart => exact ⟨0, rfl, Nat.zero_le _, fun j hj => absurd hj (Nat.not_lt_zero j)⟩
  case round =>
    obtain ⟨k, rfl, hk, hmiss⟩ := hrel
    have HM := Hid.mk hmiss
    clear hmiss
    by_cases hlt : k < L.length
    · obtain ⟨g, rfl⟩ := HP.out (by omega)
      have d := own_cell HO.out hlt
      rw [ints_at' hlt] at d
      obtain ⟨y, hy⟩ : ∃ y, y = L.getD k 0 := ⟨_, rfl⟩
      rw [← hy] at d
      have hyk : Hid (L[k]? = some y) := by unfold Hid; rw [hy, List.getD_eq_getElem?_getD, List.getElem?_eq_getElem hlt]; rfl
      clear hy
      by_cases e : (z == y) = true
      · have MEM : Hid (memB z L = true) := memB_iff.2 (by
          rw [show z = y by simpa using e]
          exact List.mem_of_getElem? hyk.out)
        go_wp2
        go_ret
        exact ⟨k, rfl, by rw [MEM.out]; simp, rfl⟩
      · have en : (z == y) = false := by simpa using e
        have NEQ : Hid (L[k]? ≠ some z) := by unfold Hid; rw [hyk.out]; intro h; exact e (by simp at h; simp [h])
        clear e
        go_wp2
        go_round
        case rel =>
          refine ⟨k + 1, by go_num, by omega, fun j hj => ?_⟩
          by_cases ej : j = k
          · subst ej; exact NEQ.out
          · exact HM.out j (by omega)
        case measure => simp [intOf]; omega
    · have NO : Hid (memB z L = false) := by
        cases h : memB z L with
        | false => rfl
        | true =>
          obtain ⟨j, hj⟩ := List.mem_iff_getElem?.1 (memB_iff.1 h)
          have hjl : j < L.length := (List.getElem?_eq_some_iff.1 hj).1
          exact absurd hj (HM.out j (by omega))
      go_wp2
      go_ret
      exact ⟨-1, rfl, by rw [NO.out]; decide, rfl⟩

theorem contains_any (base : Nat) (v : Value) (L : List Int) (z : Int) (w : World) (hL : L.length ≤ 1000) (hown : w.ownsRow base 3 1 v L.length (ints L)) :
    Calls Tryd.prog 109 #[v, .int .i64 z] w fun e w' => e = .returned (.bool (memB z L)) ∧ w' = w := by
  go_enter Tryd.func109, Tryd.ntmps109
  go_wp2_with fail
  refine (sindex_any base v L z _ hL hown).mono ?_
  rintro e w1 ⟨r, rfl, hr, hw⟩
  have hw := hw.symm
  subst hw
  have HR := Hid.mk hr
  clear hr
  go_wp2
  go_ret
  exact ⟨ret_bool HR.out, rfl⟩

theorem nb_range {ro co c z : Int} (h1 : 1 ≤ co) (h2 : co ≤ 6) (h : z ∈ nbAt ro co c 4) : 0 ≤ z ∧ z < ro * co := by
  obtain ⟨i, hi, hr, hk, rfl⟩ := nbAt_mem.1 h
  obtain ⟨k0, k1⟩ := rng_bd hk
  obtain ⟨r0, r1⟩ := rng_bd hr
  obtain ⟨r, hr'⟩ : ∃ r, r = c / co + drow i := ⟨_, rfl⟩
  obtain ⟨k, hk'⟩ : ∃ k, k = c % co + dcol i := ⟨_, rfl⟩
  rw [← hr'] at r0 r1 ⊢
  rw [← hk'] at k0 k1 ⊢
  have e : co = 1 ∨ co = 2 ∨ co = 3 ∨ co = 4 ∨ co = 5 ∨ co = 6 := by omega
  rcases e with e | e | e | e | e | e <;> subst e <;> omega

/-- To go from a to a free cell: the same, or a neighbour. -/
theorem mayGo_eq {ro co a : Int} {b : Nat} {cs : ByteArray} (h1 : 1 ≤ co) (h2 : co ≤ 6) (hsz : (cs.size : Int) = ro * co) (hf : freeB cs b = true) (hb : b < cs.size) : mayM co cs a b = (a == (b : Int) || memB a (nbAt ro co b 4)) := by
  rw [Bool.eq_iff_iff, Bool.or_eq_true, memB_iff]
  constructor
  · intro h
    unfold mayM at h
    simp only [Bool.and_eq_true, decide_eq_true_eq] at h
    obtain ⟨_, h0, h3, hn⟩ := h
    by_cases e : a = (b : Int)
    · exact Or.inl (by simpa using e)
    · exact Or.inr (nb_all h1 h2 (by omega) (by omega) h0 (by omega) (by rw [near_comm]; exact hn) e)
  · rintro (h | h)
    · have e : a = (b : Int) := by simpa using h
      subst e
      rw [mayM_in hf (by omega) (by omega)]
      unfold nearM; simp
    · obtain ⟨h3, h4⟩ := nb_range h1 h2 h
      rw [mayM_in hf h3 (by omega), near_comm]
      exact nb_near h1 h2 h

set_option maxRecDepth 100000 in
set_option maxHeartbeats 1000000 in
theorem mayGo_any (ro co bu a b : Int) (cs : ByteArray) (ac : Option Addr) (mc cc : Nat) (w : World) (hs : cs.size ≤ 36) (r1 : 1 ≤ ro) (r2 : ro ≤ 6) (h1 : 1 ≤ co) (h2 : co ≤ 6) (hsz : (cs.size : Int) = ro * co) (hsd : SidesIn w) :
    Calls Tryd.prog 103 #[.agg #[.int .i64 ro, .int .i64 co, .string cs, .slice ac mc cc, .int .i64 bu], .int .i64 a, .int .i64 b] w fun e w' => e = .returned (.bool (mayM co cs a b)) ∧ Below w.heap.size w w' := by
  have HSD := Hid.mk hsd
  have HB0 : Hid (∀ o, Below w.heap.size w (w.alloc o)) := fun _ => (Below.refl _ w).alloc (Nat.le_refl _) _
  have hsm : cs.size ≤ maxLen := by unfold maxLen; omega
  clear hsd
  by_cases hf : freeB cs b = true
  · obtain ⟨b', rfl⟩ := Int.eq_ofNat_of_zero_le (show 0 ≤ b by
      by_cases h : 0 ≤ b
      · exact h
      · rw [freeB_out (by omega)] at hf; cases hf)
    have hbN := free_lt hf
    have EQ := Hid.mk (mayGo_eq (a := a) h1 h2 hsz hf hbN)
    have HF := Hid.mk hf
    clear hf hsz
    go_enter Tryd.func103, Tryd.ntmps103
    go_wp2_with fail
    refine (gfree_any _ _ _ _ _ _ _ hsm).mono ?_
    rintro e w1 ⟨he, hb1⟩
    rw [HF.out] at he
    subst he
    have B1 : Hid (Below w.heap.size w w1) := (HB0.out _).trans (hb1.mono (by simp))
    have y1 : ∀ o, w1.cell? ⟨w.heap.size, o, none⟩ = #[Value.int .i64 ro, .int .i64 co, .string cs, .slice ac mc cc, .int .i64 bu][o]? := by
      intro o
      rw [hb1.cell (p := ⟨w.heap.size, o, none⟩) (by show w.heap.size < _; simp)]; go_simp
    clear hb1
    by_cases e1 : (a == (b' : Int)) = true
    · have RES : Hid (mayM co cs a b' = true) := by unfold Hid; rw [EQ.out, e1]; rfl
      go_wp2
      go_ret
      exact ⟨ret_bool RES.out.symm, B1.out⟩
    · have e1n : (a == (b' : Int)) = false := by simpa using e1
      have RES : Hid (mayM co cs a b' = memB a (nbAt ro co b' 4)) := by unfold Hid; rw [EQ.out, e1n]; rfl
      clear e1
      go_wp2_with fail
      refine (neighbours_any ro co bu cs _ b' _ (HSD.out.below B1.out) r1 r2 h1 h2 (by omega)).mono ?_
      rintro e w2 ⟨v, rfl, hown, hb2⟩
      have OWN := Hid.mk hown
      have B2 : Hid (Below w.heap.size w w2) := B1.out.trans (hb2.mono B1.out.size)
      have NL := nbAt_len ro co b' 4
      clear hown hb2 y1
      go_wp2_with fail
      refine (contains_any _ v _ a _ (by omega) OWN.out).mono ?_
      rintro e w3 ⟨rfl, hw⟩
      have hw := hw.symm
      subst hw
      go_wp2
      go_ret
      exact ⟨ret_bool RES.out.symm, B2.out⟩
  · have hfn : freeB cs b = false := by simpa using hf
    have HM : Hid (mayM co cs a b = false) := mayM_out (Or.inl hfn)
    have HF := Hid.mk hfn
    clear hf hfn
    go_enter Tryd.func103, Tryd.ntmps103
    go_wp2_with fail
    refine (gfree_any _ _ _ _ _ _ _ hsm).mono ?_
    rintro e w1 ⟨he, hb1⟩
    rw [HF.out] at he
    subst he
    have B1 : Hid (Below w.heap.size w w1) := (HB0.out _).trans (hb1.mono (by simp))
    clear hb1
    go_wp2
    go_ret
    exact ⟨ret_bool HM.out.symm, B1.out⟩

end Go.Proofs.YtnkgpinadgacgabDoor
