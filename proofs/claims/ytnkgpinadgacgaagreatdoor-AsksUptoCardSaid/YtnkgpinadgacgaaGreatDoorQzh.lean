/- Gc, Gk, Gm, Gn, Gq. -/
import Derived.Test.YtnkgpinadgacgaaGreatDoorQv
set_option maxRecDepth 1000000
set_option maxHeartbeats 8000000
namespace Go.Proofs.YtnkgpinadgacgaaGreatDoor
section
open Go.RowKit M
def aheadB (ac aw bc bw : Int) : Bool := decide (aw < bw) || (aw == bw && decide (bc < ac))
theorem jahead_any (x0 x1 x2 x3 x4 x5 x6 x7 y0 y1 y2 y3 y4 y5 y6 y7 : Value) (ac aw bc bw : Int) (w : World) :
 Calls Tryz.prog 76 #[.agg #[x0, x1, x2, x3, x4, x5, x6, x7, .int .i64 ac, .int .i64 aw], .agg #[y0, y1, y2, y3, y4, y5, y6, y7, .int .i64 bc, .int .i64 bw]] w fun e w' =>
  e = .returned (.bool (aheadB ac aw bc bw)) ∧ Below w.heap.size w w' := by
 have B0 : Hid (∀ o p, Below w.heap.size w ((w.alloc o).alloc p)) := fun o p => ((Below.refl _ w).alloc zl o).alloc (by simp) p
 go_enter Tryz.func76, Tryz.ntmps76; by_cases h1 : aw < bw
 . have d1 : decide (aw < bw) = true := by simp [h1]
   have R : Hid (aheadB ac aw bc bw = true) := by unfold Hid aheadB; simp [h1]
   go_wp2; go_ret; exact ⟨ret_bool R.out.symm, B0.out _ _⟩
 . have d1 : decide (aw < bw) = false := by simp; omega
   by_cases h2 : aw = bw
   . have d2 : (aw == bw) = true := by simp [h2]
     by_cases h3 : bc < ac
     . have d3 : decide (bc < ac) = true := by simp [h3]
       have R : Hid (aheadB ac aw bc bw = true) := by unfold Hid aheadB; simp [h2, h3]
       clear h2; go_wp2; go_ret; exact ⟨ret_bool R.out.symm, B0.out _ _⟩
     . have d3 : decide (bc < ac) = false := by simp; omega
       have R : Hid (aheadB ac aw bc bw = false) := by unfold Hid aheadB; simp [h2]; omega
       clear h2; go_wp2; go_ret; exact ⟨ret_bool R.out.symm, B0.out _ _⟩
   . have d2 : (aw == bw) = false := by simp [h2]
     have R : Hid (aheadB ac aw bc bw = false) := by unfold Hid aheadB; simp [h1, h2]
     go_wp2; go_ret; exact ⟨ret_bool R.out.symm, B0.out _ _⟩
def sumTo (f : Nat -> Int) : Nat -> Int
 | 0 => 0
 | n + 1 => sumTo f n + f n
theorem sumTo_bd {f : Nat -> Int} : ∀ {n : Nat}, (∀ i, i < n -> 0 <= f i ∧ f i <= 36) -> 0 <= sumTo f n ∧ sumTo f n <= 36 * n
 | 0, _ => by simp [sumTo]
 | n + 1, h => by
   have h1 := sumTo_bd (n := n) (fun i hi => h i (by omega)); have h2 := h n (by omega); show 0 <= sumTo f n + f n ∧ sumTo f n + f n <= _; omega
theorem rest_any (S gf cf K N : Nat) (H c : Nat -> Nat) (st : Nat -> Nat -> Int) (pf : Nat -> Nat) (w : World) (hK : K <= 4) (hN : N <= 36) (hf : w.cell? ⟨S, 2, none⟩ = some (.slice (some ⟨gf, 0, none⟩) K cf)) (hr : ∀ t, t < K -> w.cell? ⟨gf, t, none⟩ = some (.slice (some ⟨H t, 0, none⟩) N (c t)))
 (hc : ∀ t i, t < K -> i < N -> w.cell? ⟨H t, i, none⟩ = some (.int .i64 (st t i))) (hq : ∀ t, t < K -> pf t < N) (hb : ∀ t, t < K -> 0 <= st t (pf t) ∧ st t (pf t) <= 36) :
 Calls Tryz.prog 79 #[.pointer (some ⟨S, 0, none⟩), .agg #[.int .u8 (pf 0 : Nat), .int .u8 (pf 1 : Nat), .int .u8 (pf 2 : Nat), .int .u8 (pf 3 : Nat)]] w fun e w' =>
  e = .returned (.int .i64 (sumTo (fun t => st t (pf t)) K)) ∧ Below w.heap.size w w' := by
 have HR := zx hr; have HC := zx hc; have HQ := zx hq; have HBD := zx hb; have hSl := World.block_lt_of_cell? (a := ⟨S, 2, none⟩) _ hf; clear hr hc hq hb; go_enter Tryz.func79, Tryz.ntmps79; have P0 : Hid (∀ k, k < 4 -> (w.alloc (.cells #[.int .u8 (pf 0 : Nat), .int .u8 (pf 1 : Nat), .int .u8 (pf 2 : Nat), .int .u8 (pf 3 : Nat)] 103)).cell? ⟨w.heap.size, k, none⟩ = some (.int .u8 (pf k : Nat))) := by
  intro k hk; match k, hk with
  | 0, _ => go_simp
  | 1, _ => go_simp
  | 2, _ => go_simp
  | 3, _ => go_simp
 have B0 : Hid (Below w.heap.size w (w.alloc (.cells #[.int .u8 (pf 0 : Nat), .int .u8 (pf 1 : Nat), .int .u8 (pf 2 : Nat), .int .u8 (pf 3 : Nat)] 103))) := (Below.refl _ _).alloc zl _; go_wp2; generalize (w.alloc (.cells #[.int .u8 (pf 0 : Nat), .int .u8 (pf 1 : Nat), .int .u8 (pf 2 : Nat), .int .u8 (pf 3 : Nat)] 103)) = w1 at *; go_loopw [5, 6, 7, 13] (fun v5 _ _ v13 wr => ∃ k : Nat, v13 = .int .i64 k ∧ k <= K ∧ v5 = .int .i64 (sumTo (fun t => st t (pf t)) k) ∧ w1 = wr) (fun _ _ _ v13 _ => K - (intOf v13).toNat)
 case atStart => exact ⟨0, rfl, Nat.zero_le _, rfl, rfl⟩
 case round =>
  obtain ⟨k, rfl, hk, rfl, rfl⟩ := hrel; have bd := sumTo_bd (f := fun t => st t (pf t)) (n := k) (fun i hi => HBD.out i (by omega)); by_cases hlt : k < K
  . have hkI : (k : Int) < (K : Int) := by omega
    have hk4 : (k : Int) < 4 := by omega
    have d0 := zj B0.out (HR.out k hlt); have d1 := P0.out k (by omega); have d2 := zj B0.out (HC.out k (pf k) hlt (HQ.out k hlt)); have hqN := HQ.out k hlt; have bk := HBD.out k hlt; have NX : Hid (sumTo (fun t => st t (pf t)) k + st k (pf k) = sumTo (fun t => st t (pf t)) (k + 1)) := rfl; obtain ⟨z, hz⟩ : ∃ z, z = pf k := ⟨_, rfl⟩
    rw [<- hz] at d1 d2 hqN bk NX; obtain ⟨sm, hsm⟩ : ∃ sm, sm = sumTo (fun t => st t (pf t)) k := ⟨_, rfl⟩
    rw [<- hsm] at bd NX ⊢; have hzI : (z : Int) < (N : Int) := by omega
    have hz36 : (z : Int) < 256 := by omega
    clear hz hsm; go_wp2; go_roundw; case rel => exact ⟨k + 1, by go_num, by omega, by rw [<- NX.out], by first | rfl | trivial⟩
    case measure => simp [intOf]; omega
  . have hd : k = K := by omega
    subst hd; go_wp2; go_ret; exact ⟨rfl, B0.out⟩
end
section
open Go.RowKit M SM
def ldL (l : LeadM) : List Value := [.int .u8 (l.st.1.getD 0 0 : Nat), .int .u8 (l.st.1.getD 1 0 : Nat), .int .u8 (l.st.1.getD 2 0 : Nat), .int .u8 (l.st.1.getD 3 0 : Nat), .bool (l.st.2.getD 0 false), .bool (l.st.2.getD 1 false), .bool (l.st.2.getD 2 false), .bool (l.st.2.getD 3 false), .int .i64 (l.c : Nat), .int .i64 (l.k : Nat)]
theorem ldL_len (l : LeadM) : (ldL l).length = 10 := rfl
theorem ldL_one (l : LeadM) : ∀ v ∈ ldL l, v.oneCell' = true := by
 intro v hv; unfold ldL at hv; simp only [List.mem_cons, List.not_mem_nil, or_false] at hv; rcases hv with rfl | rfl | rfl | rfl | rfl | rfl | rfl | rfl | rfl | rfl <;> rfl
theorem Tryz.sizeLead : (Tryz.prog.info? 152).map (·.size) = some 10 := by kernel_rfl
def ItemsL (w : World) (G cap n : Nat) (it : Nat -> LeadM) : Prop :=
 n <= cap ∧ cap <= maxLen ∧ ∃ f, w.rowIs G 152 (cap * 10) f ∧ ∀ i, i < n -> ∀ t, t < 10 -> (ldL (it i))[t]? = some (f (i * 10 + t))
section
variable {w w' : World} {G cap n : Nat} {it it' : Nat → LeadM}
theorem ItemsL.block (h : ItemsL w G cap n it) (e : w'.heap[G]? = w.heap[G]?) : ItemsL w' G cap n it := by
 obtain ⟨h1, h2, f, h3, h4⟩ := h; exact ⟨h1, h2, f, h3.of_block e, h4⟩
theorem ItemsL.lt (h : ItemsL w G cap n it) : G < w.heap.size := by
 obtain ⟨_, _, f, h3, _⟩ := h; exact h3.lt
theorem ItemsL.room (h : ItemsL w G cap n it) : n <= cap ∧ cap <= maxLen := ⟨h.1, h.2.1⟩
theorem ItemsL.same (h : ItemsL w G cap n it) (e : ∀ i, i < n -> it i = it' i) : ItemsL w G cap n it' := by
 obtain ⟨h1, h2, f, h3, h4⟩ := h; exact ⟨h1, h2, f, h3, fun i hi t ht => by rw [<- e i hi]; exact h4 i hi t ht⟩
theorem ItemsL.drew (h : ItemsL w G cap n it) : ItemsL w.drew G cap n it := h
theorem ItemsL.less {n' : Nat} (h : ItemsL w G cap n it) (e : n' <= n) : ItemsL w G cap n' it := by
 obtain ⟨h1, h2, f, h3, h4⟩ := h; exact ⟨by omega, h2, f, h3, fun i hi t ht => h4 i (by omega) t ht⟩
theorem ItemsL.range (h : ItemsL w G cap n it) {i : Nat} (hi : i < n) : w.rangeAt G (i * 10) (ldL (it i)) := by
 obtain ⟨h1, _, f, h3, h4⟩ := h; intro j v hv; have hj : j < 10 := by have := (List.getElem?_eq_some_iff.1 hv).1; rw [ldL_len] at this; exact this
 rw [h4 i hi j hj] at hv; cases hv; exact h3.cell (by omega)
theorem ItemsL.there (h : ItemsL w G cap n it) {i : Nat} (hi : i < cap) : w.there G (i * 10) 10 := by
 obtain ⟨h1, _, f, h3, h4⟩ := h; intro j hj; refine ⟨?_, h3.frozen _⟩; rw [h3.cell (by omega)]; rfl
theorem rowL_set {b : Nat} {t : TypeId} {N : Nat} : ∀ (vs : List Value) (o : Nat) (w : World) (f : Nat -> Value), w.rowIs b t N f -> (w.setCells b o vs).rowIs b t N (fun j => if o <= j ∧ j < o + vs.length then vs[j - o]?.getD undef else f j)
 | [], o, w, f, h => h.congr fun j _ => by rw [if_neg (by simp)]
 | v :: r, o, w, f, h => by
   refine (rowL_set r (o + 1) _ _ (h.set o v)).congr fun j _ => ?_
   by_cases h1 : j = o
   . subst h1; rw [if_neg (by omega), if_pos rfl, if_pos (by simp), Nat.sub_self]; rfl
   . by_cases h2 : o + 1 <= j ∧ j < o + 1 + r.length
     . rw [if_pos h2, if_pos (by simp; omega), show j - o = (j - (o + 1)) + 1 by omega, List.getElem?_cons_succ]
     . rw [if_neg h2, if_neg h1, if_neg (by simp; omega)]
theorem ItemsL.put (h : ItemsL w G cap n it) (i : Nat) (l : LeadM) : ItemsL (w.setCells G (i * 10) (ldL l)) G cap n (fun j => if j = i then l else it j) := by
 obtain ⟨h1, h2, f, h3, h4⟩ := h; refine ⟨h1, h2, _, rowL_set (ldL l) (i * 10) w f h3, fun j hj t ht => ?_⟩; by_cases e : j = i
 . subst e; have e0 : (fun k => if k = j then l else it k) j = l := if_pos rfl; rw [e0, if_pos (by rw [ldL_len]; omega), show j * 10 + t - j * 10 = t by omega, List.getElem?_eq_getElem (by rw [ldL_len]; exact ht)]; rfl
 . have e0 : (fun k => if k = i then l else it k) j = it j := if_neg e; rw [e0, if_neg (by rw [ldL_len]; omega)]; exact h4 j hj t ht
theorem Only.setCells {S : Nat -> Prop} {a : World} {b : Nat} (hb : b < a.heap.size -> S b) : ∀ (vs : List Value) (o : Nat) (w : World), Only S a w -> Only S a (w.setCells b o vs)
 | [], _, _, h => h
 | v :: r, o, _, h => Only.setCells hb r (o + 1) _ (h.setCell (p := ⟨b, o, none⟩) hb v)
end
def aheadV : Value := .func (.func 76) #[] #[]
def SrcAt (w : World) (S : Nat) (c0 c1 c2 c3 v : Value) : Prop := w.heap[S]? = some (.cells #[c0, c1, c2, c3, aheadV, v] 121 (0, 0))
section
variable {w w' : World} {S : Nat} {c0 c1 c2 c3 v : Value}
theorem SrcAt.block (h : SrcAt w S c0 c1 c2 c3 v) (e : w'.heap[S]? = w.heap[S]?) : SrcAt w' S c0 c1 c2 c3 v := e.trans h
theorem SrcAt.lt (h : SrcAt w S c0 c1 c2 c3 v) : S < w.heap.size := (Array.getElem?_eq_some_iff.1 h).1
theorem SrcAt.cells (h : SrcAt w S c0 c1 c2 c3 v) : w.cell? ⟨S, 0, none⟩ = some c0 ∧ w.cell? ⟨S, 1, none⟩ = some c1 ∧ w.cell? ⟨S, 2, none⟩ = some c2 ∧ w.cell? ⟨S, 3, none⟩ = some c3 ∧ w.cell? ⟨S, 4, none⟩ = some aheadV ∧ w.cell? ⟨S, 5, none⟩ = some v := by
 unfold SrcAt at h; simp [World.cell?, h]
theorem SrcAt.fz (h : SrcAt w S c0 c1 c2 c3 v) (o : Nat) : w.frozen? ⟨S, o, none⟩ = false := by
 unfold SrcAt at h; simp [World.frozen?, h]
theorem SrcAt.put (h : SrcAt w S c0 c1 c2 c3 v) (u : Value) : SrcAt (w.setCell ⟨S, 5, none⟩ u) S c0 c1 c2 c3 u := by
 unfold SrcAt at *; simp [World.setCell, Array.getElem?_modify, h]
end
theorem src_apart {w : World} {S G cap n : Nat} {c0 c1 c2 c3 v : Value} {it : Nat -> LeadM} (h : SrcAt w S c0 c1 c2 c3 v) (h' : ItemsL w G cap n it) : S ≠ G := by
 intro e; subst e; unfold SrcAt at h; obtain ⟨_, _, f, ⟨cur, h1, _⟩, _⟩ := h'; rw [h1] at h; simp at h
end
section
open Go.RowKit M SM
theorem swapL_any (S G cap n i j : Nat) (c0 c1 c2 c3 : Value) (it : Nat -> LeadM) (w : World) (hh : SrcAt w S c0 c1 c2 c3 (.slice (some ⟨G, 0, none⟩) n cap)) (hit : ItemsL w G cap n it) (hi : i < n) (hj : j < n) :
 Calls Tryz.prog 106 #[.pointer (some ⟨S, 4, none⟩), .int .i64 i, .int .i64 j] w fun e w' =>
  e = .returned (.tuple #[]) ∧ ItemsL w' G cap n (HM.swapIt it i j) ∧ Only (fun k => k = G) w w' := by
 have hrm := hit.room.1; have HS : (fun u : World => u.cell? ⟨S, 5, none⟩ = some (.slice (some ⟨G, 0, none⟩) n cap) ∧ u.rangeAt G (i * 10) (ldL (it i)) ∧ u.rangeAt G (j * 10) (ldL (it j))) w.drew := ⟨hh.cells.2.2.2.2.2, by simpa using hit.range hi, by simpa using hit.range hj⟩
 have T1 := zx (show w.drew.there G (i * 10) 10 from by simpa using hit.there (show i < cap by omega)); have T2 := zx (show (w.drew.setCells G (i * 10) (ldL (it j))).there G (j * 10) 10 from World.there_setCells (by simpa using hit.there (show j < cap by omega)) _ _ _); have W0 : Hid (ItemsL ((w.drew.setCells G (i * 10) (ldL (it j))).setCells G (j * 10) (ldL (it i))) G cap n (HM.swapIt it i j)) := by
  refine ((hit.drew.put i (it j)).put j (it i)).same fun k _ => ?_
  unfold HM.swapIt; by_cases k1 : k = i
  . subst k1; by_cases k3 : k = j
    . subst k3; simp
    . simp [k3]
  . by_cases k3 : k = j
    . subst k3; simp [k1]
    . simp [k1, k3]
 have W2 : Hid (Only (fun k => k = G) w ((w.drew.setCells G (i * 10) (ldL (it j))).setCells G (j * 10) (ldL (it i)))) := by
  have O0 : Only (fun k => k = G) w w.drew := (Only.refl _ w).drew; exact Only.setCells (S := fun k => k = G) (fun _ => rfl) _ _ _ (Only.setCells (S := fun k => k = G) (fun _ => rfl) _ _ _ O0)
 have i1 : (i : Int) < (n : Int) := by omega
 have j1 : (j : Int) < (n : Int) := by omega
 clear hh hit; go_enter Tryz.func106, Tryz.ntmps106; go_wp2; refine wp_region_any (by kernel_rfl) ?_; change wpAny _ _ _ _ _ _ _ (World.drew _); refine LM.T 0 (.pointer (some ⟨S, 4, none⟩)) rfl ?_; refine LM.T 1 (.pointer (some ⟨S, 4, none⟩)) rfl ?_; refine LM.T 2 (.pointer (some ⟨S, 5, none⟩)) rfl ?_; refine LM.T 4 (.int .i64 i) rfl ?_; refine LM.T 5 (.pointer (some ⟨S, 4, none⟩)) rfl ?_; refine LM.T 6 (.pointer (some ⟨S, 4, none⟩)) rfl ?_; refine LM.T 7 (.pointer (some ⟨S, 5, none⟩)) rfl ?_; refine LM.T 9 (.int .i64 j) rfl ?_; refine LM.T 10 (.pointer (some ⟨S, 4, none⟩)) rfl ?_
 refine LM.T 11 (.pointer (some ⟨S, 4, none⟩)) rfl ?_; refine LM.T 12 (.pointer (some ⟨S, 5, none⟩)) rfl ?_; refine LM.T 14 (.int .i64 j) rfl ?_; refine LM.T 17 (.pointer (some ⟨S, 4, none⟩)) rfl ?_; refine LM.T 18 (.pointer (some ⟨S, 4, none⟩)) rfl ?_; refine LM.T 19 (.pointer (some ⟨S, 5, none⟩)) rfl ?_; refine LM.T 21 (.int .i64 i) rfl ?_; refine LM.any_of_L (late := LM.lateOf [25, 26, 27]) (S := fun u => u.cell? ⟨S, 5, none⟩ = some (.slice (some ⟨G, 0, none⟩) n cap) ∧ u.rangeAt G (i * 10) (ldL (it i)) ∧ u.rangeAt G (j * 10) (ldL (it j))) _ _ _ _ ?_
 refine LM.TL 3 (.slice (some ⟨G, 0, none⟩) n cap) rfl (Or.inl ⟨by rfl, fun u hu => by have h5 := hu.1; go_simp⟩) HS ?_; refine LM.TL 8 (.slice (some ⟨G, 0, none⟩) n cap) rfl (Or.inl ⟨by rfl, fun u hu => by have h5 := hu.1; go_simp⟩) HS ?_; refine LM.TL 13 (.slice (some ⟨G, 0, none⟩) n cap) rfl (Or.inl ⟨by rfl, fun u hu => by have h5 := hu.1; go_simp⟩) HS ?_; refine LM.TL 20 (.slice (some ⟨G, 0, none⟩) n cap) rfl (Or.inl ⟨by rfl, fun u hu => by have h5 := hu.1; go_simp⟩) HS ?_; refine LM.TL 15 (.pointer (some ⟨G, j * 10, none⟩)) rfl (Or.inl ⟨by rfl, fun u _ => by go_simp⟩) HS ?_
 refine LM.TL 22 (.pointer (some ⟨G, i * 10, none⟩)) rfl (Or.inl ⟨by rfl, fun u _ => by go_simp⟩) HS ?_; refine LM.TL 16 (.agg (ldL (it j)).toArray) rfl (yieldsIf_load_mid (by rfl) 152 (.tmp 21) rfl G (j * 10) (by go_simp) (ldL (it j)) _ (fun u hu => hu.2.2) Tryz.underlying152 rfl ((congrArg some (ldL_len (it j))).symm ▸ Tryz.sizeLead)) HS ?_; refine LM.TL 23 (.agg (ldL (it i)).toArray) rfl (yieldsIf_load_mid (by rfl) 152 (.tmp 28) rfl G (i * 10) (by go_simp) (ldL (it i)) _ (fun u hu => hu.2.1) Tryz.underlying152 rfl ((congrArg some (ldL_len (it i))).symm ▸ Tryz.sizeLead)) HS ?_
 refine LM.TL 24 (.pointer (some ⟨G, i * 10, none⟩)) rfl (Or.inl ⟨by rfl, fun u _ => by go_simp⟩) HS ?_; refine LM.L_rest (by kernel_rfl) ?_; refine LM.any_store (i := 25) rfl (by kernel_rfl) rfl 152 (.tmp 30) (.tmp 22) rfl G (i * 10) (ldL (it j)).toArray (by go_simp) (by go_simp) (by exact T1.out) ((congrArg some (ldL_len (it j))).symm ▸ Tryz.sizeLead) (all_oneCell_toArray (ldL_one _)) ?_; refine LM.T 26 (.pointer (some ⟨G, j * 10, none⟩)) rfl ?_
 refine LM.any_store (i := 27) rfl (by kernel_rfl) rfl 152 (.tmp 31) (.tmp 29) rfl G (j * 10) (ldL (it i)).toArray (by go_simp) (by go_simp) (by exact T2.out) ((congrArg some (ldL_len (it i))).symm ▸ Tryz.sizeLead) (all_oneCell_toArray (ldL_one _)) ?_; refine wpAny_done (by kernel_rfl) ?_ _; go_end0
 exact ⟨rfl, W0.out, W2.out⟩
end
section
open Go.RowKit M SM
theorem ltL_is (x y : LeadM) : aheadB (x.c : Nat) (x.k : Nat) (y.c : Nat) (y.k : Nat) = ltL x y := by
 unfold aheadB ltL; rw [Bool.eq_iff_iff]; simp only [Bool.or_eq_true, Bool.and_eq_true, decide_eq_true_eq, beq_iff_eq]; omega
theorem aheadL_any (x y : LeadM) (w : World) : Calls Tryz.prog 76 #[.agg (ldL x).toArray, .agg (ldL y).toArray] w fun e w' => e = .returned (.bool (ltL x y)) ∧ Below w.heap.size w w' := by
 rw [<- ltL_is]; exact jahead_any _ _ _ _ _ _ _ _ _ _ _ _ _ _ _ _ _ _ _ _ w
theorem riseL_any (S G cap n a0 f0 : Nat) (c0 c1 c2 c3 : Value) (it : Nat -> LeadM) (w : World) (hh : SrcAt w S c0 c1 c2 c3 (.slice (some ⟨G, 0, none⟩) n cap)) (hit : ItemsL w G cap n it) (han : a0 < n) (haf : a0 <= f0) (hn : n <= 1000000000) :
 Calls Tryz.prog 95 #[.pointer (some ⟨S, 4, none⟩), .int .i64 a0] w fun e w' =>
  e = .returned (.tuple #[]) ∧ ItemsL w' G cap n (HM.riseF ltL f0 it a0) ∧ Only (fun k => k = G) w w' := by
 have HH := zx hh; have NE := zx (src_apart hh hit); have hHl := hh.lt; have IT := zx hit; obtain ⟨R, hR⟩ : ∃ R, R = HM.riseF ltL f0 it a0 := ⟨_, rfl⟩
 rw [<- hR]; have HR := zx hR.symm; clear hh hit hR; go_enter Tryz.func95, Tryz.ntmps95; go_wp2; go_loopw [1] (fun s wr => ∃ (f b : Nat) (it' : Nat -> LeadM), s = .int .i64 b ∧ b < n ∧ b <= f ∧ HM.riseF ltL f it' b = R ∧ ItemsL wr G cap n it' ∧ Only (fun k => k = G) w wr) (fun s _ => (intOf s).toNat)
 case atStart => exact ⟨f0, a0, it, rfl, han, haf, HR.out, IT.out, Only.refl _ _⟩
 case round =>
  obtain ⟨wo, rfl⟩ : ∃ x, x = wr := ⟨_, rfl⟩
  obtain ⟨f, b, it', rfl, hb, hbf, hrr, hit, honly⟩ := hrel; have RR := zx hrr; have IT' := zx hit; have HO := zx honly; have hz := honly.size; have HHr := zx (HH.out.block (honly.block _ hHl NE.out)); clear hrr hit honly; by_cases h0 : 0 < b
  . obtain ⟨g, rfl⟩ : ∃ g, f = g + 1 := ⟨f - 1, by omega⟩
    obtain ⟨p, hp⟩ : ∃ p, p = (b - 1) / 2 := ⟨_, rfl⟩
    have hpb : p < b := by omega
    have d0 : ((b : Int) - 1) / 2 = (p : Int) := by omega
    have HP := zx hp; have b1 : (b : Int) < (n : Int) := by omega
    have p2 : (p : Int) < (n : Int) := by omega
    have hzG : G < wo.heap.size := IT'.out.lt; have HS : (fun u => u.cell? ⟨S, 4, none⟩ = some (.func (.func 76) #[] #[]) ∧ u.cell? ⟨S, 5, none⟩ = some (.slice (some ⟨G, 0, none⟩) n cap) ∧ u.rangeAt G (b * 10) (ldL (it' b)) ∧ u.rangeAt G (p * 10) (ldL (it' p))) wo.drew := ⟨HHr.out.cells.2.2.2.2.1, HHr.out.cells.2.2.2.2.2, by simpa using IT'.out.range hb, by simpa using IT'.out.range (show p < n by omega)⟩
    clear hp; go_upto_region 2 with fail; refine wp_region_any (by kernel_rfl) ?_; change wpAny _ _ _ _ _ _ _ (World.drew _); refine LM.T 0 (.pointer (some ⟨S, 4, none⟩)) rfl ?_; refine LM.T 1 (.pointer (some ⟨S, 4, none⟩)) rfl ?_; refine LM.T 2 (.pointer (some ⟨S, 4, none⟩)) rfl ?_; refine LM.T 4 (.pointer (some ⟨S, 4, none⟩)) rfl ?_; refine LM.T 5 (.pointer (some ⟨S, 4, none⟩)) rfl ?_; refine LM.T 6 (.pointer (some ⟨S, 5, none⟩)) rfl ?_; refine LM.T 8 (.int .i64 b) rfl ?_; refine LM.T 11 (.pointer (some ⟨S, 4, none⟩)) rfl ?_; refine LM.T 12 (.pointer (some ⟨S, 4, none⟩)) rfl ?_
    refine LM.T 13 (.pointer (some ⟨S, 5, none⟩)) rfl ?_; refine LM.T 15 (.int .i64 p) rfl ?_; refine LM.any_of_L (late := LM.lateOf [18, 19]) (S := fun u => u.cell? ⟨S, 4, none⟩ = some (.func (.func 76) #[] #[]) ∧ u.cell? ⟨S, 5, none⟩ = some (.slice (some ⟨G, 0, none⟩) n cap) ∧ u.rangeAt G (b * 10) (ldL (it' b)) ∧ u.rangeAt G (p * 10) (ldL (it' p))) _ _ _ _ ?_; refine LM.TL 3 (.func (.func 76) #[] #[]) rfl (Or.inl ⟨by rfl, fun u hu => by have h5 := hu.1; go_simp⟩) HS ?_; refine LM.TL 7 (.slice (some ⟨G, 0, none⟩) n cap) rfl (Or.inl ⟨by rfl, fun u hu => by have h5 := hu.2.1; go_simp⟩) HS ?_
    refine LM.TL 14 (.slice (some ⟨G, 0, none⟩) n cap) rfl (Or.inl ⟨by rfl, fun u hu => by have h5 := hu.2.1; go_simp⟩) HS ?_; refine LM.TL 9 (.pointer (some ⟨G, b * 10, none⟩)) rfl (Or.inl ⟨by rfl, fun u _ => by go_simp⟩) HS ?_; refine LM.TL 16 (.pointer (some ⟨G, p * 10, none⟩)) rfl (Or.inl ⟨by rfl, fun u _ => by go_simp⟩) HS ?_; refine LM.TL 10 (.agg (ldL (it' b)).toArray) rfl (yieldsIf_load_mid (by rfl) 152 (.tmp 19) rfl G (b * 10) (by go_simp) (ldL (it' b)) _ (fun u hu => hu.2.2.1) Tryz.underlying152 rfl ((congrArg some (ldL_len (it' b))).symm ▸ Tryz.sizeLead)) HS ?_
    refine LM.TL 17 (.agg (ldL (it' p)).toArray) rfl (yieldsIf_load_mid (by rfl) 152 (.tmp 26) rfl G (p * 10) (by go_simp) (ldL (it' p)) _ (fun u hu => hu.2.2.2) Tryz.underlying152 rfl ((congrArg some (ldL_len (it' p))).symm ▸ Tryz.sizeLead)) HS ?_; refine LM.L_rest (by kernel_rfl) ?_; refine LM.any_one (i := 18) rfl (by kernel_rfl) rfl (fun K hK => ?_); go_simp; refine (aheadL_any (it' b) (it' p) _).mono ?_; rintro e w4 ⟨rfl, hb4⟩; have O4 : Hid (Only (fun k => k = G) w w4) := HO.out.drew.trans (Only.of_below hb4 : Only (fun _ => False) wo.drew w4) (fun _ _ e => e.elim)
    have IT4 := zx (IT'.out.drew.block (hb4.block _ hzG)); have HH4 := zx (HHr.out.block (hb4.block S HHr.out.lt)); obtain ⟨g2, hg⟩ : ∃ g2, g2 = ltL (it' b) (it' p) := ⟨_, rfl⟩
    have HG := zx hg; rw [<- hg]; clear hb4 hg HS; refine hK _ _ ?_; refine LM.T 19 (.bool (!g2)) rfl ?_; refine wpAny_done (by kernel_rfl) ?_ _; cases g2
    . go_wp2; refine bodyPost_ret (results_none Tryz.results95 _ _ _) rfl ?_; refine ⟨rfl, ?_, O4.out⟩; have h1 := RR.out; unfold HM.riseF at h1; rw [if_neg (by rw [<- HP.out, <- HG.out]; simp)] at h1; rw [<- h1]; exact IT4.out
    . go_wp2_with fail; refine (swapL_any S G cap n b p c0 c1 c2 c3 it' _ HH4.out IT4.out hb (by omega)).mono ?_; rintro e w5 ⟨rfl, hi5, ho5⟩; have IT5 := zx hi5; have HO5 : Hid (Only (fun k => k = G) w w5) := O4.out.trans ho5 (fun _ _ e => e); clear hi5 ho5; go_wp2; go_roundw; case rel =>
       refine ⟨g, p, HM.swapIt it' b p, rfl, by omega, by omega, ?_, IT5.out, HO5.out⟩; have h1 := RR.out; unfold HM.riseF at h1; rw [if_pos ⟨h0, by rw [<- HP.out]; exact HG.out.symm⟩, <- HP.out] at h1; exact h1
      case measure => simp [intOf]; omega
  . have e0 : b = 0 := by omega
    subst e0; have E1 : Hid (it' = R) := by
     have h1 := RR.out; cases f with
     | zero => exact h1
     | succ f => unfold HM.riseF at h1; rw [if_neg (by omega)] at h1; exact h1
    go_wp2; go_end0
    exact ⟨rfl, by rw [<- E1.out]; exact IT'.out, HO.out⟩
end
section
open Go.RowKit M SM
theorem sinkL_any (S G cap n f0 : Nat) (c0 c1 c2 c3 : Value) (it : Nat -> LeadM) (w : World) (hh : SrcAt w S c0 c1 c2 c3 (.slice (some ⟨G, 0, none⟩) n cap)) (hit : ItemsL w G cap n it) (hf0 : n <= f0) (hn : n <= 1000000000) :
 Calls Tryz.prog 96 #[.pointer (some ⟨S, 4, none⟩), .int .i64 0] w fun e w' =>
  e = .returned (.tuple #[]) ∧ ItemsL w' G cap n (HM.sinkF ltL n f0 it 0) ∧ Only (fun k => k = G) w w' := by
 have HH := zx hh; have NE := zx (src_apart hh hit); have hHl := hh.lt; have IT := zx hit; obtain ⟨R, hR⟩ : ∃ R, R = HM.sinkF ltL n f0 it 0 := ⟨_, rfl⟩
 rw [<- hR]; have HR := zx hR.symm; clear hh hit hR; go_enter Tryz.func96, Tryz.ntmps96; go_wp2; go_loopw [1] (fun s wr => ∃ (f b : Nat) (it' : Nat -> LeadM), s = .int .i64 b ∧ b <= n ∧ n <= f + b ∧ HM.sinkF ltL n f it' b = R ∧ ItemsL wr G cap n it' ∧ Only (fun k => k = G) w wr) (fun s _ => n - (intOf s).toNat)
 case atStart => exact ⟨f0, 0, it, rfl, Nat.zero_le _, hf0, HR.out, IT.out, Only.refl _ _⟩
 case round =>
  obtain ⟨wo, rfl⟩ : ∃ x, x = wr := ⟨_, rfl⟩
  obtain ⟨f, b, it', rfl, hb, hbf, hrr, hit, honly⟩ := hrel; have RR := zx hrr; have IT' := zx hit; have HO := zx honly; have hz := honly.size; have HHr := zx (HH.out.block (honly.block _ hHl NE.out)); have hzH : S < wo.heap.size := by omega
  have hzG : G < wo.heap.size := IT'.out.lt; clear hrr hit honly; go_wp2; go_loopw [4, 5] (fun v s wr => ∃ ff ch : Nat, v = .int .i64 ff ∧ s = .int .i64 ch ∧ 2 * b + 1 <= ch ∧ ch <= 2 * b + 3 ∧ ff = HM.kidAt ltL n it' b ch ∧ Below wo.heap.size wo wr) (fun _ s _ => 2 * b + 3 - (intOf s).toNat)
  case atStart => exact ⟨b, 2 * b + 1, rfl, by go_num, by omega, by omega, HM.kidAt_start _ _ _ _, Below.refl _ _⟩
  case round =>
   obtain ⟨ff, ch, rfl, rfl, hc1, hc2, hff, hbr⟩ := hrel; have FF := zx hff; have HB := zx hbr; have x1 := (HHr.out.block (hbr.block _ hzH)).cells.2.2.2.2.2; have hzr := hbr.size; clear hff hbr; by_cases t1 : ch <= 2 * b + 2
   . by_cases t2 : ch < n
     . have hfn : ff < n := by rw [FF.out]; exact HM.kidAt_lt (by omega)
       have ITr := zx (IT'.out.block (HB.out.block _ hzG)); have HHq := zx (HHr.out.block (HB.out.block _ hzH)); have HS : (fun u => u.cell? ⟨S, 4, none⟩ = some (.func (.func 76) #[] #[]) ∧ u.cell? ⟨S, 5, none⟩ = some (.slice (some ⟨G, 0, none⟩) n cap) ∧ u.rangeAt G (ch * 10) (ldL (it' ch)) ∧ u.rangeAt G (ff * 10) (ldL (it' ff))) wr.drew := ⟨HHq.out.cells.2.2.2.2.1, HHq.out.cells.2.2.2.2.2, by simpa using ITr.out.range t2, by simpa using ITr.out.range hfn⟩
       have b1 : (ch : Int) < (n : Int) := by omega
       have b2 : (ff : Int) < (n : Int) := by omega
       have b3 : (ch : Int) <= 2 * (b : Int) + 2 := by omega
       go_upto_region 4 with fail; refine wp_region_any (by kernel_rfl) ?_; change wpAny _ _ _ _ _ _ _ (World.drew _); refine LM.T 0 (.pointer (some ⟨S, 4, none⟩)) rfl ?_; refine LM.T 1 (.pointer (some ⟨S, 4, none⟩)) rfl ?_; refine LM.T 2 (.pointer (some ⟨S, 4, none⟩)) rfl ?_; refine LM.T 4 (.pointer (some ⟨S, 4, none⟩)) rfl ?_; refine LM.T 5 (.pointer (some ⟨S, 4, none⟩)) rfl ?_; refine LM.T 6 (.pointer (some ⟨S, 5, none⟩)) rfl ?_; refine LM.T 8 (.int .i64 ch) rfl ?_; refine LM.T 11 (.pointer (some ⟨S, 4, none⟩)) rfl ?_; refine LM.T 12 (.pointer (some ⟨S, 4, none⟩)) rfl ?_
       refine LM.T 13 (.pointer (some ⟨S, 5, none⟩)) rfl ?_; refine LM.T 15 (.int .i64 ff) rfl ?_; refine LM.any_of_L (late := LM.lateOf [18]) (S := fun u => u.cell? ⟨S, 4, none⟩ = some (.func (.func 76) #[] #[]) ∧ u.cell? ⟨S, 5, none⟩ = some (.slice (some ⟨G, 0, none⟩) n cap) ∧ u.rangeAt G (ch * 10) (ldL (it' ch)) ∧ u.rangeAt G (ff * 10) (ldL (it' ff))) _ _ _ _ ?_; refine LM.TL 3 (.func (.func 76) #[] #[]) rfl (Or.inl ⟨by rfl, fun u hu => by have h5 := hu.1; go_simp⟩) HS ?_; refine LM.TL 7 (.slice (some ⟨G, 0, none⟩) n cap) rfl (Or.inl ⟨by rfl, fun u hu => by have h5 := hu.2.1; go_simp⟩) HS ?_
       refine LM.TL 14 (.slice (some ⟨G, 0, none⟩) n cap) rfl (Or.inl ⟨by rfl, fun u hu => by have h5 := hu.2.1; go_simp⟩) HS ?_; refine LM.TL 9 (.pointer (some ⟨G, ch * 10, none⟩)) rfl (Or.inl ⟨by rfl, fun u _ => by go_simp⟩) HS ?_; refine LM.TL 16 (.pointer (some ⟨G, ff * 10, none⟩)) rfl (Or.inl ⟨by rfl, fun u _ => by go_simp⟩) HS ?_; refine LM.TL 10 (.agg (ldL (it' ch)).toArray) rfl (yieldsIf_load_mid (by rfl) 152 (.tmp 35) rfl G (ch * 10) (by go_simp) (ldL (it' ch)) _ (fun u hu => hu.2.2.1) Tryz.underlying152 rfl ((congrArg some (ldL_len (it' ch))).symm ▸ Tryz.sizeLead)) HS ?_
       refine LM.TL 17 (.agg (ldL (it' ff)).toArray) rfl (yieldsIf_load_mid (by rfl) 152 (.tmp 42) rfl G (ff * 10) (by go_simp) (ldL (it' ff)) _ (fun u hu => hu.2.2.2) Tryz.underlying152 rfl ((congrArg some (ldL_len (it' ff))).symm ▸ Tryz.sizeLead)) HS ?_; refine LM.L_rest (by kernel_rfl) ?_; refine LM.any_one (i := 18) rfl (by kernel_rfl) rfl (fun K hK => ?_); go_simp; refine (aheadL_any (it' ch) (it' ff) _).mono ?_; rintro e w4 ⟨rfl, hb4⟩; have HB4 : Hid (Below wo.heap.size wo w4) := HB.out.drew.trans (hb4.mono (by show wo.heap.size <= wr.heap.size; omega))
       obtain ⟨g2, hg⟩ : ∃ g2, g2 = ltL (it' ch) (it' ff) := ⟨_, rfl⟩
       have HG := zx hg; rw [<- hg]; clear hb4 hg HS x1; refine hK _ _ ?_; refine wpAny_done (by kernel_rfl) ?_ _; have KS := zx (HM.kidAt_step (lt := ltL) (n := n) (it := it') (b := b) (ch := ch) hc1 t1 t2); cases g2
       . go_wp2; go_roundw; case rel =>
          refine ⟨ff, ch + 1, rfl, by go_num, by omega, by omega, ?_, HB4.out⟩; rw [KS.out, <- FF.out, if_neg (by rw [<- HG.out]; simp)]
         case measure => simp [intOf]; omega
       . go_wp2; go_roundw; case rel =>
          refine ⟨ch, ch + 1, rfl, by go_num, by omega, by omega, ?_, HB4.out⟩; rw [KS.out, <- FF.out, if_pos HG.out.symm]
         case measure => simp [intOf]; omega
     . have t3 : ¬ (ch : Int) < (n : Int) := by omega
       have KD : Hid (ff = HM.kid2 ltL n it' b) := by unfold Hid; rw [FF.out]; exact HM.kidAt_done hc1 hc2 (.inr t2)
       have ITr := zx (IT'.out.block (HB.out.block _ hzG)); have HHf := zx (HHr.out.block (HB.out.block _ hzH)); have HOr : Hid (Only (fun k => k = G) w wr) := HO.out.trans (Only.of_below HB.out : Only (fun _ => False) wo wr) (fun _ _ e => e.elim); by_cases q : ((ff : Int) == (b : Int)) = true
       . have Q : Hid (ff = b) := by
          have : (ff : Int) = b := by simpa using q
          unfold Hid; omega
         go_wp2; refine bodyPost_ret (results_none Tryz.results96 _ _ _) rfl ?_; refine ⟨rfl, ?_, HOr.out⟩; have h1 := RR.out; have e1 : it' = R := by
          cases f with
          | zero => exact h1
          | succ f => unfold HM.sinkF at h1; rw [if_pos (by rw [<- KD.out]; exact Q.out)] at h1; exact h1
         rw [<- e1]; exact ITr.out
       . have q' : ((ff : Int) == (b : Int)) = false := by simpa using q
         have Q : Hid (ff ≠ b) := by
          have : ¬ (ff : Int) = b := by simpa using q
          unfold Hid; omega
         clear q; have hk := HM.kid2_is ltL n it' b; rw [<- KD.out] at hk; have hfn : b < ff ∧ ff < n := by
          rcases hk with e | e
          . exact absurd e Q.out
          . exact ⟨e.1, e.2.1⟩
         clear hk; obtain ⟨y1, y2⟩ := hfn; obtain ⟨g, rfl⟩ : ∃ g, f = g + 1 := ⟨f - 1, by omega⟩
         go_wp2_with fail; refine (swapL_any S G cap n b ff c0 c1 c2 c3 it' _ HHf.out ITr.out (by omega) y2).mono ?_; rintro e w5 ⟨rfl, hi5, ho5⟩; have IT5 := zx hi5; have HO5 : Hid (Only (fun k => k = G) w w5) := HOr.out.trans ho5 (fun _ _ e => e); clear hi5 ho5 x1; go_wp2; go_roundw; case rel =>
          refine ⟨g, ff, HM.swapIt it' b ff, rfl, by omega, by omega, ?_, IT5.out, HO5.out⟩; have h1 := RR.out; unfold HM.sinkF at h1; rw [if_neg (by rw [<- KD.out]; exact Q.out), <- KD.out] at h1; exact h1
         case measure => simp [intOf]; omega
   . have t3 : ¬ (ch : Int) <= 2 * (b : Int) + 2 := by omega
     have KD : Hid (ff = HM.kid2 ltL n it' b) := by unfold Hid; rw [FF.out]; exact HM.kidAt_done hc1 hc2 (.inl t1)
     have ITr := zx (IT'.out.block (HB.out.block _ hzG)); have HHf := zx (HHr.out.block (HB.out.block _ hzH)); have HOr : Hid (Only (fun k => k = G) w wr) := HO.out.trans (Only.of_below HB.out : Only (fun _ => False) wo wr) (fun _ _ e => e.elim); by_cases q : ((ff : Int) == (b : Int)) = true
     . have Q : Hid (ff = b) := by
        have : (ff : Int) = b := by simpa using q
        unfold Hid; omega
       go_wp2; refine bodyPost_ret (results_none Tryz.results96 _ _ _) rfl ?_; refine ⟨rfl, ?_, HOr.out⟩; have h1 := RR.out; have e1 : it' = R := by
        cases f with
        | zero => exact h1
        | succ f => unfold HM.sinkF at h1; rw [if_pos (by rw [<- KD.out]; exact Q.out)] at h1; exact h1
       rw [<- e1]; exact ITr.out
     . have q' : ((ff : Int) == (b : Int)) = false := by simpa using q
       have Q : Hid (ff ≠ b) := by
        have : ¬ (ff : Int) = b := by simpa using q
        unfold Hid; omega
       clear q; have hk := HM.kid2_is ltL n it' b; rw [<- KD.out] at hk; have hfn : b < ff ∧ ff < n := by
        rcases hk with e | e
        . exact absurd e Q.out
        . exact ⟨e.1, e.2.1⟩
       clear hk; obtain ⟨y1, y2⟩ := hfn; obtain ⟨g, rfl⟩ : ∃ g, f = g + 1 := ⟨f - 1, by omega⟩
       go_wp2_with fail; refine (swapL_any S G cap n b ff c0 c1 c2 c3 it' _ HHf.out ITr.out (by omega) y2).mono ?_; rintro e w5 ⟨rfl, hi5, ho5⟩; have IT5 := zx hi5; have HO5 : Hid (Only (fun k => k = G) w w5) := HOr.out.trans ho5 (fun _ _ e => e); clear hi5 ho5 x1; go_wp2; go_roundw; case rel =>
        refine ⟨g, ff, HM.swapIt it' b ff, rfl, by omega, by omega, ?_, IT5.out, HO5.out⟩; have h1 := RR.out; unfold HM.sinkF at h1; rw [if_neg (by rw [<- KD.out]; exact Q.out), <- KD.out] at h1; exact h1
       case measure => simp [intOf]; omega
end
end Go.Proofs.YtnkgpinadgacgaaGreatDoor
