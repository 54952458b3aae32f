/- Wd, We. -/
import Derived.Test.YtnkgpinadgacgaaGreatDoorQzw
set_option maxRecDepth 1000000
set_option maxHeartbeats 8000000
namespace Go.Proofs.YtnkgpinadgacgaaGreatDoor
section
open Go.RowKit Go.Shelf Go.Deep M SM
def colC (Ls : List (List Nat)) (H Cp : Nat -> Nat) (i : Nat) : List Value := (List.range i).map fun t => Value.slice (some ⟨H t, 0, none⟩) (Ls.getD t []).length (Cp t)
theorem colC_next {Ls : List (List Nat)} {H Cp : Nat -> Nat} {i b n c : Nat} (hn : n = (Ls.getD i []).length) : colC Ls H Cp i ++ [Value.slice (some ⟨b, 0, none⟩) n c] = colC Ls (fun t => if t = i then b else H t) (fun t => if t = i then c else Cp t) (i + 1) := by
 subst hn; unfold colC; rw [List.range_succ, List.map_append]; congr 1
 . refine List.map_congr_left fun t ht => ?_
   have := List.mem_range.1 ht; show _ = Value.slice (some ⟨if t = i then b else H t, 0, none⟩) _ (if t = i then c else Cp t); rw [if_neg (by omega), if_neg (by omega)]
 . simp
structure TolIn (B : Nat) (w wr : World) (Ls : List (List Nat)) (i : Nat) (V : Value) (H Cp : Nat -> Nat) : Prop where
 own : wr.ownsRow B 23 1 V i (colC Ls H Cp i)
 cells : ∀ t, t < i -> B <= H t ∧ H t < wr.heap.size ∧ V.ownBlock ≠ some (H t) ∧ ∀ j, j < (Ls.getD t []).length -> wr.cell? ⟨H t, j, none⟩ = some (.int .i64 (((Ls.getD t []).getD j 0 : Nat) : Int))
 below : Below B w wr
def PlanW (w : World) (g : Nat) (H Cp : Nat -> Nat) (Ls : List (List Nat)) : Prop :=
 ∀ t, t < Ls.length -> w.cell? ⟨g, t, none⟩ = some (.slice (some ⟨H t, 0, none⟩) (Ls.getD t []).length (Cp t)) ∧ ∀ j, j < (Ls.getD t []).length -> w.cell? ⟨H t, j, none⟩ = some (.int .i64 (((Ls.getD t []).getD j 0 : Nat) : Int))
def pcells (p : List Nat) (n : Nat) : List Value := (List.range n).map fun j => Value.int .i64 ((p.getD j 0 : Nat) : Int)
theorem pcells_succ (p : List Nat) (n : Nat) : pcells p (n + 1) = pcells p n ++ [.int .i64 ((p.getD n 0 : Nat) : Int)] := by
 unfold pcells; rw [List.range_succ, List.map_append]; rfl
theorem pcells_at {p : List Nat} {n j : Nat} (h : j < n) : (pcells p n)[j]? = some (.int .i64 ((p.getD j 0 : Nat) : Int)) := by
 unfold pcells; rw [List.getElem?_map, List.getElem?_range h]; rfl
theorem own_int1 (w : World) (x : Int) (B : Nat) (hB : B <= w.heap.size) : (w.alloc (.cells #[.int .i64 x] 3)).ownsRow B 3 1 (.slice (some ⟨w.heap.size, 0, none⟩) 1 1) 1 [.int .i64 x] := by
 refine ⟨rfl, .inr ⟨w.heap.size, 1, #[.int .i64 x], rfl, hB, ?_, zl, by unfold maxLen; omega, rfl, rfl⟩⟩; show (w.heap.push _)[w.heap.size]? = _; simp
def linesL (C : Nat) (Ls : List (List Nat)) : List (List UInt8) := Ls.map fun p => lettersN C p (p.length - 1)
theorem plan_lines {C : Nat} {Ls : List (List Nat)} {s : ByteArray} (h : s.data.toList = Ls.flatMap (pathT C)) :
 (linesB s s.size).1.length = Ls.length ∧ ∀ i, i < Ls.length -> ((linesB s s.size).1.getD i ⟨#[]⟩).data.toList = lettersN C (Ls.getD i []) ((Ls.getD i []).length - 1) := by
 have h1 : s.data.toList = TX.linesT (linesL C Ls) := by
  rw [h]; unfold TX.linesT linesL; rw [List.flatMap_map]; rfl
 have h2 : ∀ l ∈ linesL C Ls, ∀ b ∈ l, b ≠ 10 := by
  intro l hl b hb; obtain ⟨p, _, rfl⟩ := List.mem_map.1 hl; obtain ⟨j, _, rfl⟩ := List.mem_map.1 hb; rcases let_five C (p.getD j 0) (p.getD (j + 1) 0) with e | e | e | e | e <;> rw [e] <;> decide
 obtain ⟨h3, h4⟩ := line_at (lines_of h1 h2); have h5 : (linesL C Ls).length = Ls.length := by unfold linesL; rw [List.length_map]
 refine ⟨by rw [h3, h5], fun i hi => ?_⟩; rw [h4 i (by rw [h3, h5]; exact hi)]; unfold linesL; rw [zg, List.getElem?_map, zg, List.getElem?_eq_getElem hi]; rfl
theorem plan_last {C : Nat} {Ls : List (List Nat)} {s : ByteArray} (h : s.data.toList = Ls.flatMap (pathT C)) (h0 : 0 < Ls.length) : ∃ (hq : 0 < s.size), s[s.size - 1]'(by omega) = 10 := by
 have h1 : Ls.flatMap (pathT C) = (Ls.take (Ls.length - 1)).flatMap (pathT C) ++ lettersN C (Ls.getD (Ls.length - 1) []) ((Ls.getD (Ls.length - 1) []).length - 1) ++ [10] := by
  have e := flat_take (C := C) (Ls := Ls) (i := Ls.length - 1) (by omega); rw [show Ls.length - 1 + 1 = Ls.length by omega, List.take_length] at e; rw [e, List.append_assoc]; rfl
 rw [h1] at h; have h2 := congrArg List.length h; rw [Array.length_toList, List.length_append] at h2; simp only [List.length_cons, List.length_nil] at h2; have hq : 0 < s.size := by
  show 0 < s.data.size; omega
 refine ⟨hq, ?_⟩; have h3 : s.data.toList[s.size - 1]? = some 10 := by
  rw [h, List.getElem?_append_right (by have : s.size = s.data.size := rfl; omega)]; have : s.size - 1 - ((Ls.take (Ls.length - 1)).flatMap (pathT C) ++ lettersN C (Ls.getD (Ls.length - 1) []) ((Ls.getD (Ls.length - 1) []).length - 1)).length = 0 := by
   have : s.size = s.data.size := rfl; omega
  rw [this]; rfl
 rw [List.getElem?_eq_getElem (by rw [Array.length_toList]; show s.size - 1 < s.size; omega)] at h3; exact Option.some.inj h3
theorem told_any (R C U m g cc : Nat) (cs : ByteArray) (fr tt : Nat -> Int) (Ls : List (List Nat)) (s : ByteArray) (w : World) (hs : s.size <= 2000000) (hC : 1 <= C) (hC6 : C <= 6) (hcs : cs.size <= 36) (hm : Ls.length = m) (hm0 : 0 < m) (hm4 : m <= 4) (hst : s.data.toList = Ls.flatMap (pathT C))
 (hp : ∀ i, i < m -> 0 < (Ls.getD i []).length ∧ (Ls.getD i []).length <= 320000 ∧ fr i = (((Ls.getD i []).getD 0 0 : Nat) : Int) ∧ (∀ j, j < (Ls.getD i []).length -> (Ls.getD i []).getD j 0 < cs.size) ∧ (∀ j, j + 1 < (Ls.getD i []).length -> nearM (C : Int) (((Ls.getD i []).getD j 0 : Nat) : Int) (((Ls.getD i []).getD (j + 1) 0 : Nat) : Int) = true))
 (hci : CartsIn w g 0 m fr tt) :
 Calls Tryz.prog 14 #[.agg #[.int .i64 R, .int .i64 C, .string cs, .slice (some ⟨g, 0, none⟩) m cc, .int .i64 U], .string s] w fun e w' => ∃ (g' c' : Nat) (H Cp : Nat -> Nat), e = .returned (.slice (some ⟨g', 0, none⟩) m c') ∧ PlanW w' g' H Cp Ls ∧ Below w.heap.size w w' := by
 obtain ⟨hl1, hl2⟩ := plan_lines hst; obtain ⟨hq0, hlast⟩ := plan_last hst (by omega); rw [hm] at hl1 hl2; have HP := zx hp; have HL := zx hl2; have HMM := zx hm; obtain ⟨LL, hLL⟩ : ∃ LL, LL = (linesB s s.size).1 := ⟨_, rfl⟩
 have LA : Hid (∀ u, Calls Tryz.prog 27 #[.string s] u fun e w' => ∃ v, e = .returned v ∧ w'.ownsRow u.heap.size 9 1 v m (strs LL) ∧ Below u.heap.size u w') := zx fun u => by
  have h := lines_any s u hs; rw [hl1, <- hLL] at h; exact h
 have HLL := zx hLL; have hLn : Hid (LL.length = m) := zx (by rw [hLL]; exact hl1); have Y1 : Hid (Box (w.alloc (.cells #[.int .i64 R, .int .i64 C, .string cs, .slice (some ⟨g, 0, none⟩) m cc, .int .i64 U] 34)) w.heap.size #[.int .i64 R, .int .i64 C, .string cs, .slice (some ⟨g, 0, none⟩) m cc, .int .i64 U]) := zx (box_new _ _); have B1 : Hid (Below w.heap.size w (w.alloc (.cells #[.int .i64 R, .int .i64 C, .string cs, .slice (some ⟨g, 0, none⟩) m cc, .int .i64 U] 34))) := zx ((Below.refl _ w).alloc zl _)
 have C1 : Hid (CartsIn (w.alloc (.cells #[.int .i64 R, .int .i64 C, .string cs, .slice (some ⟨g, 0, none⟩) m cc, .int .i64 U] 34)) g 0 m fr tt) := zx (hci.below B1.out); clear hst hp hl1 hl2 hLL hci hm; go_enter Tryz.func14, Tryz.ntmps14; go_wp2_with fail; generalize (w.alloc (.cells #[.int .i64 R, .int .i64 C, .string cs, .slice (some ⟨g, 0, none⟩) m cc, .int .i64 U] 34)) = w1 at *; refine (LA.out _).mono ?_; rintro e w2 ⟨v, rfl, hown, hb2⟩; obtain ⟨gl, cl, rfl, hg1, hg2, hcl, hcell⟩ := strs_open hown hm0 hLn.out; have Y2 := zx (Y1.out.belowB hb2 Y1.out.lt)
 have B2 := zx (B1.out.trans (hb2.mono B1.out.size)); have C2 := zx (C1.out.below hb2); have CL : Hid (∀ i, i < m -> ∃ F : ByteArray, w2.cell? ⟨gl, i, none⟩ = some (.string F) ∧ F.data.toList = lettersN C (Ls.getD i []) ((Ls.getD i []).length - 1)) := zx fun i hi => ⟨_, hcell i hi, by rw [HLL.out]; exact HL.out i hi⟩
 have y3 := Y2.out.c 3; simp only [zA, zB, zC] at y3; have hqI : decide ((0 : Int) < (s.size : Int)) = true := by simp; omega
 have hyw2 : w.heap.size < w2.heap.size := Y2.out.lt; clear hown hb2 hcell hg1; have e10 : (((s[s.size - 1]'(by omega)).toNat : Nat) : Int) = 10 := by rw [hlast]; rfl
 have hmI : ((m : Int) != (m : Int)) = false := by simp
 clear hlast; go_wp2; go_loopw [6, 7, 8, 9, 10] (fun v6 v7 _ _ _ wr => ∃ (i : Nat) (V : Value) (H Cp : Nat -> Nat), V = v6 ∧ v7 = .int .i64 i ∧ i <= m ∧ TolIn w2.heap.size w2 wr Ls i V H Cp) (fun _ v7 _ _ _ _ => m - (intOf v7).toNat)
 case atStart => exact ⟨0, _, fun _ => 0, fun _ => 0, rfl, rfl, Nat.zero_le _, ⟨⟨rfl, .inl ⟨rfl, rfl⟩⟩, fun t h => absurd h (Nat.not_lt_zero t), Below.refl _ _⟩⟩
 case round =>
  obtain ⟨wo, rfl⟩ : ∃ q, q = wr := ⟨_, rfl⟩
  obtain ⟨i, V, H, Cp, rfl, rfl, hi, htol⟩ := hrel; have TI := zx htol; have hzo := htol.below.size; have Yo := zx (Y2.out.belowB htol.below hyw2); by_cases hlt : i < m
  . have hiI : decide ((i : Int) < (m : Int)) = true := by simp; omega
    have hiJ : (i : Int) < (m : Int) := by omega
    obtain ⟨p0, p1, p2, p3, p4⟩ := HP.out i hlt; obtain ⟨F, hF, hFl⟩ := CL.out i hlt; obtain ⟨P, hPd⟩ : ∃ P, P = Ls.getD i [] := ⟨_, rfl⟩
    rw [<- hPd] at p0 p1 p2 p3 p4 hFl; have HPD := zx hPd; have FO : Hid (wo.cell? ⟨gl, i, none⟩ = some (.string F)) := zx ((htol.below.cell (p := ⟨gl, i, none⟩) hg2).trans hF); obtain ⟨q1, q2⟩ := C2.out i hlt; rw [p2, Nat.zero_add] at q1; have c0 : wo.cell? ⟨g, i * 2, none⟩ = some (.int .i64 ((P.getD 0 0 : Nat) : Int)) := zj htol.below q1; have hFn : F.size = P.length - 1 := by
     have h := congrArg List.length hFl; rw [Array.length_toList] at h; unfold lettersN at h; rw [List.length_map, List.length_range] at h; exact h
    have FB : Hid (∀ k (h : k < F.size), F[k] = letB C (P.getD k 0) (P.getD (k + 1) 0)) := zx fun k h => by
     have e : F[k] = F.data.toList[k]'(by rw [Array.length_toList]; exact h) := rfl; rw [e]; have e2 : F.data.toList[k]? = some (letB C (P.getD k 0) (P.getD (k + 1) 0)) := by
      rw [hFl]; unfold lettersN; rw [List.getElem?_map, List.getElem?_range (by omega)]; rfl
     rw [List.getElem?_eq_getElem (by rw [Array.length_toList]; exact h)] at e2; exact Option.some.inj e2
    obtain ⟨L, hLd⟩ : ∃ L, L = P.length := ⟨_, rfl⟩
    rw [<- hLd] at p0 p1 p3 p4 hFn; have P3 := zx p3; have P4 := zx p4; have HLD := zx hLd; obtain ⟨a0, ha0⟩ : ∃ a, a = P.getD 0 0 := ⟨_, rfl⟩
    rw [<- ha0] at c0; have HA0 := zx ha0; have y3 := Yo.out.c 3; simp only [zA, zB, zC] at y3; have OW0 : Hid ((wo.alloc (.cells #[.int .i64 a0] 3)).ownsRow wo.heap.size 3 1 (.slice (some ⟨wo.heap.size, 0, none⟩) 1 1) 1 [.int .i64 a0]) := zx (own_int1 wo _ _ zl); have BW0 : Hid (Below wo.heap.size wo (wo.alloc (.cells #[.int .i64 a0] 3))) := zx ((Below.refl _ wo).alloc zl _); clear htol hF hFl hPd q1 q2 p2 p3 p4 hLd ha0; go_wp2; generalize (wo.alloc (.cells #[.int .i64 a0] 3)) = w5 at *
    go_loopw [8, 9, 10] (fun v8 v9 v10 wq => ∃ (k gp cap : Nat), k + 1 <= L ∧ v10 = .int .i64 k ∧ v8 = .int .i64 ((P.getD k 0 : Nat) : Int) ∧ v9 = .slice (some ⟨gp, 0, none⟩) (k + 1) cap ∧ wq.ownsRow wo.heap.size 3 1 (.slice (some ⟨gp, 0, none⟩) (k + 1) cap) (k + 1) (pcells P (k + 1)) ∧ Below wo.heap.size wo wq) (fun _ _ v10 _ => L - (intOf v10).toNat)
    case atStart => exact ⟨0, wo.heap.size, 1, p0, rfl, by rw [<- HA0.out], rfl, by have h := OW0.out; rw [HA0.out] at h; exact h, BW0.out⟩
    case round =>
     obtain ⟨wk, rfl⟩ : ∃ q, q = wr := ⟨_, rfl⟩
     obtain ⟨k, gp, cap, hk, rfl, rfl, rfl, hown, hbk⟩ := hrel; have OK := zx hown; have BK := zx hbk; have Yk : Hid (Box wk w.heap.size #[.int .i64 R, .int .i64 C, .string cs, .slice (some ⟨g, 0, none⟩) m cc, .int .i64 U]) := zx (Yo.out.belowB hbk Yo.out.lt); have hFk : wk.cell? ⟨gl, i, none⟩ = some (.string F) := zj hbk FO.out; have FK := zx hFk; have hgw : gl < wk.heap.size := World.block_lt_of_cell? _ _ hFk; obtain ⟨ak, hak⟩ : ∃ a, a = P.getD k 0 := ⟨_, rfl⟩
     have hak2 := P3.out k (by omega); rw [<- hak] at hak2 ⊢; have HAK := zx hak; clear hown hbk hak; by_cases hkl : k + 1 < L
     . have hkF : k < F.size := by omega
       have e1 : decide ((k : Int) < (F.size : Int)) = true := by simp; omega
       have e2 : decide ((0 : Int) <= (ak : Int)) = true := by simp
       have hkJ : (k : Int) < (F.size : Int) := by omega
       obtain ⟨bk, hbk2⟩ : ∃ b, b = P.getD (k + 1) 0 := ⟨_, rfl⟩
       have hFb : F[k] = letB C ak bk := by rw [FB.out k hkF, HAK.out, hbk2]
       have hnear : nearM (C : Int) (ak : Int) (bk : Int) = true := by rw [HAK.out, hbk2]; exact P4.out k hkl
       have hbs := P3.out (k + 1) hkl; rw [<- hbk2] at hbs; have HBK := zx hbk2; have ST : Hid (∀ u, Calls Tryz.prog 36 #[.agg #[.int .i64 R, .int .i64 C, .string cs, .slice (some ⟨g, 0, none⟩) m cc, .int .i64 U], .int .i64 ak, .int .u8 (((letB C ak bk).toNat : Nat) : Int)] u fun e w' => e = .returned (.int .i64 bk) ∧ Below u.heap.size u w') := zx fun u => by
        have h := step_any C ak (.int .i64 R) (.string cs) (.slice (some ⟨g, 0, none⟩) m cc) (.int .i64 U) (letB C ak bk) u hC hC6 (by omega) (let_five C ak bk); rw [step_letter hC hC6 hnear] at h; exact h
       obtain ⟨lb, hlb⟩ : ∃ b, b = letB C ak bk := ⟨_, rfl⟩
       rw [<- hlb] at hFb ST; have hyw : w.heap.size < wk.heap.size := Yk.out.lt; have SALL : Hid (∀ u : World, Below wk.heap.size wk u -> (fun u : World => u.cell? ⟨w.heap.size, 0, none⟩ = some (.int .i64 R) ∧ u.cell? ⟨w.heap.size, 1, none⟩ = some (.int .i64 C) ∧ u.cell? ⟨w.heap.size, 2, none⟩ = some (.string cs) ∧ u.cell? ⟨w.heap.size, 3, none⟩ = some (.slice (some ⟨g, 0, none⟩) m cc) ∧ u.cell? ⟨w.heap.size, 4, none⟩ = some (.int .i64 U) ∧ u.cell? ⟨gl, i, none⟩ = some (.string F)) u) := zx fun u hu =>
        ⟨(hu.cell (p := ⟨w.heap.size, 0, none⟩) hyw).trans (Yk.out.c 0), (hu.cell (p := ⟨w.heap.size, 1, none⟩) hyw).trans (Yk.out.c 1), (hu.cell (p := ⟨w.heap.size, 2, none⟩) hyw).trans (Yk.out.c 2), (hu.cell (p := ⟨w.heap.size, 3, none⟩) hyw).trans (Yk.out.c 3), (hu.cell (p := ⟨w.heap.size, 4, none⟩) hyw).trans (Yk.out.c 4), (hu.cell (p := ⟨gl, i, none⟩) hgw).trans FK.out⟩
       clear hnear hbk2 hlb; go_upto_region 13 with fail; have HS := SALL.out wk.drew ((Below.refl _ wk).drew); refine wp_region_any (by kernel_rfl) ?_; change wpAny _ _ _ _ _ _ _ (World.drew _); refine LM.T 1 (.int .i64 ak) rfl ?_; refine LM.T 2 (.slice (some ⟨gl, 0, none⟩) m cl) rfl ?_; refine LM.T 3 (.int .i64 i) rfl ?_; refine LM.T 4 (.pointer (some ⟨gl, i, none⟩)) rfl ?_; refine LM.T 6 (.int .i64 k) rfl ?_
       refine LM.any_of_L (late := LM.lateOf [8, 9]) (S := (fun u : World => u.cell? ⟨w.heap.size, 0, none⟩ = some (.int .i64 R) ∧ u.cell? ⟨w.heap.size, 1, none⟩ = some (.int .i64 C) ∧ u.cell? ⟨w.heap.size, 2, none⟩ = some (.string cs) ∧ u.cell? ⟨w.heap.size, 3, none⟩ = some (.slice (some ⟨g, 0, none⟩) m cc) ∧ u.cell? ⟨w.heap.size, 4, none⟩ = some (.int .i64 U) ∧ u.cell? ⟨gl, i, none⟩ = some (.string F))) _ _ _ _ ?_
       refine LM.TL 0 (.agg #[.int .i64 R, .int .i64 C, .string cs, .slice (some ⟨g, 0, none⟩) m cc, .int .i64 U]) rfl (Or.inl ⟨by rfl, fun u hu => by have a0 := hu.1; have a1 := hu.2.1; have a2 := hu.2.2.1; have a3 := hu.2.2.2.1; have a4 := hu.2.2.2.2.1; clear hu; go_simp⟩) HS ?_; refine LM.TL 5 (.string F) rfl (Or.inl ⟨by rfl, fun u hu => by have a5 := hu.2.2.2.2.2; clear hu; go_simp⟩) HS ?_; refine LM.TL 7 (.int .u8 ((lb.toNat : Nat) : Int)) rfl (Or.inl ⟨by rfl, fun u hu => by clear hu; rw [<- hFb]; go_simp⟩) HS ?_; refine LM.L_rest (by kernel_rfl) ?_
       refine LM.any_one (i := 8) rfl (by kernel_rfl) rfl (fun K hK => ?_); go_simp; refine (ST.out _).mono ?_; rintro e w6 ⟨rfl, hb6⟩; refine hK _ _ ?_; clear hK K; refine LM.T 9 (.int .i64 bk) rfl ?_; refine wpAny_done (by kernel_rfl) ?_ _; have B6 : Hid (Below wk.heap.size wk w6) := zx (((Below.refl _ wk).drew).trans hb6); have hz6 : wk.heap.size <= w6.heap.size := B6.out.size; have Y6 := zx (Yk.out.belowB B6.out hyw); have y2 := Y6.out.c 2; simp only [zA, zB, zC] at y2
       have O6 : Hid (w6.ownsRow wo.heap.size 3 1 (.slice (some ⟨gp, 0, none⟩) (k + 1) cap) (k + 1) (pcells P (k + 1))) := zx (own_later OK.out B6.out); have e3 : decide ((cs.size : Int) <= (bk : Int)) = false := by simp; omega
       have hzk : wo.heap.size <= wk.heap.size := BK.out.size; have BB6 := zx (BK.out.trans (B6.out.mono hzk)); clear hb6 HS hFb hFk; go_wp2_with (at_builtin; go_must (refine wpList_push rfl _ _ 23 rfl wo.heap.size 3 _ _ Tryz.underlying23 Tryz.infoInt rfl _ _ _ rfl (by exact own_below O6.out ((Below.refl _ _).alloc zl _)) _ _ (.int .i64 bk) rfl (by go_simp) rfl (by unfold maxLen; omega) (by omega) (by simp; omega) ?_))
       intro g3 cap3 w7 ho3 hg3; have hb3 := zx (grown_below (own_below O6.out ((Below.refl _ _).alloc zl _)) hg3 (by simp; omega)); have HO3 := zx ho3; clear ho3 hg3; go_wp2; go_roundw; case rel => exact ⟨k + 1, g3, cap3, by omega, by go_num, by rw [HBK.out], rfl, by rw [pcells_succ, <- HBK.out]; exact HO3.out, BB6.out.trans (((Below.refl _ _).alloc (by omega) _).trans hb3.out)⟩
       case measure => simp [intOf]; omega
     . have hkL : k + 1 = L := by omega
       have e1 : decide ((k : Int) < (F.size : Int)) = false := by simp; omega
       have VO : Hid (wk.ownsRow w2.heap.size 23 1 V i (colC Ls H Cp i)) := zx (own_later TI.out.own BK.out); have hzk : wo.heap.size <= wk.heap.size := BK.out.size; have hwk : w2.heap.size <= wk.heap.size := by omega
       have hi8 : i <= 100000000 := by omega
       have HKL := zx hkL; clear hkL; go_wp2_with (at_builtin; go_must (refine wpList_pushV rfl _ _ rfl w2.heap.size V i (colC Ls H Cp i) (some ⟨gp, 0, none⟩) (k + 1) cap rfl VO.out hwk _ rfl hi8 ?_; intro g5 c5 w8 ho5 hon5 hat5))
       go_roundw; case rel =>
        have hVlo : ∀ b, V.ownBlock = some b -> w2.heap.size <= b ∧ b < wo.heap.size := fun b hb => TI.out.own.lt b hb
        have hz5 := hon5.size; have hLi : k + 1 = (Ls.getD i []).length := by rw [HKL.out, HLD.out, HPD.out]
        have hgp := OK.out.lt gp rfl; rw [colC_next hLi] at ho5; refine ⟨i + 1, _, _, _, rfl, by go_num, by omega, ⟨ho5, fun t ht => ?_, TI.out.below.trans ((BK.out.mono (by omega)).trans (hon5.below hwk (fun b e => (hVlo b e).1)))⟩⟩; show w2.heap.size <= (if t = i then gp else H t) ∧ (if t = i then gp else H t) < w8.heap.size ∧ some g5 ≠ some (if t = i then gp else H t) ∧ ∀ j, j < (Ls.getD t []).length -> w8.cell? ⟨if t = i then gp else H t, j, none⟩ = _; by_cases e : t = i
        . subst e; rw [if_pos rfl]; refine ⟨by omega, by omega, fun h => ?_, fun j hj => ?_⟩
          . injection h with h; rcases hat5 with h2 | h2
            . have := (hVlo _ h2).2; omega
            . omega
          . rw [hon5.cell (p := ⟨gp, j, none⟩) hgp.2 (fun h => by have := (hVlo _ h).2; have h3 : gp < wo.heap.size := this; omega)]; rw [own_cell OK.out (by omega), pcells_at (by omega), HPD.out]
        . rw [if_neg e]; obtain ⟨a1, a2, a3, a4⟩ := TI.out.cells t (by omega); refine ⟨a1, by omega, fun h => ?_, fun j hj => ?_⟩
          . injection h with h; rcases hat5 with h2 | h2
            . exact a3 (by rw [h2, h])
            . omega
          . rw [hon5.cell (p := ⟨H t, j, none⟩) (by show H t < _; omega) a3]; exact zj BK.out (a4 j hj)
       case measure => simp [intOf]; omega
  . have hiI : decide ((i : Int) < (m : Int)) = false := by simp; omega
    have hd : i = m := by omega
    subst hd; clear htol; go_wp2; go_ret; obtain ⟨a, cap, rfl, ha, _⟩ := own_form TI.out.own; obtain ⟨b, rfl⟩ := ha hm0; refine ⟨b, cap, H, Cp, rfl, fun t ht => ?_, B2.out.trans (TI.out.below.mono B2.out.size)⟩; have ht2 : t < i := by rw [<- HMM.out]; exact ht
    obtain ⟨a1, a2, _, a4⟩ := TI.out.cells t ht2; refine ⟨?_, a4⟩; rw [own_cell TI.out.own ht2]; unfold colC; rw [List.getElem?_map, List.getElem?_range ht2]; rfl
end
section
open Go.RowKit M SM
theorem planW_at {w : World} {g : Nat} {Ls : List (List Nat)} {hh c : Nat -> Nat} (R : PlanW w g hh c Ls) : PlanAt w (some ⟨g, 0, none⟩) Ls.length (planM hh c Ls) := by
 intro _; refine ⟨g, 0, rfl, fun i hi => ⟨?_, fun _ => ⟨hh i, 0, rfl, fun j hj => ?_⟩⟩⟩
 . rw [Nat.zero_add, (R i hi).1]; rfl
 . rw [Nat.zero_add, (R i hi).2 j hj]; rfl
theorem wellgoodW_any (ro co bu : Int) (cs : ByteArray) (a : Option Addr) (m cc : Nat) (fr tt : Nat -> Int) (Ls : List (List Nat)) (k : Nat) (g cp : Nat) (hh c : Nat -> Nat) (w : World) (hs : cs.size <= maxLen) (hsd : SidesIn w)
 (ha : 0 < m -> ∃ b off, a = some ⟨b, off, none⟩ ∧ CartsIn w b off m fr tt) (R : PlanW w g hh c Ls) (hG : GoodA ro co bu cs m fr tt Ls k) :
 Calls Tryz.prog 15 #[.agg #[.int .i64 ro, .int .i64 co, .string cs, .slice a m cc, .int .i64 bu], .slice (some ⟨g, 0, none⟩) Ls.length cp, .int .i64 (k : Nat)] w fun e w' => e = .returned (.bool true) ∧ Below w.heap.size w w' := by
 have hm4 := hG.four; have hmm : m <= maxLen := by unfold maxLen; omega
 have HA := zx ha; have HSD := zx hsd; have HR : Hid (∀ t, t < Ls.length -> w.cell? ⟨g, t, none⟩ = some (.slice (some ⟨hh t, 0, none⟩) (Ls.getD t []).length (c t))) := zx fun t ht => (R t ht).1
 have PA : Hid (PlanAt w (some ⟨g, 0, none⟩) Ls.length (planM hh c Ls)) := zx (planW_at R); have JE : Hid (judgeE ro co bu cs m fr tt 3 = 0) := by unfold Hid judgeE; rw [if_pos hG.check, if_neg (by omega)]
 have AN : Hid (ansF ro co bu cs m fr tt Ls.length (planM hh c Ls) 3 = []) := by
  unfold Hid ansF; rw [if_pos JE.out, if_pos hG.num, hG.num]; exact hG.none
 have LB : Hid (∀ i, i < Ls.length -> (planM hh c Ls).len i <= 1048576) := fun i hi => by
  have h := (hG.pos i (by have := hG.num; omega)).2; show (Ls.getD i []).length <= _; omega
 have LP : Hid (∀ i, i < Ls.length -> 0 < (Ls.getD i []).length ∧ (Ls.getD i []).length <= 320000) := fun i hi => by
  have h := hG.pos i (by have := hG.num; omega); exact ⟨List.length_pos_iff.2 h.1, h.2⟩
 have KE : Hid (k = sumN (fun i => (Ls.getD i []).length - 1) Ls.length) := by unfold Hid; rw [hG.num]; exact hG.cost
 obtain ⟨N, hN⟩ : ∃ N, N = Ls.length := ⟨_, rfl⟩
 have hN4 : N <= 4 := by have := hG.num; omega
 rw [<- hN] at PA AN LB LP KE HR ⊢; have SB : Hid (∀ i, i <= N -> sumN (fun i => (Ls.getD i []).length - 1) i <= 1280000) := fun i hi => by
  have h := sumN_le (f := fun i => (Ls.getD i []).length - 1) (B := 320000) (n := i) (fun j hj => by have := LP.out j (by omega); omega); omega
 clear ha hsd R hG hN; go_enter Tryz.func15, Tryz.ntmps15; go_wp2_with fail; have B0 : Hid (Below w.heap.size w (w.alloc (.cells #[.int .i64 ro, .int .i64 co, .string cs, .slice a m cc, .int .i64 bu] 34))) := (Below.refl _ w).alloc zl _; refine (rjudge_any ro co bu cs a m cc fr tt _ N cp (planM hh c Ls) 3 _ hs hmm (HSD.out.below B0.out) (by exact opt_below HA.out B0.out) LB.out (PA.out.below B0.out)).mono ?_; rintro e w1 ⟨v, rfl, hv, hb1⟩; rw [AN.out] at hv; rw [JE.out]; have hv2 := hv.2 rfl; subst hv2; have B1 := zx (B0.out.trans (hb1.mono (by simp)))
 have R1 : Hid (∀ t, t < N -> w1.cell? ⟨g, t, none⟩ = some (.slice (some ⟨hh t, 0, none⟩) (Ls.getD t []).length (c t))) := zx fun t ht => zj B1.out (HR.out t ht)
 clear hv hb1 B0 HR PA; go_wp2; go_loopw [9, 10] (fun v9 v10 wr => ∃ i : Nat, v10 = .int .i64 i ∧ v9 = .int .i64 (sumN (fun i => (Ls.getD i []).length - 1) i : Nat) ∧ i <= N ∧ wr = w1) (fun _ v10 _ => N - (intOf v10).toNat)
 case atStart => exact ⟨0, rfl, rfl, Nat.zero_le _, rfl⟩
 case round =>
  obtain ⟨i, rfl, rfl, hi, rfl⟩ := hrel; by_cases hlt : i < N
  . have d0 := R1.out i hlt; have hl1 := (LP.out i hlt).1; have hl2 := (LP.out i hlt).2; have hsb := SB.out i hi; obtain ⟨q, hni⟩ : ∃ q, q = (Ls.getD i []).length := ⟨_, rfl⟩
    have hSI : Hid (sumN (fun i => (Ls.getD i []).length - 1) (i + 1) = sumN (fun i => (Ls.getD i []).length - 1) i + ((Ls.getD i []).length - 1)) := rfl; rw [<- hni] at d0 hl1 hl2 hSI; obtain ⟨S, hS⟩ : ∃ S, S = sumN (fun i => (Ls.getD i []).length - 1) i := ⟨_, rfl⟩
    rw [<- hS] at hsb hSI ⊢; have hiI : (i : Int) < (N : Int) := by omega
    clear hni hS; go_wp2; go_roundw; case rel => exact ⟨i + 1, by go_num, by rw [hSI.out]; go_num, by omega, by first | rfl | trivial⟩
    case measure => simp [intOf]; omega
  . have hd : i = N := by omega
    subst hd; rw [<- KE.out]; go_wp2; go_ret; exact ⟨rfl, B1.out⟩
end
end Go.Proofs.YtnkgpinadgacgaaGreatDoor
