/- Several texts in one: Pc. -/
import Derived.Test.YtnkgpinadgacgabDoorMjzr
import Derived.Test.YtnkgpinadgacgabDoorMjzy
import Derived.Deep.LoopGhost
import Derived.Laws.AppendOwnNone
import Derived.Maps.AppendAt
namespace Go.Proofs.YtnkgpinadgacgabDoor
open Go.RowKit M SM

theorem cut_next {n K : Nat} {p : PlanM} (h : n ≤ K) : (List.range K).map (cutV n p) ++ [.slice none 0 0] = (List.range (K + 1)).map (cutV n p) := by
  rw [List.range_succ, List.map_append]
  show _ = _ ++ [cutV n p K]
  rw [cutV_out (by omega)]

theorem ownL_form {l m : Nat} {co : Int} {cs : ByteArray} {len : Nat → Nat} {num : Nat → Nat → Int} (h1 : 1 ≤ l) (h3 : l ≤ 3) (hB : ∀ i, len i ≤ 1048576) (x : FaultM) (hx : x ∈ ownL l co cs m len num) :
    x.level = (l : Int) ∧ (1 < l → ∃ i k t : Nat, i < k ∧ k < m ∧ t ≤ 1048576 ∧ x = ⟨l, i, k, t⟩ ∧ faultB l len num i k t = true) := by
  have key : ∀ q : Nat, x ∈ pairsF q m len num m → x.level = (q : Int) ∧ (1 < q → ∃ i k t : Nat, i < k ∧ k < m ∧ t ≤ 1048576 ∧ x = ⟨q, i, k, t⟩ ∧ faultB q len num i k t = true) := fun q hq => by
    obtain ⟨i, k, t, a1, a2, a3, a4⟩ := pairs_form hq
    refine ⟨by rw [a3], fun _ => ⟨i, k, t, a1, a2, ?_, a3, a4⟩⟩
    have h4 := a4
    unfold faultB at h4
    simp only [Bool.and_eq_true, decide_eq_true_eq] at h4
    have h5 := h4.2.1
    have b1 := hB i
    have b2 := hB k
    unfold spanM at h5
    split at h5 <;> omega
  have e : l = 1 ∨ l = 2 ∨ l = 3 := by omega
  rcases e with e | e | e
  · subst e
    simp only [ownL] at hx
    simp at hx
    exact ⟨steps_level hx, fun h => by omega⟩
  · subst e
    simp only [ownL] at hx
    simp at hx
    exact key 2 hx
  · subst e
    simp only [ownL] at hx
    simp at hx
    exact key 3 hx

theorem ownL_has {l m : Nat} {co : Int} {cs : ByteArray} {len : Nat → Nat} {num : Nat → Nat → Int} (h1 : 1 < l) (h3 : l ≤ 3) {i k t : Nat} (hk : k < m) : ((⟨l, i, k, t⟩ : FaultM) ∈ ownL l co cs m len num) ↔ faultB l len num i k t = true := by
  have e : l = 2 ∨ l = 3 := by omega
  rcases e with e | e <;> subst e <;> simp only [ownL] <;> simp <;> exact (pairs_fault hk).symm

/-- Judge, a plan with a list for each cart and a level from 0 to 3. -/
theorem judgeL_any (R C U : Nat) (cs : ByteArray) (g m cc : Nat) (fr tt : Nat → Int) (ap : Option Addr) (cap : Nat) (p : PlanM) (lvl : Int) (l : Nat) (F : List FaultM) (w : World) (hF : F = allF l C cs fr tt m p.len p.num) (hl : lvl = (l : Int)) (hl3 : l ≤ 3) (hs : cs.size ≤ 36) (hm : m ≤ 4) (hcap : m ≤ cc) (hsd : SidesIn w)
    (hc : CartsIn w g 0 m fr tt) (hck : (checkM R C cs m fr tt U).1 = 0) (hB : ∀ i, i < m → p.len i ≤ 1048576) (hp : PlanAt w ap m p) :
    Calls Tryd.prog 22 #[.agg #[.int .i64 (R : Int), .int .i64 (C : Int), .string cs, .slice (some ⟨g, 0, none⟩) m cc, .int .i64 (U : Int)], .slice ap m cap, .int .i64 lvl] w fun e w' =>
      ∃ (a : Option Addr) (c : Nat), e = .returned (.tuple #[.slice a F.length c, .int .i64 0]) ∧ OwnF w' w.heap.size (.slice a F.length c) F ∧ Below w.heap.size w w' := by
  subst hl
  subst hF
  refine (yjudge_any R C U cs (some ⟨g, 0, none⟩) m cc fr tt ap m cap p l w (by unfold maxLen; omega) (by unfold maxLen; omega) hcap hsd (fun _ => ⟨g, 0, rfl, hc⟩) hB hp).mono ?_
  rintro e w' ⟨v, rfl, ho, hb⟩
  have ej : judgeE (R : Int) (C : Int) (U : Int) cs m fr tt (l : Int) = 0 := by unfold judgeE; rw [if_pos hck, if_neg (by omega)]
  have ea : ansF (R : Int) (C : Int) (U : Int) cs m fr tt m p (l : Int) = allF l C cs fr tt m p.len p.num := by unfold ansF; rw [if_pos ej, if_pos rfl, Int.toNat_natCast]
  rw [ea] at ho
  rw [ej]
  obtain ⟨a, c, rfl, _⟩ := ho.form
  exact ⟨a, c, rfl, ho, hb⟩

/-- Judge, a plan with a list too few: the one fault that tells so. -/
theorem judgeOne_any (R C U : Nat) (cs : ByteArray) (g m cc : Nat) (fr tt : Nat → Int) (ap : Option Addr) (n cap : Nat) (p : PlanM) (w : World) (hn : n ≠ m) (hs : cs.size ≤ 36) (hm : m ≤ 4) (hcap : m ≤ cc) (hsd : SidesIn w)
    (hc : CartsIn w g 0 m fr tt) (hck : (checkM R C cs m fr tt U).1 = 0) (hB : ∀ i, i < n → p.len i ≤ 1048576) (hp : PlanAt w ap n p) :
    Calls Tryd.prog 22 #[.agg #[.int .i64 (R : Int), .int .i64 (C : Int), .string cs, .slice (some ⟨g, 0, none⟩) m cc, .int .i64 (U : Int)], .slice ap n cap, .int .i64 3] w fun e w' =>
      ∃ (g5 c5 : Nat), e = .returned (.tuple #[.slice (some ⟨g5, 0, none⟩) 1 c5, .int .i64 0]) ∧ (w'.cell? ⟨g5, 0, none⟩ = some (.int .i64 0) ∧ w'.cell? ⟨g5, 1, none⟩ = some (.int .i64 (-1)) ∧ w'.cell? ⟨g5, 2, none⟩ = some (.int .i64 (-1)) ∧ w'.cell? ⟨g5, 3, none⟩ = some (.int .i64 0)) ∧ Below w.heap.size w w' := by
  refine (yjudge_any R C U cs (some ⟨g, 0, none⟩) m cc fr tt ap n cap p 3 w (by unfold maxLen; omega) (by unfold maxLen; omega) hcap hsd (fun _ => ⟨g, 0, rfl, hc⟩) hB hp).mono ?_
  rintro e w' ⟨v, rfl, ho, hb⟩
  have ej : judgeE (R : Int) (C : Int) (U : Int) cs m fr tt 3 = 0 := by unfold judgeE; rw [if_pos hck, if_neg (by omega)]
  have ea : ansF (R : Int) (C : Int) (U : Int) cs m fr tt n p 3 = [⟨0, -1, -1, 0⟩] := by unfold ansF; rw [if_pos ej, if_neg hn]
  rw [ea] at ho
  rw [ej]
  rcases ho.at with ⟨e, _⟩ | ⟨g5, c5, hv, _, h4⟩
  · cases e
  · subst hv
    obtain ⟨c0, c1, c2, c3⟩ := h4 0 (by simp)
    exact ⟨g5, c5, rfl, ⟨c0, c1, c2, c3⟩, hb⟩

theorem plan_tail {w : World} {gp m : Nat} {p : PlanM} {ap : Option Addr} (h : PlanAt w (some ⟨gp, 0, none⟩) m p) (ha : 0 < m - 1 → ap = some ⟨gp, 1, none⟩) : PlanAt w ap (m - 1) ⟨fun i => p.ad (i + 1), fun i => p.len (i + 1), fun i => p.cap (i + 1), fun i => p.num (i + 1)⟩ := fun h0 => by
  obtain ⟨b, off, e, hpi⟩ := h (by omega)
  have e := Option.some.inj e
  cases e
  refine ⟨gp, 1, ha h0, fun i hi => ?_⟩
  obtain ⟨h1, h2⟩ := hpi (i + 1) (by omega)
  refine ⟨?_, h2⟩
  rw [← h1, show 0 + (i + 1) = 1 + i by omega]

set_option maxRecDepth 100000 in
set_option maxHeartbeats 8000000 in
theorem judged_any (SH : Shapes) (rr rc rb lv xi xk xt : Int) (s : ByteArray) (a : Option Addr) (n cap : Nat) (x : Nat → Int) (ap : Option Addr) (n2 cap2 : Nat) (p : PlanM) (w : World) (hs : s.size ≤ maxLen) (hn : n ≤ 17592186044415) (hsd : SidesIn w)
    (h0 : (Lit.int .i64 rr).wf = true) (h1 : (Lit.int .i64 rc).wf = true) (h2 : (Lit.int .i64 rb).wf = true) (h3 : (Lit.int .i64 lv).wf = true) (h4 : (Lit.int .i64 xi).wf = true) (h5 : (Lit.int .i64 xk).wf = true) (h6 : (Lit.int .i64 xt).wf = true)
    (hx : (∀ i, i < n → (Lit.int .i64 (x i)).wf = true) ∧ (0 < n → ∃ b off, a = some ⟨b, off, none⟩ ∧ ∀ i, i < n → w.cell? ⟨b, off + i, none⟩ = some (.int .i64 (x i))))
    (hn2 : n2 ≤ 1048576) (hnil : ap = none → n2 = 0 ∧ cap2 = 0) (hB : ∀ i, i < n2 → p.len i ≤ 1048576) (hp : PlanAt w ap n2 p) :
    Calls Tryd.prog 7 #[.agg #[.int .i64 rr, .int .i64 rc, .string s, .slice a n cap, .int .i64 rb], .slice ap n2 cap2, .int .i64 lv, .int .i64 xi, .int .i64 xk, .int .i64 xt] w fun e w' => e = .returned (.bool true) ∧ Below w.heap.size w w' := by
  have HSD := Hid.mk hsd
  have HP := Hid.mk hp
  have HB := Hid.mk hB
  have HNIL := Hid.mk hnil
  have W3 := Hid.mk h3
  have W4 := Hid.mk h4
  have W5 := Hid.mk h5
  have W6 := Hid.mk h6
  have HSH : Hid (∀ u : World, Below w.heap.size w u → Calls Tryd.prog 19 #[.agg #[.int .i64 rr, .int .i64 rc, .string s, .slice a n cap, .int .i64 rb]] u fun e w' =>
      ∃ (R C U m cc g : Nat) (cs : ByteArray) (fr tt : Nat → Int), e = .returned (.agg #[.int .i64 (R : Int), .int .i64 (C : Int), .string cs, .slice (some ⟨g, 0, none⟩) m cc, .int .i64 (U : Int)]) ∧
        1 ≤ m ∧ m ≤ 4 ∧ m ≤ cc ∧ CartsIn w' g 0 m fr tt ∧ checkM R C cs m fr tt U = (0, 0) ∧ freeB cs 0 = true ∧ cs.size ≤ 36 ∧ Below u.heap.size u w') := fun u hu => by
    refine SH rr rc rb s a n cap x u hs hn h0 h1 h2 ⟨hx.1, fun hp => ?_⟩
    obtain ⟨b, off, e, hc⟩ := hx.2 hp
    exact ⟨b, off, e, fun i hi => cell_later hu (hc i hi)⟩
  obtain ⟨F0, hF0⟩ : ∃ F0 : Nat, 200400000 ≤ F0 := ⟨_, Nat.le_refl _⟩
  obtain ⟨i0, hi0, hi1, hi2, hi3⟩ := info_parts Tryd.infoSl
  clear hsd hx hp hB hnil h3 h4 h5 h6
  go_enter Tryd.func7, Tryd.ntmps7
  go_wp2_with fail
  obtain ⟨w1, hw1⟩ : ∃ q, q = w.alloc (Obj.cells #[Value.int IntKind.i64 rr, Value.int IntKind.i64 rc, Value.string s, .slice a n cap, Value.int IntKind.i64 rb] 24) := ⟨_, rfl⟩
  have B1 : Hid (Below w.heap.size w w1) := by unfold Hid; rw [hw1]; exact (Below.refl _ w).alloc (Nat.le_refl _) _
  have hz1 : w1.heap.size = w.heap.size + 1 := by rw [hw1]; simp
  rw [← hw1]
  clear hw1
  refine (HSH.out _ B1.out).mono ?_
  rintro e w2 ⟨R, C, U, m, cc, g, cs, fr, tt, rfl, hm1, hm4, hmc, hcs, hck, hf0, hs36, hb2⟩
  have B2 : Hid (Below w.heap.size w w2) := B1.out.trans (hb2.mono (by omega))
  have CK : Hid ((checkM R C cs m fr tt U).1 = 0) := by unfold Hid; rw [hck]
  have HCS := Hid.mk hcs
  clear hck hcs hb2 HSH hf0
  go_upto_region 3 with fail
  obtain ⟨w3, hw3⟩ : ∃ q, q = w2.alloc (Obj.cells #[Value.int .i64 (R : Int), .int .i64 (C : Int), .string cs, .slice (some ⟨g, 0, none⟩) m cc, .int .i64 (U : Int)] 28) := ⟨_, rfl⟩
  rw [← hw3]
  have B3 : Hid (Below w2.heap.size w2 w3) := by unfold Hid; rw [hw3]; exact (Below.refl _ w2).alloc (Nat.le_refl _) _
  have Y3 : Hid (∀ o, w3.cell? ⟨w2.heap.size, o, none⟩ = #[Value.int .i64 (R : Int), .int .i64 (C : Int), .string cs, .slice (some ⟨g, 0, none⟩) m cc, .int .i64 (U : Int)][o]?) := by
    rw [hw3]
    unfold Hid
    intro o; go_simp
  have hz3 : w3.heap.size = w2.heap.size + 1 := by rw [hw3]; simp
  clear hw3
  obtain ⟨yb, hyb⟩ : ∃ q, q = w2.heap.size := ⟨_, rfl⟩
  rw [← hyb] at Y3 hz3 ⊢
  have B03 : Hid (Below w.heap.size w w3) := B2.out.trans (B3.out.mono B2.out.size)
  have C3 : Hid (CartsIn w3 g 0 m fr tt) := HCS.out.below B3.out
  have S3 : Hid (SidesIn w3) := HSD.out.below B03.out
  have P3 : Hid (PlanAt w3 ap n2 p) := HP.out.below B03.out
  clear hyb
  have hyz : yb < w3.heap.size := by omega
  go_cut [14] (fun v14 wx => ∃ (ac : Option Addr) (c : Nat), v14 = .slice ac n2 c ∧ wx.ownsRow w3.heap.size 22 1 (.slice ac n2 c) n2 ((List.range n2).map (cutV n2 p)) ∧ Below w3.heap.size w3 wx)
  case first =>
    cases ap with
    | none =>
      obtain ⟨e1, e2⟩ := HNIL.out rfl
      subst e1 e2
      go_wp2_with (at_builtin; go_must (refine wpList_append_own_none rfl _ _ 29 rfl w3.heap.size 22 i0 1 Tryd.underlying29 hi0 (.slice none 0 0) 0 [] rfl ⟨rfl, .inl ⟨rfl, rfl⟩⟩ rfl ?_))
      go_meet
      case rel => exact ⟨none, 0, rfl, ⟨rfl, .inl ⟨rfl, rfl⟩⟩, Below.refl _ _⟩
    | some ad =>
      have hnews : ∀ j u, ((List.range n2).map (cutV n2 p))[j]? = some u → w3.cell? (ad.add j) = some u := fun j u hj => by
        have hjn : j < n2 := by
          by_cases hq : j < n2
          · exact hq
          · rw [List.getElem?_eq_none (by simp; omega)] at hj; cases hj
        obtain ⟨b, off, e, hpi⟩ := P3.out (by omega)
        have e := Option.some.inj e
        subst e
        rw [List.getElem?_map, List.getElem?_range hjn] at hj
        have ea : (⟨b, off, none⟩ : Addr).add j = ⟨b, off + j, none⟩ := by simp [Addr.add]
        rw [ea, (hpi j hjn).1, ← hj]
        show _ = some (cutV n2 p j)
        rw [cutV_in hjn]
      go_wp2_with (at_builtin; go_must (refine wpList_append_own_at _ rfl _ _ 29 rfl w3.heap.size 22 i0 _ 1 24 Tryd.underlying29 hi0 hi1 hi2 hi3 rfl (by omega) (.slice none 0 0) 0 [] rfl ⟨rfl, .inl ⟨rfl, rfl⟩⟩ ad n2 _ ((List.range n2).map (cutV n2 p)) rfl (by simp) hnews (fun u hu => by obtain ⟨j, _, rfl⟩ := List.mem_map.1 hu; rfl) (by unfold maxLen; omega) (by omega) (Nat.le_refl _) ?_; intro v4 w4 ho4 hg4 _ _))
      go_meet
      case rel =>
        rw [Nat.zero_add, List.nil_append] at ho4
        obtain ⟨ac, c, rfl, _, _⟩ := own_form ho4
        exact ⟨ac, c, rfl, ho4, (Below.refl w3.heap.size w3).grown hg4 (Nat.le_refl _) (fun k hk => by cases hk)⟩
  case rest =>
    obtain ⟨w4, rfl⟩ : ∃ q, q = wc := ⟨_, rfl⟩
    obtain ⟨ac, c, rfl, ho4, hb4⟩ := hcut
    have O4 := Hid.mk ho4
    have B4 := Hid.mk hb4
    have hz4 := hb4.size
    clear ho4 hb4
    go_wp2_with fail
    go_loopg [14] (m - n2) (fun gk v14 wr => ∃ (K : Nat) (ac : Option Addr) (c : Nat), v14 = .slice ac K c ∧ n2 ≤ K ∧ gk = m - K ∧ K ≤ 1048580 ∧ wr.ownsRow w3.heap.size 22 1 (.slice ac K c) K ((List.range K).map (cutV n2 p)) ∧ Below w3.heap.size w3 wr)
    case atStart => exact ⟨n2, ac, c, rfl, Nat.le_refl _, rfl, by omega, O4.out, B4.out⟩
    case round =>
      obtain ⟨w5, rfl⟩ : ∃ q, q = wr := ⟨_, rfl⟩
      obtain ⟨K, ac, c, rfl, hK, hgk, hKb, ho5, hb5⟩ := hrel
      have O5 := Hid.mk ho5
      have B5 := Hid.mk hb5
      have GK := Hid.mk hgk
      have hz5 := hb5.size
      have y53 := (B5.out.cell (p := ⟨yb, 3, none⟩) hyz).trans (Y3.out 3)
      simp only [List.getElem?_toArray, List.getElem?_cons_zero, List.getElem?_cons_succ] at y53
      clear ho5 hb5 hgk
      by_cases hlt : K < m
      · have hltI : (K : Int) < (m : Int) := by omega
        have hK8 : K ≤ 100000000 := by omega
        go_wp2_with (at_builtin; go_must (refine wpList_pushV rfl _ _ rfl w3.heap.size (.slice ac K c) K ((List.range K).map (cutV n2 p)) none 0 0 rfl O5.out (by exact hz5) _ rfl hK8 ?_; intro g6 c6 w6 ho6 hon6 hat6))
        go_roundg (gk - 1)
        case rel => exact ⟨K + 1, some ⟨g6, 0, none⟩, c6, rfl, by omega, by have := GK.out; omega, by omega, by rw [← cut_next hK]; exact ho6, below_only B5.out hon6 hz5 (fun k hk => (O5.out.lt k hk).1)⟩
        case measure => have := GK.out; omega
      · have hltI : ¬ (K : Int) < (m : Int) := by omega
        obtain ⟨aV, cV, hV, haV, hcV⟩ := own_form O5.out
        obtain ⟨gl, rfl⟩ := haV (by omega)
        cases hV
        have hmc2 : (m : Int) ≤ (c : Int) := by omega
        have hmc3 : m ≤ c := by omega
        have PL : Hid (PlanAt w5 (some ⟨gl, 0, none⟩) m (cutP n2 p)) := cut_at O5.out (by omega) P3.out (B5.out.mono (Nat.le_refl _))
        have W53 := B03.out.trans (B5.out.mono B03.out.size)
        have C5 : Hid (CartsIn w5 g 0 m fr tt) := C3.out.below B5.out
        have S5 : Hid (SidesIn w5) := S3.out.below B5.out
        have Y5 : Hid (∀ o, w5.cell? ⟨yb, o, none⟩ = #[Value.int .i64 (R : Int), .int .i64 (C : Int), .string cs, .slice (some ⟨g, 0, none⟩) m cc, .int .i64 (U : Int)][o]?) := fun o => (B5.out.cell (p := ⟨yb, o, none⟩) hyz).trans (Y3.out o)
        have y5 := Y5.out
        clear y53
        go_wp2_with fail
        go_at_call 21
        refine (pick_any lv 3 w5 (by decide) (by decide) W3.out).mono ?_
        rintro e w6 ⟨r, hr, rfl, hw6⟩
        have hw6 := hw6.symm
        subst hw6
        go_wp2_with fail
        obtain ⟨FA, hFA⟩ : ∃ q, Hid (q = allF (r + 1) C cs fr tt m (cutP n2 p).len (cutP n2 p).num) := ⟨_, Hid.mk rfl⟩
        obtain ⟨FB, hFB⟩ : ∃ q, Hid (q = allF r C cs fr tt m (cutP n2 p).len (cutP n2 p).num) := ⟨_, Hid.mk rfl⟩
        obtain ⟨FO, hFO⟩ : ∃ q, Hid (q = ownL (r + 1) C cs m (cutP n2 p).len (cutP n2 p).num) := ⟨_, Hid.mk rfl⟩
        have hAB : Hid (FA = FO ++ FB) := by unfold Hid; rw [hFA.out, hFB.out, hFO.out]; exact allF_split (by omega) (by omega)
        have hlen : FA.length = FO.length + FB.length := by rw [hAB.out, List.length_append]
        have hFAb : FA.length ≤ 40000000 := by rw [hFA.out]; exact allF_len hm4 (fun i _ => cutP_len HB.out i)
        have PB : Hid (∀ i, i < m → (cutP n2 p).len i ≤ 1048576) := fun i _ => cutP_len HB.out i
        refine (judgeL_any R C U cs g m cc fr tt _ c (cutP n2 p) _ (r + 1) FA w5 hFA.out (by omega) (by omega) hs36 hm4 hmc S5.out C5.out CK.out PB.out PL.out).mono ?_
        rintro e w7 ⟨aa, ca, rfl, ho7, hb7⟩
        have O7 := Hid.mk ho7
        have B7 := Hid.mk hb7
        have hz7 := hb7.size
        have y7 : ∀ o, w7.cell? ⟨yb, o, none⟩ = #[Value.int .i64 (R : Int), .int .i64 (C : Int), .string cs, .slice (some ⟨g, 0, none⟩) m cc, .int .i64 (U : Int)][o]? := fun o => (hb7.cell (p := ⟨yb, o, none⟩) (by show yb < _; omega)).trans (y5 o)
        clear y5 ho7 hb7
        go_wp2_with fail
        refine (judgeL_any R C U cs g m cc fr tt _ c (cutP n2 p) _ r FB w7 hFB.out (by omega) (by omega) hs36 hm4 hmc (S5.out.below B7.out) (C5.out.below B7.out) CK.out PB.out (PL.out.below B7.out)).mono ?_
        rintro e w8 ⟨ab, cb, rfl, ho8, hb8⟩
        have O8 := Hid.mk ho8
        have B8 := Hid.mk hb8
        have hz8 := hb8.size
        have y8 : ∀ o, w8.cell? ⟨yb, o, none⟩ = #[Value.int .i64 (R : Int), .int .i64 (C : Int), .string cs, .slice (some ⟨g, 0, none⟩) m cc, .int .i64 (U : Int)][o]? := fun o => (hb8.cell (p := ⟨yb, o, none⟩) (by show yb < _; omega)).trans (y7 o)
        clear y7 ho8 hb8
        have hltI2 : ¬ ((FA.length : Nat) : Int) < ((FB.length : Nat) : Int) := by omega
        go_wp2_with fail
        clear hltI2
        rw [show (1 : Int) + (r : Int) = ((r + 1 : Nat) : Int) by omega]
        obtain ⟨l, hl⟩ : ∃ q, Hid (q = r + 1) := ⟨_, Hid.mk rfl⟩
        rw [show r + 1 = l from hl.out.symm]
        go_at_call 21
        refine (pick_any xi m w8 (by omega) (by omega) W4.out).mono ?_
        rintro e w9 ⟨qi, hqi, rfl, hw9⟩
        have hw9 := hw9.symm
        subst hw9
        go_wp2_with fail
        go_at_call 21
        refine (pick_any xk m w8 (by omega) (by omega) W5.out).mono ?_
        rintro e w9 ⟨qk, hqk, rfl, hw9⟩
        have hw9 := hw9.symm
        subst hw9
        go_wp2_with fail
        go_at_call 21
        refine (pick_any xt 40 w8 (by decide) (by decide) W6.out).mono ?_
        rintro e w9 ⟨qt, hqt, rfl, hw9⟩
        have hw9 := hw9.symm
        subst hw9
        go_wp2_with fail
        obtain ⟨w9, hw9⟩ : ∃ q, q = w8.alloc (Obj.cells #[Value.int .i64 (l : Int), .int .i64 (qi : Int), .int .i64 (qk : Int), .int .i64 (qt : Int)] 55) := ⟨_, rfl⟩
        rw [← hw9]
        have B9 : Hid (Below w8.heap.size w8 w9) := by unfold Hid; rw [hw9]; exact (Below.refl _ w8).alloc (Nat.le_refl _) _
        obtain ⟨db, hdb⟩ : ∃ q, q = w8.heap.size := ⟨_, rfl⟩
        have D9 : Hid (∀ o, w9.cell? ⟨db, o, none⟩ = #[Value.int .i64 (l : Int), .int .i64 (qi : Int), .int .i64 (qk : Int), .int .i64 (qt : Int)][o]?) := by
          rw [hw9, hdb]
          unfold Hid
          intro o; go_simp
        have hz9 : w9.heap.size = w8.heap.size + 1 := by rw [hw9]; simp
        rw [← hdb]
        have hdz : db < w9.heap.size := by omega
        have Y9 : Hid (∀ o, w9.cell? ⟨yb, o, none⟩ = #[Value.int .i64 (R : Int), .int .i64 (C : Int), .string cs, .slice (some ⟨g, 0, none⟩) m cc, .int .i64 (U : Int)][o]?) := fun o => (B9.out.cell (p := ⟨yb, o, none⟩) (by show yb < _; omega)).trans (y8 o)
        clear y8 hw9 hdb
        have B59 : Hid (Below w5.heap.size w5 w9) := B7.out.trans ((B8.out.mono hz7).trans (B9.out.mono (by omega)))
        have FA9 : Hid (FaultsAt w9 (.slice aa FA.length ca) FA) := (O7.out.at.below B8.out).below B9.out
        have FB9 : Hid (FaultsAt w9 (.slice ab FB.length cb) FB) := O8.out.at.below B9.out
        have FOm : Hid (∀ x ∈ FO, x.level = (l : Int) ∧ (1 < l → ∃ i k t : Nat, i < k ∧ k < m ∧ t ≤ 1048576 ∧ x = ⟨l, i, k, t⟩ ∧ faultB l (cutP n2 p).len (cutP n2 p).num i k t = true)) := by
          intro x hx
          rw [hFO.out, ← hl.out] at hx
          exact ownL_form (by have := hl.out; omega) (by have := hl.out; omega) (fun i => cutP_len HB.out i) x hx
        go_loopg [22, 23] (FA.length) (fun gk v22 v23 wr => ∃ (j : Nat) (tb : Bool), v22 = .bool tb ∧ v23 = .int .i64 (j : Int) ∧ j ≤ FA.length ∧ gk = FA.length - j ∧ (tb = true ↔ (⟨l, qi, qk, qt⟩ : FaultM) ∈ FO.take j) ∧ Below w9.heap.size w9 wr)
        case atStart => exact ⟨0, false, rfl, rfl, Nat.zero_le _, rfl, by simp, Below.refl _ _⟩
        case round =>
          obtain ⟨wr, rfl⟩ : ∃ q, q = wr := ⟨_, rfl⟩
          obtain ⟨j, tb, rfl, rfl, hj, hgk, htb, hbr⟩ := hrel
          have GK := Hid.mk hgk
          have TB := Hid.mk htb
          have BR := Hid.mk hbr
          have hzr := hbr.size
          clear hgk htb hbr
          have dr : ∀ o, wr.cell? ⟨db, o, none⟩ = #[Value.int .i64 (l : Int), .int .i64 (qi : Int), .int .i64 (qk : Int), .int .i64 (qt : Int)][o]? := fun o => (BR.out.cell (p := ⟨db, o, none⟩) hdz).trans (D9.out o)
          by_cases hlt : j < FO.length + FB.length
          · have hltI : (j : Int) < ((FO.length + FB.length : Nat) : Int) := by omega
            have hjA : j < FA.length := by omega
            obtain ⟨ga, hga, ca1⟩ : ∃ ga, aa = some ⟨ga, 0, none⟩ ∧ (∀ i, (h : i < FA.length) → w9.cell? ⟨ga, i * 4, none⟩ = some (.int .i64 FA[i].level) ∧ w9.cell? ⟨ga, i * 4 + 1, none⟩ = some (.int .i64 FA[i].cart) ∧ w9.cell? ⟨ga, i * 4 + 2, none⟩ = some (.int .i64 FA[i].other) ∧ w9.cell? ⟨ga, i * 4 + 3, none⟩ = some (.int .i64 FA[i].at')) := by
              rcases FA9.out with ⟨e, _⟩ | ⟨ga, c', hv, _, ca1⟩
              · rw [e] at hjA; cases hjA
              · cases hv
                exact ⟨ga, rfl, ca1⟩
            subst hga
            obtain ⟨a1, a2, a3, a4⟩ := ca1 j hjA
            have a1 := cell_later BR.out a1
            have a2 := cell_later BR.out a2
            have a3 := cell_later BR.out a3
            have a4 := cell_later BR.out a4
            obtain ⟨f, hf⟩ : ∃ f, Hid (f = FA[j]) := ⟨_, Hid.mk rfl⟩
            rw [← hf.out] at a1 a2 a3 a4
            obtain ⟨fl, fc, fo, ft⟩ := f
            dsimp only at a1 a2 a3 a4
            as_aux_lemma =>
              by_cases hown : j < FO.length
              · have hownI : ¬ ((FO.length : Nat) : Int) ≤ (j : Int) := by omega
                have ef : FO[j] = (⟨fl, fc, fo, ft⟩ : FaultM) := by
                  rw [hf.out]
                  have := hAB.out
                  simp only [this]
                  exact (List.getElem_append_left hown).symm
                have STEP : Hid ((⟨l, qi, qk, qt⟩ : FaultM) ∈ FO.take (j + 1) ↔ (⟨l, qi, qk, qt⟩ : FaultM) ∈ FO.take j ∨ (⟨fl, fc, fo, ft⟩ : FaultM) = ⟨l, qi, qk, qt⟩) := by
                  unfold Hid
                  rw [List.take_succ_eq_append_getElem hown, List.mem_append, List.mem_singleton, ef, eq_comm (a := (⟨l, qi, qk, qt⟩ : FaultM)) (b := ⟨fl, fc, fo, ft⟩)]
                obtain ⟨hlv, hform⟩ := FOm.out (⟨fl, fc, fo, ft⟩ : FaultM) (by rw [← ef]; exact List.getElem_mem hown)
                have HF := Hid.mk hform
                have hlv : fl = (l : Int) := hlv
                subst hlv
                clear hform ef ca1
                by_cases h1l : 1 < l
                case' pos =>
                  have h1I : (1 : Int) < (l : Int) := by omega
                  obtain ⟨fi, fk, ftt, f1, f2, f3, f4, f5⟩ := HF.out h1l
                  have E2 : Hid (fc = (fi : Int)) := congrArg FaultM.cart f4
                  have E3 : Hid (fo = (fk : Int)) := congrArg FaultM.other f4
                  have E4 : Hid (ft = (ftt : Int)) := congrArg FaultM.at' f4
                  clear f4
                  go_wp2_with fail
                  rw [E2.out, E3.out, E4.out]
                  refine (faulty_any l fi fk ftt m c _ (cutP n2 p) wr (by have := hl.out; omega) (by omega) f2 f3 PB.out ((PL.out.below B59.out).below BR.out)).mono ?_
                  rintro e w10 ⟨rfl, hb10⟩
                  rw [f5]
                  go_wp2_with fail
                case' neg =>
                  have h1I : ¬ (1 : Int) < (l : Int) := by omega
                  go_wp2_with fail
                  obtain ⟨w10, hw10⟩ : ∃ q, q = wr := ⟨_, rfl⟩
                  have hb10 : Below wr.heap.size wr w10 := by rw [hw10]; exact Below.refl _ _
                  subst hw10
                all_goals
                  have a1 := cell_later hb10 a1
                  have a2 := cell_later hb10 a2
                  have a3 := cell_later hb10 a3
                  have a4 := cell_later hb10 a4
                  have dr := fun o => (hb10.cell (p := ⟨db, o, none⟩) (by show db < _; omega)).trans (dr o)
                  cases tb with
                  | true =>
                    have IN : Hid ((⟨l, qi, qk, qt⟩ : FaultM) ∈ FO.take (j + 1)) := STEP.out.2 (.inl (TB.out.1 rfl))
                    clear TB STEP
                    go_quiet (fail)
                    go_wp2_with fail
                    go_roundg (gk - 1)
                    case rel => exact ⟨j + 1, true, rfl, by go_num, by omega, by have := GK.out; omega, by simp [IN.out], below_drewN (BR.out.trans (hb10.mono hzr)) _⟩
                    case measure => have := GK.out; omega
                  | false =>
                    have NI : Hid (¬ (⟨l, qi, qk, qt⟩ : FaultM) ∈ FO.take j) := fun h => by cases TB.out.2 h
                    clear TB
                    by_cases e2 : fc = (qi : Int)
                    · by_cases e3 : fo = (qk : Int)
                      · by_cases e4 : ft = (qt : Int)
                        · have IN : Hid ((⟨l, qi, qk, qt⟩ : FaultM) ∈ FO.take (j + 1)) := STEP.out.2 (.inr (by rw [e2, e3, e4]))
                          clear STEP NI
                          go_quiet (fail)
                          go_wp2_with fail
                          go_roundg (gk - 1)
                          case rel => exact ⟨j + 1, true, rfl, by go_num, by omega, by have := GK.out; omega, by simp [IN.out], below_drewN (BR.out.trans (hb10.mono hzr)) _⟩
                          case measure => have := GK.out; omega
                        · have OUT : Hid (¬ (⟨l, qi, qk, qt⟩ : FaultM) ∈ FO.take (j + 1)) := fun h => by
                            rcases STEP.out.1 h with h | h
                            · exact NI.out h
                            · exact e4 (congrArg FaultM.at' h)
                          clear STEP NI
                          go_quiet (fail)
                          go_wp2_with fail
                          go_roundg (gk - 1)
                          case rel => exact ⟨j + 1, false, rfl, by go_num, by omega, by have := GK.out; omega, by simp [OUT.out], below_drewN (BR.out.trans (hb10.mono hzr)) _⟩
                          case measure => have := GK.out; omega
                      · have OUT : Hid (¬ (⟨l, qi, qk, qt⟩ : FaultM) ∈ FO.take (j + 1)) := fun h => by
                          rcases STEP.out.1 h with h | h
                          · exact NI.out h
                          · exact e3 (congrArg FaultM.other h)
                        clear STEP NI
                        go_quiet (fail)
                        go_wp2_with fail
                        go_roundg (gk - 1)
                        case rel => exact ⟨j + 1, false, rfl, by go_num, by omega, by have := GK.out; omega, by simp [OUT.out], below_drewN (BR.out.trans (hb10.mono hzr)) _⟩
                        case measure => have := GK.out; omega
                    · have OUT : Hid (¬ (⟨l, qi, qk, qt⟩ : FaultM) ∈ FO.take (j + 1)) := fun h => by
                        rcases STEP.out.1 h with h | h
                        · exact NI.out h
                        · exact e2 (congrArg FaultM.cart h)
                      clear STEP NI
                      go_quiet (fail)
                      go_wp2_with fail
                      go_roundg (gk - 1)
                      case rel => exact ⟨j + 1, false, rfl, by go_num, by omega, by have := GK.out; omega, by simp [OUT.out], below_drewN (BR.out.trans (hb10.mono hzr)) _⟩
                      case measure => have := GK.out; omega
              · obtain ⟨d, hd⟩ : ∃ d, j = FO.length + d := ⟨j - FO.length, by omega⟩
                subst hd
                have hownI : ((FO.length : Nat) : Int) ≤ ((FO.length + d : Nat) : Int) := by omega
                have hdB : d < FB.length := by omega
                obtain ⟨gb, hgb, cb1⟩ : ∃ gb, ab = some ⟨gb, 0, none⟩ ∧ (∀ i, (h : i < FB.length) → w9.cell? ⟨gb, i * 4, none⟩ = some (.int .i64 FB[i].level) ∧ w9.cell? ⟨gb, i * 4 + 1, none⟩ = some (.int .i64 FB[i].cart) ∧ w9.cell? ⟨gb, i * 4 + 2, none⟩ = some (.int .i64 FB[i].other) ∧ w9.cell? ⟨gb, i * 4 + 3, none⟩ = some (.int .i64 FB[i].at')) := by
                  rcases FB9.out with ⟨e, _⟩ | ⟨gb, c', hv, _, cb1⟩
                  · rw [e] at hdB; cases hdB
                  · cases hv
                    exact ⟨gb, rfl, cb1⟩
                subst hgb
                obtain ⟨b1, b2, b3, b4⟩ := cb1 d hdB
                have b1 := cell_later BR.out b1
                have b2 := cell_later BR.out b2
                have b3 := cell_later BR.out b3
                have b4 := cell_later BR.out b4
                have ef : FB[d] = ⟨fl, fc, fo, ft⟩ := by
                  rw [hf.out]
                  have := hAB.out
                  simp only [this]
                  rw [List.getElem_append_right (by omega)]
                  simp
                rw [ef] at b1 b2 b3 b4
                dsimp only at b1 b2 b3 b4
                have SAME : Hid (FO.take (FO.length + d + 1) = FO.take (FO.length + d)) := by unfold Hid; rw [List.take_of_length_le (by omega), List.take_of_length_le (by omega)]
                clear ef cb1 ca1
                go_wp2_with fail
                go_quiet (fail)
                go_wp2_with fail
                go_roundg (gk - 1)
                case rel => exact ⟨FO.length + d + 1, tb, rfl, by go_num, by omega, by have := GK.out; omega, by rw [SAME.out]; exact TB.out, below_drewN BR.out _⟩
                case measure => have := GK.out; omega
          · have hltI : ¬ (j : Int) < ((FO.length + FB.length : Nat) : Int) := by omega
            have TF : Hid (1 < l → tb = faultB l (cutP n2 p).len (cutP n2 p).num qi qk qt) := fun h1 => by
              have t1 := TB.out
              rw [List.take_of_length_le (by omega), hFO.out, ← hl.out, ownL_has h1 (by have := hl.out; omega) hqk] at t1
              exact Bool.eq_iff_iff.2 t1
            go_upto_region 24 with fail
            clear hltI TB
            go_cut [156] (fun v156 wx => v156 = .bool false ∧ Below wr.heap.size wr wx)
            case first =>
              by_cases h1l : 1 < l
              · have h1I : (1 : Int) < (l : Int) := by omega
                go_wp2_with fail
                refine (faulty_any l qi qk qt m c _ (cutP n2 p) wr (by have := hl.out; omega) hqi hqk (by omega) PB.out ((PL.out.below B59.out).below BR.out)).mono ?_
                rintro e w10 ⟨rfl, hb10⟩
                rw [← TF.out h1l]
                go_wp2_with fail
                go_meet
                case rel => exact ⟨by simp, hb10⟩
              · have h1I : ¬ (1 : Int) < (l : Int) := by omega
                go_wp2_with fail
                go_meet
                case rel => exact ⟨rfl, Below.refl _ _⟩
            case rest =>
              obtain ⟨w10, rfl⟩ : ∃ q, q = wc := ⟨_, rfl⟩
              obtain ⟨rfl, hb10⟩ := hcut
              have B10 := Hid.mk hb10
              have hz10 := hb10.size
              have y10 : ∀ o, w10.cell? ⟨yb, o, none⟩ = #[Value.int .i64 (R : Int), .int .i64 (C : Int), .string cs, .slice (some ⟨g, 0, none⟩) m cc, .int .i64 (U : Int)][o]? := fun o => (hb10.cell (p := ⟨yb, o, none⟩) (by show yb < _; omega)).trans ((BR.out.cell (p := ⟨yb, o, none⟩) (by show yb < _; omega)).trans (Y9.out o))
              clear hb10
              as_aux_lemma =>
                go_wp2_with fail
                refine (solG_told F0 hF0 R C U cs m fr tt g cc w10 CK.out hmc hm4 hs36 ((S5.out.below B59.out).below (BR.out.trans (B10.out.mono hzr))) ((C5.out.below B59.out).below (BR.out.trans (B10.out.mono hzr))) ).mono ?_
                rintro e w11 ⟨N2, d2, ht2, hway, hb11⟩
                have B11 := Hid.mk hb11
                have hz11 := hb11.size
                have MN : Hid (∃ n d, M.Told (stepP R C cs m) (cellsOf fr m) (cellsOf tt m) U n d ∧ (U : Int) < n ∨ True) := ⟨N2, d2, .inr trivial⟩
                have T2 := Hid.mk ht2
                have y11 : ∀ o, w11.cell? ⟨yb, o, none⟩ = #[Value.int .i64 (R : Int), .int .i64 (C : Int), .string cs, .slice (some ⟨g, 0, none⟩) m cc, .int .i64 (U : Int)][o]? := fun o => (hb11.cell (p := ⟨yb, o, none⟩) (by show yb < _; omega)).trans (y10 o)
                have q5 := W53.size
                have BW9 : Hid (Below w.heap.size w w9) := W53.trans (B59.out.mono q5)
                have q9 := BW9.out.size
                have BW11 : Hid (Below w.heap.size w w11) := BW9.out.trans ((BR.out.mono q9).trans ((B10.out.mono (Nat.le_trans q9 hzr)).trans (B11.out.mono (Nat.le_trans (Nat.le_trans q9 hzr) hz10))))
                clear hb11 ht2 y10 MN
                rcases hway with ⟨hq, rfl⟩ | ⟨hq, hd, rfl⟩ | ⟨hq, hd, hrest⟩
                · have HN := Hid.mk hq
                  clear hq
                  go_wp2_with fail
                  refine (many_told g cc w11 CK.out hs36 hm4).mono ?_
                  rintro e w12 ⟨mb, rfl, hmb, hb12⟩
                  have e1 := hmb ⟨N2, d2, T2.out, HN.out⟩
                  subst e1
                  clear hmb
                  have B12 : Hid (Below w.heap.size w w12) := BW11.out.trans (hb12.mono BW11.out.size)
                  clear hb12
                  go_wp2_with fail
                  go_ret
                  exact ⟨rfl, B12.out⟩
                · clear hq hd
                  go_wp2_with fail
                  refine (many_told g cc w11 CK.out hs36 hm4).mono ?_
                  rintro e w12 ⟨mb, rfl, hmb, hb12⟩
                  clear hmb
                  have B12 : Hid (Below w.heap.size w w12) := BW11.out.trans (hb12.mono BW11.out.size)
                  clear hb12
                  go_wp2_with fail
                  go_ret
                  exact ⟨rfl, B12.out⟩
                · obtain ⟨gp, hh, T, c3, pp, rfl, hpc, hG, _⟩ := hrest
                  obtain ⟨Q, hQ⟩ : ∃ q : PlanM, Hid (q = ⟨fun i => some ⟨hh i, 0, none⟩, fun i => T i + 1, c3, fun i s => ((pp i s : Nat) : Int)⟩) := ⟨_, Hid.mk rfl⟩
                  have PC : Hid (PlanAt w11 (some ⟨gp, 0, none⟩) m Q) := by unfold Hid; rw [hQ.out]; exact planC_at hpc
                  have PT : Hid (∀ i, i < m → Q.len i ≤ 1048576) := fun i hi => by
                    obtain ⟨_, _, _, _, _, _, ht⟩ := hG.path i hi
                    rw [hQ.out]
                    show T i + 1 ≤ _
                    omega
                  have NO : Hid (allF 3 C cs fr tt m Q.len Q.num = []) := by unfold Hid; rw [hQ.out]; exact goodK_none CK.out hG
                  have BR11 : Hid (Below w9.heap.size w9 w11) := BR.out.trans ((B10.out.mono hzr).trans (B11.out.mono (Nat.le_trans hzr hz10)))
                  have S11 : Hid (SidesIn w11) := (S5.out.below B59.out).below BR11.out
                  have C11 : Hid (CartsIn w11 g 0 m fr tt) := (C5.out.below B59.out).below BR11.out
                  clear hpc hG hq hd
                  go_wp2_with fail
                  refine (judgeL_any R C U cs g m cc fr tt _ m Q _ 3 [] w11 NO.out.symm rfl (by omega) hs36 hm4 hmc S11.out C11.out CK.out PT.out PC.out).mono ?_
                  rintro e w12 ⟨a3, c4, rfl, _, hb12⟩
                  have B12 := Hid.mk hb12
                  have hz12 := hb12.size
                  have y12 : ∀ o, w12.cell? ⟨yb, o, none⟩ = #[Value.int .i64 (R : Int), .int .i64 (C : Int), .string cs, .slice (some ⟨g, 0, none⟩) m cc, .int .i64 (U : Int)][o]? := fun o => (hb12.cell (p := ⟨yb, o, none⟩) (by show yb < _; omega)).trans (y11 o)
                  clear hb12 y11
                  go_wp2_with fail
                  have J1 : Hid (∀ (ap' : Option Addr) (cp : Nat) (u : World), (0 < m - 1 → ap' = some ⟨gp, 1, none⟩) → Below w12.heap.size w12 u → Calls Tryd.prog 22 #[.agg #[.int .i64 (R : Int), .int .i64 (C : Int), .string cs, .slice (some ⟨g, 0, none⟩) m cc, .int .i64 (U : Int)], .slice ap' (m - 1) cp, .int .i64 3] u fun e w' =>
                      ∃ (g5 c5 : Nat), e = .returned (.tuple #[.slice (some ⟨g5, 0, none⟩) 1 c5, .int .i64 0]) ∧ (w'.cell? ⟨g5, 0, none⟩ = some (.int .i64 0) ∧ w'.cell? ⟨g5, 1, none⟩ = some (.int .i64 (-1)) ∧ w'.cell? ⟨g5, 2, none⟩ = some (.int .i64 (-1)) ∧ w'.cell? ⟨g5, 3, none⟩ = some (.int .i64 0)) ∧ Below u.heap.size u w') := fun ap' cp u hap hu =>
                    judgeOne_any R C U cs g m cc fr tt ap' (m - 1) cp _ u (by omega) hs36 hm4 hmc ((S11.out.below B12.out).below hu) ((C11.out.below B12.out).below hu) CK.out (fun i hi => PT.out (i + 1) (by omega)) ((plan_tail (PC.out.below B12.out) hap).below hu)
                  have hm1I : (1 : Int) ≤ (m : Int) := by omega
                  by_cases hm1 : m = 1
                  · obtain rfl : m = 1 := hm1
                    go_cut [30, 31] (fun v30 v31 wx => ∃ (g5 c5 : Nat), v30 = .slice (some ⟨g5, 0, none⟩) 1 c5 ∧ v31 = .int .i64 0 ∧ (wx.cell? ⟨g5, 0, none⟩ = some (.int .i64 0) ∧ wx.cell? ⟨g5, 1, none⟩ = some (.int .i64 (-1)) ∧ wx.cell? ⟨g5, 2, none⟩ = some (.int .i64 (-1)) ∧ wx.cell? ⟨g5, 3, none⟩ = some (.int .i64 0)) ∧ Below w12.heap.size w12 wx)
                    case first =>
                      go_region_with (go_at_call 22; refine (J1.out _ _ _ (fun h0 => absurd h0 (by omega)) (by first | exact below_drew (Below.refl _ _) | exact below_drewN (Below.refl _ _) 1 | exact below_drewN (Below.refl _ _) _ | exact Below.refl _ _)).mono ?_; rintro e w13 ⟨g5, c5, rfl, hc5, hb13⟩)
                      go_wp2
                      go_meet
                      case rel => exact ⟨g5, c5, rfl, rfl, hc5, (Below.drew (Below.refl _ _)).trans hb13⟩
                    case rest =>
                      obtain ⟨w13, rfl⟩ : ∃ q, q = wc := ⟨_, rfl⟩
                      obtain ⟨g5, c5, rfl, rfl, ⟨d0, d1, d2, d3⟩, hb13⟩ := hcut
                      have B13 := Hid.mk hb13
                      clear hb13
                      go_wp2
                      go_ret
                      exact ⟨rfl, BW11.out.trans ((B12.out.mono BW11.out.size).trans (B13.out.mono (Nat.le_trans BW11.out.size hz12)))⟩
                  · have hmI : ¬ (m : Int) = 1 := by omega
                    go_cut [30, 31] (fun v30 v31 wx => ∃ (g5 c5 : Nat), v30 = .slice (some ⟨g5, 0, none⟩) 1 c5 ∧ v31 = .int .i64 0 ∧ (wx.cell? ⟨g5, 0, none⟩ = some (.int .i64 0) ∧ wx.cell? ⟨g5, 1, none⟩ = some (.int .i64 (-1)) ∧ wx.cell? ⟨g5, 2, none⟩ = some (.int .i64 (-1)) ∧ wx.cell? ⟨g5, 3, none⟩ = some (.int .i64 0)) ∧ Below w12.heap.size w12 wx)
                    case first =>
                      go_region_with (go_at_call 22; refine (J1.out _ _ _ (fun h0 => rfl) (by first | exact below_drew (Below.refl _ _) | exact below_drewN (Below.refl _ _) 1 | exact below_drewN (Below.refl _ _) _ | exact Below.refl _ _)).mono ?_; rintro e w13 ⟨g5, c5, rfl, hc5, hb13⟩)
                      go_wp2
                      go_meet
                      case rel => exact ⟨g5, c5, rfl, rfl, hc5, (Below.drew (Below.refl _ _)).trans hb13⟩
                    case rest =>
                      obtain ⟨w13, rfl⟩ : ∃ q, q = wc := ⟨_, rfl⟩
                      obtain ⟨g5, c5, rfl, rfl, ⟨d0, d1, d2, d3⟩, hb13⟩ := hcut
                      have B13 := Hid.mk hb13
                      clear hb13
                      go_wp2
                      go_ret
                      exact ⟨rfl, BW11.out.trans ((B12.out.mono BW11.out.size).trans (B13.out.mono (Nat.le_trans BW11.out.size hz12)))⟩

end Go.Proofs.YtnkgpinadgacgabDoor
