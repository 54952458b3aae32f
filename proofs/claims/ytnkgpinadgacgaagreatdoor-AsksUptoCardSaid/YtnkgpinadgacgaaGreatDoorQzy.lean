/- Wf, Wg. -/
import Derived.Test.YtnkgpinadgacgaaGreatDoorQzx
set_option maxRecDepth 1000000
set_option maxHeartbeats 8000000
namespace Go.Proofs.YtnkgpinadgacgaaGreatDoor
section
open Go.RowKit Go.Shelf Go.Deep M SM
theorem bytes_eqW {F G : ByteArray} (h : F.data.toList = G.data.toList) : F = G := ByteArray.ext (Array.toList_inj.1 h)
theorem flat_len {C : Nat} : ∀ (Ls : List (List Nat)), (∀ p ∈ Ls, p.length <= 320000) -> (Ls.flatMap (pathT C)).length <= 320000 * Ls.length
 | [], _ => Nat.zero_le _
 | p :: Ls, h => by
   have h1 := flat_len (C := C) Ls (fun q hq => h q (List.mem_cons_of_mem _ hq)); have h2 := h p List.mem_cons_self; have h3 : (pathT C p).length = p.length - 1 + 1 := by simp [pathT, lettersN]
   rw [List.flatMap_cons, List.length_append, List.length_cons, Nat.mul_succ]; omega
theorem head_byte {V : ByteArray} {b : UInt8} {l : List UInt8} (h : V.data.toList = b :: l) : ∃ h0 : 0 < V.size, V[0] = b := by
 have h1 := congrArg List.length h; rw [Array.length_toList, List.length_cons] at h1; have h0 : 0 < V.size := by
  show 0 < V.data.size; omega
 refine ⟨h0, ?_⟩; have h2 : V.data.toList[0]? = some b := by rw [h]; rfl
 rw [List.getElem?_eq_getElem (by rw [Array.length_toList]; exact h0)] at h2; exact Option.some.inj h2
theorem cut_front {F V : ByteArray} {S : List UInt8} (h : F.data.toList = V.data.toList ++ S) : V.size <= F.size ∧ F.extract 0 V.size = V ∧ (F.extract V.size F.size).data.toList = S := by
 have h1 := congrArg List.length h; rw [Array.length_toList, List.length_append, Array.length_toList] at h1; have h2 : V.size <= F.size := by
  show V.data.size <= F.data.size; omega
 refine ⟨h2, bytes_eqW ?_, ?_⟩
 . rw [ext_list, h, List.drop_zero, List.take_left' (by rw [Array.length_toList]; rfl)]
 . rw [ext_list, List.take_of_length_le (by rw [Array.length_toList]; exact zl), h, List.drop_left' (by rw [Array.length_toList]; rfl)]
theorem answered_any (F0 : Nat) (hF0 : 200400000 <= F0) (r F : ByteArray) (w : World) (hr : r.size <= 2000000) (hA : ansW F0 r F.data.toList) (hsd : SidesIn w) :
 Calls Tryz.prog 6 #[.string r, .string F] w fun e w' => e = .returned (.bool true) ∧ Below w.heap.size w w' := by
 have HA := zx hA; have HSD := zx hsd; clear hA hsd; go_enter Tryz.func6, Tryz.ntmps6; go_wp2_with fail; refine (xver_any r w hr (ans_kb hF0 HA.out)).mono ?_; rintro e w1 ⟨V, rfl, hv, hb1⟩; have B1 := zx hb1; clear hb1; rcases ver_ans hF0 HA.out hv with ⟨hAV, b, l, hVl, hb⟩ | ⟨t, k, h1, h2, hV, hAP, hPT⟩
 . obtain rfl : F = V := bytes_eqW hAV; obtain ⟨h0, hv0⟩ := head_byte hVl; have hex : F.extract 0 F.size = F := by
    have h := (cut_front (F := F) (V := F) (S := []) (by simp)).2.1; exact h
   have hbn : (((F[0].toNat : Nat) : Int) != 112) = true := by
    rw [hv0, bne_iff_ne]; intro e; apply hb
    have : b.toNat = 112 := by omega
    exact UInt8.toNat_inj.1 this
   have e1 : decide ((F.size : Int) < (F.size : Int)) = false := by simp
   have e2 : ((F.size : Int) == (F.size : Int)) = true := by simp
   have hle : (F.size : Int) <= (F.size : Int) := Int.le_refl _; clear hv hAV hVl hv0 hb; go_wp2; go_ret; exact ⟨rfl, B1.out⟩
 . obtain ⟨c1, c2, c3⟩ := cut_front hAP; have hVl : V.data.toList = 112 :: ([108, 97, 110, 32] ++ TX.lineT [k]) := by rw [hV]; rfl
   obtain ⟨h0, hv0⟩ := head_byte hVl; obtain ⟨S, hS⟩ : ∃ S, S = F.extract V.size F.size := ⟨_, rfl⟩
   rw [<- hS] at c3; have hbn : (((V[0].toNat : Nat) : Int) != 112) = false := by rw [hv0]; rfl
   have e1 : decide ((F.size : Int) < (V.size : Int)) = false := by simp; omega
   have hle : (V.size : Int) <= (F.size : Int) := by omega
   have C3 := zx c3; have HP := zx hPT; have H1 := zx h1; have H2 := zx h2; clear hv hVl hv0 hV hAP hPT c3 h1 h2; go_wp2_with fail; refine (xread_any r w1 hr).mono ?_; rintro e w2 ⟨hb2, hway⟩; have B2 := zx (B1.out.trans (hb2.mono B1.out.size)); clear hb2; rcases hway with ⟨t', g, cap, g1, _, rfl, hci, hg, hcap, hal⟩ | ⟨t', g1, g2, _⟩ | ⟨g1, _⟩
   . rw [H1.out] at g1; cases g1; obtain ⟨E, hE⟩ : ∃ E : ByteArray, E = ⟨t.cs.toArray⟩ := ⟨_, rfl⟩
     obtain ⟨m, hm⟩ : ∃ m, m = t.carts.length := ⟨_, rfl⟩
     have hck : (checkM (t.R : Int) (t.C : Int) E m (frL t.carts) (ttL t.carts) (t.U : Int)).1 = 0 := by rw [hE, hm]; exact H2.out
     have GY := zx (chk_form hck); have HE := zx hE; have HM := zx hm; have hlE := Nat.mul_le_mul GY.out.r2 GY.out.c2; have hE36 : E.size <= 36 := by rw [GY.out.sz]; exact hlE
     have hm4 := GY.out.m2; have hm1 := GY.out.m1; unfold yardV; rw [<- hE, <- hm]; rw [<- hm] at hci; have Y3 : Hid (Box (w2.alloc (.cells #[.int .i64 (t.R : Int), .int .i64 (t.C : Int), .string E, .slice (some ⟨g, 0, none⟩) m cap, .int .i64 (t.U : Int)] 34)) w2.heap.size #[.int .i64 (t.R : Int), .int .i64 (t.C : Int), .string E, .slice (some ⟨g, 0, none⟩) m cap, .int .i64 (t.U : Int)]) := zx (box_new _ _)
     have B3 : Hid (Below w.heap.size w (w2.alloc (.cells #[.int .i64 (t.R : Int), .int .i64 (t.C : Int), .string E, .slice (some ⟨g, 0, none⟩) m cap, .int .i64 (t.U : Int)] 34))) := zx (B2.out.alloc B2.out.size _); have C3' : Hid (CartsIn (w2.alloc (.cells #[.int .i64 (t.R : Int), .int .i64 (t.C : Int), .string E, .slice (some ⟨g, 0, none⟩) m cap, .int .i64 (t.U : Int)] 34)) g 0 m (frL t.carts) (ttL t.carts)) := zx (hci.below ((Below.refl _ w2).alloc zl _)); clear hck hE hm hci hlE hg hcap hal; go_wp2_with fail
     generalize (w2.alloc (.cells #[.int .i64 (t.R : Int), .int .i64 (t.C : Int), .string E, .slice (some ⟨g, 0, none⟩) m cap, .int .i64 (t.U : Int)] 34)) = w3 at *; refine (rbest_any _ _ _ E (some ⟨g, 0, none⟩) m cap (frL t.carts) (ttL t.carts) w3 (by unfold maxLen; omega) (by unfold maxLen; omega) (fun _ => ⟨g, 0, rfl, C3'.out⟩)).mono ?_; rintro e w4 ⟨k', e', rfl, hbr, hb4⟩; have PT : Hid (PlanT F0 t k') := zx (HP.out k' e' (by rw [<- HE.out, <- HM.out]; exact hbr)); have Y4 := zx (Y3.out.belowB hb4 Y3.out.lt); have B4 := zx (B3.out.trans (hb4.mono B3.out.size))
     have C4 : Hid (CartsIn w4 g 0 m (frL t.carts) (ttL t.carts)) := zx (C3'.out.below hb4); have GA : Hid (GoodA (t.R : Int) (t.C : Int) (t.U : Int) E m (frL t.carts) (ttL t.carts) (planA F0 t) k') := zx (by rw [HE.out, HM.out]; exact PT.out.a); have hPl : (planA F0 t).length = m := GA.out.num; have hSs : S.size <= 2000000 := by
      have h := flat_len (C := t.C) (planA F0 t) (fun p hp => by
       obtain ⟨i, hi, rfl⟩ := List.getElem_of_mem hp; have h2 := (GA.out.pos i (by omega)).2; rw [zg, List.getElem?_eq_getElem hi] at h2; exact h2)
      have h3 := congrArg List.length C3.out; rw [Array.length_toList] at h3; have : S.size = S.data.size := rfl; omega
     have TD : Hid (∀ u, Below w4.heap.size w4 u -> Calls Tryz.prog 14 #[.agg #[.int .i64 (t.R : Int), .int .i64 (t.C : Int), .string E, .slice (some ⟨g, 0, none⟩) m cap, .int .i64 (t.U : Int)], .string S] u fun e w' => ∃ (g' c' : Nat) (H Cp : Nat -> Nat), e = .returned (.slice (some ⟨g', 0, none⟩) m c') ∧ PlanW w' g' H Cp (planA F0 t) ∧ Below u.heap.size u w') := zx fun u hu =>
      told_any t.R t.C t.U m g cap E (frL t.carts) (ttL t.carts) (planA F0 t) S u hSs GY.out.c1 GY.out.c2 hE36 hPl (by omega) hm4 C3.out (fun i hi => by
       obtain ⟨q1, q2, q3, q4, q5⟩ := plan_path PT.out (i := i) (by rw [<- HM.out]; exact hi); refine ⟨q1, q2, q3, fun j hj => ?_, q5⟩; have h := q4 j hj; rw [HE.out]; show _ < t.cs.toArray.size; rw [List.size_toArray]; exact h) (C4.out.below hu)
     have hyw : w2.heap.size < w4.heap.size := Y4.out.lt; have SALL : Hid (∀ u : World, Below w4.heap.size w4 u -> (fun u : World => u.cell? ⟨w2.heap.size, 0, none⟩ = some (.int .i64 (t.R : Int)) ∧ u.cell? ⟨w2.heap.size, 1, none⟩ = some (.int .i64 (t.C : Int)) ∧ u.cell? ⟨w2.heap.size, 2, none⟩ = some (.string E) ∧ u.cell? ⟨w2.heap.size, 3, none⟩ = some (.slice (some ⟨g, 0, none⟩) m cap) ∧ u.cell? ⟨w2.heap.size, 4, none⟩ = some (.int .i64 (t.U : Int))) u) := zx fun u hu =>
      ⟨(hu.cell (p := ⟨w2.heap.size, 0, none⟩) hyw).trans (Y4.out.c 0), (hu.cell (p := ⟨w2.heap.size, 1, none⟩) hyw).trans (Y4.out.c 1), (hu.cell (p := ⟨w2.heap.size, 2, none⟩) hyw).trans (Y4.out.c 2), (hu.cell (p := ⟨w2.heap.size, 3, none⟩) hyw).trans (Y4.out.c 3), (hu.cell (p := ⟨w2.heap.size, 4, none⟩) hyw).trans (Y4.out.c 4)⟩
     have HS0 := zx hS; clear hbr hb4 hSs hS; go_upto_region 9 with fail; have HS := SALL.out w4.drew ((Below.refl _ w4).drew); refine wp_region_any (by kernel_rfl) ?_; change wpAny _ _ _ _ _ _ _ (World.drew _); refine LM.T 1 (.string F) rfl ?_; refine LM.T 2 (.int .i64 (V.size : Int)) rfl ?_; refine wpAny_take (i := 3) (v := (.string S)) rfl (by kernel_rfl) (by kernel_rfl) (by kernel_rfl) (fun _ _ _ h => h) (Or.inl ⟨by rfl, fun u => by rw [HS0.out]; go_simp⟩) ?_
     refine LM.any_of_L (late := LM.lateOf [4, 5]) (S := (fun u : World => u.cell? ⟨w2.heap.size, 0, none⟩ = some (.int .i64 (t.R : Int)) ∧ u.cell? ⟨w2.heap.size, 1, none⟩ = some (.int .i64 (t.C : Int)) ∧ u.cell? ⟨w2.heap.size, 2, none⟩ = some (.string E) ∧ u.cell? ⟨w2.heap.size, 3, none⟩ = some (.slice (some ⟨g, 0, none⟩) m cap) ∧ u.cell? ⟨w2.heap.size, 4, none⟩ = some (.int .i64 (t.U : Int)))) _ _ _ _ ?_
     refine LM.TL 0 (.agg #[.int .i64 (t.R : Int), .int .i64 (t.C : Int), .string E, .slice (some ⟨g, 0, none⟩) m cap, .int .i64 (t.U : Int)]) rfl (Or.inl ⟨by rfl, fun u hu => by have a0 := hu.1; have a1 := hu.2.1; have a2 := hu.2.2.1; have a3 := hu.2.2.2.1; have a4 := hu.2.2.2.2; clear hu; go_simp⟩) HS ?_; refine LM.L_rest (by kernel_rfl) ?_; refine LM.any_one (i := 4) rfl (by kernel_rfl) rfl (fun K hK => ?_); go_simp; refine (TD.out _ ((Below.refl _ w4).drew)).mono ?_; rintro e w5 ⟨g5, c5, H, Cp, rfl, hpw, hb5⟩; refine hK _ _ ?_; clear hK K; refine LM.T 5 (.slice (some ⟨g5, 0, none⟩) m c5) rfl ?_
     refine wpAny_done (by kernel_rfl) ?_ _; have B45 : Hid (Below w4.heap.size w4 w5) := zx (((Below.refl _ w4).drew).trans hb5); have B5 := zx (B4.out.trans (B45.out.mono B4.out.size)); have Y5 := zx (Y4.out.belowB B45.out hyw); have C5 := zx (C4.out.below B45.out); have PW := zx hpw; have y0 := Y5.out.c 0; have y1 := Y5.out.c 1; have y2 := Y5.out.c 2; have y3 := Y5.out.c 3; have y4 := Y5.out.c 4; simp only [zA, zB, zC] at y0 y1 y2 y3 y4
     have GD : Hid (Calls Tryz.prog 15 #[.agg #[.int .i64 (t.R : Int), .int .i64 (t.C : Int), .string E, .slice (some ⟨g, 0, none⟩) m cap, .int .i64 (t.U : Int)], .slice (some ⟨g5, 0, none⟩) m c5, .int .i64 (k' : Nat)] w5 fun e w' => e = .returned (.bool true) ∧ Below w5.heap.size w5 w') := zx (by
      have h := wellgoodW_any _ _ _ E (some ⟨g, 0, none⟩) m cap (frL t.carts) (ttL t.carts) (planA F0 t) k' g5 c5 H Cp w5 (by unfold maxLen; omega) (HSD.out.below B5.out) (fun _ => ⟨g, 0, rfl, C5.out⟩) PW.out GA.out; rw [hPl] at h; exact h)
     clear hb5 HS hpw hPl; go_wp2_with fail; refine GD.out.mono ?_; rintro e w6 ⟨rfl, hb6⟩; have B6 := zx (B5.out.trans (hb6.mono B5.out.size)); clear hb6; go_wp2; go_ret; exact ⟨rfl, B6.out⟩
   . rw [H1.out] at g1; cases g1; exact absurd H2.out g2
   . rw [H1.out] at g1; cases g1
end
section
open Go.RowKit Go.Shelf Go.Deep M SM
theorem Tryz.infoStrW : (Tryz.prog.info? 9).map (fun i => (i.zero, i.size, i.bytes)) = some (some (.string ⟨#[]⟩), 1, 16) := by kernel_rfl
theorem Tryz.infoSesW : (Tryz.prog.info? 25).map (fun i => (i.zero, i.size, i.bytes)) = some (some (.pointer none), 1, 8) := by kernel_rfl
theorem wpList_pushG {w0 : World} {ops : Array Oper} {rest : List Oper} {o : Oper} {a : Act} {Q : Exit -> Act -> World -> Prop} (hgd : o.guard = none) (s x : Operand) (t e : TypeId) (z : Value) (by' : Nat)
 (ho : o.op = .call { callee := .builtin .append, args := #[s, x], argTypes := #[t, t] }) (ht : Tryz.prog.underlying t = some (.slice e)) (hinfo : (Tryz.prog.info? e).map (fun i => (i.zero, i.size, i.bytes)) = some (some z, 1, by')) (hzs : z.cells.size = 1) (hby : by' <= 24)
 (base n : Nat) (v : Value) (F : List Value) (u : Value) (hu : u.oneCell' = true) (hs : a.eval s = v) (hown : w0.ownsRow base e 1 v n F) (hbase : base <= w0.heap.size) (c : Nat)
 (hx : a.eval x = .slice (some ⟨w0.heap.size, 0, none⟩) 1 c) (hF : n <= 100000000)
 (h : ∀ g cap w', w'.ownsRow base e 1 (.slice (some ⟨g, 0, none⟩) (n + 1) cap) (n + 1) (F ++ [u]) -> Only (fun k => v.ownBlock = some k) w0 w' -> (v.ownBlock = some g ∨ w0.heap.size <= g) -> wpList Tryz.prog ops Q rest (a.put o.dst (.slice (some ⟨g, 0, none⟩) (n + 1) cap)) w') :
 wpList Tryz.prog ops Q (o :: rest) a (w0.alloc (.cells #[u] e)) := by
 obtain ⟨i0, hi0, hi1, hi2, hi3⟩ := info_parts hinfo; have hown1 := own_later hown ((Below.refl _ w0).alloc zl (.cells #[u] e)); have hnb : (n + 1) * by' <= 140737488355328 := by
  have h1 : (n + 1) * by' <= (n + 1) * 24 := Nat.mul_le_mul_left _ hby
  omega
 refine wpList_append_lies _ hgd s x _ ho base e i0 _ 1 by' ht hi0 hi1 hi2 hi3 hzs (by omega) v n F hs hown1 _ 1 c [u] hx rfl (fun j q hj => ?_) (fun q hq => ?_) (by omega) (by unfold maxLen; omega) hnb (by simp; omega) (w0.heap.size + 1) (by simp) ?_
 . match j, hj with
   | 0, hj => simp at hj; subst hj; simp [Addr.add]
   | j + 1, hj => simp at hj
 . simp at hq; subst hq; exact hu
 . intro g cap w' ho9 hg9 hl9 _; refine h g cap w' ho9 ⟨hg9.os, hg9.tape, hg9.output, Nat.le_trans (by simp) hg9.size, fun k hk hn => ?_⟩ (hl9.imp id (fun e => by omega)); rw [hg9.block k (by simp; omega) (fun e => hn e.symm)]; exact Below.heap_alloc _ _ _ hk
def StrsW (w : World) (a : Option Addr) (n : Nat) (S : Nat -> ByteArray) : Prop :=
 0 < n -> ∃ b off, a = some ⟨b, off, none⟩ ∧ ∀ i, i < n -> w.cell? ⟨b, off + i, none⟩ = some (.string (S i))
def strsW (l : List ByteArray) : List Value := l.map Value.string
theorem strsW_at {l : List ByteArray} {j : Nat} (h : j < l.length) : (strsW l)[j]? = some (.string (l.getD j ⟨#[]⟩)) := by
 unfold strsW; rw [List.getElem?_map, List.getElem?_eq_getElem h, zg, List.getElem?_eq_getElem h]; rfl
theorem getD_app {l : List ByteArray} {x : ByteArray} {j n : Nat} (hn : l.length = n) (h : j < n + 1) : (l ++ [x]).getD j ⟨#[]⟩ = if j = n then x else l.getD j ⟨#[]⟩ := by
 subst hn; rw [zg, zg]; by_cases e : j = l.length
 . subst e; rw [if_pos rfl, List.getElem?_append_right zl]; simp
 . rw [if_neg e, List.getElem?_append_left (by omega)]
structure AskIn (F0 : Nat) (S : Nat -> ByteArray) (w wr : World) (i n : Nat) (va vt : Value) (PV : List Value) (TL : List ByteArray) : Prop where
 all : wr.ownsRow w.heap.size 25 1 va n PV
 ptr : ∀ j, j < n -> ∃ sp, PV[j]? = some (.pointer (some sp))
 told : wr.ownsRow w.heap.size 9 1 vt i (strsW TL)
 len : TL.length = i
 dis : ∀ b, va.ownBlock = some b -> vt.ownBlock ≠ some b
 ans : ∀ j, j < i -> ansW F0 (S j) (TL.getD j ⟨#[]⟩).data.toList
 below : Below w.heap.size w wr
theorem AskIn.later {F0 : Nat} {S : Nat -> ByteArray} {w wr w' : World} {i n : Nat} {va vt : Value} {PV : List Value} {TL : List ByteArray} (h : AskIn F0 S w wr i n va vt PV TL) (hb : Below wr.heap.size wr w') : AskIn F0 S w w' i n va vt PV TL :=
 ⟨own_later h.all hb, h.ptr, own_later h.told hb, h.len, h.dis, h.ans, h.below.trans (hb.mono h.below.size)⟩
theorem openW_any (w : World) : Calls Tryz.prog 4 #[] w fun e w' => (∃ a, e = .returned (.pointer (some a))) ∧ Below w.heap.size w w' := by
 go_enter Tryz.func4, Tryz.ntmps4; go_wp2; go_ret; exact ⟨⟨_, rfl⟩, (Below.refl _ w).alloc zl _⟩
theorem asks_any (ap at' : Option Addr) (ns cps nt cpt : Nat) (S : Nat -> ByteArray) (x : Nat -> Int) (w : World) (hns : ns <= 1048576) (hnt : nt <= 1048576) (hS : ∀ i, i < ns -> (S i).size <= 1048576)
 (hT : Lib.TabIs Tryz.prog w "internal/strconv.uint64pow10" .u64 Lib.pow10Tab) (hsd : SidesIn w) (hst : StrsW w ap ns S)
 (hx : ∀ i, i < nt -> -9223372036854775808 <= x i ∧ x i <= 9223372036854775807) (hxc : 0 < nt -> ∃ b off, at' = some ⟨b, off, none⟩ ∧ ∀ i, i < nt -> w.cell? ⟨b, off + i, none⟩ = some (.int .i64 (x i))) :
 Calls Tryz.prog 3 #[.slice ap ns cps, .slice at' nt cpt] w fun e w' => e = .returned (.bool true) ∧ Below w.heap.size w w' := by
 obtain ⟨F0, hF0⟩ : ∃ F0 : Nat, 200400000 <= F0 := ⟨_, zl⟩
 have HT := zx (Lib.tabBelow_of_tabIs hT); have TW : Hid (∀ u, Below w.heap.size w u -> Lib.TabBelow Tryz.prog u.heap.size u "internal/strconv.uint64pow10" .u64 Lib.pow10Tab) := zx fun u hu v hv => HT.out v (hu.trans (hv.mono hu.size))
 have HSD := zx hsd; have HS9 := zx hS; have HST := zx hst; have HX := zx hx; have HXC := zx hxc; clear hT hsd hS hst hx hxc; go_enter Tryz.func3, Tryz.ntmps3; go_wp2; go_loopw [5, 6, 7, 8, 9, 10, 11, 12] (fun v5 v6 v7 _ _ _ _ _ wr => ∃ (i n ca tc : Nat) (va tv : Option Addr) (PV : List Value) (TL : List ByteArray), v5 = .slice va n ca ∧ v6 = .slice tv i tc ∧ v7 = .int .i64 i ∧ i <= ns ∧ n <= i ∧ AskIn F0 S w wr i n (.slice va n ca) (.slice tv i tc) PV TL) (fun _ _ v7 _ _ _ _ _ _ => ns - (intOf v7).toNat)
 case atStart => exact ⟨0, 0, 0, 0, none, none, [], [], rfl, rfl, rfl, Nat.zero_le _, zl, ⟨⟨rfl, .inl ⟨rfl, rfl⟩⟩, fun j h => absurd h (Nat.not_lt_zero j), ⟨rfl, .inl ⟨rfl, rfl⟩⟩, rfl, fun b h => (by cases h), fun j h => absurd h (Nat.not_lt_zero j), Below.refl _ _⟩⟩
 case round =>
  obtain ⟨wo, rfl⟩ : ∃ q, q = wr := ⟨_, rfl⟩
  obtain ⟨i, n, ca, tc, va, tv, PV, TL, rfl, rfl, rfl, hi, hle, hask⟩ := hrel; have AK := zx hask; clear hask; by_cases hlt : i < ns
  . have hiI : decide ((i : Int) < (ns : Int)) = true := by simp; omega
    have hiJ : (i : Int) < (ns : Int) := by omega
    obtain ⟨z, hz⟩ : ∃ z : Int, Hid (z = if i < nt then x i else 0) := ⟨_, zx rfl⟩
    have ZB : Hid (-9223372036854775808 <= z ∧ z <= 9223372036854775807) := zx (by
     rw [hz.out]; by_cases h : i < nt
     . rw [if_pos h]; exact HX.out i h
     . rw [if_neg h]; omega)
    go_upto_if 22 with fail; go_cut [8] (fun v8 wx => v8 = .int .i64 z ∧ wo = wx)
    case first =>
     by_cases hto : i < nt
     . obtain ⟨b2, off2, rfl, hc2⟩ := HXC.out (by omega); have d0 := zj (AK.out.below) (hc2 i hto); have hzz : z = x i := by rw [hz.out, if_pos hto]
       rw [<- hzz] at d0; have e1 : decide ((i : Int) < (nt : Int)) = true := by simp; omega
       have e2 : (i : Int) < (nt : Int) := by omega
       clear hc2 hzz; go_wp2; go_meet; case rel => exact ⟨rfl, rfl⟩
     . have e1 : decide ((i : Int) < (nt : Int)) = false := by simp; omega
       have e2 : ¬ (i : Int) < (nt : Int) := by omega
       have hzz : z = 0 := by rw [hz.out, if_neg hto]
       have HZ := zx hzz; clear hzz; go_wp2; go_meet; case rel => exact ⟨by rw [HZ.out], rfl⟩
    case rest =>
     obtain ⟨wx, rfl⟩ : ∃ q, q = wc := ⟨_, rfl⟩
     obtain ⟨rfl, rfl⟩ := hcut; go_upto_if 28 with fail; go_cut [8] (fun v8 wx => ∃ q : Nat, q <= 9223372036854775807 ∧ v8 = .int .i64 q ∧ wo = wx)
     case first =>
      obtain ⟨z1, z2⟩ := ZB.out; by_cases hneg : z < 0
      . have e1 : decide (z < 0) = true := by simp; omega
        go_wp2; go_meet; case rel => exact ⟨(-(z + 1)).toNat, by omega, by congr 1; omega, rfl⟩
      . have e1 : decide (z < 0) = false := by simp; omega
        go_wp2; go_meet; case rel => exact ⟨z.toNat, by omega, by congr 1; omega, rfl⟩
     case rest =>
      obtain ⟨wx, rfl⟩ : ∃ q, q = wc := ⟨_, rfl⟩
      obtain ⟨q, hq, rfl, rfl⟩ := hcut; obtain ⟨r3, hr3⟩ : ∃ r3 : Nat, r3 = q % 3 := ⟨_, rfl⟩
      have hm3 : (q : Int).tmod 3 = (r3 : Int) := by rw [hr3]; exact Int.ofNat_tmod q 3 |>.symm
      clear hr3; go_upto_region 11 with fail; go_cut [39] (fun v39 wx => ∃ tb : Bool, v39 = .bool tb ∧ wo = wx ∧ (tb = false -> 0 < n))
      case first =>
       by_cases h0 : n = 0
       . have e1 : ((n : Int) == 0) = true := by simp; omega
         go_wp2; go_meet; case rel => exact ⟨true, rfl, rfl, fun h => by cases h⟩
       . have e1 : ((n : Int) == 0) = false := by simp; omega
         by_cases h3 : r3 = 0
         . have e2 : ((r3 : Int) == 0) = true := by simp; omega
           go_wp2; go_meet; case rel => exact ⟨true, rfl, rfl, fun h => by cases h⟩
         . have e2 : ((r3 : Int) == 0) = false := by simp; omega
           go_wp2; go_meet; case rel => exact ⟨false, rfl, rfl, fun _ => by omega⟩
      case rest =>
       obtain ⟨wx, rfl⟩ : ∃ q, q = wc := ⟨_, rfl⟩
       obtain ⟨tb, rfl, rfl, htb⟩ := hcut; have htb9 := zx htb; clear htb hm3; go_upto_if 39 with fail; go_cut [5, 9] (fun v5 _ wx => ∃ (n' ca' : Nat) (va' : Option Addr) (PV' : List Value), v5 = .slice va' n' ca' ∧ 0 < n' ∧ n' <= i + 1 ∧ AskIn F0 S w wx i n' (.slice va' n' ca') (.slice tv i tc) PV' TL)
       case first =>
        cases tb
        . have TBF : Hid (0 < n) := zx (htb9.out rfl); go_wp2; go_meet; case rel => exact ⟨n, ca, va, PV, rfl, TBF.out, by omega, AK.out⟩
        . go_wp2_with fail; refine (openW_any wo).mono ?_; rintro e w1 ⟨⟨sa, rfl⟩, hb1⟩; have AK1 := zx (AK.out.later hb1); have hbs : w.heap.size <= w1.heap.size := AK1.out.below.size; have hn8 : n <= 100000000 := by omega
          have AL1 : Hid (w1.ownsRow w.heap.size 25 1 (.slice va n ca) n PV) := zx AK1.out.all; clear hb1; go_wp2_with (at_builtin; go_must (refine wpList_pushG rfl _ _ 24 25 _ _ rfl Tryz.underlying24 Tryz.infoSesW rfl (by omega) w.heap.size n (.slice va n ca) PV (.pointer (some sa)) rfl rfl AL1.out hbs _ rfl hn8 ?_; intro g5 c5 w2 ho5 hon5 hat5))
          go_meet; case rel =>
           have hPL : PV.length = n := by have := AL1.out.1; omega
           refine ⟨n + 1, c5, some ⟨g5, 0, none⟩, _, rfl, by omega, by omega, ⟨ho5, fun j hj => ?_, own_only AK1.out.told hon5 (fun k _ e1 e2 => AK1.out.dis k e2 e1), AK1.out.len, fun b e1 e2 => ?_, AK1.out.ans, AK1.out.below.trans (hon5.below hbs (fun k e => (AL1.out.lt k e).1))⟩⟩
           . by_cases hjn : j < n
             . obtain ⟨sp, hsp⟩ := AK1.out.ptr j hjn; exact ⟨sp, by rw [List.getElem?_append_left (by omega)]; exact hsp⟩
             . refine ⟨sa, ?_⟩; rw [List.getElem?_append_right (by omega), show j - PV.length = 0 by omega]; rfl
           . have hbg : g5 = b := by simpa [Value.ownBlock] using e1
             rcases hat5 with h | h
             . rw [hbg] at h; exact AK1.out.dis b h e2
             . have := (AK1.out.told.lt b e2).2; omega
       case rest =>
        obtain ⟨wp, rfl⟩ : ∃ q, q = wc := ⟨_, rfl⟩
        obtain ⟨n', ca', va', PV', rfl, hn0, hn1, hak⟩ := hcut; have AP := zx hak; obtain ⟨a0, cap0, hav, ha0, _⟩ := own_form hak.all; obtain ⟨ga, rfl⟩ := ha0 hn0; cases hav; obtain ⟨d, hdd⟩ : ∃ d, d = q % n' := ⟨_, rfl⟩
        have hd : d < n' := by rw [hdd]; exact Nat.mod_lt _ hn0
        have hmd : (q : Int).tmod (n' : Int) = (d : Int) := by rw [hdd]; exact Int.ofNat_tmod q n' |>.symm
        have hn3 : ¬ (n' : Int) = 0 := by omega
        have hn5 : ¬ n' = 0 := by omega
        have hn4 : ((n' : Int) == 0) = false := by simp; omega
        have hdJ : (d : Int) < (n' : Int) := by omega
        obtain ⟨sp, hsp⟩ := hak.ptr d hd; have s0 : wp.cell? ⟨ga, d, none⟩ = some (.pointer (some sp)) := by rw [own_cell hak.all hd]; exact hsp
        have hgl : ga < wp.heap.size := (hak.all.lt ga rfl).2; obtain ⟨b, off, rfl, hreq⟩ := HST.out (by omega); have RQ : Hid (∀ u, Below w.heap.size w u -> ∀ j, j < ns -> u.cell? ⟨b, off + j, none⟩ = some (.string (S j))) := zx fun u hu j hj => (hu.cell (p := ⟨b, off + j, none⟩) (World.block_lt_of_cell? _ _ (hreq j hj))).trans (hreq j hj)
        obtain ⟨X, hX⟩ : ∃ X, X = S i := ⟨_, rfl⟩
        have r0 : wp.cell? ⟨b, off + i, none⟩ = some (.string X) := by rw [hX]; exact RQ.out wp hak.below i hlt
        have hbl : b < wp.heap.size := World.block_lt_of_cell? _ _ r0; have hXs : X.size <= 1048576 := by rw [hX]; exact HS9.out i hlt
        have hXs2 : X.size <= 2000000 := by omega
        have HXX := zx hX; have R0 := zx r0; have S0 := zx s0; have ASK : Hid (∀ u, Below wp.heap.size wp u -> Calls Tryz.prog 5 #[.pointer (some sp), .string X] u fun e w' => ∃ F : ByteArray, e = .returned (.string F) ∧ ansW F0 X F.data.toList ∧ Below u.heap.size u w') := zx fun u hu => by
         have hw := AP.out.below.trans (hu.mono AP.out.below.size); exact ask_any F0 hF0 _ X u hXs2 (TW.out u hw) (HSD.out.below hw)
        have SALL : Hid (∀ u : World, Below wp.heap.size wp u -> (fun u : World => u.cell? ⟨ga, d, none⟩ = some (.pointer (some sp)) ∧ u.cell? ⟨b, off + i, none⟩ = some (.string X)) u) := zx fun u hu => ⟨(hu.cell (p := ⟨ga, d, none⟩) hgl).trans S0.out, (hu.cell (p := ⟨b, off + i, none⟩) hbl).trans R0.out⟩
        clear hak hsp s0 r0 hreq hX hdd; go_upto_region 16 with fail; have HS := SALL.out wp.drew ((Below.refl _ wp).drew); refine wp_region_any (by kernel_rfl) ?_; change wpAny _ _ _ _ _ _ _ (World.drew _); refine LM.T 0 (.slice (some ⟨ga, 0, none⟩) n' ca') rfl ?_; refine LM.T 1 (.int .i64 q) rfl ?_; refine LM.T 2 (.slice (some ⟨ga, 0, none⟩) n' ca') rfl ?_; refine LM.T 3 (.int .i64 (n' : Int)) rfl ?_; refine LM.T 4 (.int .i64 d) rfl ?_; refine LM.T 5 (.pointer (some ⟨ga, d, none⟩)) rfl ?_; refine LM.T 7 (.slice (some ⟨b, off, none⟩) ns cps) rfl ?_; refine LM.T 8 (.int .i64 i) rfl ?_
        refine LM.T 9 (.pointer (some ⟨b, off + i, none⟩)) rfl ?_; refine LM.any_of_L (late := LM.lateOf [11, 12]) (S := (fun u : World => u.cell? ⟨ga, d, none⟩ = some (.pointer (some sp)) ∧ u.cell? ⟨b, off + i, none⟩ = some (.string X))) _ _ _ _ ?_; refine LM.TL 6 (.pointer (some sp)) rfl (Or.inl ⟨by rfl, fun u hu => by have a0 := hu.1; clear hu; go_simp⟩) HS ?_; refine LM.TL 10 (.string X) rfl (Or.inl ⟨by rfl, fun u hu => by have a0 := hu.2; clear hu; go_simp⟩) HS ?_; refine LM.L_rest (by kernel_rfl) ?_; refine LM.any_one (i := 11) rfl (by kernel_rfl) rfl (fun K hK => ?_); go_simp
        refine (ASK.out _ ((Below.refl _ wp).drew)).mono ?_; rintro e w6 ⟨F, rfl, hA, hb6⟩; refine hK _ _ ?_; clear hK K; refine LM.T 12 (.string F) rfl ?_; refine wpAny_done (by kernel_rfl) ?_ _; have AF := zx hA; have BP6 : Hid (Below wp.heap.size wp w6) := zx (((Below.refl _ wp).drew).trans hb6); have A6 := zx (AP.out.later BP6.out); have r6 : w6.cell? ⟨b, off + i, none⟩ = some (.string X) := by rw [HXX.out]; exact RQ.out w6 A6.out.below i hlt
        clear hb6 HS hA; go_wp2_with fail; refine (answered_any F0 hF0 X F w6 hXs2 AF.out (HSD.out.below A6.out.below)).mono ?_; rintro e w7 ⟨rfl, hb7⟩; have A7 := zx (A6.out.later hb7); have B7 : Hid (Below w.heap.size w w7) := zx A7.out.below; clear r6 hb7; go_wp2; go_loopw [12] (fun v12 wq => ∃ j dn : Nat, v12 = .int .i64 j ∧ j <= i ∧ w7.drewN dn = wq) (fun v12 _ => i - (intOf v12).toNat)
        case atStart => exact ⟨0, 0, rfl, Nat.zero_le _, rfl⟩
        case round =>
         obtain ⟨j, dn, rfl, hj, rfl⟩ := hrel; by_cases hji : j < i
         . have e1 : decide ((j : Int) < (i : Int)) = true := by simp; omega
           have hjn : (j : Int) < (ns : Int) := by omega
           have hjI : (j : Int) < (i : Int) := by omega
           obtain ⟨a1, cap1, hav1, ha1, _⟩ := own_form A7.out.told; obtain ⟨gt, rfl⟩ := ha1 (by omega); cases hav1; have t0 : w7.cell? ⟨gt, j, none⟩ = some (.string (TL.getD j ⟨#[]⟩)) := by
            rw [own_cell A7.out.told hji, strsW_at (by rw [A7.out.len]; exact hji)]
           have c1 : w7.cell? ⟨b, off + i, none⟩ = some (.string X) := by rw [HXX.out]; exact RQ.out w7 B7.out i hlt
           have c2 : w7.cell? ⟨b, off + j, none⟩ = some (.string (S j)) := RQ.out w7 B7.out j (by omega); by_cases hsame : S j = S i
           . have hTF : TL.getD j ⟨#[]⟩ = F := bytes_eqW (ansW_det (by rw [HXX.out, <- hsame]; exact A7.out.ans j hji) AF.out); rw [hTF] at t0; rw [hsame, <- HXX.out] at c2; clear hsame hTF; go_wp2; go_quiet (fail); go_wp2; go_roundw; case rel => exact ⟨j + 1, dn + nq, by go_num, hji, rfl⟩
             case measure => simp [intOf]; omega
           . have hne : ¬ S j = X := by rw [HXX.out]; exact hsame
             obtain ⟨Xj, hXj⟩ : ∃ q, q = S j := ⟨_, rfl⟩
             rw [<- hXj] at c2 hne; have hne2 : (Xj.toList == X.toList) = false := by
              rw [beq_eq_false_iff_ne]; intro e; rw [Lib.toList_data, Lib.toList_data] at e; exact hne (bytes_eqW e)
             clear hsame hXj; go_wp2; go_quiet (fail); go_wp2; go_roundw; case rel => exact ⟨j + 1, dn + nq, by go_num, hji, rfl⟩
             case measure => simp [intOf]; omega
         . have e1 : decide ((j : Int) < (i : Int)) = false := by simp; omega
           have TO : Hid ((w7.drewN dn).ownsRow w.heap.size 9 1 (.slice tv i tc) i (strsW TL)) := zx (own_only A7.out.told ((Only.refl (fun _ => False) w7).drewN dn) (fun _ _ _ e => e)); have AO : Hid ((w7.drewN dn).ownsRow w.heap.size 25 1 (.slice (some ⟨ga, 0, none⟩) n' ca') n' PV') := zx (own_only A7.out.all ((Only.refl (fun _ => False) w7).drewN dn) (fun _ _ _ e => e)); have BD : Hid (Below w.heap.size w (w7.drewN dn)) := zx (below_drewN B7.out dn); have hbs : w.heap.size <= (w7.drewN dn).heap.size := B7.out.size; have hi8 : i <= 100000000 := by omega
           clear hj; generalize w7.drewN dn = w8 at *; go_wp2_with (at_builtin; go_must (refine wpList_pushG rfl _ _ 22 9 _ _ rfl Tryz.underlying22 Tryz.infoStrW rfl (by omega) w.heap.size i (.slice tv i tc) (strsW TL) (.string F) rfl rfl TO.out hbs _ rfl hi8 ?_; intro g9 c9 w9 ho9 hon9 hat9))
           go_roundw; case rel =>
            have hs1 : strsW TL ++ [.string F] = strsW (TL ++ [F]) := by simp [strsW]
            rw [hs1] at ho9; refine ⟨i + 1, n', ca', c9, some ⟨ga, 0, none⟩, some ⟨g9, 0, none⟩, PV', TL ++ [F], rfl, rfl, by go_num, by omega, hn1, ⟨own_only AO.out hon9 (fun k _ e1 e2 => A7.out.dis k e1 e2), A7.out.ptr, ho9, by rw [List.length_append, A7.out.len]; rfl, fun k e1 e2 => ?_, fun k hk => ?_, BD.out.trans (hon9.below hbs (fun k e => (TO.out.lt k e).1))⟩⟩
            . have hkg : g9 = k := by simpa [Value.ownBlock] using e2
              rcases hat9 with h | h
              . rw [hkg] at h; exact A7.out.dis k e1 h
              . have := (AO.out.lt k e1).2; omega
            . rw [getD_app A7.out.len hk]; by_cases hki : k = i
              . rw [if_pos hki, hki, <- HXX.out]; exact AF.out
              . rw [if_neg hki]; exact A7.out.ans k (by omega)
           case measure => simp [intOf]; omega
  . have hiI : decide ((i : Int) < (ns : Int)) = false := by simp; omega
    have BW := zx AK.out.below; go_wp2; go_ret; exact ⟨rfl, BW.out⟩
end
end Go.Proofs.YtnkgpinadgacgaaGreatDoor
