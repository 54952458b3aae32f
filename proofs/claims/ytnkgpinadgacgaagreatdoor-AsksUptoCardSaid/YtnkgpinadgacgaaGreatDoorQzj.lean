/- Gd, Ge, Gt. -/
import Derived.Test.YtnkgpinadgacgaaGreatDoorQz
import Derived.Test.YtnkgpinadgacgaaGreatDoorQzi
set_option maxRecDepth 1000000
set_option maxHeartbeats 2000000
namespace Go.Proofs.YtnkgpinadgacgaaGreatDoor
section
open Go.RowKit M
theorem map_range_snoc (f : Nat -> Nat) (k : Nat) : (List.range (k + 1)).map f = (List.range k).map f ++ [f k] := by
 rw [List.range_succ, List.map_append]; rfl
theorem pathOf_any (gw n cw cart : Nat) (p : Nat -> Nat -> Nat) (u : Nat -> Nat -> Bool) (w : World) (hn : n <= 10000000) (hcart : cart < 4)
 (hp : ∀ i j, i < n -> j < 4 -> w.cell? ⟨gw, i * 8 + j, none⟩ = some (.int .u8 (p i j : Nat))) (hu : ∀ i j, i < n -> j < 4 -> w.cell? ⟨gw, i * 8 + 4 + j, none⟩ = some (.bool (u i j))) (h255 : ∀ i, i < n -> p i cart <= 255) :
 Calls Tryz.prog 82 #[.int .i64 cart, .slice (some ⟨gw, 0, none⟩) n cw] w fun e w' =>
  ∃ k v, e = .returned v ∧ k <= n ∧ OwnN w' w.heap.size v ((List.range k).map fun i => p i cart) ∧ (∀ j, j + 1 < k -> u j cart = true) ∧ (k = n ∨ (0 < k ∧ u (k - 1) cart = false)) ∧ Below w.heap.size w w' := by
 have HP := zx hp; have HU := zx hu; have H2 := zx h255; clear hp hu h255; go_enter Tryz.func82, Tryz.ntmps82; go_wp2; go_loopw [5, 7, 10] (fun v5 _ v10 wr => ∃ (k : Nat) (V : Value), V = v5 ∧ v10 = .int .i64 k ∧ k <= n ∧ OwnN wr w.heap.size V ((List.range k).map fun i => p i cart) ∧ (∀ j, j < k -> u j cart = true) ∧ Below w.heap.size w wr) (fun _ _ v10 _ => n - (intOf v10).toNat)
 case atStart => exact ⟨0, _, rfl, rfl, Nat.zero_le _, OwnN.nil _ _, fun j hj => absurd hj (Nat.not_lt_zero j), Below.refl _ _⟩
 case round =>
  obtain ⟨k, V, rfl, rfl, hk, hown, hall, hb⟩ := hrel; obtain ⟨wo, rfl⟩ : ∃ x, x = wr := ⟨_, rfl⟩
  have OWN := zx hown; have ALL := zx hall; have HB := zx hb; have hz := hb.size; clear hown hall hb; by_cases hlt : k < n
  . have hkI : (k : Int) < (n : Int) := by omega
    have c0 := zj HB.out (HP.out k 0 hlt (by omega)); have c1 := zj HB.out (HP.out k 1 hlt (by omega)); have c2 := zj HB.out (HP.out k 2 hlt (by omega)); have c3 := zj HB.out (HP.out k 3 hlt (by omega)); have c4 := zj HB.out (HU.out k 0 hlt (by omega)); have c5 := zj HB.out (HU.out k 1 hlt (by omega)); have c6 := zj HB.out (HU.out k 2 hlt (by omega)); have c7 := zj HB.out (HU.out k 3 hlt (by omega)); simp only [Nat.add_zero, Nat.add_assoc, Nat.reduceAdd] at c0 c1 c2 c3 c4 c5 c6 c7
    have X0 : Hid (∀ j, j < 4 -> (wo.alloc (.cells #[.int .u8 (p k 0 : Nat), .int .u8 (p k 1 : Nat), .int .u8 (p k 2 : Nat), .int .u8 (p k 3 : Nat), .bool (u k 0), .bool (u k 1), .bool (u k 2), .bool (u k 3)] 107)).cell? ⟨wo.heap.size, j, none⟩ = some (.int .u8 (p k j : Nat))) := by
     intro j hj; match j, hj with
     | 0, _ => go_simp
     | 1, _ => go_simp
     | 2, _ => go_simp
     | 3, _ => go_simp
    have X1 : Hid (∀ j, j < 4 -> (wo.alloc (.cells #[.int .u8 (p k 0 : Nat), .int .u8 (p k 1 : Nat), .int .u8 (p k 2 : Nat), .int .u8 (p k 3 : Nat), .bool (u k 0), .bool (u k 1), .bool (u k 2), .bool (u k 3)] 107)).cell? ⟨wo.heap.size, 4 + j, none⟩ = some (.bool (u k j))) := by
     intro j hj; match j, hj with
     | 0, _ => go_simp
     | 1, _ => go_simp
     | 2, _ => go_simp
     | 3, _ => go_simp
    have BA : Hid (Below wo.heap.size wo (wo.alloc (.cells #[.int .u8 (p k 0 : Nat), .int .u8 (p k 1 : Nat), .int .u8 (p k 2 : Nat), .int .u8 (p k 3 : Nat), .bool (u k 0), .bool (u k 1), .bool (u k 2), .bool (u k 3)] 107))) := (Below.refl _ _).alloc zl _; have hza : (wo.alloc (.cells #[.int .u8 (p k 0 : Nat), .int .u8 (p k 1 : Nat), .int .u8 (p k 2 : Nat), .int .u8 (p k 3 : Nat), .bool (u k 0), .bool (u k 1), .bool (u k 2), .bool (u k 3)] 107)).heap.size = wo.heap.size + 1 := by simp
    go_upto_region 5 with fail; generalize (wo.alloc (.cells #[.int .u8 (p k 0 : Nat), .int .u8 (p k 1 : Nat), .int .u8 (p k 2 : Nat), .int .u8 (p k 3 : Nat), .bool (u k 0), .bool (u k 1), .bool (u k 2), .bool (u k 3)] 107)) = wa at *; have d0 := X0.out cart hcart; have d1 := X1.out cart hcart; have hcI : (cart : Int) < 4 := by omega
    have h25 := H2.out k hlt; have OWA : Hid (OwnN wa w.heap.size V ((List.range k).map fun i => p i cart)) := OWN.out.below BA.out; obtain ⟨x, hx⟩ : ∃ x, x = p k cart := ⟨_, rfl⟩
    obtain ⟨ub, hub⟩ : ∃ ub, ub = u k cart := ⟨_, rfl⟩
    rw [<- hx] at d0 h25; rw [<- hub] at d1; have HXE := zx hx; have HUB := zx hub; have hbs : w.heap.size <= wa.heap.size := by omega
    have HBS := zx hbs; have LL : Hid (((List.range k).map fun i => p i cart).length <= 100000000) := by unfold Hid; simp; omega
    have hVl : ∀ g, V.ownBlock = some g -> g < wo.heap.size := fun g hg => (OWN.out.lt g hg).2
    have HVL := zx hVl; clear c0 c1 c2 c3 c4 c5 c6 c7 hx hub hVl
    go_upto_region 6 with (at_builtin; go_must (refine wpList_pushN rfl _ _ rfl w.heap.size V ((List.range k).map fun i => p i cart) x rfl OWA.out HBS.out _ (by rw [hza]; exact rfl) LL.out ?_; intro g5 c5 w5 ho5 hon5 hat5; have d2 := (hon5.cell (p := ⟨wo.heap.size, 4 + cart, none⟩) (by show wo.heap.size < _; omega) (fun e => by have h9 : wo.heap.size < wo.heap.size := HVL.out _ e; omega)).trans d1; have e9 : (((List.range k).map fun i => p i cart) ++ [x]).length = k + 1 := (by simp); rw [e9] at ho5; rw [e9]; have HO5 := zx ho5; have HON5 := zx hon5; clear ho5 hon5 hat5 e9))
    all_goals
     have LST : Hid (OwnN w5 w.heap.size (.slice (some ⟨g5, 0, none⟩) (k + 1) c5) ((List.range (k + 1)).map fun i => p i cart)) := by unfold Hid; rw [map_range_snoc, <- HXE.out]; exact HO5.out
     have BW := zx (HB.out.trans ((BA.out.mono hz).trans (HON5.out.below hbs (fun i e => (OWN.out.lt i e).1)))); cases ub
     . go_wp2; go_ret; exact ⟨k + 1, _, rfl, by omega, LST.out, fun j hj => ALL.out j (by omega), .inr ⟨by omega, by simpa using HUB.out.symm⟩, BW.out⟩
     . go_wp2; go_roundw; case rel => exact ⟨k + 1, _, rfl, by go_num, by omega, LST.out, fun j hj => by
        by_cases e : j = k
        . subst e; exact HUB.out.symm
        . exact ALL.out j (by omega), BW.out⟩
       case measure => simp [intOf]; omega
  . have hd : k = n := by omega
    subst hd; go_wp2; go_ret; exact ⟨k, _, rfl, zl, OWN.out, fun j hj => ALL.out j (by omega), .inl rfl, HB.out⟩
end
section
open Go.RowKit Go.Maps M
theorem Tryz.rowState : (107 : TypeId) < Tryz.prog.types.size := of_decide_eq_true (by kernel_rfl)
theorem Tryz.deepState : Tryz.prog.keyTypeAt 4 107 = true := by kernel_rfl
theorem Tryz.ktState : Tryz.prog.keyType 107 = true := by kernel_rfl
theorem Tryz.cellsState : Tryz.prog.cellsOf 107 = 8 := by kernel_rfl
theorem Tryz.lawState : Keyed Tryz.prog 107 := Keyed.of_law (deep_law_laid Tryz.laidOut0 (m := 4) (by omega) Tryz.rowState Tryz.deepState (by rw [Tryz.underlying107]))
theorem Tryz.cellsB4 : Tryz.prog.cellsOf 105 = 4 := by kernel_rfl
theorem Tryz.cellsBl : Tryz.prog.cellsOf 4 = 1 := by kernel_rfl
def stV (p : List Nat) (u : List Bool) : Value := .agg #[.int .u8 (p.getD 0 0 : Nat), .int .u8 (p.getD 1 0 : Nat), .int .u8 (p.getD 2 0 : Nat), .int .u8 (p.getD 3 0 : Nat), .bool (u.getD 0 false), .bool (u.getD 1 false), .bool (u.getD 2 false), .bool (u.getD 3 false)]
theorem st_ext {p p' : List Nat} {u u' : List Bool} {m : Nat} (hm : m <= 4) (hp : p.length = m) (hp' : p'.length = m) (hu : u.length = m) (hu' : u'.length = m) (h : stV p u = stV p' u') : p = p' ∧ u = u' := by
 unfold stV at h; simp only [Value.agg.injEq, Array.mk.injEq, List.cons.injEq, Value.int.injEq, Value.bool.injEq, true_and, and_true] at h; obtain ⟨h0, h1, h2, h3, h4, h5, h6, h7⟩ := h; constructor
 . apply List.ext_getElem (by omega)
   intro i hi hi'; have e : ∀ (l : List Nat) (hl : i < l.length), l[i] = l.getD i 0 := fun l hl => by rw [zg, List.getElem?_eq_getElem hl]; rfl
   rw [e p hi, e p' hi']; have hc : i = 0 ∨ i = 1 ∨ i = 2 ∨ i = 3 := by omega
   rcases hc with rfl | rfl | rfl | rfl <;> omega
 . apply List.ext_getElem (by omega)
   intro i hi hi'; have e : ∀ (l : List Bool) (hl : i < l.length), l[i] = l.getD i false := fun l hl => by rw [zg, List.getElem?_eq_getElem hl]; rfl
   rw [e u hi, e u' hi']; have hc : i = 0 ∨ i = 1 ∨ i = 2 ∨ i = 3 := by omega
   rcases hc with rfl | rfl | rfl | rfl <;> assumption
theorem stKey {p : List Nat} {u : List Bool} (h : Small p) : ∃ kl, keyOf Tryz.prog 107 (stV p u) = some kl := by
 have h0 := wf_u8 (h 0); have h1 := wf_u8 (h 1); have h2 := wf_u8 (h 2); have h3 := wf_u8 (h 3); obtain ⟨m, hm⟩ : ∃ m, Tryz.prog.types.size = m + 3 := ⟨Tryz.prog.types.size - 3, by have h9 : (107 : Nat) < Tryz.prog.types.size := Tryz.rowState; omega⟩
 unfold keyOf stV; generalize p.getD 0 0 = a0 at h0 ⊢; generalize p.getD 1 0 = a1 at h1 ⊢; generalize p.getD 2 0 = a2 at h2 ⊢; generalize p.getD 3 0 = a3 at h3 ⊢; generalize u.getD 0 false = b0; generalize u.getD 1 false = b1; generalize u.getD 2 false = b2; generalize u.getD 3 false = b3; simp only [Tryz.underlying107]; rw [if_pos (by simp [Tryz.ktState, Value.formed, Tryz.underlying107, Tryz.cellsState]), hm]; unfold Program.keyLits; simp only [Tryz.underlying107, Value.cells]; rw [if_pos (by refine ⟨by rw [Tryz.cellsState]; rfl, by kernel_rfl⟩)]
 simp [List.range, List.range.loop, Tryz.cellsPos, Tryz.cellsB4, Tryz.cellsU8, Tryz.cellsBl, Program.keyLits, Tryz.underlying103, Tryz.underlying105, Tryz.underlying5, Tryz.underlying4, h0, h1, h2, h3]
end
section
open Go.RowKit Go.Maps M SM
def stL (x : St) : List Value := [.int .u8 (x.1.getD 0 0 : Nat), .int .u8 (x.1.getD 1 0 : Nat), .int .u8 (x.1.getD 2 0 : Nat), .int .u8 (x.1.getD 3 0 : Nat), .bool (x.2.getD 0 false), .bool (x.2.getD 1 false), .bool (x.2.getD 2 false), .bool (x.2.getD 3 false)]
def fdL (v : Nat × St) : List Value := .int .i64 (v.1 : Nat) :: stL v.2
theorem stL_len (x : St) : (stL x).length = 8 := rfl
theorem fdL_len (v : Nat × St) : (fdL v).length = 9 := rfl
theorem stV_is (x : St) : stV x.1 x.2 = .agg (stL x).toArray := rfl
theorem stL_one (x : St) : ∀ v ∈ stL x, v.oneCell' = true := by
 intro v hv; unfold stL at hv; simp only [List.mem_cons, List.not_mem_nil, or_false] at hv; rcases hv with rfl | rfl | rfl | rfl | rfl | rfl | rfl | rfl <;> rfl
theorem fdL_one (x : Nat × St) : ∀ v ∈ fdL x, v.oneCell' = true := by
 intro v hv; unfold fdL at hv; rcases List.mem_cons.1 hv with rfl | h
 . rfl
 . exact stL_one _ v h
theorem Tryz.sizeState : (Tryz.prog.info? 107).map (·.size) = some 8 := by kernel_rfl
theorem Tryz.sizeFound : (Tryz.prog.info? 110).map (·.size) = some 9 := by kernel_rfl
theorem Tryz.zeroFound (w : World) : (zeroValue 110).run Tryz.prog w = .ok (.agg (fdL (0, ([], []))).toArray) w := by kernel_rfl
def heldE (v : Value) : Option (DataW Value × List MemPlace) := some (.held v, [])
theorem ownG_block {H : Type} {w w' : World} {P : Program} {k : TypeId} {R : Value -> Option (DataW H × List MemPlace)} {b n : Nat} {D : DataW H} (h : w.ownsMap P k R b n D) (e : w'.heap[b]? = w.heap[b]?) : w'.ownsMap P k R b n D := by
 obtain ⟨es, clock, hb, r⟩ := h; exact ⟨es, clock, e.trans hb, r⟩
theorem ownG_lt {H : Type} {w : World} {P : Program} {k : TypeId} {R : Value -> Option (DataW H × List MemPlace)} {b n : Nat} {D : DataW H} (h : w.ownsMap P k R b n D) : b < w.heap.size := by
 obtain ⟨es, clock, hb, r⟩ := h; exact (Array.getElem?_eq_some_iff.1 hb).1
def Lens (m : Nat) (x : St) : Prop := x.1.length = m ∧ x.2.length = m
def SeenMap (w : World) (b m n : Nat) (f : St -> Option (Nat × St)) : Prop :=
 ∃ D : DataW Value, w.ownsMap Tryz.prog 107 heldE b n D ∧ ∀ x kl, Lens m x -> keyOf Tryz.prog 107 (stV x.1 x.2) = some kl -> Maps.has D kl = (f x).isSome ∧ ∀ v, f x = some v -> ∀ z, D.atKey kl z = .held (.agg (fdL v).toArray)
section
variable {w w' : World} {b m n : Nat} {f : St → Option (Nat × St)}
theorem SeenMap.block (h : SeenMap w b m n f) (e : w'.heap[b]? = w.heap[b]?) : SeenMap w' b m n f := by
 obtain ⟨D, hD, hf⟩ := h; exact ⟨D, ownG_block hD e, hf⟩
theorem SeenMap.lt (h : SeenMap w b m n f) : b < w.heap.size := by obtain ⟨D, hD, _⟩ := h; exact ownG_lt hD
theorem SeenMap.more {n' : Nat} (h : SeenMap w b m n f) (e : n <= n') : SeenMap w b m n' f := by
 obtain ⟨D, hD, hf⟩ := h; exact ⟨D, hD.mono e, hf⟩
theorem seen_made (w : World) (b m : Nat) (hb : b = w.heap.size) : SeenMap (w.alloc (.map #[] 0)) b m 0 (fun _ => none) := by
 subst hb; exact ⟨_, World.ownsMap_made w _ _ _, fun _ _ _ _ => ⟨rfl, fun _ h => by cases h⟩⟩
theorem run_look_seen (h : SeenMap w b m n f) {x : St} (hx : Lens m x) (hs : Small x.1) (c : Bool) :
 (Instr.lookup 115 (.map (some b)) (.agg (stL x).toArray) c).run Tryz.prog w = .ok (if c then .tuple #[.agg (fdL ((f x).getD (0, ([], [])))).toArray, .bool (f x).isSome] else .agg (fdL ((f x).getD (0, ([], [])))).toArray) w := by
 obtain ⟨D, ⟨es, clock, hb, F, _, rfl⟩, hf⟩ := h; obtain ⟨kl, hk⟩ := stKey (p := x.1) (u := x.2) hs; obtain ⟨g1, g2⟩ := hf x kl hx hk; rcases Maps.fit_look c Tryz.lawState Tryz.underlying115 (Tryz.zeroFound w) hb F hk with ⟨hrun, _, hat⟩ | ⟨e0, y, _, _, hrun, hRv, hat, _⟩
 . rw [Maps.has_false_of_atKey hat] at g1; have e : f x = none := by
    cases hh : f x with
    | none => rfl
    | some v => rw [hh] at g1; cases g1
   rw [<- stV_is, hrun, e]; rfl
 . rw [Maps.has_true_of_atKey hat] at g1; obtain ⟨v, hv⟩ := Option.isSome_iff_exists.1 g1.symm; have h2 := g2 v hv .nil; rw [hat .nil] at h2; have h3 : y = (.held e0.val, []) := (Option.some.inj hRv).symm; rw [h3] at h2; have h4 : e0.val = .agg (fdL v).toArray := DataW.held.inj h2; rw [<- stV_is, hrun, hv, h4]; rfl
theorem run_put_seen (h : SeenMap w b m n f) (hn : n < maxLen) (hm : m <= 4) {x y : St} {c : Nat} (hx : Lens m x) (hs : Small x.1) :
 ∃ w', (Instr.mapUpdate 115 (.map (some b)) (.agg (stL x).toArray) (.agg (fdL (c, y)).toArray)).run Tryz.prog w = .ok () w' ∧ SeenMap w' b m (n + 1) (seenPutS f x c y) ∧ w.grownBy w' (some b) := by
 obtain ⟨D, hD, hf⟩ := h; obtain ⟨kl, hk⟩ := stKey (p := x.1) (u := x.2) hs; obtain ⟨w', hrun, h1, h2⟩ := hD.update Tryz.lawState Tryz.underlying115 hn hk (val := .agg (fdL (c, y)).toArray) (d := .held (.agg (fdL (c, y)).toArray)) (ps := []) rfl; refine ⟨w', hrun, ⟨_, h1, fun x' kl' hx' hk' => ?_⟩, h2⟩; unfold seenPutS; by_cases e : kl' = kl
 . subst e; have e1 := st_ext hm hx'.1 hx.1 hx'.2 hx.2 (Tryz.lawState.inj hk' hk); have e2 : x' = x := Prod.ext e1.1 e1.2; subst e2; rw [if_pos rfl, has_put_same hD.isMap (Tryz.lawState.key hk) _]; refine ⟨rfl, fun v hv z => ?_⟩; cases hv; exact atKey_put_same hD.isMap (Tryz.lawState.key hk) _ _
 . have hne : x' ≠ x := fun h => by
    subst h; rw [hk] at hk'; exact e (Option.some.inj hk').symm
   rw [if_neg hne, has_put_other e _]; obtain ⟨g1, g2⟩ := hf x' kl' hx' hk'; exact ⟨g1, fun v hv z => by rw [atKey_put_other e]; exact g2 v hv z⟩
theorem yields_look_seen {ops : Array Oper} {S : World -> Prop} {o : Oper} {a : Act} (hw : Region.wanted o (yielded ops a.tmps) = true) (mo xo : Operand) (c : Bool) (hop : o.op = Op.lookup 115 mo xo c) {x : St} (hm : a.eval mo = .map (some b)) (hxo : a.eval xo = .agg (stL x).toArray)
 (hS : ∀ u, S u -> SeenMap u b m n f) (hx : Lens m x) (hs : Small x.1) : YieldsIf Tryz.prog ops S o (if c then .tuple #[.agg (fdL ((f x).getD (0, ([], [])))).toArray, .bool (f x).isSome] else .agg (fdL ((f x).getD (0, ([], [])))).toArray) a :=
 .inl ⟨hw, fun u hu => by
  have h := run_look_seen (hS u hu) hx hs c; simp [execOp, hop, hm, hxo, h, Result.andThen]⟩
theorem any_put_seen {md : Region.Mode} {ops : Array Oper} {Q : Exit -> Act -> World -> Prop} {i : Nat} {o : Oper} {fu : Nat} {listed : Array Bool} {a : Act} (ho : ops[i]? = some o) (hr : Region.ready md ops listed = [i]) (hg : o.guard = none) (mo xo vo : Operand)
 (hop : o.op = Op.mapUpdate 115 mo xo vo) {x y : St} {c : Nat} (hmo : a.eval mo = .map (some b)) (hxo : a.eval xo = .agg (stL x).toArray) (hvo : a.eval vo = .agg (fdL (c, y)).toArray) (h : SeenMap w b m n f) (hn : n < maxLen) (hm : m <= 4) (hx : Lens m x) (hs : Small x.1)
 (hK : ∀ w', SeenMap w' b m (n + 1) (seenPutS f x c y) -> w.grownBy w' (some b) -> wpAny Tryz.prog md ops Q fu (listed.setIfInBounds i true) (a.put o.dst undef) w') : wpAny Tryz.prog md ops Q (fu + 1) listed a w := by
 refine LM.any_one ho hr hg fun K hK' => ?_
 obtain ⟨w', hrun, r1, r2⟩ := run_put_seen h hn hm (y := y) (c := c) hx hs; unfold Oper.wp; simp [execOp, hop, hmo, hxo, hvo, hrun, Result.andThen]
 exact hK' _ _ (hK w' r1 r2)
end
end
end Go.Proofs.YtnkgpinadgacgaaGreatDoor
