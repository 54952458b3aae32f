/- Gl, Th. -/
import Derived.Deep.MidRow
import Derived.Test.YtnkgpinadgacgaaGreatDoorQg
set_option maxRecDepth 1000000
set_option maxHeartbeats 1000000
namespace Go.Proofs.YtnkgpinadgacgaaGreatDoor
namespace LM
open Go
section
variable {P : Program} {ops : Array Oper} {Q : Exit → Act → World → Prop} {md : Region.Mode} {late : Nat → Bool} {S : World → Prop}
def anyL (P : Program) (md : Region.Mode) (ops : Array Oper) (Q : Exit -> Act -> World -> Prop) (late : Nat -> Bool) (S : World -> Prop) : Nat -> Array Bool -> Act -> World -> Prop
 | 0, listed, a, w => Region.ready md ops listed = [] ∧ Q .normal a w
 | f + 1, listed, a, w => (Region.ready md ops listed = [] -> Q .normal a w) ∧
  ∀ j ∈ Region.ready md ops listed, wpOp P ops Q j (fun a1 w1 => (late j = false -> S w1) ∧ anyL P md ops Q late S f (listed.setIfInBounds j true) a1 w1) a w
theorem any_of_L : ∀ (f : Nat) (listed : Array Bool) (a : Act) (w : World), anyL P md ops Q late S f listed a w -> wpAny P md ops Q f listed a w
 | 0, _, _, _, h => h
 | f + 1, _, _, _, h => ⟨h.1, fun j hj => wpOp_mono (fun a1 w1 h1 => any_of_L f _ a1 w1 h1.2) (h.2 j hj)⟩
theorem L_of_any : ∀ (f : Nat) (listed : Array Bool) (a : Act) (w : World), (∀ j, j < ops.size -> listed.getD j true = false -> late j = true) -> wpAny P md ops Q f listed a w -> anyL P md ops Q late S f listed a w
 | 0, _, _, _, _, h => h
 | f + 1, listed, _, _, hl, h => by
   refine ⟨h.1, fun j hj => ?_⟩; obtain ⟨h1, o, h2, _⟩ := mem_ready.1 hj; have hj2 := hl j (Array.getElem?_eq_some_iff.1 h2).1 h1; refine wpOp_mono (fun a1 w1 h3 => ⟨fun h4 => (by rw [hj2] at h4; cases h4), L_of_any f _ a1 w1 (fun k hk hku => ?_) h3⟩) (h.2 j hj); by_cases e : j = k
   . subst e; exact hj2
   . rw [getD_set_ne true e] at hku; exact hl k hk hku
def waitsB (md : Region.Mode) (ops : Array Oper) (listed : Array Bool) (i : Nat) : Nat -> Nat -> Bool
 | 0, _ => false
 | f + 1, j => ((ops[j]?).map fun o => o.after.any fun e => Region.binds md e && (e.on == i || (!listed.getD e.on true && waitsB md ops listed i f e.on))).getD false
theorem listed_clash {listed : Array Bool} {k : Nat} (h1 : listed.getD k true = false) (h2 : listed.getD k false = true) : False := by
 rcases Nat.lt_or_ge k listed.size with h3 | h3
 . simp [h3] at h1 h2; rw [h1] at h2; cases h2
 . simp [Array.getElem?_eq_none h3] at h2
theorem waits_edge {listed : Array Bool} {i f j : Nat} {o : Oper} (ho : ops[j]? = some o) (h : waitsB md ops listed i (f + 1) j = true) : ∃ e ∈ o.after, Region.binds md e = true ∧ (e.on = i ∨ (listed.getD e.on true = false ∧ waitsB md ops listed i f e.on = true)) := by
 unfold waitsB at h; rw [ho] at h; simp only [Option.map_some, Option.getD_some] at h; obtain ⟨e, he, hb⟩ := Array.any_eq_true'.1 h; rw [Bool.and_eq_true, Bool.or_eq_true, Bool.and_eq_true, beq_iff_eq, Bool.not_eq_true'] at hb; exact ⟨e, he, hb.1, hb.2⟩
theorem waits_not {listed : Array Bool} {i : Nat} (hi : listed.getD i true = false) {f j : Nat} (h : waitsB md ops listed i f j = true) : j ∉ Region.ready md ops listed := fun hj => by
 cases f with
 | zero => cases h
 | succ f =>
   obtain ⟨_, o, ho, hall⟩ := mem_ready.1 hj; obtain ⟨e, he, hb, h1⟩ := waits_edge ho h; have h2 := hall e he hb; rcases h1 with h1 | ⟨h1, _⟩
   . rw [h1] at h2; exact listed_clash hi h2
   . exact listed_clash h1 h2
theorem waits_on {listed : Array Bool} {i k : Nat} (hi : listed.getD i true = false) (hk : k ∈ Region.ready md ops listed) : ∀ {f j : Nat}, waitsB md ops listed i f j = true -> waitsB md ops (listed.setIfInBounds k true) i f j = true
 | 0, _, h => by cases h
 | f + 1, j, h => by
   cases ho : ops[j]? with
   | none => unfold waitsB at h; rw [ho] at h; cases h
   | some o =>
     obtain ⟨e, he, hb, h1⟩ := waits_edge ho h; unfold waitsB; rw [ho]; simp only [Option.map_some, Option.getD_some]; refine Array.any_eq_true'.2 ⟨e, he, ?_⟩; rw [Bool.and_eq_true, Bool.or_eq_true, Bool.and_eq_true, beq_iff_eq, Bool.not_eq_true']; refine ⟨hb, h1.imp id fun ⟨h2, h3⟩ => ⟨?_, waits_on hi hk h3⟩⟩; have hne : k ≠ e.on := fun e2 => waits_not hi h3 (e2 ▸ hk)
     rw [getD_set_ne true hne]; exact h2
theorem L_first {i F : Nat} {oi : Oper} {v : Value} (hi : ops[i]? = some oi) (hsel : ∀ (j : Nat) (o : Oper) cs b, ops[j]? = some o -> o.op ≠ .select cs b)
 (hQ : ∀ c a w, Q (.panic c) (a.put oi.dst v) w -> Q (.panic c) a w) : ∀ (f : Nat) (listed : Array Bool) (a : Act) (w : World),
  (∀ j oj, ops[j]? = some oj -> j ≠ i -> listed.getD j true = false -> (∀ e ∈ oj.after, Region.binds md e = true -> e.on ≠ i) -> oi.apart ops oj = true) ->
  (∀ j, j < ops.size -> late j = true -> listed.getD j true = false -> waitsB md ops listed i F j = true) ->
  i ∈ Region.ready md ops listed -> YieldsIf P ops S oi v a -> S w -> anyL P md ops Q late S f (listed.setIfInBounds i true) (a.put oi.dst v) w -> anyL P md ops Q late S (f + 1) listed a w := by
 intro f; induction f with
 | zero =>
   intro listed a w _ _ hr hy hS H; refine ⟨fun h => (by rw [h] at hr; cases hr), fun j hj => ?_⟩; by_cases hji : j = i
   . subst hji; exact hy.wpOp hi hS ⟨fun _ => hS, H⟩
   . have h9 := ready_mono hj hji; rw [H.1] at h9; cases h9
 | succ f ih =>
   intro listed a w hfree hlate hr hy hS H; refine ⟨fun h => (by rw [h] at hr; cases hr), fun j hj => ?_⟩; by_cases hji : j = i
   . subst hji; exact hy.wpOp hi hS ⟨fun _ => hS, H⟩
   . obtain ⟨hju, oj, hoj, hall⟩ := mem_ready.1 hj; have hiu := (mem_ready.1 hr).1; have hjs : j < ops.size := (Array.getElem?_eq_some_iff.1 hoj).1; have hjl : late j = false := by
      cases hh : late j with
      | false => rfl
      | true => exact absurd hj (waits_not hiu (hlate j hjs hh hju))
     have hnot : ∀ e ∈ oj.after, Region.binds md e = true -> e.on ≠ i := fun e he hb heq => by
      have h2 := hall e he hb; rw [heq] at h2; exact listed_clash hiu h2
     have h2 := wpOp_putIf hoj (hfree j oj hoj hji hju hnot) (fun cs b => hsel i oi cs b hi) (fun cs b => hsel j oj cs b hoj) hQ hy (H.2 j (ready_mono hj hji)); refine wpOp_mono (fun a1 w1 h3 => ⟨h3.2.1, ih (listed.setIfInBounds j true) a1 w1 (fun k ok hk hki hun hno => ?_) (fun k hks hkl hun => ?_) (ready_mono hr (Ne.symm hji)) h3.1 (h3.2.1 hjl) ?_⟩) h2
     . by_cases hjk : j = k
       . subst hjk; exact hfree j ok hk hki hju hno
       . rw [getD_set_ne true hjk] at hun; exact hfree k ok hk hki hun hno
     . have hjk : j ≠ k := fun e => by rw [e] at hjl; rw [hjl] at hkl; cases hkl
       rw [getD_set_ne true hjk] at hun; exact waits_on hiu hj (hlate k hks hkl hun)
     . rw [Array.setIfInBounds_comm _ _ hji]; exact h3.2.2
def lateB (md : Region.Mode) (ops : Array Oper) (late : Nat -> Bool) (listed : Array Bool) (i : Nat) : Bool :=
 (List.range ops.size).all fun j => !late j || listed.getD j true || waitsB md ops listed i 4 j
theorem L_take {i : Nat} {oi : Oper} {v : Value} {f : Nat} {listed : Array Bool} {a : Act} {w : World} (hi : ops[i]? = some oi) (hs : Region.noSelect ops = true) (hf : Region.free md ops listed i = true)
 (hr : (Region.ready md ops listed).contains i = true) (hw : lateB md ops late listed i = true) (hQ : ∀ c a w, Q (.panic c) (a.put oi.dst v) w -> Q (.panic c) a w) (hy : YieldsIf P ops S oi v a) (hS : S w)
 (h : anyL P md ops Q late S f (listed.setIfInBounds i true) (a.put oi.dst v) w) : anyL P md ops Q late S (f + 1) listed a w := by
 refine L_first (F := 4) hi (Region.noSelect_spec hs) hQ f listed a w (Region.free_spec hi hf) (fun j hj hl hu => ?_) (by simpa using hr) hy hS h; unfold lateB at hw; rw [List.all_eq_true] at hw; have h1 := hw j (List.mem_range.2 hj); rw [hl, hu] at h1; simpa using h1
def onlyB (ops : Array Oper) (late : Nat -> Bool) (listed : Array Bool) : Bool := (List.range ops.size).all fun j => listed.getD j true || late j
theorem L_rest {f : Nat} {listed : Array Bool} {a : Act} {w : World} (ho : onlyB ops late listed = true) (h : wpAny P md ops Q f listed a w) : anyL P md ops Q late S f listed a w :=
 L_of_any f listed a w (fun j hj hu => by
  unfold onlyB at ho; rw [List.all_eq_true] at ho; have h1 := ho j (List.mem_range.2 hj); rw [hu] at h1; simpa using h1) h
theorem any_store {i : Nat} {o : Oper} {f : Nat} {listed : Array Bool} {a : Act} {w : World} (ho : ops[i]? = some o) (hr : Region.ready md ops listed = [i]) (hg : o.guard = none) (ty : TypeId) (x y : Operand) (hop : o.op = .store ty x y)
 (b off : Nat) (cells : Array Value) (hx : a.eval x = .pointer (some ⟨b, off, none⟩)) (hy : a.eval y = .agg cells) (ht : w.there b off cells.size) (hi : (P.info? ty).map (·.size) = some cells.size) (h1 : cells.all (·.oneCell') = true)
 (h : wpAny P md ops Q f (listed.setIfInBounds i true) (a.put o.dst undef) (w.setCells b off cells.toList)) : wpAny P md ops Q (f + 1) listed a w := by
 refine wpAny_ready hr (by simp) (AllReady.cons ho (fun K hK => ?_) AllReady.nil); rw [if_pos (by simp [Region.wanted, hg])]; exact wp_store_mid ty x y hop b off cells hx hy ht hi h1 (hK _ _ h)
theorem any_one {i : Nat} {o : Oper} {f : Nat} {listed : Array Bool} {a : Act} {w : World} (ho : ops[i]? = some o) (hr : Region.ready md ops listed = [i]) (hg : o.guard = none)
 (h : ∀ K : Act -> World -> Prop, (∀ a w, wpAny P md ops Q f (listed.setIfInBounds i true) a w -> K a w) -> Oper.wp P o a w K Q) : wpAny P md ops Q (f + 1) listed a w := by
 refine wpAny_ready hr (by simp) (AllReady.cons ho (fun K hK => ?_) AllReady.nil); rw [if_pos (by simp [Region.wanted, hg])]; exact h K hK
theorem L_one {i : Nat} {o : Oper} {f : Nat} {listed : Array Bool} {a : Act} {w : World} (ho : ops[i]? = some o) (hr : Region.ready md ops listed = [i]) (hg : o.guard = none)
 (h : ∀ K : Act -> World -> Prop, (∀ a w, S w -> anyL P md ops Q late S f (listed.setIfInBounds i true) a w -> K a w) -> Oper.wp P o a w K Q) : anyL P md ops Q late S (f + 1) listed a w := by
 refine ⟨fun h0 => (by rw [hr] at h0; cases h0), fun j hj => ?_⟩; rw [hr, List.mem_singleton] at hj; subst hj; refine wpOp_step ho fun K hK => ?_
 rw [if_pos (by simp [Region.wanted, hg])]; exact h K fun a1 w1 h1 h2 => hK a1 w1 ⟨fun _ => h1, h2⟩
theorem L_done {listed : Array Bool} {a : Act} {w : World} (hr : Region.ready md ops listed = []) (h : Q .normal a w) : ∀ f, anyL P md ops Q late S f listed a w
 | 0 => ⟨hr, h⟩
 | _ + 1 => ⟨fun _ => h, by rw [hr]; simp⟩
theorem T (i : Nat) (v : Value) {oi : Oper} {fuel : Nat} {listed : Array Bool} {a : Act} {w : World} (hi : ops[i]? = some oi) (h : wpAny P md ops Q fuel (listed.setIfInBounds i true) (a.put oi.dst v) w)
    (hs : Region.noSelect ops = true := by kernel_rfl) (hf : Region.free md ops listed i = true := by kernel_rfl) (hr : (Region.ready md ops listed).contains i = true := by kernel_rfl)
    (hQ : ∀ c a w, Q (.panic c) (a.put oi.dst v) w → Q (.panic c) a w := by exact fun _ _ _ h => h) (hy : Yields P ops oi v a := by exact Or.inl ⟨by rfl, fun u => by go_simp⟩) : wpAny P md ops Q (fuel + 1) listed a w := wpAny_take hi hs hf hr hQ hy h

theorem TL (i : Nat) (v : Value) {oi : Oper} {f : Nat} {listed : Array Bool} {a : Act} {w : World} (hi : ops[i]? = some oi) (hy : YieldsIf P ops S oi v a) (hS : S w) (h : anyL P md ops Q late S f (listed.setIfInBounds i true) (a.put oi.dst v) w)
    (hs : Region.noSelect ops = true := by kernel_rfl) (hf : Region.free md ops listed i = true := by kernel_rfl) (hr : (Region.ready md ops listed).contains i = true := by kernel_rfl) (hw : lateB md ops late listed i = true := by kernel_rfl)
    (hQ : ∀ c a w, Q (.panic c) (a.put oi.dst v) w → Q (.panic c) a w := by exact fun _ _ _ h => h) : anyL P md ops Q late S (f + 1) listed a w := L_take hi hs hf hr hw hQ hy hS h
def lateOf (l : List Nat) (j : Nat) : Bool := l.contains j
end
end LM
section
open Go.RowKit Go.Shelf Go.Deep M
def contK (R C : Nat) : Nat -> (Nat -> Nat) -> List UInt8 -> List UInt8 × Option (Int × Int)
 | 0, V, l => TX.okP (TX.take 10 l) fun l => (l, some (TX.atF R C (V 0) (V 1), TX.atF R C (V 2) (V 3)))
 | m + 1, V, l => TX.okP (if m = 3 then (l, true) else TX.take 32 l) fun l => TX.andP (TX.number l) fun a l => contK R C m (fun i => if i = 3 - m then a else V i) l
theorem contK_cart (R C : Nat) (l : List UInt8) : contK R C 4 (fun _ => 0) l = TX.cartP R C l := rfl
def numA (V : Nat -> Nat) : Array Value := #[.int .i64 (V 0 : Int), .int .i64 (V 1 : Int), .int .i64 (V 2 : Int), .int .i64 (V 3 : Int)]
theorem numA_set {V : Nat -> Nat} {j a : Nat} (hj : j < 4) : numA (fun i => if i = j then a else V i) = (numA V).setIfInBounds j (.int .i64 a) := by
 match j, hj with
 | 0, _ => rfl
 | 1, _ => rfl
 | 2, _ => rfl
 | 3, _ => rfl
theorem results_cell_tmp2 {fn : Func} {p q : Tmp} {ty : TypeId} (h : fn.results = #[.cell p ty, .tmp q]) (tmps : Array Value) (P : Program) (w : World) {b o : Nat} {v : Value} (hp : tmps.getD p undef = .pointer (some ⟨b, o, none⟩)) (hl : (loadVar ty ⟨b, o, none⟩).run P w = .ok v w) :
 (results fn tmps).run P w = .ok (.tuple #[v, tmps.getD q undef]) w := by
 simp only [results, h]; have ha : (asAddr (tmps.getD p undef)).run P w = .ok ⟨b, o, none⟩ w := by rw [hp]; rfl
 simp only [Array.getD_eq_getD_getElem?] at ha ⊢; simp [Sem.run_bind, Result.andThen, ha, hl]
theorem at_eq (R C r q : Nat) : atM (R : Int) (C : Int) (r : Int) (q : Int) = TX.atF R C r q := by
 unfold atM TX.atF rngB; by_cases h : r < R ∧ q < C
 . rw [if_pos (by simp; omega), if_pos h]; simp
 . rw [if_neg (by simp; omega), if_neg h]
theorem load_cart {w : World} {b : Nat} {x y : Value} (h : Box w b #[x, y]) : (loadVar 75 ⟨b, 0, none⟩).run Tryz.prog w = .ok (.agg #[x, y]) w := by
 have c0 : w.cell? ⟨b, 0, none⟩ = some x := h.c 0; have c1 : w.cell? ⟨b, 1, none⟩ = some y := h.c 1; go_simp
theorem load_yard {w : World} {b : Nat} {x0 x1 x2 x3 x4 : Value} (h : Box w b #[x0, x1, x2, x3, x4]) : (loadVar 34 ⟨b, 0, none⟩).run Tryz.prog w = .ok (.agg #[x0, x1, x2, x3, x4]) w := by
 have c0 : w.cell? ⟨b, 0, none⟩ = some x0 := h.c 0; have c1 : w.cell? ⟨b, 1, none⟩ = some x1 := h.c 1; have c2 : w.cell? ⟨b, 2, none⟩ = some x2 := h.c 2; have c3 : w.cell? ⟨b, 3, none⟩ = some x3 := h.c 3; have c4 : w.cell? ⟨b, 4, none⟩ = some x4 := h.c 4; go_simp
theorem numA_at {V : Nat -> Nat} {j : Nat} (hj : j < 4) : (numA V)[j]? = some (.int .i64 (V j : Int)) := by
 match j, hj with
 | 0, _ => rfl
 | 1, _ => rfl
 | 2, _ => rfl
 | 3, _ => rfl
theorem box_new {w : World} (v : Array Value) (t : TypeId) : Box (w.alloc (.cells v t)) w.heap.size v := by
 have h : (w.alloc (.cells v t)).heap[w.heap.size]? = some (.cells v t (0, 0)) := heap_alloc_new w _; exact ⟨fun o => Lib.cell_of_heap h o, fun o => Lib.frozen_of_heap h o, by simp⟩
theorem box_alloc {w : World} {b : Nat} {v : Array Value} (h : Box w b v) (o : Obj) : Box (w.alloc o) b v := h.only ((Only.refl (fun _ => False) w).alloc o) (fun e => e)
theorem box_new3a (w : World) (v : Array Value) (t : TypeId) (o2 o3 : Obj) : Box (((w.alloc (.cells v t)).alloc o2).alloc o3) w.heap.size v := box_alloc (box_alloc (box_new v t) o2) o3
theorem box_new3b (w : World) (o1 : Obj) (v : Array Value) (t : TypeId) (o3 : Obj) : Box (((w.alloc o1).alloc (.cells v t)).alloc o3) (w.heap.size + 1) v := by
 have h := box_alloc (box_new (w := w.alloc o1) v t) o3; simpa using h
theorem box_new3c (w : World) (o1 o2 : Obj) (v : Array Value) (t : TypeId) : Box (((w.alloc o1).alloc o2).alloc (.cells v t)) (w.heap.size + 1 + 1) v := by
 have h := box_new (w := (w.alloc o1).alloc o2) v t; simpa using h
theorem rcart_any (b k R C : Nat) (s cs : ByteArray) (ca : Value) (bu : Int) (w : World) (hs : s.size <= 2000000) (hR : 1 <= R) (hC : 1 <= C) (hRC : R * C <= 2000000) (h : Rd w b s k) :
 Calls Tryz.prog 69 #[.pointer (some ⟨b, 0, none⟩), .agg #[.int .i64 R, .int .i64 C, .string cs, ca, .int .i64 bu]] w fun e w' =>
  ∃ (k' : Nat) (v : Int × Int) (ok : Bool), e = .returned (.tuple #[.agg #[.int .i64 v.1, .int .i64 v.2], .bool ok]) ∧ TX.cartP R C (restS s k) = (restS s k', if ok then some v else none) ∧ Rd w' b s k' ∧ Only (fun x => x = b) w w' := by
 have HR := zx h; have hlb := h.lt; clear h; go_enter Tryz.func69, Tryz.ntmps69; have B3 : Hid (∀ o1 o2 o3, Below w.heap.size w (((w.alloc o1).alloc o2).alloc o3)) := fun o1 o2 o3 => (((Below.refl _ w).alloc zl o1).alloc (by simp) o2).alloc (by simp; omega) o3
 have R3 : Hid (∀ o1 o2 o3, Rd (((w.alloc o1).alloc o2).alloc o3) b s k) := fun o1 o2 o3 => HR.out.below (B3.out o1 o2 o3)
 have Y3 : Hid (Box (((w.alloc (.cells #[.int .i64 R, .int .i64 C, .string cs, ca, .int .i64 bu] 34)).alloc (.cells #[.int .i64 0, .int .i64 0] 75)).alloc (.cells #[.int .i64 0, .int .i64 0, .int .i64 0, .int .i64 0] 162)) w.heap.size #[.int .i64 R, .int .i64 C, .string cs, ca, .int .i64 bu]) := box_new3a w _ _ _ _
 have Z3 : Hid (Box (((w.alloc (.cells #[.int .i64 R, .int .i64 C, .string cs, ca, .int .i64 bu] 34)).alloc (.cells #[.int .i64 0, .int .i64 0] 75)).alloc (.cells #[.int .i64 0, .int .i64 0, .int .i64 0, .int .i64 0] 162)) (w.heap.size + 1) #[.int .i64 0, .int .i64 0]) := box_new3b w _ _ _ _; have N3 : Hid (Box (((w.alloc (.cells #[.int .i64 R, .int .i64 C, .string cs, ca, .int .i64 bu] 34)).alloc (.cells #[.int .i64 0, .int .i64 0] 75)).alloc (.cells #[.int .i64 0, .int .i64 0, .int .i64 0, .int .i64 0] 162)) (w.heap.size + 1 + 1) (numA fun _ => 0)) := box_new3c w _ _ _ _; go_wp2
 go_loopw [12] (fun sj wr => ∃ (j kk : Nat) (V : Nat -> Nat), sj = .int .i64 j ∧ j <= 4 ∧ Rd wr b s kk ∧ Box wr w.heap.size #[.int .i64 R, .int .i64 C, .string cs, ca, .int .i64 bu] ∧ Box wr (w.heap.size + 1) #[.int .i64 0, .int .i64 0] ∧ Box wr (w.heap.size + 1 + 1) (numA V) ∧ Only (fun x => x = b ∨ w.heap.size <= x) w wr ∧ contK R C (4 - j) V (restS s kk) = TX.cartP R C (restS s k)) (fun sj _ => 4 - (intOf sj).toNat)
 case atStart => exact ⟨0, k, fun _ => 0, rfl, by omega, R3.out _ _ _, Y3.out, Z3.out, N3.out, (only_ge (B3.out _ _ _)).mono (fun _ _ h => .inr h), contK_cart R C _⟩
 case round =>
  obtain ⟨j, kk, V, rfl, hj, hr, hy, hz, hn, ho, hm⟩ := hrel; obtain ⟨wo, rfl⟩ : ∃ x, x = wr := ⟨_, rfl⟩
  have RO := zx hr; have YO := zx hy; have ZO := zx hz; have NO := zx hn; have OO := zx ho; have MO := zx hm; clear hr hy hz hn ho hm B3 R3 Y3 Z3 N3; by_cases hj4 : j < 4
  . have e1 : decide (((j : Nat) : Int) < 4) = true := by simp; omega
    have hun : contK R C (4 - j) V (restS s kk) = TX.okP (if j = 0 then (restS s kk, true) else TX.take 32 (restS s kk)) fun l => TX.andP (TX.number l) fun a l => contK R C (4 - (j + 1)) (fun i => if i = j then a else V i) l := by
     obtain ⟨m, hm⟩ : ∃ m, 4 - j = m + 1 := ⟨3 - j, by omega⟩
     rw [hm, show 4 - (j + 1) = m by omega]; show TX.okP (if m = 3 then _ else _) (fun l => TX.andP (TX.number l) fun a l => contK R C m (fun i => if i = 3 - m then a else V i) l) = _; rw [show 3 - m = j by omega]; by_cases h0 : j = 0
     . rw [if_pos h0, if_pos (by omega)]
     . rw [if_neg h0, if_neg (by omega)]
    have UN := zx hun; clear hun; by_cases hj0 : j = 0
    . have e0 : decide ((0 : Int) < ((j : Nat) : Int)) = false := by simp; omega
      have e0n : ¬ 0 < j := by omega
      have K5 : Hid (TX.cartP R C (restS s k) = TX.andP (TX.number (restS s kk)) fun a l => contK R C (4 - (j + 1)) (fun i => if i = j then a else V i) l) := by
       unfold Hid; rw [<- MO.out, UN.out, if_pos hj0]; rfl
      have HJ := zx hj0; clear hj0; go_wp2_with fail; refine (rnumber_any b kk s wo hs RO.out).mono ?_; rintro e w5 ⟨k5, a, ok5, rfl, hn5, ha5, hr5, ho5⟩; have R5 := zx hr5; have Y5 : Hid (Box w5 w.heap.size #[.int .i64 R, .int .i64 C, .string cs, ca, .int .i64 bu]) := YO.out.only ho5 (fun e => by omega); have Z5 : Hid (Box w5 (w.heap.size + 1) #[.int .i64 0, .int .i64 0]) := ZO.out.only ho5 (fun e => by omega); have N5 : Hid (Box w5 (w.heap.size + 1 + 1) (numA V)) := NO.out.only ho5 (fun e => by omega)
      have O5 : Hid (Only (fun x => x = b ∨ w.heap.size <= x) w w5) := OO.out.trans ho5 (fun _ _ h => .inl h); have NU := zx hn5; have HA := zx ha5; clear hr5 ho5 hn5 ha5; cases ok5
      . have K6 : Hid (TX.cartP R C (restS s k) = (restS s k5, none)) := by
         unfold Hid; rw [K5.out, show TX.number (restS s kk) = (restS s k5, none) from NU.out]; rfl
        have z0 := Z5.out.c 0; have z1 := Z5.out.c 1; have f5 := Z5.out.fz; simp only [zA, zB, zC] at z0 z1; go_wp2; refine bodyPost_ret (results_cell_tmp2 Tryz.results69 _ _ _ (b := w.heap.size + 1) (o := 0) rfl (load_cart ((Z5.out.set (i := 0) (x := .int .i64 0) (by simp) rfl).set (i := 1) (x := .int .i64 0) (by simp) rfl))) rfl ⟨k5, (0, 0), false, rfl, K6.out, (R5.out.setOther (by omega)).setOther (by omega), ?_⟩
        exact (Only.setCell (S := fun x => x = b ∨ w.heap.size <= x) (Only.setCell (S := fun x => x = b ∨ w.heap.size <= x) O5.out (p := ⟨w.heap.size + 1, 0, none⟩) (fun _ => .inr (by show w.heap.size <= w.heap.size + 1; omega)) _) (p := ⟨w.heap.size + 1, 1, none⟩) (fun _ => .inr (by show w.heap.size <= w.heap.size + 1; omega)) _).mono (fun i hi h => h.elim id (fun h => absurd h (by omega)))
      . have K6 : Hid (contK R C (4 - (j + 1)) (fun i => if i = j then a else V i) (restS s k5) = TX.cartP R C (restS s k)) := by
         unfold Hid; rw [K5.out, show TX.number (restS s kk) = (restS s k5, some a) from NU.out]; rfl
        have nj := N5.out.c j; have hjn : (numA V)[j]? = some (.int .i64 (V j : Int)) := numA_at hj4; rw [hjn] at nj; have f5 := N5.out.fz; have hjI : (j : Int) < 4 := by omega
        clear hjn; go_wp2; go_round
        case rel =>
         refine ⟨j + 1, k5, fun i => if i = j then a else V i, by go_num, by omega, R5.out.setOther (by omega), ?_, ?_, N5.out.set (i := j) (by exact hj4) (numA_set hj4), ?_, K6.out⟩
         . exact Y5.out.only (Only.setCell (S := fun x => x = w.heap.size + 1 + 1) (Only.refl _ w5) (p := ⟨w.heap.size + 1 + 1, j, none⟩) (fun _ => rfl) _) (fun e => by omega)
         . exact Z5.out.only (Only.setCell (S := fun x => x = w.heap.size + 1 + 1) (Only.refl _ w5) (p := ⟨w.heap.size + 1 + 1, j, none⟩) (fun _ => rfl) _) (fun e => by omega)
         . exact Only.setCell (S := fun x => x = b ∨ w.heap.size <= x) O5.out (p := ⟨w.heap.size + 1 + 1, j, none⟩) (fun _ => .inr (by show w.heap.size <= w.heap.size + 1 + 1; omega)) _
        case measure => simp [intOf]; omega
    . have e0 : decide ((0 : Int) < ((j : Nat) : Int)) = true := by simp; omega
      go_wp2_with fail; refine (take_any b kk s 32 wo hs RO.out).mono ?_; rintro e w4 ⟨k4, rfl, hr4, ht4, ho4⟩; have R4 := zx hr4; have Y4 : Hid (Box w4 w.heap.size #[.int .i64 R, .int .i64 C, .string cs, ca, .int .i64 bu]) := YO.out.only ho4 (fun e => by omega); have Z4 : Hid (Box w4 (w.heap.size + 1) #[.int .i64 0, .int .i64 0]) := ZO.out.only ho4 (fun e => by omega); have N4 : Hid (Box w4 (w.heap.size + 1 + 1) (numA V)) := NO.out.only ho4 (fun e => by omega); have O4 : Hid (Only (fun x => x = b ∨ w.heap.size <= x) w w4) := OO.out.trans ho4 (fun _ _ h => .inl h)
      obtain ⟨tb, htb⟩ : ∃ x, x = (TX.take 32 (restS s kk)).2 := ⟨_, rfl⟩
      have TB := zx htb; rw [<- htb]; clear htb; cases tb
      . have K5 : Hid (TX.cartP R C (restS s k) = (restS s k4, none)) := by
         unfold Hid; rw [<- MO.out, UN.out, if_neg hj0]; unfold TX.okP; rw [<- TB.out, ht4]; rfl
        have z0 := Z4.out.c 0; have z1 := Z4.out.c 1; have f4 := Z4.out.fz; simp only [zA, zB, zC] at z0 z1; clear hr4 ho4 ht4 hj0; go_wp2; refine bodyPost_ret (results_cell_tmp2 Tryz.results69 _ _ _ (b := w.heap.size + 1) (o := 0) rfl (load_cart ((Z4.out.set (i := 0) (x := .int .i64 0) (by simp) rfl).set (i := 1) (x := .int .i64 0) (by simp) rfl))) rfl ⟨k4, (0, 0), false, rfl, K5.out, (R4.out.setOther (by omega)).setOther (by omega), ?_⟩
        exact (Only.setCell (S := fun x => x = b ∨ w.heap.size <= x) (Only.setCell (S := fun x => x = b ∨ w.heap.size <= x) O4.out (p := ⟨w.heap.size + 1, 0, none⟩) (fun _ => .inr (by show w.heap.size <= w.heap.size + 1; omega)) _) (p := ⟨w.heap.size + 1, 1, none⟩) (fun _ => .inr (by show w.heap.size <= w.heap.size + 1; omega)) _).mono (fun i hi h => h.elim id (fun h => absurd h (by omega)))
      . have K5 : Hid (TX.cartP R C (restS s k) = TX.andP (TX.number (restS s k4)) fun a l => contK R C (4 - (j + 1)) (fun i => if i = j then a else V i) l) := by
         unfold Hid; rw [<- MO.out, UN.out, if_neg hj0]; show TX.okP (TX.take 32 (restS s kk)) _ = _; unfold TX.okP; rw [<- TB.out, ht4]; rfl
        clear hr4 ho4 ht4 hj0; go_wp2_with fail; refine (rnumber_any b k4 s w4 hs R4.out).mono ?_; rintro e w5 ⟨k5, a, ok5, rfl, hn5, ha5, hr5, ho5⟩; have R5 := zx hr5; have Y5 : Hid (Box w5 w.heap.size #[.int .i64 R, .int .i64 C, .string cs, ca, .int .i64 bu]) := Y4.out.only ho5 (fun e => by omega); have Z5 : Hid (Box w5 (w.heap.size + 1) #[.int .i64 0, .int .i64 0]) := Z4.out.only ho5 (fun e => by omega); have N5 : Hid (Box w5 (w.heap.size + 1 + 1) (numA V)) := N4.out.only ho5 (fun e => by omega)
        have O5 : Hid (Only (fun x => x = b ∨ w.heap.size <= x) w w5) := O4.out.trans ho5 (fun _ _ h => .inl h); have NU := zx hn5; have HA := zx ha5; clear hr5 ho5 hn5 ha5; cases ok5
        . have K6 : Hid (TX.cartP R C (restS s k) = (restS s k5, none)) := by
           unfold Hid; rw [K5.out, show TX.number (restS s k4) = (restS s k5, none) from NU.out]; rfl
          have z0 := Z5.out.c 0; have z1 := Z5.out.c 1; have f5 := Z5.out.fz; simp only [zA, zB, zC] at z0 z1; go_wp2; refine bodyPost_ret (results_cell_tmp2 Tryz.results69 _ _ _ (b := w.heap.size + 1) (o := 0) rfl (load_cart ((Z5.out.set (i := 0) (x := .int .i64 0) (by simp) rfl).set (i := 1) (x := .int .i64 0) (by simp) rfl))) rfl ⟨k5, (0, 0), false, rfl, K6.out, (R5.out.setOther (by omega)).setOther (by omega), ?_⟩
          exact (Only.setCell (S := fun x => x = b ∨ w.heap.size <= x) (Only.setCell (S := fun x => x = b ∨ w.heap.size <= x) O5.out (p := ⟨w.heap.size + 1, 0, none⟩) (fun _ => .inr (by show w.heap.size <= w.heap.size + 1; omega)) _) (p := ⟨w.heap.size + 1, 1, none⟩) (fun _ => .inr (by show w.heap.size <= w.heap.size + 1; omega)) _).mono (fun i hi h => h.elim id (fun h => absurd h (by omega)))
        . have K6 : Hid (contK R C (4 - (j + 1)) (fun i => if i = j then a else V i) (restS s k5) = TX.cartP R C (restS s k)) := by
           unfold Hid; rw [K5.out, show TX.number (restS s k4) = (restS s k5, some a) from NU.out]; rfl
          have nj := N5.out.c j; have hjn : (numA V)[j]? = some (.int .i64 (V j : Int)) := numA_at hj4; rw [hjn] at nj; have f5 := N5.out.fz; have hjI : (j : Int) < 4 := by omega
          clear hjn; go_wp2; go_round
          case rel =>
           refine ⟨j + 1, k5, fun i => if i = j then a else V i, by go_num, by omega, R5.out.setOther (by omega), ?_, ?_, N5.out.set (i := j) (by exact hj4) (numA_set hj4), ?_, K6.out⟩
           . exact Y5.out.only (Only.setCell (S := fun x => x = w.heap.size + 1 + 1) (Only.refl _ w5) (p := ⟨w.heap.size + 1 + 1, j, none⟩) (fun _ => rfl) _) (fun e => by omega)
           . exact Z5.out.only (Only.setCell (S := fun x => x = w.heap.size + 1 + 1) (Only.refl _ w5) (p := ⟨w.heap.size + 1 + 1, j, none⟩) (fun _ => rfl) _) (fun e => by omega)
           . exact Only.setCell (S := fun x => x = b ∨ w.heap.size <= x) O5.out (p := ⟨w.heap.size + 1 + 1, j, none⟩) (fun _ => .inr (by show w.heap.size <= w.heap.size + 1 + 1; omega)) _
          case measure => simp [intOf]; omega
  . have e1 : decide (((j : Nat) : Int) < 4) = false := by simp; omega
    have hun : TX.cartP R C (restS s k) = TX.okP (TX.take 10 (restS s kk)) fun l => (l, some (TX.atF R C (V 0) (V 1), TX.atF R C (V 2) (V 3))) := by
     rw [<- MO.out, show 4 - j = 0 by omega]; rfl
    have UN := zx hun; clear hun; have GA : Hid (∀ (r q : Nat) (u : World), Calls Tryz.prog 91 #[.agg #[.int .i64 R, .int .i64 C, .string cs, ca, .int .i64 bu], .int .i64 r, .int .i64 q] u fun e w' => e = .returned (.int .i64 (TX.atF R C r q)) ∧ Below u.heap.size u w') := fun r q u => by
     rw [<- at_eq]; have hR2 : R <= 2000000 := Nat.le_trans (Nat.le_mul_of_pos_right R hC) hRC; have hC2 : C <= 2000000 := Nat.le_trans (Nat.le_mul_of_pos_left C hR) hRC
     exact gat_any R C bu r q cs ca u (by omega) (by omega) (by omega) (by omega) (by have : ((R * C : Nat) : Int) = (R : Int) * (C : Int) := by simp
                                                                                      omega)
    have SALL : Hid (∀ u : World, Below wo.heap.size wo u -> (fun u : World => (∀ o, u.cell? ⟨w.heap.size, o, none⟩ = (#[.int .i64 R, .int .i64 C, .string cs, ca, .int .i64 bu] : Array Value)[o]?) ∧ (∀ o, u.cell? ⟨w.heap.size + 1 + 1, o, none⟩ = (numA V)[o]?)) u) := fun u hu => ⟨fun o => (hu.cell (p := ⟨w.heap.size, o, none⟩) YO.out.lt).trans (YO.out.c o), fun o => (hu.cell (p := ⟨w.heap.size + 1 + 1, o, none⟩) NO.out.lt).trans (NO.out.c o)⟩
    have HS := SALL.out wo.drew ((Below.refl _ wo).drew); go_upto_region 12 with fail; go_cut [10, 11] (fun v10 v11 wx => v10 = .int .i64 (TX.atF R C (V 0) (V 1)) ∧ v11 = .int .i64 (TX.atF R C (V 2) (V 3)) ∧ Below wo.heap.size wo wx)
    case first =>
     refine wp_region_any (by kernel_rfl) ?_; change wpAny _ _ _ _ _ _ _ (World.drew _); refine LM.T 1 (.pointer (some ⟨w.heap.size + 1 + 1, 0, none⟩)) rfl ?_; refine LM.T 3 (.pointer (some ⟨w.heap.size + 1 + 1, 1, none⟩)) rfl ?_; refine LM.T 7 (.pointer (some ⟨w.heap.size + 1 + 1, 2, none⟩)) rfl ?_; refine LM.T 9 (.pointer (some ⟨w.heap.size + 1 + 1, 3, none⟩)) rfl ?_
     refine LM.any_of_L (late := LM.lateOf []) (S := (fun u : World => (∀ o, u.cell? ⟨w.heap.size, o, none⟩ = (#[.int .i64 R, .int .i64 C, .string cs, ca, .int .i64 bu] : Array Value)[o]?) ∧ (∀ o, u.cell? ⟨w.heap.size + 1 + 1, o, none⟩ = (numA V)[o]?))) _ _ _ _ ?_; refine LM.TL 0 (.agg #[.int .i64 R, .int .i64 C, .string cs, ca, .int .i64 bu]) rfl (Or.inl ⟨by rfl, fun u hu => by have a0 := hu.1 0; have a1 := hu.1 1; have a2 := hu.1 2; have a3 := hu.1 3; have a4 := hu.1 4; simp only [zA, zB, zC] at a0 a1 a2 a3 a4; go_simp⟩) HS ?_
     refine LM.TL 2 (.int .i64 (V 0 : Int)) rfl (Or.inl ⟨by rfl, fun u hu => by have a0 : u.cell? ⟨w.heap.size + 1 + 1, 0, none⟩ = some (.int .i64 (V 0 : Int)) := hu.2 0; clear hu; go_simp⟩) HS ?_; refine LM.TL 4 (.int .i64 (V 1 : Int)) rfl (Or.inl ⟨by rfl, fun u hu => by have a0 : u.cell? ⟨w.heap.size + 1 + 1, 1, none⟩ = some (.int .i64 (V 1 : Int)) := hu.2 1; clear hu; go_simp⟩) HS ?_
     refine LM.TL 6 (.agg #[.int .i64 R, .int .i64 C, .string cs, ca, .int .i64 bu]) rfl (Or.inl ⟨by rfl, fun u hu => by have a0 := hu.1 0; have a1 := hu.1 1; have a2 := hu.1 2; have a3 := hu.1 3; have a4 := hu.1 4; simp only [zA, zB, zC] at a0 a1 a2 a3 a4; go_simp⟩) HS ?_; refine LM.TL 8 (.int .i64 (V 2 : Int)) rfl (Or.inl ⟨by rfl, fun u hu => by have a0 : u.cell? ⟨w.heap.size + 1 + 1, 2, none⟩ = some (.int .i64 (V 2 : Int)) := hu.2 2; clear hu; go_simp⟩) HS ?_
     refine LM.TL 10 (.int .i64 (V 3 : Int)) rfl (Or.inl ⟨by rfl, fun u hu => by have a0 : u.cell? ⟨w.heap.size + 1 + 1, 3, none⟩ = some (.int .i64 (V 3 : Int)) := hu.2 3; clear hu; go_simp⟩) HS ?_; refine LM.L_one (i := 5) rfl (by kernel_rfl) rfl (fun K hK => ?_); go_simp; refine (GA.out (V 0) (V 1) _).mono ?_; rintro e w7 ⟨rfl, hb7⟩; have B7 : Hid (Below wo.heap.size wo w7) := (Below.refl _ wo).drew.trans hb7
     have HS : (fun u : World => (∀ o, u.cell? ⟨w.heap.size, o, none⟩ = (#[.int .i64 R, .int .i64 C, .string cs, ca, .int .i64 bu] : Array Value)[o]?) ∧ (∀ o, u.cell? ⟨w.heap.size + 1 + 1, o, none⟩ = (numA V)[o]?)) w7 := SALL.out w7 B7.out; have hz7 := B7.out.size; clear hb7; refine hK _ _ HS ?_; clear hK K; refine LM.L_one (i := 11) rfl (by kernel_rfl) rfl (fun K hK => ?_); go_simp; refine (GA.out (V 2) (V 3) _).mono ?_; rintro e w8 ⟨rfl, hb8⟩; have B8 := zx (B7.out.trans (hb8.mono hz7))
     have HS : (fun u : World => (∀ o, u.cell? ⟨w.heap.size, o, none⟩ = (#[.int .i64 R, .int .i64 C, .string cs, ca, .int .i64 bu] : Array Value)[o]?) ∧ (∀ o, u.cell? ⟨w.heap.size + 1 + 1, o, none⟩ = (numA V)[o]?)) w8 := SALL.out w8 B8.out; clear hb8; refine hK _ _ HS ?_; clear hK K; refine LM.TL 12 (.int .i64 (TX.atF R C (V 0) (V 1))) rfl (Or.inl ⟨by rfl, fun u _ => by go_simp⟩) HS ?_; refine LM.TL 13 (.int .i64 (TX.atF R C (V 2) (V 3))) rfl (Or.inl ⟨by rfl, fun u _ => by go_simp⟩) HS ?_; refine LM.L_done (by kernel_rfl) ?_ _; go_wp2; go_meet; case rel => exact ⟨rfl, rfl, B8.out⟩
    case rest =>
     obtain ⟨wx, rfl⟩ : ∃ q, q = wc := ⟨_, rfl⟩
     obtain ⟨rfl, rfl, hbx⟩ := hcut; have RX : Hid (Rd wx b s kk) := RO.out.below hbx; have ZX : Hid (Box wx (w.heap.size + 1) #[.int .i64 0, .int .i64 0]) := ZO.out.only (Only.of_below (S := fun _ => False) hbx) (fun e => e); have OX : Hid (Only (fun x => x = b ∨ w.heap.size <= x) w wx) := OO.out.trans (Only.of_below (S := fun _ => False) hbx) (fun _ _ h => h.elim); clear hbx HS; go_wp2_with fail; refine (take_any b kk s 10 _ hs RX.out).mono ?_; rintro e w4 ⟨k4, rfl, hr4, ht4, ho4⟩; have R4 := zx hr4
     have Z4 : Hid (Box w4 (w.heap.size + 1) #[.int .i64 0, .int .i64 0]) := ZX.out.only ho4 (fun e => by omega); have O4 : Hid (Only (fun x => x = b ∨ w.heap.size <= x) w w4) := OX.out.trans ho4 (fun _ _ h => .inl h); obtain ⟨tb, htb⟩ : ∃ x, x = (TX.take 10 (restS s kk)).2 := ⟨_, rfl⟩
     have K5 : Hid (TX.cartP R C (restS s k) = (restS s k4, if tb then some (TX.atF R C (V 0) (V 1), TX.atF R C (V 2) (V 3)) else none)) := by
      unfold Hid; rw [UN.out]; unfold TX.okP; rw [ht4, <- htb]; cases tb <;> rfl
     rw [<- htb]; clear hr4 ho4 ht4 htb; have z0 := Z4.out.c 0; have z1 := Z4.out.c 1; have f4 := Z4.out.fz; simp only [zA, zB, zC] at z0 z1; go_wp2; refine bodyPost_ret (results_cell_tmp2 Tryz.results69 _ _ _ (b := w.heap.size + 1) (o := 0) rfl (load_cart ((Z4.out.set (i := 0) (by simp) rfl).set (i := 1) (by simp) rfl))) rfl ⟨k4, (TX.atF R C (V 0) (V 1), TX.atF R C (V 2) (V 3)), tb, rfl, K5.out, (R4.out.setOther (by omega)).setOther (by omega), ?_⟩
     exact (Only.setCell (S := fun x => x = b ∨ w.heap.size <= x) (Only.setCell (S := fun x => x = b ∨ w.heap.size <= x) O4.out (p := ⟨w.heap.size + 1, 0, none⟩) (fun _ => .inr (by show w.heap.size <= w.heap.size + 1; omega)) _) (p := ⟨w.heap.size + 1, 1, none⟩) (fun _ => .inr (by show w.heap.size <= w.heap.size + 1; omega)) _).mono (fun i hi h => h.elim id (fun h => absurd h (by omega)))
end
end Go.Proofs.YtnkgpinadgacgaaGreatDoor
