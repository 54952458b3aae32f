/- Walk of the program's Layers: where one cart is in all its paths of one cost. -/
import Derived.Test.YtnkgpinadgacgaaDoorEh
import Derived.Test.YtnkgpinadgacgaaDoorEj
import Derived.Test.YtnkgpinadgacgaaDoorEk
import Derived.Test.YtnkgpinadgacgaaDoorDz
namespace Go.Proofs.YtnkgpinadgacgaaDoor
open Go.RowKit Go.Maps M

/-- The rules, and one more: the cart does not wait at its To at the last instant. -/
def extR (n : Nat) (R : Nat → RuleM) (tt T : Nat) : Nat → RuleM := fun i => if i = n then ⟨1, tt, tt, (T : Int) - 1⟩ else R i

theorem anyB_congr {p q : Nat → Bool} : ∀ {n : Nat}, (∀ i, i < n → p i = q i) → anyB p n = anyB q n
  | 0, _ => rfl
  | n + 1, h => by
    show (anyB p n || p n) = (anyB q n || q n)
    rw [anyB_congr (fun i hi => h i (by omega)), h n (by omega)]

theorem ext_on {n : Nat} {R : Nat → RuleM} {tt T : Nat} {c t : Int} : onM (n + 1) (extR n R tt T) c t = onM n R c t := by
  unfold onM
  congr 1
  show (anyB _ n || brkOn (extR n R tt T n) c t) = _
  rw [anyB_congr (q := fun i => brkOn (R i) c t) (fun i hi => by unfold extR; rw [if_neg (by omega)])]
  unfold extR
  rw [if_pos rfl]
  simp [brkOn]

theorem ext_ways {n : Nat} {R : Nat → RuleM} {tt T : Nat} {a b t : Int} : noWayM (n + 1) (extR n R tt T) a b t = (noWayM n R a b t || (a == tt && b == tt && t == (T : Int) - 1)) := by
  have h := ways_put (k := n) (R := extR n R tt T) (g := fun a c t => noWayM n (extR n R tt T) a c t) (a := a) (c := b) (t := t) (kd := 1) (ce := tt) (ne := tt) (ta := (T : Int) - 1) (by unfold extR; rw [if_pos rfl]) rfl rfl
  rw [← h]
  congr 1
  unfold noWayM
  exact anyB_congr (fun i hi => by unfold extR; rw [if_neg (by omega)])

theorem bans_more {w w' : World} {bs bt N n tt T ns nt : Nat} {R : Nat → RuleM} {F : Int → Int → Bool} {G : Int → Int → Int → Bool} (hns : ns ≤ n * 40) (hnt : nt ≤ n) (hset : SpotSet w bs ns F) (hF : ∀ c : Int, 0 ≤ c → c < N → ∀ t, F c t = !onM n R c t) (hG : ∀ a c t, G a c t = noWayM n R a c t) (hne : bs ≠ bt)
    (hst : StepSet w' bt (nt + 1) (fun a' c' t' => G a' c' t' || (a' == (tt : Int) && c' == (tt : Int) && t' == (T : Int) - 1))) (ho : Only (fun k => k = bt) w w') : BansIn w' bs bt N (n + 1) (extR n R tt T) :=
  ⟨ns, nt + 1, F, _, by omega, by omega, hset.block (ho.block bs hset.lt hne), hst, fun c h0 h1 t => by rw [hF c h0 h1, ext_on], fun a c t => by rw [ext_ways, hG]⟩

theorem wpList_len_cells {w : World} {ops : Array Oper} {rest : List Oper} {o : Oper} {a : Act} {Q : Exit → Act → World → Prop} (hg : o.guard = none) (mo : Operand) (hop : o.op = Op.call { callee := Callee.builtin Builtin.len, args := #[mo], argTypes := #[166] }) (b : Nat) (f : Nat → Bool) (hmo : a.eval mo = .map (some b)) (hown : CellSet w b f)
    (hK : wpList Tryd.prog ops Q rest (a.put o.dst (.int .i64 ((cellsL f).length : Nat))) w) : wpList Tryd.prog ops Q (o :: rest) a w := by
  obtain ⟨D, hD, hk, hf⟩ := hown
  refine wpList_len_own (H := Unit) (w := w) hg mo 166 hop 3 171 Tryd.underlying166 _ b _ D hmo hD ?_
  have h := (keys_perm hD hk hf).length_eq
  obtain ⟨es, rfl, _, _⟩ := hD.entries Tryd.lawInt
  have e : Maps.size (.map es) = (cellsL f).length := by
    rw [Maps.size_eq]
    have h2 : (es.map fun p => Go.intOf p.1).length = (qi (cellsL f)).length := h
    simpa [qi] using h2
  rw [e]; exact hK

/-- Where the cart is at an instant in all its paths of a cost. -/
def layM (co : Int) (cs : ByteArray) (n : Nat) (R : Nat → RuleM) (f tt T t : Nat) : Nat → Bool :=
  keepJ cs.size T tt (fun t => reachM co cs (n + 1) (extR n R tt T) f t) (fun a b t => goesM co cs (n + 1) (extR n R tt T) a b t) (T - t)

/-- What Layers tells: the lists of cells; nothing, if there is no such path. -/
def layO (co : Int) (cs : ByteArray) (n : Nat) (R : Nat → RuleM) (f tt T : Nat) : Option (List (List Nat)) :=
  if settledM tt R n ≤ (T : Int) ∧ (cellsL (layM co cs n R f tt T 0)).length ≠ 0 then some ((List.range (T + 1)).map fun t => cellsL (layM co cs n R f tt T t)) else none

/-- A list of lists of the call's own, each in a block of its own. -/
def ListsOwn (w : World) (base : Nat) (v : Value) (Ls : List (List Nat)) : Prop :=
  ∃ (g : Nat) (A : Nat → Value), v = .slice (some ⟨g, 0, none⟩) Ls.length Ls.length ∧ base ≤ g ∧ w.rowIs g 26 Ls.length A ∧ (∀ t, t < Ls.length → OwnN w base (A t) (Ls.getD t [])) ∧ (∀ t, t < Ls.length → (A t).ownBlock ≠ some g) ∧
    ∀ s t h, s < Ls.length → t < Ls.length → s ≠ t → (A s).ownBlock = some h → (A t).ownBlock ≠ some h

def LayTold (w w' : World) (v : Value) (x : Option (List (List Nat))) : Prop :=
  match x with
  | none => v = .slice none 0 0
  | some Ls => ListsOwn w' w.heap.size v Ls

theorem LaysIn.below_at {w w' : World} {gl n K : Nat} {B : Nat → Nat} {F : Nat → Nat → Bool} (h : LaysIn w gl n B F) (hb : Below K w w') (h1 : ∀ t, t < n → B t < K) (h2 : gl < K) : LaysIn w' gl n B F :=
  ⟨fun t ht => (cell_block (hb.block gl h2)).trans (h.cells t ht), fun t ht => (h.sets t ht).block (hb.block _ (h1 t ht)), h.inj, h.ne⟩

def extA (A : Nat → Value) (k : Nat) (v : Value) : Nat → Value := fun t => if t = k then v else A t
theorem extA_at {A : Nat → Value} {k : Nat} {v : Value} : extA A k v k = v := by unfold extA; rw [if_pos rfl]
theorem extA_ne {A : Nat → Value} {k t : Nat} {v : Value} (h : ¬ t = k) : extA A k v t = A t := by unfold extA; rw [if_neg h]

set_option maxRecDepth 100000 in
set_option maxHeartbeats 16000000 in
theorem layers_any (ro co bu : Int) (cs : ByteArray) (ac : Option Addr) (mc cc f tt T n cap : Nat) (a : Option Addr) (R : Nat → RuleM) (w : World) (hsd : SidesIn w) (r1 : 1 ≤ ro) (r2 : ro ≤ 6) (r3 : 1 ≤ co) (r4 : co ≤ 6) (hs : cs.size ≤ 36) (hsz : (cs.size : Int) = ro * co) (hr : rulesB cs.size n R = true) (hwf : RulesWf n R) (ha : RulesAt w a n R) (hf : freeB cs f = true) (hc : freeB cs tt = true) (hT : T ≤ 60) :
    Calls Tryd.prog 76 #[.agg #[Value.int IntKind.i64 ro, Value.int IntKind.i64 co, Value.string cs, Value.slice ac mc cc, Value.int IntKind.i64 bu], .agg #[.int .i64 (f : Nat), .int .i64 (tt : Nat)], .slice a n cap, .int .i64 (T : Nat)] w fun e w' =>
      ∃ v, e = .returned v ∧ LayTold w w' v (layO co cs n R f tt T) ∧ Below w.heap.size w w' := by
  have HSD := Hid.mk hsd
  have HA := Hid.mk ha
  have HR := Hid.mk hr
  have HWF := Hid.mk hwf
  have HF := Hid.mk hf
  have HC := Hid.mk hc
  have hfs : f < cs.size := free_lt hf
  have hts : tt < cs.size := free_lt hc
  have hb0 : 0 < w.heap.size := World.block_lt_of_cell? _ _ hsd.1
  obtain ⟨S, hS⟩ : ∃ S, S = settledM tt R n := ⟨_, rfl⟩
  have NT : Hid (∀ u : World, RulesAt u a n R → Calls Tryd.prog 115 #[.agg #[Value.int IntKind.i64 ro, Value.int IntKind.i64 co, Value.string cs, Value.slice ac mc cc, Value.int IntKind.i64 bu], .agg #[.int .i64 (f : Nat), .int .i64 (tt : Nat)], .slice a n cap] u fun e w' =>
      ∃ bs bt, e = .returned (.agg #[Value.int IntKind.i64 ro, Value.int IntKind.i64 co, Value.string cs, Value.slice ac mc cc, Value.int IntKind.i64 bu, Value.int IntKind.i64 (f : Nat), Value.int IntKind.i64 (tt : Nat), Value.map (some bs), Value.map (some bt), Value.int IntKind.i64 S]) ∧ u.heap.size ≤ bs ∧ u.heap.size ≤ bt ∧ bs ≠ bt ∧ BansIn w' bs bt cs.size n R ∧ Below u.heap.size u w') := fun u hu => by
    have h := newTrip_two ro co bu f tt cs ac mc cc a n cap R u hs hr hwf hu
    unfold tripV at h
    rw [← hS] at h
    exact h
  have HS := Hid.mk hS
  clear hsd ha hr hwf hf hc hS
  go_enter Tryd.func76, Tryd.ntmps76
  go_upto_region 1 with fail
  have B0 : Hid (Below w.heap.size w ((w.alloc (Obj.cells #[Value.int IntKind.i64 ro, Value.int IntKind.i64 co, Value.string cs, Value.slice ac mc cc, Value.int IntKind.i64 bu] 24)).alloc (Obj.cells #[Value.int IntKind.i64 (f : Nat), Value.int IntKind.i64 (tt : Nat)] 87))) := ((Below.refl _ w).alloc (Nat.le_refl _) _).alloc (by simp) _
  have x0 : ∀ o, ((w.alloc (Obj.cells #[Value.int IntKind.i64 ro, Value.int IntKind.i64 co, Value.string cs, Value.slice ac mc cc, Value.int IntKind.i64 bu] 24)).alloc (Obj.cells #[Value.int IntKind.i64 (f : Nat), Value.int IntKind.i64 (tt : Nat)] 87)).cell? ⟨w.heap.size, o, none⟩ = #[Value.int IntKind.i64 ro, Value.int IntKind.i64 co, Value.string cs, Value.slice ac mc cc, Value.int IntKind.i64 bu][o]? := by
    intro o; go_simp
  have x1 : ∀ o, ((w.alloc (Obj.cells #[Value.int IntKind.i64 ro, Value.int IntKind.i64 co, Value.string cs, Value.slice ac mc cc, Value.int IntKind.i64 bu] 24)).alloc (Obj.cells #[Value.int IntKind.i64 (f : Nat), Value.int IntKind.i64 (tt : Nat)] 87)).cell? ⟨w.heap.size + 1, o, none⟩ = #[Value.int IntKind.i64 (f : Nat), Value.int IntKind.i64 (tt : Nat)][o]? := by
    intro o; go_simp
  have hz : ((w.alloc (Obj.cells #[Value.int IntKind.i64 ro, Value.int IntKind.i64 co, Value.string cs, Value.slice ac mc cc, Value.int IntKind.i64 bu] 24)).alloc (Obj.cells #[Value.int IntKind.i64 (f : Nat), Value.int IntKind.i64 (tt : Nat)] 87)).heap.size = w.heap.size + 2 := by simp
  generalize ((w.alloc (Obj.cells #[Value.int IntKind.i64 ro, Value.int IntKind.i64 co, Value.string cs, Value.slice ac mc cc, Value.int IntKind.i64 bu] 24)).alloc (Obj.cells #[Value.int IntKind.i64 (f : Nat), Value.int IntKind.i64 (tt : Nat)] 87)) = w0 at *
  have hzl : w.heap.size + 2 ≤ w0.heap.size := by omega
  have X1 := Hid.mk x1
  have y0 := x0 0
  have y1 := x0 1
  have y2 := x0 2
  have y3 := x0 3
  have y4 := x0 4
  have c0 := x1 0
  have c1 := x1 1
  clear x0 x1 hz
  go_wp2_with fail
  refine (NT.out _ (HA.out.below B0.out)).mono ?_
  rintro e w2 ⟨bs, bt, rfl, hbs, hbt, hne, hban, hb2⟩
  have HB2 := Hid.mk hb2
  have hz2 := hb2.size
  have HBAN := Hid.mk hban
  have HNE := Hid.mk hne
  have c1' := cell_later hb2 c1
  clear y0 y1 y2 y3 y4 c0 c1 hb2 hban hne
  go_upto_region 2 with fail
  have BT3 : Hid (Below w2.heap.size w2 (w2.alloc (Obj.cells #[Value.int IntKind.i64 ro, Value.int IntKind.i64 co, Value.string cs, Value.slice ac mc cc, Value.int IntKind.i64 bu, Value.int IntKind.i64 (f : Nat), Value.int IntKind.i64 (tt : Nat), Value.map (some bs), Value.map (some bt), Value.int IntKind.i64 S] 156))) := (Below.refl _ _).alloc (Nat.le_refl _) _
  have x3 : ∀ o, (w2.alloc (Obj.cells #[Value.int IntKind.i64 ro, Value.int IntKind.i64 co, Value.string cs, Value.slice ac mc cc, Value.int IntKind.i64 bu, Value.int IntKind.i64 (f : Nat), Value.int IntKind.i64 (tt : Nat), Value.map (some bs), Value.map (some bt), Value.int IntKind.i64 S] 156)).cell? ⟨w2.heap.size, o, none⟩ = #[Value.int IntKind.i64 ro, Value.int IntKind.i64 co, Value.string cs, Value.slice ac mc cc, Value.int IntKind.i64 bu, Value.int IntKind.i64 (f : Nat), Value.int IntKind.i64 (tt : Nat), Value.map (some bs), Value.map (some bt), Value.int IntKind.i64 S][o]? := by
    intro o; go_simp
  have hz3 : (w2.alloc (Obj.cells #[Value.int IntKind.i64 ro, Value.int IntKind.i64 co, Value.string cs, Value.slice ac mc cc, Value.int IntKind.i64 bu, Value.int IntKind.i64 (f : Nat), Value.int IntKind.i64 (tt : Nat), Value.map (some bs), Value.map (some bt), Value.int IntKind.i64 S] 156)).heap.size = w2.heap.size + 1 := by simp
  generalize (w2.alloc (Obj.cells #[Value.int IntKind.i64 ro, Value.int IntKind.i64 co, Value.string cs, Value.slice ac mc cc, Value.int IntKind.i64 bu, Value.int IntKind.i64 (f : Nat), Value.int IntKind.i64 (tt : Nat), Value.map (some bs), Value.map (some bt), Value.int IntKind.i64 S] 156)) = w3 at *
  have hz3a : w2.heap.size + 1 ≤ w3.heap.size := by omega
  have X3 := Hid.mk x3
  have BW3 : Hid (Below w.heap.size w w3) := (B0.out.trans (HB2.out.mono (by omega))).trans (BT3.out.mono (by omega))
  have hbans3 := HBAN.out.below BT3.out
  have hblt := HBAN.out.lt
  have s9 := x3 9
  have c13 := cell_later BT3.out c1'
  clear x3 c1' hz3
  by_cases hST : (T : Int) < S
  · clear c13 hbans3
    go_wp2
    go_ret
    refine ⟨_, rfl, ?_, BW3.out⟩
    unfold layO
    rw [if_neg (fun h => by have := h.1; rw [← HS.out] at this; omega)]
    rfl
  · obtain ⟨ns, nt, F, G, hns, hnt, hset, hste, hF, hG⟩ := hbans3
    have HSET := Hid.mk hset
    have HST := Hid.mk hste
    have HFF := Hid.mk hF
    have HGG := Hid.mk hG
    have s7 := X3.out 7
    have s8 := X3.out 8
    have hwt : IntKind.i64.wrap ((T : Int) - 1) = (T : Int) - 1 := wrap_mid (by omega) (by omega)
    have hn40 := rulesB_len HR.out
    clear hset hste hF hG
    go_wp2_with fail
    refine (banStep_any bs bt nt G tt tt ((T : Int) - 1) w3 HST.out (by omega) (i64B_small (by omega) (by omega)) (i64B_small (by omega) (by omega)) (i64B_small (by omega) (by omega))).mono ?_
    rintro e w4 ⟨rfl, hst4, ho4⟩
    have BN4 : Hid (BansIn w4 bs bt cs.size (n + 1) (extR n R tt T)) := bans_more hns hnt HSET.out HFF.out HGG.out HNE.out hst4 ho4
    have hz4 := ho4.size
    have BW4 : Hid (Below w.heap.size w w4) := BW3.out.trans (ho4.below BW3.out.size (fun i e => by omega))
    have t0 := (ho4.cell (p := ⟨w2.heap.size, 0, none⟩) (by show w2.heap.size < _; omega) (by show ¬ (w2.heap.size = bt); omega)).trans (X3.out 0)
    have t1 := (ho4.cell (p := ⟨w2.heap.size, 1, none⟩) (by show w2.heap.size < _; omega) (by show ¬ (w2.heap.size = bt); omega)).trans (X3.out 1)
    have t2 := (ho4.cell (p := ⟨w2.heap.size, 2, none⟩) (by show w2.heap.size < _; omega) (by show ¬ (w2.heap.size = bt); omega)).trans (X3.out 2)
    have t3 := (ho4.cell (p := ⟨w2.heap.size, 3, none⟩) (by show w2.heap.size < _; omega) (by show ¬ (w2.heap.size = bt); omega)).trans (X3.out 3)
    have t4 := (ho4.cell (p := ⟨w2.heap.size, 4, none⟩) (by show w2.heap.size < _; omega) (by show ¬ (w2.heap.size = bt); omega)).trans (X3.out 4)
    have t5 := (ho4.cell (p := ⟨w2.heap.size, 5, none⟩) (by show w2.heap.size < _; omega) (by show ¬ (w2.heap.size = bt); omega)).trans (X3.out 5)
    have t6 := (ho4.cell (p := ⟨w2.heap.size, 6, none⟩) (by show w2.heap.size < _; omega) (by show ¬ (w2.heap.size = bt); omega)).trans (X3.out 6)
    have t7 := (ho4.cell (p := ⟨w2.heap.size, 7, none⟩) (by show w2.heap.size < _; omega) (by show ¬ (w2.heap.size = bt); omega)).trans (X3.out 7)
    have t8 := (ho4.cell (p := ⟨w2.heap.size, 8, none⟩) (by show w2.heap.size < _; omega) (by show ¬ (w2.heap.size = bt); omega)).trans (X3.out 8)
    have t9 := (ho4.cell (p := ⟨w2.heap.size, 9, none⟩) (by show w2.heap.size < _; omega) (by show ¬ (w2.heap.size = bt); omega)).trans (X3.out 9)
    have X4 : Hid (∀ o, w4.cell? ⟨w2.heap.size, o, none⟩ = #[Value.int IntKind.i64 ro, Value.int IntKind.i64 co, Value.string cs, Value.slice ac mc cc, Value.int IntKind.i64 bu, Value.int IntKind.i64 (f : Nat), Value.int IntKind.i64 (tt : Nat), Value.map (some bs), Value.map (some bt), Value.int IntKind.i64 S][o]?) := fun o => (ho4.cell (p := ⟨w2.heap.size, o, none⟩) (by show w2.heap.size < _; omega) (by show ¬ (w2.heap.size = bt); omega)).trans (X3.out o)
    obtain ⟨nn, hnn⟩ : ∃ nn, nn = T + 1 := ⟨_, rfl⟩
    have REA : Hid (Calls Tryd.prog 120 #[.agg #[Value.int IntKind.i64 ro, Value.int IntKind.i64 co, Value.string cs, Value.slice ac mc cc, Value.int IntKind.i64 bu, Value.int IntKind.i64 (f : Nat), Value.int IntKind.i64 (tt : Nat), Value.map (some bs), Value.map (some bt), Value.int IntKind.i64 S], .int .i64 (T : Nat)] w4 fun e w' =>
      ∃ gl B, e = .returned (.slice (some ⟨gl, 0, none⟩) nn nn) ∧ LaysIn w' gl nn B (fun t => reachM co cs (n + 1) (extR n R tt T) f t) ∧ (∀ t, t < nn → w4.heap.size ≤ B t) ∧ w4.heap.size ≤ gl ∧ Below w4.heap.size w4 w') := by
      have h := reached_lay ro co bu cs ac mc cc (tt : Int) S f bs bt (n + 1) T nn (extR n R tt T) w4 (HSD.out.below BW4.out) r1 r2 r3 r4 hs hsz (by omega) hnn BN4.out HF.out
      unfold tripV at h
      exact h
    have HNN := Hid.mk hnn
    have hn1 : T + 1 ≤ nn := by omega
    have hn2 : nn ≤ T + 1 := by omega
    clear hst4 ho4 s7 s8 s9 c13 hnn
    go_wp2_with fail
    refine REA.out.mono ?_
    rintro e w5 ⟨gl, B, rfl, hla, hlow, hgl, hb5⟩
    have LA5 := Hid.mk hla
    have LOW := Hid.mk hlow
    have hz5 := hb5.size
    have BW5 : Hid (Below w.heap.size w w5) := BW4.out.trans (hb5.mono BW4.out.size)
    have BN5 := Hid.mk (BN4.out.below hb5)
    have u0' := cell_later hb5 t0
    have u1' := cell_later hb5 t1
    have u2' := cell_later hb5 t2
    have u3' := cell_later hb5 t3
    have u4' := cell_later hb5 t4
    have u5' := cell_later hb5 t5
    have u6' := cell_later hb5 t6
    have u7' := cell_later hb5 t7
    have u8' := cell_later hb5 t8
    have u9' := cell_later hb5 t9
    have KEEP : Hid (Calls Tryd.prog 121 #[.agg #[Value.int IntKind.i64 ro, Value.int IntKind.i64 co, Value.string cs, Value.slice ac mc cc, Value.int IntKind.i64 bu, Value.int IntKind.i64 (f : Nat), Value.int IntKind.i64 (tt : Nat), Value.map (some bs), Value.map (some bt), Value.int IntKind.i64 S], .slice (some ⟨gl, 0, none⟩) nn nn] w5 fun e w' =>
      e = .returned (.tuple #[]) ∧ LaysIn w' gl nn B (layM co cs n R f tt T) ∧ Only (fun k => ∃ t, t < nn ∧ k = B t) w5 w') := by
      have h := keep_any ro co bu cs ac mc cc (f : Int) S tt bs bt (n + 1) gl T nn nn (extR n R tt T) B (fun t => reachM co cs (n + 1) (extR n R tt T) f t) w5 (HSD.out.below BW5.out) r1 r2 r3 r4 hs hsz (by omega) HNN.out BN5.out (fun t ht => by have := hlow t ht; omega) LA5.out (fun t z hz => ⟨free_lt (reach_in HF.out hz), reach_in HF.out hz⟩)
      unfold tripV at h
      exact h
    clear hla hlow hb5 t0 t1 t2 t3 t4 t5 t6 t7 t8 t9
    go_wp2_with fail
    refine KEEP.out.mono ?_
    rintro e w6 ⟨rfl, hla6, ho6⟩
    have LA6 := Hid.mk hla6
    have hz6 := ho6.size
    have BW6 : Hid (Below w.heap.size w w6) := BW5.out.trans (ho6.below BW5.out.size (fun i e => by obtain ⟨t, ht, e⟩ := e; have := LOW.out t ht; have := BW4.out.size; omega))
    have d0 := hla6.cells 0 (by omega)
    have HS0 := Hid.mk (hla6.sets 0 (by omega))
    have hn0I : (0 : Int) < (nn : Int) := by omega
    have hn0 : 0 < nn := by omega
    obtain ⟨s, hs0⟩ : ∃ s, s = (cellsL (layM co cs n R f tt T 0)).length := ⟨_, rfl⟩
    have HS00 := Hid.mk hs0
    clear hla6 ho6 u0' u1' u2' u3' u4' u5' u6' u7' u8' u9'
    by_cases hse : s = 0
    · have e' : (((s : Nat) : Int) == 0) = true := by simp [hse]
      have HSE := Hid.mk hse
      clear hse
      go_wp2_with (first
        | (at_len; refine wpList_len_cells rfl _ rfl (B 0) _ rfl HS0.out ?_; rw [← hs0]; clear hs0)
        | go_in)
      go_ret
      refine ⟨_, rfl, ?_, BW6.out⟩
      unfold layO
      rw [if_neg (fun h => h.2 (by rw [← HS00.out]; exact HSE.out))]
      rfl
    · have e' : (((s : Nat) : Int) == 0) = false := by simpa using hse
      have HSE := Hid.mk hse
      clear hse
      go_upto_region 10 with (first
        | (at_len; refine wpList_len_cells rfl _ rfl (B 0) _ rfl HS0.out ?_; rw [← hs0]; clear hs0)
        | (at_make; go_must (refine wpList_make_all _ rfl _ _ 35 rfl 26 _ _ _ Tryd.underlying35 Tryd.infoSl _ _ _ _ nn rfl rfl (by simp) (by simp) (by omega) (by omega) ?_)))
      have ROW7 := Hid.mk (nilRow nn w6 26 w6.heap.size rfl)
      have B67 : Hid (Below w6.heap.size w6 (w6.alloc (Obj.cells (madeCells #[Value.slice none 0 0] nn) 26))) := (Below.refl _ _).alloc (Nat.le_refl _) _
      have hz7 : (w6.alloc (Obj.cells (madeCells #[Value.slice none 0 0] nn) 26)).heap.size = w6.heap.size + 1 := by simp
      generalize (w6.alloc (Obj.cells (madeCells #[Value.slice none 0 0] nn) 26)) = w7 at *
      have LA7 := Hid.mk (LA6.out.below B67.out)
      have hz7a : w6.heap.size + 1 ≤ w7.heap.size := by omega
      obtain ⟨LM, hLM⟩ : ∃ LM, LM = layM co cs n R f tt T := ⟨_, rfl⟩
      rw [← hLM] at LA7
      have HLM := Hid.mk hLM
      clear hz7 hLM d0
      go_wp2
      go_loopw [48] (fun v48 wr => ∃ (k : Nat) (A : Nat → Value), v48 = .int .i64 k ∧ k ≤ nn ∧ wr.rowIs w6.heap.size 26 nn (fun t => if t < k then A t else .slice none 0 0) ∧ (∀ t, t < k → OwnN wr w7.heap.size (A t) (cellsL (LM t))) ∧ (∀ s t h, s < k → t < k → s ≠ t → (A s).ownBlock = some h → (A t).ownBlock ≠ some h) ∧ Below w6.heap.size w7 wr) (fun v48 _ => nn - (intOf v48).toNat)
      case atStart => exact ⟨0, fun _ => .slice none 0 0, rfl, Nat.zero_le _, ROW7.out.congr (fun i _ => by rw [if_neg (by omega)]), fun t ht => absurd ht (Nat.not_lt_zero t), fun s t h hs => absurd hs (Nat.not_lt_zero s), Below.refl _ _⟩
      case round =>
        obtain ⟨w8, rfl⟩ : ∃ q, q = wr := ⟨_, rfl⟩
        obtain ⟨k, A, rfl, hk, hrow, hown, hdis, hb8⟩ := hrel
        have ROW8 := Hid.mk hrow
        have OWN8 := Hid.mk hown
        have DIS8 := Hid.mk hdis
        have B8 := Hid.mk hb8
        have hz8 := hb8.size
        have LA8 : Hid (LaysIn w8 gl nn B LM) := LA7.out.below_at hb8 (fun t ht => (LA6.out.sets t ht).lt) (LA6.out.lt (by omega))
        have BW8 : Hid (Below w.heap.size w w8) := (BW6.out.trans (B67.out.mono BW6.out.size)).trans (hb8.mono BW6.out.size)
        clear hrow hown hdis hb8
        by_cases hlt : k < nn
        · have dk := LA8.out.cells k hlt
          have SK := Hid.mk (LA8.out.sets k hlt)
          have hkI : ((k : Nat) : Int) < (nn : Int) := by omega
          go_upto_region 13 with fail
          go_wp2_with fail
          refine (Tryd.keys_calls _ _).mono ?_
          rintro e w9 ⟨rfl, rfl⟩
          go_wp2_with fail
          refine (sorted_cells (B k) (LM k) w8 SK.out).mono ?_
          rintro e w9 ⟨v, rfl, hov, hb9⟩
          obtain ⟨av, cv, rfl, hav, _⟩ := hov.form
          have hb89 : Below w8.heap.size w8 w9 := ((Below.refl _ w8).alloc (Nat.le_refl _) _).trans hb9
          have HOV := Hid.mk hov
          have B89 := Hid.mk hb89
          have hz9 := hb89.size
          have ROW9 := Hid.mk (rowIs_below ROW8.out hb89)
          have rc := ROW9.out.cell (i := k) hlt
          rw [if_neg (by omega)] at rc
          have rf := ROW9.out.frozen
          clear hov hb9 hb89 dk hav
          go_wp2
          go_roundw
          case rel =>
            refine ⟨k + 1, extA A k (.slice av (cellsL (LM k)).length cv), by go_num, by omega, (ROW9.out.set k _).congr (fun i hi => ?_), fun t ht => ?_, fun s t h hs ht hst hsb => ?_, (B8.out.trans (B89.out.mono (by omega))).setCell (p := ⟨w6.heap.size, k, none⟩) (Nat.le_refl _) _⟩
            · by_cases e : i = k
              · rw [if_pos e, if_pos (by omega), e, extA_at]
              · rw [if_neg e]
                by_cases e2 : i < k
                · rw [if_pos e2, if_pos (by omega), extA_ne e]
                · rw [if_neg e2, if_neg (by omega)]
            · refine own_keep (w := w9) ?_ fun g hg _ _ => Below.heap_setCell w9 ⟨w6.heap.size, k, none⟩ _ g (by show g ≠ w6.heap.size; omega)
              by_cases e : t = k
              · rw [e, extA_at]
                exact OwnN.le HOV.out (by omega)
              · rw [extA_ne e]
                exact (OWN8.out t (by omega)).below B89.out
            · by_cases e1 : s = k <;> by_cases e2 : t = k
              · omega
              · rw [e1, extA_at] at hsb
                rw [extA_ne e2]
                intro hh
                have h1 := (HOV.out.lt h hsb).1
                have h2 := ((OWN8.out t (by omega)).lt h hh).2
                omega
              · rw [extA_ne e1] at hsb
                rw [e2, extA_at]
                intro hh
                have h1 := (HOV.out.lt h hh).1
                have h2 := ((OWN8.out s (by omega)).lt h hsb).2
                omega
              · rw [extA_ne e1] at hsb
                rw [extA_ne e2]
                exact DIS8.out s t h (by omega) (by omega) hst hsb
          case measure => simp [intOf]; omega
        · have hd : k = nn := by omega
          subst hd
          go_wp2
          go_ret
          refine ⟨_, rfl, ?_, BW8.out⟩
          have hkT : k = T + 1 := HNN.out
          have e : layO co cs n R f tt T = some ((List.range (T + 1)).map fun t => cellsL (LM t)) := by
            unfold layO
            rw [if_pos ⟨by rw [← HS.out]; omega, by rw [← HS00.out]; exact HSE.out⟩, HLM.out]
          rw [e]
          have hlen : ((List.range (T + 1)).map fun t => cellsL (LM t)).length = k := by simp [hkT]
          show ListsOwn w8 w.heap.size _ _
          refine ⟨w6.heap.size, A, by rw [hlen]; rfl, by have := BW6.out.size; omega, by rw [hlen]; exact ROW8.out.congr (fun i hi => by rw [if_pos hi]), fun t ht => ?_, fun t ht hh => ?_, fun s t h hs ht hst hsb => DIS8.out s t h (by omega) (by omega) hst hsb⟩
          · rw [hlen] at ht
            rw [List.getD_eq_getElem?_getD, List.getElem?_map, List.getElem?_range (by omega)]
            exact OwnN.le (OWN8.out t ht) (by have := BW6.out.size; omega)
          · rw [hlen] at ht
            have := ((OWN8.out t ht).lt _ hh).1
            omega

end Go.Proofs.YtnkgpinadgacgaaDoor
