/- Ca, Cb, Ck, De. -/
import Derived.Laws.AppendOwnNone
import Derived.Test.YtnkgpinadgacgaaGreatDoorQv
set_option maxRecDepth 1000000
set_option maxHeartbeats 4000000
namespace Go.Proofs.YtnkgpinadgacgaaGreatDoor
section
open Go.RowKit M
namespace M
structure FaultM where
 level : Int
 cart : Int
 other : Int
 at' : Int
end M
def fcell (x : FaultM) : List Value := [.int .i64 x.level, .int .i64 x.cart, .int .i64 x.other, .int .i64 x.at']
def faultCells : List FaultM -> List Value
 | [] => []
 | x :: r => fcell x ++ faultCells r
theorem faultCells_app : ∀ (F G : List FaultM), faultCells (F ++ G) = faultCells F ++ faultCells G
 | [], G => rfl
 | x :: F, G => by simp [faultCells, faultCells_app F G]
theorem faultCells_len : ∀ F : List FaultM, (faultCells F).length = F.length * 4
 | [] => rfl
 | x :: F => by simp [faultCells, fcell, faultCells_len F]; omega
theorem faultCells_at : ∀ {F : List FaultM} {i : Nat} (h : i < F.length), (faultCells F)[i * 4]? = some (.int .i64 F[i].level) ∧ (faultCells F)[i * 4 + 1]? = some (.int .i64 F[i].cart) ∧ (faultCells F)[i * 4 + 2]? = some (.int .i64 F[i].other) ∧ (faultCells F)[i * 4 + 3]? = some (.int .i64 F[i].at')
 | x :: F, 0, _ => by simp [faultCells, fcell]
 | x :: F, i + 1, h => by
   have ih := faultCells_at (F := F) (i := i) (by simpa using h); simp only [faultCells, List.getElem_cons_succ]; rw [List.getElem?_append_right (by simp [fcell]; omega), List.getElem?_append_right (by simp [fcell]; omega), List.getElem?_append_right (by simp [fcell]; omega), List.getElem?_append_right (by simp [fcell]; omega)]; simp only [fcell, List.length_cons, List.length_nil]
   rw [show (i + 1) * 4 - (0 + 1 + 1 + 1 + 1) = i * 4 by omega, show (i + 1) * 4 + 1 - (0 + 1 + 1 + 1 + 1) = i * 4 + 1 by omega, show (i + 1) * 4 + 2 - (0 + 1 + 1 + 1 + 1) = i * 4 + 2 by omega, show (i + 1) * 4 + 3 - (0 + 1 + 1 + 1 + 1) = i * 4 + 3 by omega]; exact ih
theorem fcell_one (x : FaultM) : ∀ u ∈ fcell x, u.oneCell' = true := by
 intro u hu; simp [fcell] at hu
 rcases hu with rfl | rfl | rfl | rfl <;> rfl
theorem faultCells_one : ∀ (F : List FaultM), ∀ u ∈ faultCells F, u.oneCell' = true
 | [], u, hu => by simp [faultCells] at hu
 | x :: F, u, hu => by
   simp only [faultCells, List.mem_append] at hu; rcases hu with h | h
   . exact fcell_one x u h
   . exact faultCells_one F u h
def OwnF (w : World) (base : Nat) (v : Value) (F : List FaultM) : Prop := w.ownsRow base 134 4 v F.length (faultCells F) ∧ (F = [] -> v = .slice none 0 0)
theorem OwnF.nil (w : World) (base : Nat) : OwnF w base (.slice none 0 0) [] := ⟨⟨rfl, .inl ⟨rfl, rfl⟩⟩, fun _ => rfl⟩
theorem OwnF.below {w w' : World} {base : Nat} {v : Value} {F : List FaultM} (h : OwnF w base v F) (hb : Below w.heap.size w w') : OwnF w' base v F := ⟨own_later h.1 hb, h.2⟩
theorem OwnF.le {w : World} {base base' : Nat} {v : Value} {F : List FaultM} (h : OwnF w base v F) (hb : base' <= base) : OwnF w base' v F := ⟨own_le h.1 hb, h.2⟩
def FaultsAt (w : World) (v : Value) (F : List FaultM) : Prop :=
 (F = [] ∧ v = .slice none 0 0) ∨ ∃ g cap, v = .slice (some ⟨g, 0, none⟩) F.length cap ∧ g < w.heap.size ∧ ∀ i, (h : i < F.length) -> w.cell? ⟨g, i * 4, none⟩ = some (.int .i64 F[i].level) ∧ w.cell? ⟨g, i * 4 + 1, none⟩ = some (.int .i64 F[i].cart) ∧ w.cell? ⟨g, i * 4 + 2, none⟩ = some (.int .i64 F[i].other) ∧ w.cell? ⟨g, i * 4 + 3, none⟩ = some (.int .i64 F[i].at')
theorem OwnF.at {w : World} {base : Nat} {v : Value} {F : List FaultM} (h : OwnF w base v F) : FaultsAt w v F := by
 by_cases e : F = []
 . exact .inl ⟨e, h.2 e⟩
 . have hl : 0 < F.length := by cases F with | nil => exact absurd rfl e | cons x F => simp
   rcases h.1.2 with ⟨_, e2⟩ | ⟨g, cap, cur, hv, _, hh, h4, _, h6, h7⟩
   . omega
   . have hgl : g < w.heap.size := by
      by_cases hg : g < w.heap.size
      . exact hg
      . rw [Array.getElem?_eq_none (by omega)] at hh; cases hh
     refine .inr ⟨g, cap, hv, hgl, fun i hi => ?_⟩; obtain ⟨c1, c2, c3, c4⟩ := faultCells_at hi; rw [<- h7, List.getElem?_take, if_pos (by omega), Array.getElem?_toList] at c1 c2 c3 c4; exact ⟨by simpa [World.cell?, hh] using c1, by simpa [World.cell?, hh] using c2, by simpa [World.cell?, hh] using c3, by simpa [World.cell?, hh] using c4⟩
theorem Tryz.infoFault : (Tryz.prog.info? 134).map (fun i => (i.zero, i.size, i.bytes)) = some (some (.agg #[.int .i64 0, .int .i64 0, .int .i64 0, .int .i64 0]), 4, 32) := by kernel_rfl
theorem four_fresh (w : World) (f : FaultM) : ∀ j u, (fcell f)[j]? = some u -> (w.alloc (.cells #[.int .i64 f.level, .int .i64 f.cart, .int .i64 f.other, .int .i64 f.at'] 134)).cell? ((⟨w.heap.size, 0, none⟩ : Addr).add j) = some u := by
 intro j u h; unfold fcell at h; match j, h with
 | 0, h => simp at h; subst h; simp [Addr.add]
 | 1, h => simp at h; subst h; simp [Addr.add]
 | 2, h => simp at h; subst h; simp [Addr.add]
 | 3, h => simp at h; subst h; simp [Addr.add]
 | j + 4, h => simp at h
theorem wpList_pushF {w0 : World} {ops : Array Oper} {rest : List Oper} {o : Oper} {a : Act} {Q : Exit -> Act -> World -> Prop} (hgd : o.guard = none) (s x : Operand)
 (ho : o.op = .call { callee := .builtin .append, args := #[s, x], argTypes := #[87, 87] })
 (base : Nat) (v : Value) (F : List FaultM) (f : FaultM) (hs : a.eval s = v) (hown : OwnF w0 base v F) (hbase : base <= w0.heap.size) (c : Nat)
 (hx : a.eval x = .slice (some ⟨w0.heap.size, 0, none⟩) 1 c) (hF : F.length <= 100000000)
 (h : ∀ v' w', OwnF w' base v' (F ++ [f]) -> Below base w0 w' -> wpList Tryz.prog ops Q rest (a.put o.dst v') w') :
 wpList Tryz.prog ops Q (o :: rest) a (w0.alloc (.cells #[.int .i64 f.level, .int .i64 f.cart, .int .i64 f.other, .int .i64 f.at'] 134)) := by
 obtain ⟨i0, hi0, hi1, hi2, hi3⟩ := info_parts Tryz.infoFault; have hown1 := own_keep (w' := w0.alloc (.cells #[.int .i64 f.level, .int .i64 f.cart, .int .i64 f.other, .int .i64 f.at'] 134)) hown.1 (fun g _ hg _ => Below.heap_alloc _ _ _ hg); refine wpList_append_lies _ hgd s x _ ho base 134 i0 _ 4 32 Tryz.underlying87 hi0 hi1 hi2 hi3 rfl (by omega) v F.length (faultCells F) hs hown1 _ 1 c (fcell f) hx rfl (four_fresh w0 f) (fcell_one f) (by omega) (by unfold maxLen; omega) (by omega) (by simp; omega) (w0.heap.size + 1) (by simp) ?_; intro g cap w' ho9 hg9 _ _; refine h _ w' ⟨?_, fun e => ?_⟩ ?_
 . rw [faultCells_app]; have e1 : (F ++ [f]).length = F.length + 1 := by simp
   have e2 : faultCells [f] = fcell f := by simp [faultCells]
   rw [e1, e2]; exact ho9
 . simp at e
 . exact ((Below.refl base w0).alloc hbase _).grown hg9 (by simp; omega) (fun k hk => (hown1.lt k hk).1)
theorem wpList_catF {w : World} {ops : Array Oper} {rest : List Oper} {o : Oper} {a : Act} {Q : Exit -> Act -> World -> Prop} (hgd : o.guard = none) (s x : Operand)
 (ho : o.op = .call { callee := .builtin .append, args := #[s, x], argTypes := #[87, 87] })
 (base base2 : Nat) (v v2 : Value) (F G : List FaultM) (hs : a.eval s = v) (hown : OwnF w base v F) (hx : a.eval x = v2) (hown2 : OwnF w base2 v2 G) (hbase : base <= w.heap.size) (hF : F.length + G.length <= 100000000)
 (h : ∀ v' w', OwnF w' base v' (F ++ G) -> Below base w w' -> wpList Tryz.prog ops Q rest (a.put o.dst v') w') : wpList Tryz.prog ops Q (o :: rest) a w := by
 obtain ⟨i0, hi0, hi1, hi2, hi3⟩ := info_parts Tryz.infoFault; by_cases e : G = []
 . have e2 := hown2.2 e; subst e; refine wpList_append_own_none hgd s x _ ho base 134 i0 4 Tryz.underlying87 hi0 v F.length (faultCells F) hs hown.1 (by rw [hx, e2]) ?_; exact h v w (by rw [List.append_nil]; exact hown) (Below.refl _ _)
 . have hl : 0 < G.length := by cases G with | nil => exact absurd rfl e | cons x G => simp
   rcases hown2.at with ⟨e1, _⟩ | ⟨g2, cap2, hv2, hgl, hcells⟩
   . exact absurd e1 e
   . refine wpList_append_lies _ hgd s x _ ho base 134 i0 _ 4 32 Tryz.underlying87 hi0 hi1 hi2 hi3 rfl (by omega) v F.length (faultCells F) hs hown.1 ⟨g2, 0, none⟩ G.length cap2 (faultCells G) (by rw [hx, hv2]) (faultCells_len G) ?_ (faultCells_one G) hl (by unfold maxLen; omega) (by omega) hbase _ rfl ?_
     . intro j u hj; have hjl : j < G.length * 4 := by
        rw [<- faultCells_len]; by_cases hq : j < (faultCells G).length
        . exact hq
        . rw [List.getElem?_eq_none (by omega)] at hj; cases hj
       have hq : j / 4 < G.length := by omega
       obtain ⟨c1, c2, c3, c4⟩ := hcells (j / 4) hq; obtain ⟨d1, d2, d3, d4⟩ := faultCells_at hq; have hm : j % 4 = 0 ∨ j % 4 = 1 ∨ j % 4 = 2 ∨ j % 4 = 3 := by omega
       show w.cell? (Addr.add _ _) = _; have ea : (⟨g2, 0, none⟩ : Addr).add j = ⟨g2, j, none⟩ := by simp [Addr.add]; try omega
       rw [ea]; rcases hm with hm | hm | hm | hm
       . rw [show j / 4 * 4 = j by omega] at c1 d1; rw [c1, <- hj, d1]
       . rw [show j / 4 * 4 + 1 = j by omega] at c2 d2; rw [c2, <- hj, d2]
       . rw [show j / 4 * 4 + 2 = j by omega] at c3 d3; rw [c3, <- hj, d3]
       . rw [show j / 4 * 4 + 3 = j by omega] at c4 d4; rw [c4, <- hj, d4]
     . intro g cap w' ho9 hg9 _ _; refine h _ w' ⟨?_, fun e' => ?_⟩ ((Below.refl base w).grown hg9 hbase (fun k hk => (hown.1.lt k hk).1))
       . rw [faultCells_app, List.length_append]; exact ho9
       . simp [e] at e'
def NumsAt (w : World) (a : Option Addr) (n : Nat) (x : Nat -> Int) : Prop := 0 < n -> ∃ b off, a = some ⟨b, off, none⟩ ∧ ∀ j, j < n -> w.cell? ⟨b, off + j, none⟩ = some (.int .i64 (x j))
theorem NumsAt.below {w w' : World} {a : Option Addr} {n : Nat} {x : Nat -> Int} (h : NumsAt w a n x) (hb : Below w.heap.size w w') : NumsAt w' a n x := fun h0 => by
 obtain ⟨b, off, ha, hc⟩ := h h0; exact ⟨b, off, ha, fun j hj => zj hb (hc j hj)⟩
structure PlanM where
 ad : Nat -> Option Addr
 len : Nat -> Nat
 cap : Nat -> Nat
 num : Nat -> Nat -> Int
def PlanIn (w : World) (b off n : Nat) (p : PlanM) : Prop := ∀ i, i < n -> w.cell? ⟨b, off + i, none⟩ = some (.slice (p.ad i) (p.len i) (p.cap i)) ∧ NumsAt w (p.ad i) (p.len i) (p.num i)
theorem PlanIn.below {w w' : World} {b off n : Nat} {p : PlanM} (h : PlanIn w b off n p) (hb : Below w.heap.size w w') : PlanIn w' b off n p := fun i hi => ⟨zj hb (h i hi).1, (h i hi).2.below hb⟩
def PlanAt (w : World) (a : Option Addr) (n : Nat) (p : PlanM) : Prop := 0 < n -> ∃ b off, a = some ⟨b, off, none⟩ ∧ PlanIn w b off n p
theorem PlanAt.below {w w' : World} {a : Option Addr} {n : Nat} {p : PlanM} (h : PlanAt w a n p) (hb : Below w.heap.size w w') : PlanAt w' a n p := fun h0 => by
 obtain ⟨b, off, ha, hc⟩ := h h0; exact ⟨b, off, ha, hc.below hb⟩
namespace M
def posM (n : Nat) (x : Nat -> Int) (t : Nat) : Int := if t < n then x t else x (n - 1)
def pairB (lvl : Nat) (a b c d : Int) : Bool := if lvl = 2 then a == b else (a == d && b == c && !(a == b))
def timesF (lvl i k : Nat) (x y : Nat -> Int) : Nat -> List FaultM
 | 0 => []
 | t + 1 => timesF lvl i k x y t ++ (if pairB lvl (x t) (y t) (x (t + 1)) (y (t + 1)) = true then [⟨lvl, i, k, t⟩] else [])
def spanM (n m : Nat) : Nat := if n = 0 ∨ m = 0 then 0 else max n m
def othersF (lvl i : Nat) (len : Nat -> Nat) (num : Nat -> Nat -> Int) : Nat -> List FaultM
 | 0 => []
 | k + 1 => othersF lvl i len num k ++ (if i < k then timesF lvl i k (posM (len i) (num i)) (posM (len k) (num k)) (spanM (len i) (len k)) else [])
def pairsF (lvl n : Nat) (len : Nat -> Nat) (num : Nat -> Nat -> Int) : Nat -> List FaultM
 | 0 => []
 | i + 1 => pairsF lvl n len num i ++ othersF lvl i len num n
theorem othersF_low {lvl i : Nat} {len : Nat -> Nat} {num : Nat -> Nat -> Int} : ∀ {k : Nat}, k <= i + 1 -> othersF lvl i len num k = []
 | 0, _ => rfl
 | k + 1, h => by
   simp only [othersF]; rw [othersF_low (by omega), if_neg (by omega)]; rfl
theorem othersF_step {lvl i k : Nat} {len : Nat -> Nat} {num : Nat -> Nat -> Int} (h : i < k) : othersF lvl i len num (k + 1) = othersF lvl i len num k ++ timesF lvl i k (posM (len i) (num i)) (posM (len k) (num k)) (spanM (len i) (len k)) := by
 simp only [othersF]; rw [if_pos h]
theorem timesF_len (lvl i k : Nat) (x y : Nat -> Int) : ∀ t, (timesF lvl i k x y t).length <= t
 | 0 => by simp [timesF]
 | t + 1 => by
   have := timesF_len lvl i k x y t; simp only [timesF, List.length_append]; split <;> simp <;> omega
theorem span_le {n m B : Nat} (hn : n <= B) (hm : m <= B) : spanM n m <= B := by
 unfold spanM; split
 . omega
 . exact Nat.max_le.2 ⟨hn, hm⟩
theorem othersF_len {lvl i B m : Nat} {len : Nat -> Nat} {num : Nat -> Nat -> Int} (h : ∀ j, j < m -> len j <= B) (hi : i < m) : ∀ k, k <= m -> (othersF lvl i len num k).length <= k * B
 | 0, _ => by simp [othersF]
 | k + 1, hk => by
   have ih := othersF_len (lvl := lvl) (num := num) h hi k (by omega); have h1 := timesF_len lvl i k (posM (len i) (num i)) (posM (len k) (num k)) (spanM (len i) (len k)); have h2 := span_le (h i hi) (h k (by omega)); have h3 : (k + 1) * B = k * B + B := Nat.succ_mul k B; simp only [othersF, List.length_append]; split
   . omega
   . simp; omega
theorem pairsF_len {lvl B n m : Nat} {len : Nat -> Nat} {num : Nat -> Nat -> Int} (h : ∀ j, j < n -> len j <= B) : ∀ i, i <= n -> (pairsF lvl n len num i).length <= i * (n * B)
 | 0, _ => by simp [pairsF]
 | i + 1, hi => by
   have ih := pairsF_len (lvl := lvl) (num := num) (m := m) h i (by omega); have h1 := othersF_len (lvl := lvl) (num := num) h (show i < n by omega) n zl; have h3 : (i + 1) * (n * B) = i * (n * B) + n * B := Nat.succ_mul i _; simp only [pairsF, List.length_append]; omega
end M
end
section
open Go.RowKit M
theorem rat_any (a : Option Addr) (n cap t : Nat) (x : Nat -> Int) (w : World) (hn : 0 < n) (hm : n <= 1048576) (hx : NumsAt w a n x) :
 Calls Tryz.prog 89 #[.slice a n cap, .int .i64 t] w fun e w' => e = .returned (.int .i64 (posM n x t)) ∧ w' = w := by
 obtain ⟨b, off, rfl, hc⟩ := hx hn; have HC := zx hc; clear hc hx; by_cases h : t < n
 . have c := HC.out t h; have hp : Hid (posM n x t = x t) := by unfold Hid posM; rw [if_pos h]
   have hI : (t : Int) < (n : Int) := by omega
   have hI2 : ¬ (n : Int) <= (t : Int) := by omega
   go_enter Tryz.func89, Tryz.ntmps89; go_wp2; go_ret; exact ⟨ret_int (by rw [hp.out]), rfl⟩
 . obtain ⟨n1, rfl⟩ : ∃ n1, n = n1 + 1 := ⟨n - 1, by omega⟩
   have c := HC.out n1 (by omega); have hp : Hid (posM (n1 + 1) x t = x n1) := by unfold Hid posM; rw [if_neg h, Nat.add_sub_cancel]
   have hI : ((n1 + 1 : Nat) : Int) <= (t : Int) := by omega
   have hv : IntKind.i64.wrap (((n1 + 1 : Nat) : Int) - 1) = (n1 : Int) := by
    rw [show ((n1 + 1 : Nat) : Int) - 1 = (n1 : Int) by omega]; exact wrap_mid (by omega) (by omega)
   have hl : n1 < n1 + 1 := by omega
   have hlI : (n1 : Int) < ((n1 + 1 : Nat) : Int) := by omega
   go_enter Tryz.func89, Tryz.ntmps89; go_wp2; go_ret; exact ⟨ret_int (by rw [hp.out]), rfl⟩
theorem longer_any (a a2 : Option Addr) (n cap n2 cap2 : Nat) (w : World) :
 Calls Tryz.prog 88 #[.slice a n cap, .slice a2 n2 cap2] w fun e w' => e = .returned (.int .i64 (max n n2 : Nat)) ∧ w' = w := by
 go_enter Tryz.func88, Tryz.ntmps88; by_cases h : n2 < n
 . have hI : (n2 : Int) < (n : Int) := by omega
   go_wp2; go_ret; exact ⟨ret_int (by rw [Nat.max_eq_left (by omega)]), rfl⟩
 . have hI : ¬ (n2 : Int) < (n : Int) := by omega
   go_wp2; go_ret; exact ⟨ret_int (by rw [Nat.max_eq_right (by omega)]), rfl⟩
end
section
open Go.RowKit M
theorem Tryz.infoIntList : (Tryz.prog.info? 23).map (fun i => (i.zero, i.size, i.bytes)) = some (some (.slice none 0 0), 1, 24) := by kernel_rfl
def extG (G : Nat -> Nat) (k g : Nat) (j : Nat) : Nat := if j = k then g else G j
theorem extG_at (G : Nat -> Nat) (k g : Nat) : extG G k g k = g := by unfold extG; rw [if_pos rfl]
theorem extG_old {G : Nat -> Nat} {k g j : Nat} (h : j ≠ k) : extG G k g j = G j := by unfold extG; rw [if_neg h]
end
section
open Go.RowKit M
def gndV (ro co : Int) (cs : ByteArray) (G C : Nat -> Nat) (k : Nat) (j : Nat) : Value := if j < k ∧ freeB cs j = true then .slice (some ⟨G j, 0, none⟩) (mvL ro co cs j).length (C j) else .slice none 0 0
structure GroundIn (wr : World) (gm k : Nat) (G C : Nat -> Nat) (ro co : Int) (cs : ByteArray) : Prop where
 row : wr.rowIs gm 23 cs.size (gndV ro co cs G C k)
 lists : ∀ j, j < k -> freeB cs j = true -> ∀ i, i < (mvL ro co cs j).length -> wr.cell? ⟨G j, i, none⟩ = (ints (mvL ro co cs j))[i]?
 low : ∀ j, j < k -> freeB cs j = true -> gm < G j
theorem gnd_nil {w : World} {gm : Nat} {ro co : Int} {cs : ByteArray} (h : w.rowIs gm 23 cs.size (fun _ => .slice none 0 0)) : GroundIn w gm 0 (fun _ => 0) (fun _ => 0) ro co cs := by
 refine ⟨h.congr fun j _ => ?_, fun j hj => absurd hj (Nat.not_lt_zero j), fun j hj => absurd hj (Nat.not_lt_zero j)⟩; unfold gndV; rw [if_neg (fun hh => absurd hh.1 (Nat.not_lt_zero j))]
theorem GroundIn.below {w w' : World} {gm k : Nat} {G C : Nat -> Nat} {ro co : Int} {cs : ByteArray} (h : GroundIn w gm k G C ro co cs) (hb : Below w.heap.size w w') : GroundIn w' gm k G C ro co cs := by
 refine ⟨rowIs_below h.row hb, fun j h1 h2 i hi => ?_, h.low⟩; have hl := h.lists j h1 h2 i hi; have hs : (ints (mvL ro co cs j))[i]? = some ((ints (mvL ro co cs j))[i]'(by simpa [ints] using hi)) := List.getElem?_eq_getElem _; rw [hs] at hl ⊢; exact zj hb hl
theorem GroundIn.setOther {w : World} {gm k b o : Nat} {v : Value} {G C : Nat -> Nat} {ro co : Int} {cs : ByteArray} (h : GroundIn w gm k G C ro co cs) (hb : b < gm) : GroundIn (w.setCell ⟨b, o, none⟩ v) gm k G C ro co cs := by
 refine ⟨h.row.setOther (by show gm ≠ b; omega) _, fun j h1 h2 i hi => ?_, h.low⟩; have hl := h.low j h1 h2; rw [World.cell?_setCell_other _ _ _ _ (by intro hh; have := congrArg Addr.block hh; simp at this; omega)]; exact h.lists j h1 h2 i hi
theorem GroundIn.skip {w : World} {gm k : Nat} {G C : Nat -> Nat} {ro co : Int} {cs : ByteArray} (h : GroundIn w gm k G C ro co cs) (hf : freeB cs k = false) : GroundIn w gm (k + 1) G C ro co cs := by
 have hk : ∀ j, j < k + 1 -> freeB cs j = true -> j < k := fun j hj hfj => by
  by_cases e : j = k
  . rw [e, hf] at hfj; cases hfj
  . omega
 refine ⟨h.row.congr fun j _ => ?_, fun j h1 h2 => h.lists j (hk j h1 h2) h2, fun j h1 h2 => h.low j (hk j h1 h2) h2⟩; unfold gndV; by_cases e : j < k ∧ freeB cs j = true
 . rw [if_pos e, if_pos ⟨by omega, e.2⟩]
 . rw [if_neg e, if_neg (fun hh => e ⟨hk j hh.1 hh.2, hh.2⟩)]
theorem GroundIn.store {w w4 : World} {gm k g c : Nat} {G C : Nat -> Nat} {ro co : Int} {cs : ByteArray} (h : GroundIn w gm k G C ro co cs) (hb : Below w.heap.size w w4) (hf : freeB cs k = true) (hg : w.heap.size <= g)
 (hl : ∀ i, i < (mvL ro co cs k).length -> w4.cell? ⟨g, i, none⟩ = (ints (mvL ro co cs k))[i]?) :
 GroundIn (w4.setCell ⟨gm, k, none⟩ (.slice (some ⟨g, 0, none⟩) (mvL ro co cs k).length c)) gm (k + 1) (extG G k g) (extG C k c) ro co cs := by
 have h4 := h.below hb; have hgl := h.row.lt; refine ⟨(h4.row.set k _).congr fun j _ => ?_, fun j h1 h2 i hi => ?_, fun j h1 h2 => ?_⟩
 . unfold gndV; by_cases e : j = k
   . subst e; rw [if_pos rfl, if_pos ⟨by omega, hf⟩, extG_at, extG_at]
   . rw [if_neg e, extG_old e, extG_old e]; by_cases e2 : j < k ∧ freeB cs j = true
     . rw [if_pos e2, if_pos ⟨by omega, e2.2⟩]
     . rw [if_neg e2, if_neg (fun hh => e2 ⟨by omega, hh.2⟩)]
 . by_cases e : j = k
   . subst e; rw [extG_at, World.cell?_setCell_other _ _ _ _ (by intro hh; cases hh; omega)]; exact hl i hi
   . rw [extG_old e]; have hlo := h.low j (by omega) h2; rw [World.cell?_setCell_other _ _ _ _ (by intro hh; have := congrArg Addr.block hh; simp at this; omega)]; exact h4.lists j (by omega) h2 i hi
 . by_cases e : j = k
   . subst e; rw [extG_at]; omega
   . rw [extG_old e]; exact h.low j (by omega) h2
theorem newGround_any (ro co bu : Int) (cs : ByteArray) (ac : Option Addr) (m cc : Nat) (w : World) (hs : cs.size <= 36) (r1 : 1 <= ro) (r2 : ro <= 6) (h1 : 1 <= co) (h2 : co <= 6) (hsd : SidesIn w) :
 Calls Tryz.prog 75 #[.agg #[.int .i64 ro, .int .i64 co, .string cs, .slice ac m cc, .int .i64 bu]] w fun e w' => ∃ gm G C, e = .returned (.agg #[.int .i64 m, .slice (some ⟨gm, 0, none⟩) cs.size cs.size]) ∧ w.heap.size <= gm ∧ GroundIn w' gm cs.size G C ro co cs ∧ Below w.heap.size w w' := by
 have HSD := zx hsd; obtain ⟨i0, hi0, hi1, hi2, hi3⟩ := info_parts Tryz.infoIntList; have hmk : ∀ u : World, (Instr.makeSlice 39 (.int .i64 (cs.size : Int)) (.int .i64 (cs.size : Int))).run Tryz.prog u = .ok (.slice (some ⟨u.heap.size, 0, none⟩) cs.size cs.size) (u.alloc (.cells (madeCells #[.slice none 0 0] cs.size) 23)) := fun u => by
  have h := run_make (P := Tryz.prog) u 39 23 i0 (.slice none 0 0) Tryz.underlying39 hi0 hi1 .i64 .i64 (cs.size : Int) (cs.size : Int) (by omega) (Int.le_refl _) (by rw [hi3]; omega) (by omega); simpa [hi2, Value.cells] using h
 clear hsd; go_enter Tryz.func75, Tryz.ntmps75; go_upto_region 1 with fail; go_cut [3] (fun v3 wx => ∃ B3 gm, v3 = .pointer (some ⟨B3, 0, none⟩) ∧ B3 ≠ gm ∧ w.heap.size + 2 <= B3 ∧ w.heap.size + 2 <= gm ∧ gm < wx.heap.size ∧ (∀ o, wx.cell? ⟨B3, o, none⟩ = #[Value.int .i64 m, .slice (some ⟨gm, 0, none⟩) cs.size cs.size][o]?) ∧ wx.rowIs gm 23 cs.size (fun _ => .slice none 0 0) ∧
  (∀ o, wx.cell? ⟨w.heap.size, o, none⟩ = #[Value.int .i64 ro, .int .i64 co, .string cs, .slice ac m cc, .int .i64 bu][o]?) ∧ (∀ o, wx.cell? ⟨w.heap.size + 1, o, none⟩ = #[Value.int .i64 0, .slice none 0 0][o]?) ∧ (∀ o, wx.frozen? ⟨w.heap.size + 1, o, none⟩ = false) ∧ Below w.heap.size w wx)
 case first =>
  go_region
  all_goals (go_wp2_with fail)
  all_goals go_meet
  . case rel =>
     refine ⟨w.heap.size + 1 + 1 + 1, w.heap.size + 1 + 1, rfl, by omega, by omega, by omega, by go_simp, fun o => by go_simp, ?_, fun o => by go_simp, fun o => by go_simp, fun o => by go_simp, ?_⟩
     . exact (rowIs_below (nilRow cs.size ((w.alloc (.cells #[.int .i64 ro, .int .i64 co, .string cs, .slice ac m cc, .int .i64 bu] 34)).alloc (.cells #[.int .i64 0, .slice none 0 0] 114)) 23 _ (by simp)) ((Below.refl _ _).alloc zl _)).drew
     . exact (((((Below.refl _ w).alloc zl _).alloc (by simp) _).alloc (by simp; omega) _).alloc (by simp; omega) _).drew
  . case rel =>
     refine ⟨w.heap.size + 1 + 1, w.heap.size + 1 + 1 + 1, rfl, by omega, by omega, by omega, by go_simp, fun o => by go_simp, ?_, fun o => by go_simp, fun o => by go_simp, fun o => by go_simp, ?_⟩
     . exact (nilRow cs.size (((w.alloc (.cells #[.int .i64 ro, .int .i64 co, .string cs, .slice ac m cc, .int .i64 bu] 34)).alloc (.cells #[.int .i64 0, .slice none 0 0] 114)).alloc (.cells #[.int .i64 m, .slice (some ⟨w.heap.size + 1 + 1 + 1, 0, none⟩) cs.size cs.size] 114)) 23 _ (by simp)).drew
     . exact (((((Below.refl _ w).alloc zl _).alloc (by simp) _).alloc (by simp; omega) _).alloc (by simp; omega) _).drew
 case rest =>
  obtain ⟨wx, rfl⟩ : ∃ q, q = wc := ⟨_, rfl⟩
  obtain ⟨B3, gm, rfl, hne, hB3, hgm, hgml, x3, hrow, yc, rc, rf, hbw⟩ := hcut; have H0 := zx (gnd_nil (ro := ro) (co := co) hrow); have HBW := zx hbw; have X3 := zx x3; have YC := zx yc; have RC := zx rc; have RF := zx rf; have hB3l : B3 < wx.heap.size := World.block_lt_of_cell? _ _ (x3 0); have hzx : w.heap.size + 1 < wx.heap.size := World.block_lt_of_cell? _ _ (rc 0); clear hrow hbw rc rf yc hmk; go_wp2; clear x3
  go_loopw [16] (fun v16 wr => ∃ (k : Nat) (G C : Nat -> Nat), k <= cs.size ∧ v16 = .int .i64 k ∧ GroundIn wr gm k G C ro co cs ∧ (∀ o, wr.cell? ⟨B3, o, none⟩ = #[Value.int .i64 m, .slice (some ⟨gm, 0, none⟩) cs.size cs.size][o]?) ∧ Below (w.heap.size + 2) wx wr) (fun v16 _ => cs.size - (intOf v16).toNat)
  case atStart => exact ⟨0, fun _ => 0, fun _ => 0, Nat.zero_le _, rfl, H0.out, X3.out, Below.refl _ _⟩
  case round =>
   obtain ⟨k, G, C, hk, rfl, hg, hb3, hbr⟩ := hrel; have HG := zx hg; have HB3 := zx hb3; have HBR := zx hbr; have hzr := hbr.size; have yr : ∀ o, wr.cell? ⟨w.heap.size, o, none⟩ = #[Value.int .i64 ro, .int .i64 co, .string cs, .slice ac m cc, .int .i64 bu][o]? := fun o => (hbr.cell (p := ⟨w.heap.size, o, none⟩) (by show w.heap.size < w.heap.size + 2; omega)).trans (YC.out o)
   have YR := zx yr; by_cases hlt : k < cs.size
   . clear hg hbr hb3; go_wp2_with fail; refine (gfree_any _ _ _ _ _ _ _ (by unfold maxLen; omega)).mono ?_; rintro e w4 ⟨rfl, hb4⟩; have HB4 := zx hb4; have HG4 := zx (HG.out.below hb4); have hz4 := hb4.size; have b34 := zj hb4 (HB3.out 0); have b35 := zj hb4 (HB3.out 1); have BR4 := zx (HBR.out.trans (hb4.mono (by omega))); have B34 : Hid (∀ o, w4.cell? ⟨B3, o, none⟩ = #[Value.int .i64 m, .slice (some ⟨gm, 0, none⟩) cs.size cs.size][o]?) := fun o => (hb4.cell (p := ⟨B3, o, none⟩) (by show B3 < wr.heap.size; omega)).trans (HB3.out o)
     have y0 := zj hb4 (yr 0); have y1 := zj hb4 (yr 1); have y2 := zj hb4 (yr 2); have y3 := zj hb4 (yr 3); have y4 := zj hb4 (yr 4); have HSD4 : Hid (SidesIn w4) := HSD.out.below (HBW.out.trans (BR4.out.mono (by omega))); have hz1 : w.heap.size < w4.heap.size := by omega
     have hz2 : B3 < w4.heap.size := by omega
     have hz3 : gm < w4.heap.size := by omega
     clear hb4 yr; by_cases hf : freeB cs k = true
     . have hc0 := HG4.out.row.cell (i := k) hlt; have hcf := HG4.out.row.frozen; rw [show gndV ro co cs G C k k = .slice none 0 0 by unfold gndV; rw [if_neg (fun hh => Nat.lt_irrefl k hh.1)]] at hc0; rw [hf]; have n1 : gm ≠ w.heap.size := by omega
       have n2 : w.heap.size ≠ gm := by omega
       have n3 : gm ≠ B3 := fun hh => hne hh.symm
       have n4 : (⟨B3, 1, none⟩ : Addr) ≠ ⟨gm, k, none⟩ := fun hh => hne (congrArg Addr.block hh)
       have n5 : (⟨gm, k, none⟩ : Addr) ≠ ⟨B3, 1, none⟩ := fun hh => n3 (congrArg Addr.block hh)
       have n6 : ∀ o, (⟨gm, k, none⟩ : Addr) ≠ ⟨w.heap.size, o, none⟩ := fun o hh => n1 (congrArg Addr.block hh)
       go_upto_region 6 with fail; go_region_held3 (fun w' => w'.cell? ⟨w.heap.size, 0, none⟩ = some (.int .i64 ro) ∧ w'.cell? ⟨w.heap.size, 1, none⟩ = some (.int .i64 co) ∧ w'.cell? ⟨w.heap.size, 2, none⟩ = some (.string cs) ∧ w'.cell? ⟨w.heap.size, 3, none⟩ = some (.slice ac m cc) ∧ w'.cell? ⟨w.heap.size, 4, none⟩ = some (.int .i64 bu) ∧ w'.cell? ⟨B3, 1, none⟩ = some (.slice (some ⟨gm, 0, none⟩) cs.size cs.size)) (go_keep)
        (first
         | (go_at_call_of 94 (Value.int .i64 k); refine (moves_any ro co bu cs _ k _ (HSD4.out.below (by exact (Below.refl _ _).drew)) r1 r2 h1 h2 (by omega) hs).mono ?_; rintro e w5 ⟨g5, c5, rfl, hg5, ho5, hb5⟩; have HO5 := zx ho5; have HG5 := zx hg5; have HB5 := zx hb5; have q0 : w5.cell? ⟨w.heap.size, 0, none⟩ = some (.int .i64 ro) := (hb5.cell (p := ⟨w.heap.size, 0, none⟩) hz1).trans y0; have q1 : w5.cell? ⟨w.heap.size, 1, none⟩ = some (.int .i64 co) := (hb5.cell (p := ⟨w.heap.size, 1, none⟩) hz1).trans y1; have q2 : w5.cell? ⟨w.heap.size, 2, none⟩ = some (.string cs) := (hb5.cell (p := ⟨w.heap.size, 2, none⟩) hz1).trans y2; have q3 : w5.cell? ⟨w.heap.size, 3, none⟩ = some (.slice ac m cc) := (hb5.cell (p := ⟨w.heap.size, 3, none⟩) hz1).trans y3; have q4 : w5.cell? ⟨w.heap.size, 4, none⟩ = some (.int .i64 bu) := (hb5.cell (p := ⟨w.heap.size, 4, none⟩) hz1).trans y4; have q5 : w5.cell? ⟨B3, 1, none⟩ = some (.slice (some ⟨gm, 0, none⟩) cs.size cs.size) := (hb5.cell (p := ⟨B3, 1, none⟩) hz2).trans b35; have q6 : w5.cell? ⟨gm, k, none⟩ = some (.slice none 0 0) := (hb5.cell (p := ⟨gm, k, none⟩) hz3).trans hc0; have q7 : w5.frozen? ⟨gm, k, none⟩ = false := (hb5.frozen (p := ⟨gm, k, none⟩) hz3).trans (hcf k); clear ho5 hg5 hb5))
       have hb45 : Below w4.heap.size w4 w5 := ((Below.refl _ w4).drew).trans (by exact HB5.out); have HG6 := zx (HG4.out.store (g := g5) (c := c5) hb45 hf (by exact HG5.out) (fun i hi => own_cell HO5.out hi)); have HB6 : Hid (∀ o, (w5.setCell ⟨gm, k, none⟩ (.slice (some ⟨g5, 0, none⟩) (mvL ro co cs k).length c5)).cell? ⟨B3, o, none⟩ = #[Value.int .i64 m, .slice (some ⟨gm, 0, none⟩) cs.size cs.size][o]?) := fun o => by
        rw [World.cell?_setCell_other _ _ _ _ (by intro hh; exact n3 (congrArg Addr.block hh)), hb45.cell (p := ⟨B3, o, none⟩) (by exact hz2)]; exact B34.out o
       have BR6 : Hid (Below (w.heap.size + 2) wx (w5.setCell ⟨gm, k, none⟩ (.slice (some ⟨g5, 0, none⟩) (mvL ro co cs k).length c5))) := (BR4.out.trans (hb45.mono (by omega))).setCell (by exact hgm) _; clear hb45 q0 q1 q2 q3 q4 q5 q6 q7 hc0 hcf; go_wp2; go_roundw; case rel => exact ⟨k + 1, extG G k g5, extG C k c5, by omega, by go_num, HG6.out, HB6.out, BR6.out⟩
       case measure => simp [intOf]; omega
     . rw [show freeB cs k = false by simpa using hf]; go_wp2; go_roundw; case rel => exact ⟨k + 1, G, C, by omega, by go_num, HG4.out.skip (by simpa using hf), B34.out, BR4.out⟩
       case measure => simp [intOf]; omega
   . have hd : k = cs.size := by omega
     subst hd; have b0 := hb3 0; have b1 := hb3 1; have r0 : ∀ o, wr.cell? ⟨w.heap.size + 1, o, none⟩ = #[Value.int .i64 0, .slice none 0 0][o]? := fun o => (hbr.cell (p := ⟨w.heap.size + 1, o, none⟩) (by show w.heap.size + 1 < w.heap.size + 2; omega)).trans (RC.out o)
     have r1 : ∀ o, wr.frozen? ⟨w.heap.size + 1, o, none⟩ = false := fun o => (hbr.frozen (p := ⟨w.heap.size + 1, o, none⟩) (by show w.heap.size + 1 < w.heap.size + 2; omega)).trans (RF.out o)
     clear hg hbr; go_wp2; refine bodyPost_ret (v := .agg #[.int .i64 m, .slice (some ⟨gm, 0, none⟩) cs.size cs.size]) (by simp [results, Tryz.results75]; go_simp) rfl ⟨gm, G, C, rfl, by omega, ?_, ?_⟩
     . exact (HG.out.setOther (by omega)).setOther (by omega)
     . exact ((HBW.out.trans (HBR.out.mono (by omega))).setCell (by show w.heap.size <= w.heap.size + 1; omega) _).setCell (by show w.heap.size <= w.heap.size + 1; omega) _
end
end Go.Proofs.YtnkgpinadgacgaaGreatDoor
