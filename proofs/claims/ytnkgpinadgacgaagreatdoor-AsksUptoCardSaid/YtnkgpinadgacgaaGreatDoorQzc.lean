/- Hb. -/
import Derived.Test.YtnkgpinadgacgaaGreatDoorQzb
set_option maxRecDepth 1000000
set_option maxHeartbeats 8000000
namespace Go.Proofs.YtnkgpinadgacgaaGreatDoor
section
open Go.RowKit M
def growX (st : Nat -> List Nat) (p : List Nat) : Nat -> List (List Nat)
 | 0 => [[]]
 | i + 1 => (growX st p i).flatMap fun q => ((st i).filter fun c => fitB p (q ++ [c]) i).map fun c => q ++ [c]
theorem growX_mem {st : Nat -> List Nat} {p : List Nat} : ∀ {i : Nat} {q : List Nat}, q ∈ growX st p i ↔ q.length = i ∧ ∀ k, k < i -> q.getD k 0 ∈ st k ∧ fitB p q k = true
 | 0, q => by
   simp only [growX, List.mem_singleton]; constructor
   . intro h; subst h; exact ⟨rfl, fun k hk => absurd hk (Nat.not_lt_zero k)⟩
   . intro h; exact List.eq_nil_of_length_eq_zero h.1
 | i + 1, q => by
   simp only [growX, List.mem_flatMap, List.mem_map, List.mem_filter]; constructor
   . rintro ⟨q0, h0, c, ⟨hc, hf⟩, rfl⟩; obtain ⟨hl, hk⟩ := growX_mem.1 h0; refine ⟨by simp [hl], fun k hki => ?_⟩; by_cases e : k = i
     . subst e; rw [<- hl, getD_app_new, hl]; exact ⟨hc, hf⟩
     . have h1 : k < q0.length := by omega
       rw [getD_app_old h1, fitB_app h1]; exact hk k (by omega)
   . rintro ⟨hl, hk⟩; have hne : q ≠ [] := fun e => by rw [e] at hl; simp at hl
     refine ⟨q.dropLast, growX_mem.2 ⟨by rw [List.length_dropLast]; omega, fun k hki => ?_⟩, q.getLast hne, ⟨?_, ?_⟩, List.dropLast_concat_getLast hne⟩
     . have h1 : k < q.dropLast.length := by rw [List.length_dropLast]; omega
       have h2 := hk k (by omega); rw [<- List.dropLast_concat_getLast hne, getD_app_old h1, fitB_app h1] at h2; exact h2
     . have h2 := (hk i (by omega)).1; rw [<- List.dropLast_concat_getLast hne] at h2; have e : i = q.dropLast.length := by rw [List.length_dropLast]; omega
       rw [show ((q.dropLast ++ [q.getLast hne]).getD i 0) = q.getLast hne from by rw [e, getD_app_new]] at h2; exact h2
     . have h2 := (hk i (by omega)).2; rw [<- List.dropLast_concat_getLast hne] at h2; exact h2
theorem growX_len {st : Nat -> List Nat} {p : List Nat} {B : Nat} (h : ∀ c, (st c).length <= B) : ∀ i, (growX st p i).length <= B ^ i
 | 0 => by simp [growX]
 | i + 1 => by
   have ih := growX_len (p := p) h i; simp only [growX, List.length_flatMap]; have : ∀ L : List (List Nat), ((L.map fun q => (((st i).filter fun c => fitB p (q ++ [c]) i).map fun c => q ++ [c]).length).sum) <= L.length * B := by
    intro L; induction L with
    | nil => simp
    | cons q L ihL =>
      simp only [List.map_cons, List.sum_cons, List.length_cons, List.length_map] at ihL ⊢; have h1 := List.length_filter_le (fun c => fitB p (q ++ [c]) i) (st i); have h2 := h i; rw [Nat.add_mul, Nat.one_mul]; omega
   refine Nat.le_trans (this _) ?_; rw [Nat.pow_succ]; exact Nat.mul_le_mul ih zl
def growXM (st : Nat -> List Nat) (p : List Nat) (i : Nat) (q : List Nat) : List (List Nat) := ((st i).filter fun c => fitB p (q ++ [c]) i).map fun c => q ++ [c]
def growXP (st : Nat -> List Nat) (p : List Nat) (i t : Nat) : List (List Nat) := ((growX st p i).take t).flatMap fun q => growXM st p i q
theorem growXP_zero (st : Nat -> List Nat) (p : List Nat) (i : Nat) : growXP st p i 0 = [] := by simp [growXP]
theorem growXP_next {st : Nat -> List Nat} {p : List Nat} {i t : Nat} (ht : t < (growX st p i).length) : growXP st p i (t + 1) = growXP st p i t ++ growXM st p i (growX st p i)[t] := by
 unfold growXP; rw [List.take_succ_eq_append_getElem ht, List.flatMap_append]; simp
theorem growXP_all {st : Nat -> List Nat} {p : List Nat} {i t : Nat} (ht : t = (growX st p i).length) : growXP st p i t = growX st p (i + 1) := by
 subst ht; unfold growXP growXM; rw [List.take_length]; simp [growX]
theorem growX_at {st : Nat -> List Nat} {p : List Nat} {i t : Nat} (ht : t < (growX st p i).length) : (growX st p i)[t].length = i := (growX_mem.1 (List.getElem_mem ht)).1
theorem growXQ_le {st : Nat -> List Nat} {p : List Nat} {i t : Nat} (h : ∀ c, (st c).length <= 36) (hi : i < 4) : (growXP st p i t).length <= 1679616 := by
 have h1 : growX st p (i + 1) = growXP st p i t ++ ((growX st p i).drop t).flatMap fun q => growXM st p i q := by
  rw [<- growXP_all rfl]; unfold growXP; rw [List.take_length, <- List.flatMap_append, List.take_append_drop]
 have h2 := growX_len (p := p) h (i + 1); have h3 : (growXP st p i t).length <= (growX st p (i + 1)).length := by rw [h1, List.length_append]; omega
 have h4 : 36 ^ (i + 1) <= 36 ^ 4 := Nat.pow_le_pow_right (by omega) (by omega); omega
def okB (ub : Nat -> Bool) (x i z : Nat) : Bool := !ub i || z == x
def mayX (co : Int) (cs : ByteArray) (ub : Nat -> Bool) (p : List Nat) (i : Nat) : List Nat := ((List.range cs.size).filter fun z : Nat => mayM co cs (p.getD i 0 : Nat) z).filter fun z => okB ub (p.getD i 0) i z
def rowsX (co : Int) (cs : ByteArray) (ub : Nat -> Bool) (p : List Nat) (i : Nat) (q : List Nat) (c : Nat) : List (List Nat) := ((((List.range c).filter fun z : Nat => mayM co cs (p.getD i 0 : Nat) z).filter fun z => okB ub (p.getD i 0) i z).filter fun z => fitB p (q ++ [z]) i).map fun z => q ++ [z]
theorem rowsX_zero (co : Int) (cs : ByteArray) (ub : Nat -> Bool) (p : List Nat) (i : Nat) (q : List Nat) : rowsX co cs ub p i q 0 = [] := rfl
theorem rowsX_in {co : Int} {cs : ByteArray} {ub : Nat -> Bool} {p : List Nat} {i c : Nat} {q : List Nat} (h1 : mayM co cs (p.getD i 0 : Nat) c = true) (h3 : okB ub (p.getD i 0) i c = true) (h2 : fitB p (q ++ [c]) i = true) : rowsX co cs ub p i q (c + 1) = rowsX co cs ub p i q c ++ [q ++ [c]] := by
 unfold rowsX; generalize p.getD i 0 = x at *; rw [List.range_succ, List.filter_append, List.filter_append, List.filter_append, List.map_append]; simp [h1, h2, h3]
theorem rowsX_out {co : Int} {cs : ByteArray} {ub : Nat -> Bool} {p : List Nat} {i c : Nat} {q : List Nat} (h : mayM co cs (p.getD i 0 : Nat) c = false ∨ okB ub (p.getD i 0) i c = false ∨ fitB p (q ++ [c]) i = false) : rowsX co cs ub p i q (c + 1) = rowsX co cs ub p i q c := by
 unfold rowsX; generalize p.getD i 0 = x at *; rw [List.range_succ, List.filter_append, List.filter_append, List.filter_append, List.map_append]; cases h1 : mayM co cs (x : Nat) c <;> cases h3 : okB ub x i c <;> cases h2 : fitB p (q ++ [c]) i <;> simp [h1, h2, h3] at h ⊢
theorem rowsX_all {co : Int} {cs : ByteArray} {ub : Nat -> Bool} {p : List Nat} {i : Nat} {q : List Nat} : rowsX co cs ub p i q cs.size = growXM (mayX co cs ub p) p i q := rfl
theorem rowsX_le {co : Int} {cs : ByteArray} {ub : Nat -> Bool} {p : List Nat} {i : Nat} {q : List Nat} (c : Nat) : (rowsX co cs ub p i q c).length <= c := by
 unfold rowsX; rw [List.length_map]; refine Nat.le_trans (List.length_filter_le _ _) (Nat.le_trans (List.length_filter_le _ _) (Nat.le_trans (List.length_filter_le _ _) (by simp)))
theorem mayX_le {co : Int} {cs : ByteArray} {ub : Nat -> Bool} {p : List Nat} {B : Nat} (hs : cs.size <= B) (i : Nat) : (mayX co cs ub p i).length <= B := by
 unfold mayX; exact Nat.le_trans (List.length_filter_le _ _) (Nat.le_trans (List.length_filter_le _ _) (by simp; exact hs))
theorem growX_is {co : Int} {cs : ByteArray} {ub : Nat -> Bool} {p q : List Nat} {m : Nat} : q ∈ growX (mayX co cs ub p) p m ↔ q ∈ growL (mayN co cs) p m ∧ ∀ i, i < m -> ub i = true -> q.getD i 0 = p.getD i 0 := by
 rw [growX_mem, growL_mem]; unfold mayX mayN okB; constructor
 . rintro ⟨h1, h2⟩; refine ⟨⟨h1, fun k hk => ?_⟩, fun k hk hu => ?_⟩
   . obtain ⟨h3, h4⟩ := h2 k hk; exact ⟨(List.mem_filter.1 h3).1, h4⟩
   . obtain ⟨h3, _⟩ := h2 k hk; have h5 := (List.mem_filter.1 h3).2; rw [hu] at h5; simpa using h5
 . rintro ⟨⟨h1, h2⟩, h3⟩; refine ⟨h1, fun k hk => ?_⟩; obtain ⟨h4, h5⟩ := h2 k hk; refine ⟨List.mem_filter.2 ⟨h4, ?_⟩, h5⟩; cases hu : ub k
   . rfl
   . simpa using h3 k hk hu
def FixB (ub : Nat -> Bool) (fx : Nat) : Prop := fx < 16 ∧ ∀ i, i < 4 -> fx / 2 ^ i % 2 = if ub i then 1 else 0
theorem run_bits {fx i : Nat} (hf : fx < 16) (hi : i < 4) : bits BinOp.and IntKind.i64 ((fx : Int) / 2 ^ i) 1 = ((fx / 2 ^ i % 2 : Nat) : Int) := by
 have h1 : i = 0 ∨ i = 1 ∨ i = 2 ∨ i = 3 := by omega
 have h2 : fx = 0 ∨ fx = 1 ∨ fx = 2 ∨ fx = 3 ∨ fx = 4 ∨ fx = 5 ∨ fx = 6 ∨ fx = 7 ∨ fx = 8 ∨ fx = 9 ∨ fx = 10 ∨ fx = 11 ∨ fx = 12 ∨ fx = 13 ∨ fx = 14 ∨ fx = 15 := by omega
 rcases h1 with rfl | rfl | rfl | rfl <;> rcases h2 with rfl | rfl | rfl | rfl | rfl | rfl | rfl | rfl | rfl | rfl | rfl | rfl | rfl | rfl | rfl | rfl <;> rfl
theorem rnextF_any (ub : Nat -> Bool) (fx : Nat) (hfx : FixB ub fx) (ro co bu : Int) (cs : ByteArray) (ac : Option Addr) (m cc gf cf gr cr cnt : Nat) (b off cq : Nat) (p : List Nat) (w : World) (hs : cs.size <= 36) (h1 : 1 <= co) (h2 : co <= 6) (hm : m <= 4)
 (hp : ∀ k, k < m -> w.cell? ⟨b, off + k, none⟩ = some (.int .i64 (p.getD k 0 : Nat))) :
 Calls Tryz.prog 59 #[tabV ro co bu cs ac m cc gf cf gr cr cnt, .slice (some ⟨b, off, none⟩) m cq, .int .i64 (fx : Nat)] w fun e w' => ∃ v, e = .returned v ∧ OwnQ w' w.heap.size v (growX (mayX co cs ub p) p m) ∧ Below w.heap.size w w' := by
 have HP := zx hp; have HFX := zx hfx; obtain ⟨S, hS⟩ : ∃ S, S = mayX co cs ub p := ⟨_, rfl⟩
 rw [<- hS]; have HS := zx hS; have HSL : Hid (∀ c, (S c).length <= 36) := fun c => by rw [HS.out]; exact mayX_le hs c
 obtain ⟨F, hF⟩ : ∃ F, F = (frees (frB cs) cs.size).length := ⟨_, rfl⟩
 unfold tabV; rw [<- hF]; clear hp hS hF hfx; go_enter Tryz.func59, Tryz.ntmps59; go_wp2; have B0 : Hid (Below w.heap.size w ((w.alloc (.cells #[.int .i64 ro, .int .i64 co, .string cs, .slice ac m cc, .int .i64 bu, .slice (some ⟨gf, 0, none⟩) F cf, .slice (some ⟨gr, 0, none⟩) cs.size cr, .int .i64 (cnt : Nat)] 79)).alloc (.cells #[.slice none 0 0] 23))) := ((Below.refl _ w).alloc zl _).alloc (by simp) _
 have x0 : ∀ o, ((w.alloc (.cells #[.int .i64 ro, .int .i64 co, .string cs, .slice ac m cc, .int .i64 bu, .slice (some ⟨gf, 0, none⟩) F cf, .slice (some ⟨gr, 0, none⟩) cs.size cr, .int .i64 (cnt : Nat)] 79)).alloc (.cells #[.slice none 0 0] 23)).cell? ⟨w.heap.size, o, none⟩ = #[Value.int .i64 ro, .int .i64 co, .string cs, .slice ac m cc, .int .i64 bu, .slice (some ⟨gf, 0, none⟩) F cf, .slice (some ⟨gr, 0, none⟩) cs.size cr, .int .i64 (cnt : Nat)][o]? := by
  intro o; go_simp
 have L0 : Hid (OwnQ ((w.alloc (.cells #[.int .i64 ro, .int .i64 co, .string cs, .slice ac m cc, .int .i64 bu, .slice (some ⟨gf, 0, none⟩) F cf, .slice (some ⟨gr, 0, none⟩) cs.size cr, .int .i64 (cnt : Nat)] 79)).alloc (.cells #[.slice none 0 0] 23)) (w.heap.size + 1) (.slice (some ⟨w.heap.size + 1, 0, none⟩) 1 1) [[]]) := own_oneQ _ _ (by simp)
 have hz : ((w.alloc (.cells #[.int .i64 ro, .int .i64 co, .string cs, .slice ac m cc, .int .i64 bu, .slice (some ⟨gf, 0, none⟩) F cf, .slice (some ⟨gr, 0, none⟩) cs.size cr, .int .i64 (cnt : Nat)] 79)).alloc (.cells #[.slice none 0 0] 23)).heap.size = w.heap.size + 2 := by simp
 generalize ((w.alloc (.cells #[.int .i64 ro, .int .i64 co, .string cs, .slice ac m cc, .int .i64 bu, .slice (some ⟨gf, 0, none⟩) F cf, .slice (some ⟨gr, 0, none⟩) cs.size cr, .int .i64 (cnt : Nat)] 79)).alloc (.cells #[.slice none 0 0] 23)) = w0 at *; have X0 := zx x0; have HZ := zx hz; clear x0 hz; go_loopw [7, 8] (fun v7 v8 wr => ∃ (i : Nat) (V : Value), i <= m ∧ V = v7 ∧ v8 = .int .i64 i ∧ OwnQ wr (w.heap.size + 1) V (growX S p i) ∧ Below (w.heap.size + 1) w0 wr) (fun _ v8 _ => m - (intOf v8).toNat)
 case atStart => exact ⟨0, _, Nat.zero_le _, rfl, rfl, L0.out, Below.refl _ _⟩
 case round =>
  obtain ⟨w1, rfl⟩ : ∃ q, q = wr := ⟨_, rfl⟩
  obtain ⟨i, V7, hi, rfl, rfl, hl, hbr⟩ := hrel; have HBR := zx hbr; have hzr := hbr.size; have hz := HZ.out; by_cases hlt : i < m
  . obtain ⟨L, hL⟩ : ∃ L, L = growX S p i := ⟨_, rfl⟩
    rw [<- hL] at hl; obtain ⟨a7, cap7, rfl, ha7, hcap7⟩ := hl.form; have HL := zx hl; have HLq := zx hL; have HA7 := zx ha7; have hLen : L.length <= 100000000 := by
     have h1 := growX_len (p := p) HSL.out i; have h2 : 36 ^ i <= 36 ^ 4 := Nat.pow_le_pow_right (by omega) (by omega); rw [hL]; omega
    clear hl hbr hL ha7; go_wp2; go_loopw [9, 10] (fun v9 v10 wr => ∃ (t : Nat) (V : Value), t <= L.length ∧ V = v9 ∧ v10 = .int .i64 t ∧ OwnQ wr w1.heap.size V (growXP S p i t) ∧ Below w1.heap.size w1 wr) (fun _ v10 _ => L.length - (intOf v10).toNat)
    case atStart => exact ⟨0, _, Nat.zero_le _, rfl, rfl, by rw [growXP_zero]; exact OwnQ.nil _ _, Below.refl _ _⟩
    case round =>
     obtain ⟨w2, rfl⟩ : ∃ q, q = wr := ⟨_, rfl⟩
     obtain ⟨t, V9, ht, rfl, rfl, hf9, hbq⟩ := hrel; have HBQ := zx hbq; have hzq := hbq.size; have HF9 := zx hf9; by_cases htl : t < L.length
     . obtain ⟨g7, rfl⟩ := HA7.out (by omega); obtain ⟨q, hq⟩ : ∃ q, q = L.getD t [] := ⟨_, rfl⟩
       have hqi : q.length = i := by
        have hLL := HLq.out; subst hLL; rw [hq, zg, List.getElem?_eq_getElem htl]; exact growX_at htl
       obtain ⟨sa, sc, hsrc, hsq, _⟩ := HL.out.cell htl; rw [<- hq, hqi] at hsrc hsq; have HQ := zx hq; have HQI := zx hqi; have HSQ := zx hsq; have HSRC := zx hsrc; clear hq hqi hf9 hbq hsq hsrc; go_wp2; go_loopw [9, 11] (fun v9 v11 wr => ∃ (c : Nat) (V : Value), c <= cs.size ∧ V = v9 ∧ v11 = .int .i64 c ∧ OwnQ wr w1.heap.size V (growXP S p i t ++ rowsX co cs ub p i q c) ∧ Below w1.heap.size w1 wr) (fun _ v11 _ => cs.size - (intOf v11).toNat)
       case atStart => exact ⟨0, _, Nat.zero_le _, rfl, rfl, by rw [rowsX_zero, List.append_nil]; exact HF9.out, HBQ.out⟩
       case round =>
        obtain ⟨w3, rfl⟩ : ∃ q, q = wr := ⟨_, rfl⟩
        obtain ⟨c, V9, hc, rfl, rfl, hf9, hb3⟩ := hrel; have HF3 := zx hf9; have HB3 := zx hb3; have hz3 := hb3.size; have BF3 := zx (HBR.out.trans (hb3.mono (by omega))); have y0 := (BF3.out.cell (p := ⟨w.heap.size, 0, none⟩) (by show w.heap.size < w.heap.size + 1; omega)).trans (X0.out 0); have y1 := (BF3.out.cell (p := ⟨w.heap.size, 1, none⟩) (by show w.heap.size < w.heap.size + 1; omega)).trans (X0.out 1); have y2 := (BF3.out.cell (p := ⟨w.heap.size, 2, none⟩) (by show w.heap.size < w.heap.size + 1; omega)).trans (X0.out 2)
        have y3 := (BF3.out.cell (p := ⟨w.heap.size, 3, none⟩) (by show w.heap.size < w.heap.size + 1; omega)).trans (X0.out 3); have y4 := (BF3.out.cell (p := ⟨w.heap.size, 4, none⟩) (by show w.heap.size < w.heap.size + 1; omega)).trans (X0.out 4); clear hf9 hb3; by_cases hcl : c < cs.size
        . obtain ⟨pi, hpi⟩ : ∃ v, v = p.getD i 0 := ⟨_, rfl⟩
          have BW3 := zx (B0.out.trans (BF3.out.mono (by omega))); have d0 := zj BW3.out (HP.out i hlt); rw [<- hpi] at d0; have HPI := zx hpi; clear hpi; obtain ⟨mb, hmb⟩ : ∃ mb, mb = mayM co cs (pi : Nat) (c : Nat) := ⟨_, rfl⟩
          have MAY : Hid (∀ u : World, Calls Tryz.prog 86 #[.agg #[.int .i64 ro, .int .i64 co, .string cs, .slice ac m cc, .int .i64 bu], .int .i64 (pi : Nat), .int .i64 (c : Nat)] u fun e w' => e = .returned (.bool mb) ∧ Below u.heap.size u w') := fun u => by
           rw [hmb]; exact may_any ro co bu pi c cs _ u hs h1 h2 (by omega) (by omega)
          have HMB := zx hmb; clear hmb; go_upto_region 12 with fail; go_region_held3 (fun w' => w'.cell? ⟨w.heap.size, 0, none⟩ = some (Value.int .i64 ro) ∧ w'.cell? ⟨w.heap.size, 1, none⟩ = some (.int .i64 co) ∧ w'.cell? ⟨w.heap.size, 2, none⟩ = some (.string cs) ∧ w'.cell? ⟨w.heap.size, 3, none⟩ = some (.slice ac m cc) ∧ w'.cell? ⟨w.heap.size, 4, none⟩ = some (.int .i64 bu) ∧ w'.cell? ⟨b, off + i, none⟩ = some (.int .i64 (pi : Nat))) (go_keep)
           (first
            | (go_at_call 86; refine (MAY.out _).mono ?_; rintro e w4 ⟨rfl, hb4⟩; have HB4 := zx hb4; have p0 : w4.cell? ⟨w.heap.size, 0, none⟩ = some (Value.int .i64 ro) := zj hb4 y0; have p1 : w4.cell? ⟨w.heap.size, 1, none⟩ = some (.int .i64 co) := zj hb4 y1; have p2 : w4.cell? ⟨w.heap.size, 2, none⟩ = some (.string cs) := zj hb4 y2; have p3 : w4.cell? ⟨w.heap.size, 3, none⟩ = some (.slice ac m cc) := zj hb4 y3; have p4 : w4.cell? ⟨w.heap.size, 4, none⟩ = some (.int .i64 bu) := zj hb4 y4; have p5 : w4.cell? ⟨b, off + i, none⟩ = some (.int .i64 (pi : Nat)) := zj hb4 d0; clear hb4)
            )
          have hb34 : Below w3.heap.size w3 w4 := (Below.refl _ w3).drew.trans (by exact HB4.out); have hz4 := hb34.size; have HF4 : Hid (OwnQ w4 w1.heap.size V9 (growXP S p i t ++ rowsX co cs ub p i q c)) := HF3.out.below hb34; have BQ4 := zx (HB3.out.trans (hb34.mono (by omega))); have BW4 := zx (BW3.out.trans (hb34.mono (by have := BW3.out.size; omega))); have s1 : w4.cell? ⟨g7, t, none⟩ = some (.slice sa i sc) := zj BQ4.out HSRC.out; have hg7l : g7 < w4.heap.size := World.block_lt_of_cell? (a := ⟨g7, t, none⟩) w4 s1; have hw14 : w1.heap.size <= w4.heap.size := by omega
          have SRC : Hid (0 < i -> ∃ b, sa = some ⟨b, 0, none⟩ ∧ ∀ j, j < i -> w4.cell? ⟨b, 0 + j, none⟩ = some (.int .i64 (q.getD j 0 : Nat))) := fun h0 => by
           obtain ⟨a2, c2, e2, h2⟩ := HSQ.out.form; obtain ⟨b2, hb2, hc2⟩ := h2 (by rw [HQI.out]; exact h0); refine ⟨b2, by injection e2 with e3 _ _; rw [e3, hb2], fun j hj => ?_⟩; rw [Nat.zero_add]; exact zj BQ4.out (hc2 j (by rw [HQI.out]; exact hj))
          clear hb34 p0 p1 p2 p3 p4 y0 y1 y2 y3 y4 d0; cases mb with
          | false =>
            have hgm2 : Hid (rowsX co cs ub p i q (c + 1) = rowsX co cs ub p i q c) := rowsX_out (.inl (by rw [<- HPI.out]; exact HMB.out.symm)); clear p5 s1; go_wp2; go_roundw; case rel => exact ⟨c + 1, _, by omega, rfl, by go_num, by rw [hgm2.out]; exact HF4.out, BQ4.out⟩
            case measure => simp [intOf]; omega
          | true =>
            have hi4 : i < 4 := by omega
            have hB := run_bits HFX.out.1 hi4; rw [HFX.out.2 i hi4] at hB; obtain ⟨ui, hui⟩ : ∃ ui, ui = ub i := ⟨_, rfl⟩
            have HUI := zx hui; rw [<- hui] at hB; clear hui; cases ui with
            | false =>
              have hB : bits BinOp.and IntKind.i64 ((fx : Int) / 2 ^ i) 1 = 0 := hB; have OKB : Hid (okB ub (p.getD i 0) i c = true) := by unfold Hid okB; rw [<- HUI.out]; rfl
              have B45 : Hid (Below w4.heap.size w4 (w4.alloc (.cells (madeCells #[Value.int .i64 0] (i + 1)) 3))) := (Below.refl _ _).alloc zl _; go_wp2_with (first | (at_make; go_must (refine wpList_make_all _ rfl _ _ 23 rfl 3 _ _ _ Tryz.underlying23 Tryz.infoInt2 _ _ _ _ (i + 1) rfl rfl (by simp) (by simp) (by omega) (by omega) ?_)) | ((refine wpList_copy_rowsS rfl _ _ _ _ rfl 3 Tryz.underlying23 1 Tryz.sizeInt2 _ _ _ _ _ _ rfl rfl 3 (i + 1) (fun _ => .int .i64 0) (zero_row _ _ _ _ rfl) i ?hm ?hmN (fun j => .int .i64 (q.getD j 0 : Nat)) (fun _ => rfl) ?hsrc ?_)))
              case hm => show min i (i + 1) * 1 = i; rw [Nat.min_eq_left (by omega)]; omega
              case hmN => omega
              case hsrc =>
               intro h0; obtain ⟨b2, hb2, hc2⟩ := SRC.out h0; exact ⟨b2, 0, hb2, fun j hj => zj B45.out (hc2 j hj)⟩
              intro w5 hrow hb5 hsz5; have hrow2 : Hid ((w5.setCell ⟨w4.heap.size, i, none⟩ (.int .i64 c)).rowIs w4.heap.size 3 (i + 1) (fun j => .int .i64 ((q ++ [c]).getD j 0 : Nat))) := row_more HQI.out hrow; have z1 := hrow.cell (i := i) (by omega); have z2 := hrow.frozen; have B5 : Below w4.heap.size w4 w5 := B45.out.trans (hb5.mono zl); have B6 : Hid (Below w4.heap.size w4 (w5.setCell ⟨w4.heap.size, i, none⟩ (.int .i64 c))) := B5.setCell zl _; clear hrow hb5 hsz5 B5 p5 s1; go_upto_region 17 with fail; generalize (w5.setCell ⟨w4.heap.size, i, none⟩ (.int .i64 c)) = w6 at *
              have hz6 := B6.out.size; obtain ⟨fb, hfb⟩ : ∃ fb, fb = fitB p (q ++ [c]) i := ⟨_, rfl⟩
              have FIT : Hid (Calls Tryz.prog 87 #[.slice (some ⟨b, off, none⟩) m cq, .slice (some ⟨w4.heap.size, 0, none⟩) (i + 1) (i + 1), .int .i64 (i : Nat)] w6 fun e w' => e = .returned (.bool fb) ∧ Below w6.heap.size w6 w') := by
               rw [hfb]; exact rapart_any p (q ++ [c]) b off m cq w4.heap.size 0 (i + 1) (i + 1) i w6 hlt (by omega) hi4 (fun j hj => zj (BW4.out.trans (B6.out.mono (by have := BW4.out.size; omega))) (HP.out j hj)) (fun j hj => by rw [Nat.zero_add]; exact hrow2.out.cell hj)
              have HFB := zx hfb; clear hfb z1 z2; go_wp2_with fail; refine FIT.out.mono ?_; rintro e w7 ⟨rfl, hb7⟩; have B47 := zx (B6.out.trans (hb7.mono (by omega))); have hz7 := B47.out.size; have OWN7 : Hid (OwnQ w7 w1.heap.size V9 (growXP S p i t ++ rowsX co cs ub p i q c)) := HF4.out.below B47.out; have ROW7 : Hid (RowQ w7 (.slice (some ⟨w4.heap.size, 0, none⟩) (i + 1) (i + 1)) (q ++ [c])) := (rowQ_of (by rw [List.length_append, HQI.out]; rfl) hrow2.out (i + 1)).below hb7
              have D7 : ∀ g, V9.ownBlock = some g -> (Value.slice (some ⟨w4.heap.size, 0, none⟩) (i + 1) (i + 1)).ownBlock ≠ some g := fun g hg hh => by
               have e := Option.some.inj hh; have := (HF4.out.lt g hg).2; simp at e; omega
              have HD7 := zx D7; have HLO7 : Hid (∀ g, (Value.slice (some ⟨w4.heap.size, 0, none⟩) (i + 1) (i + 1)).ownBlock = some g -> w1.heap.size <= g) := fun g hh => by
               have e := Option.some.inj hh; simp at e; omega
              have BQ7 := zx (BQ4.out.trans (B47.out.mono (by omega))); clear D7 hb7; cases fb with
              | true =>
                have FL : Hid ((growXP S p i t ++ rowsX co cs ub p i q c).length <= 100000000) := by
                 have h1 := growXQ_le (p := p) (t := t) HSL.out hi4; have h2 := rowsX_le (co := co) (cs := cs) (ub := ub) (p := p) (i := i) (q := q) c; unfold Hid; rw [List.length_append]; omega
                have hgm2 : Hid (growXP S p i t ++ rowsX co cs ub p i q (c + 1) = (growXP S p i t ++ rowsX co cs ub p i q c) ++ [q ++ [c]]) := by
                 unfold Hid; rw [rowsX_in (by rw [<- HPI.out]; exact HMB.out.symm) OKB.out HFB.out.symm, List.append_assoc]
                go_wp2_with (at_builtin; go_must (refine wpList_pushQ rfl _ _ rfl w1.heap.size V9 (growXP S p i t ++ rowsX co cs ub p i q c) (.slice (some ⟨w4.heap.size, 0, none⟩) (i + 1) (i + 1)) (q ++ [c]) rfl OWN7.out (by exact BQ7.out.size) ROW7.out HD7.out HLO7.out _ rfl FL.out ?_; intro g9 c9 w9 ho9 hon9 hg9))
                go_roundw; case rel =>
                 have el : (growXP S p i t ++ rowsX co cs ub p i q c ++ [q ++ [c]]).length = (growXP S p i t).length + ((rowsX co cs ub p i q c).length + 1) := by simp
                 rw [el] at ho9; refine ⟨c + 1, _, by omega, rfl, by go_num, by rw [hgm2.out]; exact ho9, ?_⟩; refine BQ7.out.trans ⟨hon9.os, hon9.tape, hon9.output, hon9.size, fun k hk => hon9.block k (by have := BQ7.out.size; omega) fun hh => ?_⟩; have := (OWN7.out.lt _ hh).1; omega
                case measure => simp [intOf]; omega
              | false =>
                have hgm2 : Hid (rowsX co cs ub p i q (c + 1) = rowsX co cs ub p i q c) := rowsX_out (.inr (.inr HFB.out.symm)); go_wp2; go_roundw; case rel => exact ⟨c + 1, _, by omega, rfl, by go_num, by rw [hgm2.out]; exact OWN7.out, BQ7.out⟩
                case measure => simp [intOf]; omega
            | true =>
              have hB : bits BinOp.and IntKind.i64 ((fx : Int) / 2 ^ i) 1 = 1 := hB; by_cases hcp : pi = c
              . subst hcp; have OKB : Hid (okB ub (p.getD i 0) i pi = true) := by unfold Hid okB; rw [<- HPI.out]; simp
                have B45 : Hid (Below w4.heap.size w4 (w4.alloc (.cells (madeCells #[Value.int .i64 0] (i + 1)) 3))) := (Below.refl _ _).alloc zl _; go_wp2_with (first | (at_make; go_must (refine wpList_make_all _ rfl _ _ 23 rfl 3 _ _ _ Tryz.underlying23 Tryz.infoInt2 _ _ _ _ (i + 1) rfl rfl (by simp) (by simp) (by omega) (by omega) ?_)) | ((refine wpList_copy_rowsS rfl _ _ _ _ rfl 3 Tryz.underlying23 1 Tryz.sizeInt2 _ _ _ _ _ _ rfl rfl 3 (i + 1) (fun _ => .int .i64 0) (zero_row _ _ _ _ rfl) i ?hm ?hmN (fun j => .int .i64 (q.getD j 0 : Nat)) (fun _ => rfl) ?hsrc ?_)))
                case hsrc =>
                 intro h0; obtain ⟨b2, hb2, hc2⟩ := SRC.out h0; exact ⟨b2, 0, hb2, fun j hj => zj B45.out (hc2 j hj)⟩
                intro w5 hrow hb5 hsz5; have hrow2 : Hid ((w5.setCell ⟨w4.heap.size, i, none⟩ (.int .i64 pi)).rowIs w4.heap.size 3 (i + 1) (fun j => .int .i64 ((q ++ [pi]).getD j 0 : Nat))) := row_more HQI.out hrow; have z1 := hrow.cell (i := i) (by omega); have z2 := hrow.frozen; have B5 : Below w4.heap.size w4 w5 := B45.out.trans (hb5.mono zl); have B6 : Hid (Below w4.heap.size w4 (w5.setCell ⟨w4.heap.size, i, none⟩ (.int .i64 pi))) := B5.setCell zl _; clear hrow hb5 hsz5 B5 p5 s1; go_upto_region 17 with fail; generalize (w5.setCell ⟨w4.heap.size, i, none⟩ (.int .i64 pi)) = w6 at *
                have hz6 := B6.out.size; obtain ⟨fb, hfb⟩ : ∃ fb, fb = fitB p (q ++ [pi]) i := ⟨_, rfl⟩
                have FIT : Hid (Calls Tryz.prog 87 #[.slice (some ⟨b, off, none⟩) m cq, .slice (some ⟨w4.heap.size, 0, none⟩) (i + 1) (i + 1), .int .i64 (i : Nat)] w6 fun e w' => e = .returned (.bool fb) ∧ Below w6.heap.size w6 w') := by
                 rw [hfb]; exact rapart_any p (q ++ [pi]) b off m cq w4.heap.size 0 (i + 1) (i + 1) i w6 hlt (by omega) hi4 (fun j hj => zj (BW4.out.trans (B6.out.mono (by have := BW4.out.size; omega))) (HP.out j hj)) (fun j hj => by rw [Nat.zero_add]; exact hrow2.out.cell hj)
                have HFB := zx hfb; clear hfb z1 z2; go_wp2_with fail; refine FIT.out.mono ?_; rintro e w7 ⟨rfl, hb7⟩; have B47 := zx (B6.out.trans (hb7.mono (by omega))); have hz7 := B47.out.size; have OWN7 : Hid (OwnQ w7 w1.heap.size V9 (growXP S p i t ++ rowsX co cs ub p i q pi)) := HF4.out.below B47.out; have ROW7 : Hid (RowQ w7 (.slice (some ⟨w4.heap.size, 0, none⟩) (i + 1) (i + 1)) (q ++ [pi])) := (rowQ_of (by rw [List.length_append, HQI.out]; rfl) hrow2.out (i + 1)).below hb7
                have D7 : ∀ g, V9.ownBlock = some g -> (Value.slice (some ⟨w4.heap.size, 0, none⟩) (i + 1) (i + 1)).ownBlock ≠ some g := fun g hg hh => by
                 have e := Option.some.inj hh; have := (HF4.out.lt g hg).2; simp at e; omega
                have HD7 := zx D7; have HLO7 : Hid (∀ g, (Value.slice (some ⟨w4.heap.size, 0, none⟩) (i + 1) (i + 1)).ownBlock = some g -> w1.heap.size <= g) := fun g hh => by
                 have e := Option.some.inj hh; simp at e; omega
                have BQ7 := zx (BQ4.out.trans (B47.out.mono (by omega))); clear D7 hb7; cases fb with
                | true =>
                  have FL : Hid ((growXP S p i t ++ rowsX co cs ub p i q pi).length <= 100000000) := by
                   have h1 := growXQ_le (p := p) (t := t) HSL.out hi4; have h2 := rowsX_le (co := co) (cs := cs) (ub := ub) (p := p) (i := i) (q := q) pi; unfold Hid; rw [List.length_append]; omega
                  have hgm2 : Hid (growXP S p i t ++ rowsX co cs ub p i q (pi + 1) = (growXP S p i t ++ rowsX co cs ub p i q pi) ++ [q ++ [pi]]) := by
                   unfold Hid; rw [rowsX_in (by rw [<- HPI.out]; exact HMB.out.symm) OKB.out HFB.out.symm, List.append_assoc]
                  go_wp2_with (at_builtin; go_must (refine wpList_pushQ rfl _ _ rfl w1.heap.size V9 (growXP S p i t ++ rowsX co cs ub p i q pi) (.slice (some ⟨w4.heap.size, 0, none⟩) (i + 1) (i + 1)) (q ++ [pi]) rfl OWN7.out (by exact BQ7.out.size) ROW7.out HD7.out HLO7.out _ rfl FL.out ?_; intro g9 c9 w9 ho9 hon9 hg9))
                  go_roundw; case rel =>
                   have el : (growXP S p i t ++ rowsX co cs ub p i q pi ++ [q ++ [pi]]).length = (growXP S p i t).length + ((rowsX co cs ub p i q pi).length + 1) := by simp
                   rw [el] at ho9; refine ⟨pi + 1, _, by omega, rfl, by go_num, by rw [hgm2.out]; exact ho9, ?_⟩; refine BQ7.out.trans ⟨hon9.os, hon9.tape, hon9.output, hon9.size, fun k hk => hon9.block k (by have := BQ7.out.size; omega) fun hh => ?_⟩; have := (OWN7.out.lt _ hh).1; omega
                  case measure => simp [intOf]; omega
                | false =>
                  have hgm2 : Hid (rowsX co cs ub p i q (pi + 1) = rowsX co cs ub p i q pi) := rowsX_out (.inr (.inr HFB.out.symm)); go_wp2; go_roundw; case rel => exact ⟨pi + 1, _, by omega, rfl, by go_num, by rw [hgm2.out]; exact OWN7.out, BQ7.out⟩
                  case measure => simp [intOf]; omega
              . have hne : ¬ c = pi := fun e => hcp e.symm
                have hneI : ((c : Int) != (pi : Int)) = true := by simp; omega
                have hgm2 : Hid (rowsX co cs ub p i q (c + 1) = rowsX co cs ub p i q c) := rowsX_out (.inr (.inl (by
                 unfold okB; rw [<- HUI.out, <- HPI.out]; simp [hne])))
                clear s1; go_wp2; go_roundw; case rel => exact ⟨c + 1, _, by omega, rfl, by go_num, by rw [hgm2.out]; exact HF4.out, BQ4.out⟩
                case measure => simp [intOf]; omega
        . have hd : c = cs.size := by omega
          have HFN : Hid (OwnQ w3 w1.heap.size V9 (growXP S p i (t + 1))) := by
           have h := HF3.out; have hLL := HLq.out; have hSS := HS.out; subst hLL; rw [hd, rowsX_all, <- hSS, HQ.out, zg, List.getElem?_eq_getElem htl] at h; rw [growXP_next htl]; exact h
          clear y0 y1 y3 y4; go_wp2; go_roundw; case rel => exact ⟨t + 1, _, by omega, rfl, by go_num, HFN.out, HB3.out⟩
          case measure => simp [intOf]; omega
     . have hd : t = L.length := by omega
       have HFN : Hid (OwnQ w2 w1.heap.size V9 (growX S p (i + 1))) := by
        rw [<- growXP_all (t := t) (by rw [hd, HLq.out])]; exact HF9.out
       go_wp2; go_roundw; case rel => exact ⟨i + 1, _, by omega, rfl, by go_num, HFN.out.le (by omega), HBR.out.trans (HBQ.out.mono (by omega))⟩
       case measure => simp [intOf]; omega
  . have hd : i = m := by omega
    subst hd; go_wp2; go_ret; exact ⟨_, rfl, OwnQ.le hl (by omega), B0.out.trans (HBR.out.mono (by omega))⟩
end
end Go.Proofs.YtnkgpinadgacgaaGreatDoor
