/- Walk of search: one cart's least path under rules. -/
import Derived.Test.YtnkgpinadgacgaaDoorBl
namespace Go.Proofs.YtnkgpinadgacgaaDoor
open Go.RowKit M

set_option maxRecDepth 1000000 in
set_option maxHeartbeats 16000000 in
theorem search_any (ro co bu : Int) (cs : ByteArray) (ac : Option Addr) (mc cc f c bs bt n gf : Nat) (R : Nat → RuleM) (st : Nat → Int) (w : World) (hsd : SidesIn w) (r1 : 1 ≤ ro) (r2 : ro ≤ 6) (r3 : 1 ≤ co) (r4 : co ≤ 6) (hsz : (cs.size : Int) = ro * co) (hs : cs.size ≤ 36) (hr : rulesB cs.size n R = true) (hf : freeB cs f = true) (hc : freeB cs c = true)
    (hst : IsFar cs.size (adjM co cs) c st) (h0 : 0 ≤ st f) (hon : onM n R f 0 = true) (hb : BansIn w bs bt cs.size n R) (hrow : w.rowIs gf 3 cs.size (intV st)) :
    Calls Tryd.prog 117 #[tripV ro co bu cs ac mc cc f c bs bt (settledM c R n), .slice (some ⟨gf, 0, none⟩) cs.size cs.size] w fun e w' =>
      ∃ v, e = .returned v ∧ ∃ x, Found co cs n R f c x ∧ Told w w' v x ∧ Below w.heap.size w w' := by
  have TR := Hid.mk (trip_mk hr hf hc hst h0 hon)
  have HSD := Hid.mk hsd
  have HSZ := Hid.mk hsz
  have HR := Hid.mk hr
  have HF := Hid.mk hf
  have HC := Hid.mk hc
  have HST := Hid.mk hst
  have HB := Hid.mk hb
  have HROW := Hid.mk hrow
  have hfN := free_lt hf
  have hcN := free_lt hc
  have BD : Hid (∀ x, x < cs.size → -1 ≤ st x ∧ st x ≤ 1000) := fun x hx => ⟨hst.low x hx, by have := far_lt hcN hst hx; omega⟩
  have hgl := hrow.lt
  have hbl := hb.lt
  obtain ⟨S, hS⟩ : ∃ S, S = settledM c R n := ⟨_, rfl⟩
  have hSb := settled_bd (c := (c : Int)) hr
  rw [← hS] at hSb ⊢
  have HSS := Hid.mk hS
  have hmm := @run_makeMap Tryd.prog
  have hmf : ∀ (fn : Fn) (first cap : Array Value) (w : World), (Instr.makeFunc fn first cap).run Tryd.prog w = .ok (.func fn (first) cap) w := by
    intro fn first cap w; rfl
  clear hsd hsz hr hf hc hst hb hrow hS hon
  unfold tripV
  go_enter Tryd.func117, Tryd.ntmps117
  have M5 : Hid (SpotMap (((((w.alloc (Obj.cells #[Value.int IntKind.i64 ro, Value.int IntKind.i64 co, Value.string cs, Value.slice ac mc cc, Value.int IntKind.i64 bu, Value.int IntKind.i64 f, Value.int IntKind.i64 c, Value.map (some bs), Value.map (some bt), Value.int IntKind.i64 S] 156)).alloc (Obj.cells #[Value.slice (some { block := gf, off := 0 }) cs.size cs.size] 26)).alloc (Obj.cells #[Value.func (Fn.func 154) #[] #[Value.pointer (some { block := w.heap.size + 1, off := 0 })], Value.slice none 0 0] 229)).alloc (Obj.cells #[Value.int IntKind.i64 f, Value.int IntKind.i64 0] 225)).alloc (Obj.map #[] 0)) (w.heap.size + 1 + 1 + 1 + 1) 0 (fun _ _ => none)) := spotMap_made _ _ (by simp)
  have HH5 : Hid (HeapAt (((((w.alloc (Obj.cells #[Value.int IntKind.i64 ro, Value.int IntKind.i64 co, Value.string cs, Value.slice ac mc cc, Value.int IntKind.i64 bu, Value.int IntKind.i64 f, Value.int IntKind.i64 c, Value.map (some bs), Value.map (some bt), Value.int IntKind.i64 S] 156)).alloc (Obj.cells #[Value.slice (some { block := gf, off := 0 }) cs.size cs.size] 26)).alloc (Obj.cells #[Value.func (Fn.func 154) #[] #[Value.pointer (some { block := w.heap.size + 1, off := 0 })], Value.slice none 0 0] 229)).alloc (Obj.cells #[Value.int IntKind.i64 f, Value.int IntKind.i64 0] 225)).alloc (Obj.map #[] 0)) (w.heap.size + 1 + 1) (w.heap.size + 1) (.slice none 0 0)) := by
    unfold Hid HeapAt lessV
    rw [Below.heap_alloc _ _ _ (by simp), Below.heap_alloc _ _ _ (by simp)]
    have e : ∀ (x : World) (o : Obj) (k : Nat), k = x.heap.size → (x.alloc o).heap[k]? = some o := fun x o k hk => by subst hk; exact heap_alloc_new x o
    exact e _ _ _ (by simp)
  have O5 : Hid (Below w.heap.size w (((((w.alloc (Obj.cells #[Value.int IntKind.i64 ro, Value.int IntKind.i64 co, Value.string cs, Value.slice ac mc cc, Value.int IntKind.i64 bu, Value.int IntKind.i64 f, Value.int IntKind.i64 c, Value.map (some bs), Value.map (some bt), Value.int IntKind.i64 S] 156)).alloc (Obj.cells #[Value.slice (some { block := gf, off := 0 }) cs.size cs.size] 26)).alloc (Obj.cells #[Value.func (Fn.func 154) #[] #[Value.pointer (some { block := w.heap.size + 1, off := 0 })], Value.slice none 0 0] 229)).alloc (Obj.cells #[Value.int IntKind.i64 f, Value.int IntKind.i64 0] 225)).alloc (Obj.map #[] 0))) := ((((Below.refl _ w).alloc (Nat.le_refl _) _).alloc (by simp) _).alloc (by simp; omega) _).alloc (by simp; omega) _ |>.alloc (by simp; omega) _
  have Y5 : Hid (∀ o, (((((w.alloc (Obj.cells #[Value.int IntKind.i64 ro, Value.int IntKind.i64 co, Value.string cs, Value.slice ac mc cc, Value.int IntKind.i64 bu, Value.int IntKind.i64 f, Value.int IntKind.i64 c, Value.map (some bs), Value.map (some bt), Value.int IntKind.i64 S] 156)).alloc (Obj.cells #[Value.slice (some { block := gf, off := 0 }) cs.size cs.size] 26)).alloc (Obj.cells #[Value.func (Fn.func 154) #[] #[Value.pointer (some { block := w.heap.size + 1, off := 0 })], Value.slice none 0 0] 229)).alloc (Obj.cells #[Value.int IntKind.i64 f, Value.int IntKind.i64 0] 225)).alloc (Obj.map #[] 0)).cell? ⟨w.heap.size, o, none⟩ = #[Value.int IntKind.i64 ro, Value.int IntKind.i64 co, Value.string cs, Value.slice ac mc cc, Value.int IntKind.i64 bu, Value.int IntKind.i64 f, Value.int IntKind.i64 c, Value.map (some bs), Value.map (some bt), Value.int IntKind.i64 S][o]?) := by unfold Hid; intro o; go_simp
  have F5 : Hid ((((((w.alloc (Obj.cells #[Value.int IntKind.i64 ro, Value.int IntKind.i64 co, Value.string cs, Value.slice ac mc cc, Value.int IntKind.i64 bu, Value.int IntKind.i64 f, Value.int IntKind.i64 c, Value.map (some bs), Value.map (some bt), Value.int IntKind.i64 S] 156)).alloc (Obj.cells #[Value.slice (some { block := gf, off := 0 }) cs.size cs.size] 26)).alloc (Obj.cells #[Value.func (Fn.func 154) #[] #[Value.pointer (some { block := w.heap.size + 1, off := 0 })], Value.slice none 0 0] 229)).alloc (Obj.cells #[Value.int IntKind.i64 f, Value.int IntKind.i64 0] 225)).alloc (Obj.map #[] 0)).cell? ⟨w.heap.size + 1, 0, none⟩ = some (.slice (some ⟨gf, 0, none⟩) cs.size cs.size)) := by unfold Hid; go_simp
  have S5 : Hid (∀ o, (((((w.alloc (Obj.cells #[Value.int IntKind.i64 ro, Value.int IntKind.i64 co, Value.string cs, Value.slice ac mc cc, Value.int IntKind.i64 bu, Value.int IntKind.i64 f, Value.int IntKind.i64 c, Value.map (some bs), Value.map (some bt), Value.int IntKind.i64 S] 156)).alloc (Obj.cells #[Value.slice (some { block := gf, off := 0 }) cs.size cs.size] 26)).alloc (Obj.cells #[Value.func (Fn.func 154) #[] #[Value.pointer (some { block := w.heap.size + 1, off := 0 })], Value.slice none 0 0] 229)).alloc (Obj.cells #[Value.int IntKind.i64 f, Value.int IntKind.i64 0] 225)).alloc (Obj.map #[] 0)).cell? ⟨w.heap.size + 1 + 1 + 1, o, none⟩ = #[Value.int .i64 (f : Int), .int .i64 0][o]?) := by unfold Hid; intro o; go_simp
  have Z5 : Hid ((((((w.alloc (Obj.cells #[Value.int IntKind.i64 ro, Value.int IntKind.i64 co, Value.string cs, Value.slice ac mc cc, Value.int IntKind.i64 bu, Value.int IntKind.i64 f, Value.int IntKind.i64 c, Value.map (some bs), Value.map (some bt), Value.int IntKind.i64 S] 156)).alloc (Obj.cells #[Value.slice (some { block := gf, off := 0 }) cs.size cs.size] 26)).alloc (Obj.cells #[Value.func (Fn.func 154) #[] #[Value.pointer (some { block := w.heap.size + 1, off := 0 })], Value.slice none 0 0] 229)).alloc (Obj.cells #[Value.int IntKind.i64 f, Value.int IntKind.i64 0] 225)).alloc (Obj.map #[] 0)).heap.size = w.heap.size + 5) := by unfold Hid; simp
  have wf : i64B (f : Int) := i64B_small (by omega) (by omega)
  have w0 : i64B (0 : Int) := i64B_small (by omega) (by omega)
  have WF := Hid.mk wf
  have W0 := Hid.mk w0
  clear wf w0
  go_wp2_with (refine wpList_ins_map rfl _ _ _ rfl (w.heap.size + 1 + 1 + 1 + 1) 0 (fun _ _ => none) rfl M5.out (by unfold maxLen; omega) f 0 f rfl rfl WF.out W0.out WF.out ?_; intro w6 hm6 hg6; have s6 : ∀ o, w6.cell? ⟨w.heap.size + 1 + 1 + 1, o, none⟩ = #[Value.int .i64 (f : Int), .int .i64 0][o]? := fun o => (World.cell?_of_block (hg6.block _ (by have := Z5.out; show w.heap.size + 1 + 1 + 1 < _; omega) (by intro h; have h := Option.some.inj h; have h : w.heap.size + 1 + 1 + 1 = w.heap.size + 1 + 1 + 1 + 1 := h; omega))).trans (S5.out o))
  have hk6 : ∀ k, k < w.heap.size + 5 → k ≠ w.heap.size + 1 + 1 + 1 + 1 → w6.heap[k]? = (((((w.alloc (Obj.cells #[Value.int IntKind.i64 ro, Value.int IntKind.i64 co, Value.string cs, Value.slice ac mc cc, Value.int IntKind.i64 bu, Value.int IntKind.i64 f, Value.int IntKind.i64 c, Value.map (some bs), Value.map (some bt), Value.int IntKind.i64 S] 156)).alloc (Obj.cells #[Value.slice (some { block := gf, off := 0 }) cs.size cs.size] 26)).alloc (Obj.cells #[Value.func (Fn.func 154) #[] #[Value.pointer (some { block := w.heap.size + 1, off := 0 })], Value.slice none 0 0] 229)).alloc (Obj.cells #[Value.int IntKind.i64 f, Value.int IntKind.i64 0] 225)).alloc (Obj.map #[] 0)).heap[k]? := fun k hk hn => hg6.block k (by have := Z5.out; omega) (fun e => hn (Option.some.inj e))
  have O6 : Hid (Below w.heap.size w w6) := O5.out.trans ⟨hg6.os, hg6.tape, hg6.output, hg6.size, fun k hk => hk6 k (by omega) (by omega)⟩
  have HH6 : Hid (HeapAt w6 (w.heap.size + 1 + 1) (w.heap.size + 1) (.slice none 0 0)) := HH5.out.block (hk6 _ (by omega) (by omega))
  have Y6 : Hid (∀ o, w6.cell? ⟨w.heap.size, o, none⟩ = #[Value.int IntKind.i64 ro, Value.int IntKind.i64 co, Value.string cs, Value.slice ac mc cc, Value.int IntKind.i64 bu, Value.int IntKind.i64 f, Value.int IntKind.i64 c, Value.map (some bs), Value.map (some bt), Value.int IntKind.i64 S][o]?) := fun o => (World.cell?_of_block (w := (((((w.alloc (Obj.cells #[Value.int IntKind.i64 ro, Value.int IntKind.i64 co, Value.string cs, Value.slice ac mc cc, Value.int IntKind.i64 bu, Value.int IntKind.i64 f, Value.int IntKind.i64 c, Value.map (some bs), Value.map (some bt), Value.int IntKind.i64 S] 156)).alloc (Obj.cells #[Value.slice (some { block := gf, off := 0 }) cs.size cs.size] 26)).alloc (Obj.cells #[Value.func (Fn.func 154) #[] #[Value.pointer (some { block := w.heap.size + 1, off := 0 })], Value.slice none 0 0] 229)).alloc (Obj.cells #[Value.int IntKind.i64 f, Value.int IntKind.i64 0] 225)).alloc (Obj.map #[] 0))) (a := ⟨w.heap.size, o, none⟩) (hk6 w.heap.size (by omega) (by omega))).trans (Y5.out o)
  have hf6 : w6.cell? ⟨w.heap.size + 1, 0, none⟩ = some (.slice (some ⟨gf, 0, none⟩) cs.size cs.size) := (World.cell?_of_block (w := (((((w.alloc (Obj.cells #[Value.int IntKind.i64 ro, Value.int IntKind.i64 co, Value.string cs, Value.slice ac mc cc, Value.int IntKind.i64 bu, Value.int IntKind.i64 f, Value.int IntKind.i64 c, Value.map (some bs), Value.map (some bt), Value.int IntKind.i64 S] 156)).alloc (Obj.cells #[Value.slice (some { block := gf, off := 0 }) cs.size cs.size] 26)).alloc (Obj.cells #[Value.func (Fn.func 154) #[] #[Value.pointer (some { block := w.heap.size + 1, off := 0 })], Value.slice none 0 0] 229)).alloc (Obj.cells #[Value.int IntKind.i64 f, Value.int IntKind.i64 0] 225)).alloc (Obj.map #[] 0))) (a := ⟨w.heap.size + 1, 0, none⟩) (hk6 (w.heap.size + 1) (by omega) (by omega))).trans F5.out
  have F6 : Hid (FarAt w6 (w.heap.size + 1) gf cs.size st) := ⟨hf6, HROW.out.of_block (O6.out.block _ hgl)⟩
  have Z6 : Hid (w.heap.size + 5 ≤ w6.heap.size) := by have h1 := Z5.out; have h2 := hg6.size; unfold Hid; omega
  have SD6 : Hid (SidesIn w6) := HSD.out.below O6.out
  have BA6 : Hid (BansIn w6 bs bt cs.size n R) := HB.out.below O6.out
  have M6 : Hid (SpotMap w6 (w.heap.size + 1 + 1 + 1 + 1) 1 (mapOf (fun c t => if c = f ∧ t = 0 then some f else none))) := hm6.same (fun a b => mapOf_start f a b)
  have U6 : Hid (unseen cs.size (fun c t => if c = f ∧ t = 0 then some f else none) ≤ 3600) := by
    have h1 := unseen_le cs.size (fun c t => if c = f ∧ t = 0 then some f else none)
    have h2 : cs.size * (62 + cs.size) ≤ 36 * 98 := Nat.mul_le_mul hs (by omega)
    unfold Hid; omega
  have SR6 : Hid (Srch w.heap.size w6 w6 cs.size (fun c t => if c = f ∧ t = 0 then some f else none) 0 (fun _ => (0, 0)) (.slice none 0 0) 1) :=
    ⟨HH6.out, Or.inl ⟨rfl, rfl⟩, fun G hG => (by cases hG), M6.out, by have := U6.out; omega, by have := U6.out; omega, Below.refl _ _, Z6.out⟩
  have ST6 := Hid.mk (star_start TR.out)
  clear hm6 hg6 s6 hk6 hf6 M5 HH5 O5 Y5 F5 S5 Z5 hmm hmf HH6 M6
  refine (push_srch w.heap.size gf cs.size w6 w6 _ 0 _ _ 1 st f 0 SR6.out F6.out hgl BD.out (fine_start rfl) (ord_start (Nat.zero_le _)) hfN (by omega) (by have := U6.out; omega)).mono ?_
  rintro e w7 ⟨rfl, it7, v7, hsr7, hord7, hfin7, hmem7, hon7, hloc7⟩
  have SR7 := Hid.mk hsr7
  have OR7 := Hid.mk hord7
  have FI7 := Hid.mk hfin7
  have ME7 := Hid.mk hmem7
  clear hsr7 hord7 hfin7 hmem7 hon7 hloc7 SR6
  go_wp2_with fail
  refine (pop_srch w.heap.size gf cs.size w6 w7 _ _ _ _ 1 st SR7.out F6.out hgl BD.out FI7.out OR7.out).mono ?_
  rintro e w8 ⟨okb, hc8, ht8, m8, it8, v8, rfl, hsr8, hord8, hfin8, hyes8, hno8, hon8, hloc8⟩
  have SR8 := Hid.mk hsr8
  have OR8 := Hid.mk hord8
  have FI8 := Hid.mk hfin8
  have YES8 := Hid.mk hyes8
  have NO8 := Hid.mk hno8
  clear hsr8 hord8 hfin8 hyes8 hno8 hon8 hloc8
  go_wp2_with fail
  have B9 : Hid (∀ o, (w8.alloc (Obj.cells #[.int .i64 (hc8 : Int), .int .i64 (ht8 : Int)] 225)).cell? ⟨w8.heap.size, o, none⟩ = #[Value.int .i64 (hc8 : Int), .int .i64 (ht8 : Int)][o]?) := by unfold Hid; intro o; go_simp
  have SR9 := Hid.mk (SR8.out.later ((Below.refl _ _).alloc (Nat.le_refl _) (Obj.cells #[.int .i64 (hc8 : Int), .int .i64 (ht8 : Int)] 225)))
  have Z9 : Hid (w8.heap.size < (w8.alloc (Obj.cells #[.int .i64 (hc8 : Int), .int .i64 (ht8 : Int)] 225)).heap.size) := by unfold Hid; simp
  generalize w8.alloc (Obj.cells #[.int .i64 (hc8 : Int), .int .i64 (ht8 : Int)] 225) = w9 at *
  go_loopg [8, 9] (unseen cs.size (fun c t => if c = f ∧ t = 0 then some f else none) + 2) (fun gk s8 s9 wr => ∃ (seen : Nat → Nat → Option Nat) (m : Nat) (it : Nat → Spot) (v : Value) (nm B8 : Nat) (okb : Bool) (hc ht : Nat), s8 = .pointer (some ⟨B8, 0, none⟩) ∧ s9 = .bool okb ∧ Srch w.heap.size w6 wr cs.size seen m it v nm ∧ Ord (keyM st) m it ∧ Fine cs.size m it ∧
    (∀ o, wr.cell? ⟨B8, o, none⟩ = #[Value.int .i64 (hc : Int), .int .i64 (ht : Int)][o]?) ∧ w.heap.size + 5 ≤ B8 ∧ B8 < wr.heap.size ∧ (∀ G, v.ownBlock = some G → G ≠ B8) ∧
    Star cs.size (reachM co cs n R f) (goesM co cs n R) f c (settledM c R n) seen (fun a b => Mem m it (a, b) ∨ (okb = true ∧ a = hc ∧ b = ht)) (fun _ _ => False) ∧ (okb = true → ∀ a b, Mem m it (a, b) → keyM st (hc, ht) ≤ keyM st (a, b)) ∧ (okb = false → m = 0) ∧ (okb = true → hc < cs.size ∧ ht ≤ 100000) ∧ unseen cs.size seen + m + (if okb then 1 else 0) ≤ gk)
  case atStart =>
    have hok : okb = true := by
      cases okb
      · have := (NO8.out rfl).1; omega
      · rfl
    obtain ⟨y1, y2, y3, y4, y5⟩ := YES8.out hok
    refine ⟨_, m8, it8, v8, 1, w8.heap.size, okb, hc8, ht8, rfl, rfl, SR9.out, OR8.out, FI8.out, B9.out, SR8.out.sz, Z9.out, fun G hG e => ?_, star_congr ST6.out (fun a b => ?_), fun _ a b hab => y2 a b ((y1 a b).2 (Or.inl hab)), fun h => (by rw [hok] at h; cases h), fun _ => ⟨y4, y5⟩, ?_⟩
    · have := SR8.out.list.lt G hG; omega
    · have e7 := ME7.out a b
      constructor
      · intro h
        have h : Mem 1 it7 (a, b) := by
          rcases h with h | ⟨_, h⟩
          · exact (y1 a b).2 (Or.inl h)
          · exact (y1 a b).2 (Or.inr h)
        rcases e7.1 h with ⟨i, hi, _⟩ | h
        · omega
        · exact h
      · intro h
        rcases (y1 a b).1 (e7.2 (Or.inr h)) with h2 | h2
        · exact Or.inl h2
        · exact Or.inr ⟨hok, h2⟩
    · rw [hok]; simp; omega
  case round =>
    obtain ⟨wo, rfl⟩ : ∃ x, x = wr := ⟨_, rfl⟩
    obtain ⟨seen, m, it, v, nm, B8, okb', hc', ht', rfl, rfl, hsr, hord, hfin, hbox, hb85, hb8l, hG8, hstar, hmin, hno, hyes, hgk⟩ := hrel
    have SR := Hid.mk hsr
    have OR := Hid.mk hord
    have FI := Hid.mk hfin
    have BX := Hid.mk hbox
    have G8 := Hid.mk hG8
    have STAR := Hid.mk hstar
    have MIN := Hid.mk hmin
    have NO := Hid.mk hno
    have YES := Hid.mk hyes
    have GK := Hid.mk hgk
    have BW : Hid (Below w.heap.size w wo) := O6.out.trans (hsr.below.mono (by omega))
    have yo : ∀ o, wo.cell? ⟨w.heap.size, o, none⟩ = #[Value.int IntKind.i64 ro, Value.int IntKind.i64 co, Value.string cs, Value.slice ac mc cc, Value.int IntKind.i64 bu, Value.int IntKind.i64 f, Value.int IntKind.i64 c, Value.map (some bs), Value.map (some bt), Value.int IntKind.i64 S][o]? := fun o => (hsr.below.cell (p := ⟨w.heap.size, o, none⟩) (by show w.heap.size < w.heap.size + 1 + 1; omega)).trans (Y6.out o)
    clear hsr hord hfin hG8 hstar hmin hno hyes hgk
    cases okb'
    · have M0 : Hid (m = 0) := NO.out rfl
      have NOP : Hid (∀ a b, ¬ (Mem m it (a, b) ∨ (false = true ∧ a = hc' ∧ b = ht'))) := fun a b hab => by
        rcases hab with ⟨i, hi, _⟩ | ⟨h, _⟩
        · have := M0.out; omega
        · cases h
      have FN := Hid.mk (found_none HR.out HC.out TR.out STAR.out NOP.out)
      clear NOP STAR NO YES MIN
      go_wp2
      go_ret
      exact ⟨_, rfl, none, FN.out, ⟨fun _ => rfl, fun T p h => (by cases h)⟩, BW.out⟩
    · obtain ⟨hcN', hta⟩ := YES.out rfl
      have hop : Hid (∀ a b, (Mem m it (a, b) ∨ (a = hc' ∧ b = ht')) → keyM st (hc', ht') ≤ keyM st (a, b)) := fun a b hab => by
        rcases hab with h | ⟨h1, h2⟩
        · exact MIN.out rfl a b h
        · rw [h1, h2]; exact Int.le_refl _
      have STAR2 := Hid.mk (star_congr STAR.out (op' := fun a b => Mem m it (a, b) ∨ (a = hc' ∧ b = ht')) (fun a b => or_congr Iff.rfl ⟨fun h => ⟨rfl, h⟩, fun h => h.2⟩))
      have HT : Hid (ht' ≤ 60 + cs.size) := star_bound TR.out STAR2.out (Or.inr ⟨rfl, rfl⟩) (fun a b hab => hop.out a b hab)
      have GK2 : Hid (unseen cs.size seen + m + 1 ≤ gk) := GK.out
      clear STAR MIN NO YES GK
      have hb0 := hbox 0
      have hb1 := hbox 1
      simp only [List.getElem?_toArray, List.getElem?_cons_zero, List.getElem?_cons_succ] at hb0 hb1
      have y6 := yo 6
      have y9 := yo 9
      simp only [List.getElem?_toArray, List.getElem?_cons_zero, List.getElem?_cons_succ] at y6 y9
      by_cases goal : hc' = c ∧ S ≤ (ht' : Int)
      · obtain ⟨gc, gs⟩ := goal
        have q1 : ((hc' : Int) == (c : Int)) = true := by simp [gc]
        obtain ⟨p, p1, p2, p3, p4, p5⟩ := found_path (t := ht') HR.out hs HC.out TR.out STAR2.out (Or.inr ⟨gc.symm, rfl⟩) (fun a b hab => by
          have := hop.out a b hab
          unfold keyM at this
          rw [gc] at this; exact this) (by rw [← HSS.out]; exact gs)
        have P1 := Hid.mk p1
        have P2 := Hid.mk p2
        have P3 := Hid.mk p3
        have P4 := Hid.mk p4
        have P5 := Hid.mk p5
        have GC := Hid.mk gc
        clear p1 p2 p3 p4 p5 hbox gc yo
        go_wp2_with fail
        refine (wayTo_at (w.heap.size + 1 + 1 + 1 + 1) nm cs.size ht' hc' (mapOf seen) p f wo (by rw [P1.out]; exact GC.out.symm) SR.out.map hs (by have := HT.out; omega) P2.out ?_ ?_).mono ?_
        · have h := mapOf_nat seen (p 0) 0
          rw [P3.out] at h; exact h
        · intro s hs'
          rw [mapOf_nat, P4.out s hs']; rfl
        rintro e w10 ⟨g10, rfl, hg10, hr10, hb10⟩
        have R10 := Hid.mk hr10
        have B10 := Hid.mk (BW.out.trans (hb10.mono BW.out.size))
        have G10 : Hid (w.heap.size ≤ g10) := by have := SR.out.sz; unfold Hid; omega
        clear hg10 hr10 hb10
        go_wp2
        go_ret
        exact ⟨_, rfl, some (ht', p), P5.out, ⟨fun h => (by cases h), fun T p' h => by cases h; exact ⟨g10, rfl, G10.out, R10.out⟩⟩, B10.out⟩
      · have NG : Hid (¬ Goal c (settledM c R n) hc' ht') := fun h => goal ⟨h.1, by rw [HSS.out]; exact h.2⟩
        have FH : Hid (freeB cs hc' = true) := reach_in HF.out (STAR2.out.rch hc' ht' (STAR2.out.sub hc' ht' (Or.inr ⟨rfl, rfl⟩)))
        have hq : (((hc' : Int) == (c : Int)) = true ∧ (ht' : Int) < S) ∨ ((hc' : Int) == (c : Int)) = false := by
          by_cases e : hc' = c
          · exact Or.inl ⟨by simp [e], by by_cases e2 : S ≤ (ht' : Int); exact absurd ⟨e, e2⟩ goal; omega⟩
          · exact Or.inr (by simp; omega)
        clear goal hop
        rcases hq with ⟨q1, q2⟩ | q1
        · go_wp2_with fail
          refine (nexts_any ro co bu cs ac mc cc f c S bs bt n hc' ht' R wo (SidesIn.below_at SD6.out SR.out.below (by omega)) r1 r2 r3 r4 hs hcN' FH.out (by have := HT.out; omega) (by exact BA6.out.block (SR.out.below.block _ (by omega)) (SR.out.below.block _ (by omega)))).mono ?_
          rintro e w10 ⟨vL, rfl, hown, hb10⟩
          have hLM : Hid (∀ b : Nat, (b : Int) ∈ nxL ro co cs n R hc' ht' ↔ goesM co cs n R hc' b ht' = true) := fun b => nx_mem r3 r4 HSZ.out hcN' FH.out
          have hLN : Hid (∀ z, z ∈ nxL ro co cs n R hc' ht' → ∃ b : Nat, z = b ∧ b < cs.size) := fun z hz => nx_nat FH.out hz
          have hL5 : (nxL ro co cs n R hc' ht').length ≤ 5 := Nat.le_trans (List.length_filter_le _ _) (mvL_len (ro := ro) (co := co) (cs := cs) (c := (hc' : Int))).1
          obtain ⟨L, hL⟩ : ∃ L, L = nxL ro co cs n R hc' ht' := ⟨_, rfl⟩
          rw [← hL] at hown hLM hLN hL5
          obtain ⟨aL, capL, rfl, haL, hcapL⟩ := own_form hown
          have OWL := Hid.mk hown
          have HAL := Hid.mk haL
          have SR10 := Hid.mk (SR.out.later hb10)
          have BX10 : Hid (∀ o, w10.cell? ⟨B8, o, none⟩ = #[Value.int .i64 (hc' : Int), .int .i64 (ht' : Int)][o]?) := fun o => (hb10.cell (p := ⟨B8, o, none⟩) hb8l).trans (BX.out o)
          have hz10 := hb10.size
          have ST10 := Hid.mk (star_pop STAR2.out (op' := fun a b => Mem m it (a, b)) (fun a b h => Or.inl h) (fun a b h => h) NG.out)
          have SH10 : Hid (seen hc' ht' ≠ none) := STAR2.out.sub hc' ht' (Or.inr ⟨rfl, rfl⟩)
          clear hL hown haL hb10 hcapL yo hbox hb0 hb1 y6 y9
          go_wp2
          go_loopw [57] (fun s wr => ∃ (j : Nat) (seen' : Nat → Nat → Option Nat) (m' : Nat) (it' : Nat → Spot) (v' : Value) (nm' : Nat), s = .int .i64 j ∧ j ≤ L.length ∧ Srch w.heap.size w6 wr cs.size seen' m' it' v' nm' ∧ Ord (keyM st) m' it' ∧ Fine cs.size m' it' ∧
            (∀ o, wr.cell? ⟨B8, o, none⟩ = #[Value.int .i64 (hc' : Int), .int .i64 (ht' : Int)][o]?) ∧ B8 < wr.heap.size ∧ (∀ G, v'.ownBlock = some G → G ≠ B8 ∧ aL ≠ some ⟨G, 0, none⟩) ∧
            Star cs.size (reachM co cs n R f) (goesM co cs n R) f c (settledM c R n) seen' (fun a b => Mem m' it' (a, b)) (fun a b => a = hc' ∧ b = ht') ∧ seen' hc' ht' ≠ none ∧ (∀ i, i < j → ∀ b : Nat, L.getD i 0 = b → seen' b (ht' + 1) ≠ none) ∧
            wr.ownsRow wo.heap.size 3 1 (.slice aL L.length capL) L.length (ints L) ∧ unseen cs.size seen' + m' ≤ unseen cs.size seen + m) (fun s _ => L.length - (intOf s).toNat)
          case atStart =>
            refine ⟨0, seen, m, it, v, nm, rfl, Nat.zero_le _, SR10.out, OR.out, FI.out, BX10.out, by omega, fun G hG => ⟨G8.out G hG, fun e => ?_⟩, ST10.out, SH10.out, fun i hi => absurd hi (Nat.not_lt_zero i), OWL.out, Nat.le_refl _⟩
            have h1 := (OWL.out.lt G (by rw [e]; rfl)).1
            have h2 := SR.out.list.lt G hG
            omega
          case round =>
            obtain ⟨wi, rfl⟩ : ∃ x, x = wr := ⟨_, rfl⟩
            obtain ⟨j, seen', m', it', v', nm', rfl, hj, hsr', hord', hfin', hbox', hb8', hG', hstar', hsh', hdone', hown', hcnt'⟩ := hrel
            have SRi := Hid.mk hsr'
            have ORi := Hid.mk hord'
            have FIi := Hid.mk hfin'
            have BXi := Hid.mk hbox'
            have Gi := Hid.mk hG'
            have STi := Hid.mk hstar'
            have SHi := Hid.mk hsh'
            have DNi := Hid.mk hdone'
            have OWi := Hid.mk hown'
            have CNi := Hid.mk hcnt'
            have hzi := hsr'.sz
            clear hsr' hord' hfin' hG' hstar' hsh' hdone' hown' hcnt'
            by_cases hlt : j < L.length
            · obtain ⟨gL, rfl⟩ := HAL.out (by omega)
              have hx := own_cell OWi.out hlt
              obtain ⟨b, hbz, hbN⟩ := hLN.out (L.getD j 0) (at_mem hlt)
              rw [ints_at' hlt, hbz] at hx
              have HBZ := Hid.mk hbz
              have GOES : Hid (goesM co cs n R hc' b ht' = true) := (hLM.out b).1 (by rw [← hbz]; exact at_mem hlt)
              have hb0 := hbox' 0
              have hb1 := hbox' 1
              simp only [List.getElem?_toArray, List.getElem?_cons_zero, List.getElem?_cons_succ] at hb0 hb1
              have WB : Hid (i64B (b : Int)) := i64B_small (by omega) (by omega)
              have WT : Hid (i64B ((ht' : Int) + 1)) := i64B_small (by omega) (by have := HT.out; omega)
              have WC : Hid (i64B (hc' : Int)) := i64B_small (by omega) (by omega)
              have hT1 : ((ht' + 1 : Nat) : Int) = (ht' : Int) + 1 := by omega
              have HT1 := Hid.mk hT1
              have MPx : Hid (∀ o, SpotMap (wi.alloc o) (w.heap.size + 1 + 1 + 1 + 1) nm' (mapOf seen')) := fun o => SRi.out.map.block (Below.heap_alloc _ _ _ SRi.out.map.lt)
              obtain ⟨kb, hkb⟩ : ∃ kb, kb = (mapOf seen' (b : Int) ((ht' : Int) + 1)).isSome := ⟨_, rfl⟩
              have KEY : Hid (∀ (ops : Array Oper) (rest : List Oper) (o : Oper) (a : Act) (Q : Exit → Act → World → Prop) (w' : World) (mo xo : Operand), o.guard = none → o.op = Op.lookup 230 mo xo true → a.eval mo = .map (some (w.heap.size + 1 + 1 + 1 + 1)) → w'.heap[w.heap.size + 1 + 1 + 1 + 1]? = wi.heap[w.heap.size + 1 + 1 + 1 + 1]? → a.eval xo = .agg #[.int .i64 (b : Int), .int .i64 ((ht' : Int) + 1)] →
                  (∀ y, wpList Tryd.prog ops Q rest (a.put o.dst (.tuple #[.int .i64 y, .bool kb])) w') → wpList Tryd.prog ops Q (o :: rest) a w') := by
                intro ops rest o a Q w' mo xo g1 g2 g3 g4 g5 g6
                refine wpList_look_map g1 mo xo g2 _ nm' (mapOf seen') g3 (SRi.out.map.block g4) _ _ g5 WB.out WT.out ?_
                rw [← hkb]; exact g6
              have HKB : Hid (kb = (seen' b (ht' + 1)).isSome) := by
                unfold Hid
                rw [hkb, ← hT1, mapOf_nat]
                cases seen' b (ht' + 1) <;> rfl
              have hm4 := SRi.out.map.lt
              clear hT1 hkb hbz hbox'
              cases kb
              · -- not seen: put in
                have SN : Hid (seen' b (ht' + 1) = none) := by
                  have := HKB.out
                  unfold Hid
                  cases e : seen' b (ht' + 1) with
                  | none => rfl
                  | some y => rw [e] at this; cases this
                go_wp2_with (first
                  | (at_lookup; refine KEY.out _ _ _ _ _ _ _ _ rfl rfl rfl (Below.heap_alloc _ _ _ hm4) rfl ?_; intro y)
                  | (at_mapUpdate; refine wpList_put_map rfl _ _ _ rfl (w.heap.size + 1 + 1 + 1 + 1) nm' (mapOf seen') rfl (MPx.out _) (by have := SRi.out.cnt; unfold maxLen; omega) (b : Int) ((ht' : Int) + 1) (hc' : Int) rfl rfl WB.out WT.out WC.out ?_; intro w12 hm12 hg12; have t12 : ∀ o, w12.cell? ⟨wi.heap.size, o, none⟩ = #[Value.int .i64 (b : Int), .int .i64 ((ht' : Int) + 1)][o]? := fun o => (World.cell?_of_block (hg12.block _ (by simp) (by intro e; have e := Option.some.inj e; have e : wi.heap.size = w.heap.size + 1 + 1 + 1 + 1 := e; omega))).trans (by go_simp)))
                have SR12 : Hid (Srch w.heap.size w6 w12 cs.size (seenPut seen' b (ht' + 1) hc') m' it' v' (nm' + 1)) :=
                  (SRi.out.later ((Below.refl _ _).alloc (Nat.le_refl _) _)).put (by omega) hbN (by have := HT.out; omega) SN.out (by rw [HT1.out]; exact hm12) hg12
                have BX12 : Hid (∀ o, w12.cell? ⟨B8, o, none⟩ = #[Value.int .i64 (hc' : Int), .int .i64 (ht' : Int)][o]?) := fun o => (World.cell?_of_block (hg12.block B8 (by simp; omega) (by intro e; have e := Option.some.inj e; omega))).trans ((World.cell?_alloc_past _ _ _ hb8').trans (BXi.out o))
                have OW12 : Hid (w12.ownsRow wo.heap.size 3 1 (.slice (some ⟨gL, 0, none⟩) L.length capL) L.length (ints L)) := own_block_keep OWi.out fun k hk hkl _ => (hg12.block k (by simp; omega) (by intro e; have e := Option.some.inj e; have := SR.out.sz; omega)).trans (Below.heap_alloc _ _ _ hkl)
                have ST12 : Hid (∀ op', (∀ a t, op' a t ↔ Mem m' it' (a, t) ∨ (a = b ∧ t = ht' + 1)) → Star cs.size (reachM co cs n R f) (goesM co cs n R) f c (settledM c R n) (seenPut seen' b (ht' + 1) hc') op' (fun a b => a = hc' ∧ b = ht')) := fun op' hop' => star_push TR.out STi.out SHi.out GOES.out NG.out HT.out hop'
                have UN12 := Hid.mk (unseen_put (N := cs.size) (p := hc') (by omega) hbN (show ht' + 1 ≤ 61 + cs.size by have := HT.out; omega) SN.out)
                have hz12 : Hid (wi.heap.size + 1 ≤ w12.heap.size) := by have := hg12.size; unfold Hid; simpa using this
                clear hm12 hg12 t12 hb0 hb1 hx MPx KEY hm4
                refine (push_srch_at w.heap.size gf cs.size w6 w12 _ m' it' v' (nm' + 1) st b (ht' + 1) _ HT1.out.symm SR12.out F6.out hgl BD.out FIi.out ORi.out hbN (by have := HT.out; omega) (by have h1 := SRi.out.size; have h2 := UN12.out; omega)).mono ?_
                rintro e w13 ⟨rfl, it13, v13, hsr13, hord13, hfin13, hmem13, hon13, hloc13⟩
                have SR13 := Hid.mk hsr13
                have OR13 := Hid.mk hord13
                have FI13 := Hid.mk hfin13
                have ME13 := Hid.mk hmem13
                have ON13 := Hid.mk hon13
                have LO13 := Hid.mk hloc13
                clear hsr13 hord13 hfin13 hmem13 hon13 hloc13
                go_wp2
                go_roundw
                case rel =>
                  have h12 := hz12.out
                  have h8 : ¬ (B8 = w.heap.size + 1 + 1 ∨ v'.ownBlock = some B8) := fun e => by
                    rcases e with e | e
                    · omega
                    · exact (Gi.out B8 e).1 rfl
                  refine ⟨j + 1, seenPut seen' b (ht' + 1) hc', m' + 1, it13, v13, nm' + 1, by go_num, by omega, SR13.out, OR13.out, FI13.out, fun o => (ON13.out.cell (p := ⟨B8, o, none⟩) (by show B8 < _; omega) h8).trans (BX12.out o), by have := ON13.out.size; omega, fun G hG => ?_, ST12.out _ (fun a t => ME13.out a t), seenPut_some SHi.out, fun i hi b' hb' => ?_, own_block_keep OW12.out fun k hk hkl hk2 => ON13.out.block k hkl (fun e => ?_), by have h1 := UN12.out; have h2 := CNi.out; omega⟩
                  · rcases LO13.out G hG with e | e
                    · exact Gi.out G e
                    · refine ⟨by omega, fun e2 => ?_⟩
                      have := (OW12.out.lt G (by rw [e2]; rfl)).2
                      omega
                  · by_cases e : i = j
                    · subst e
                      have e2 : b' = b := by have := HBZ.out; omega
                      subst e2
                      unfold seenPut; simp
                    · exact seenPut_some (DNi.out i (by omega) b' hb')
                  · have e4 : gL = k := by simpa [Value.ownBlock] using hk2
                    rcases e with e | e
                    · have := SR.out.sz; omega
                    · exact (Gi.out k e).2 (by rw [e4])
                case measure => simp [intOf]; omega
              · -- known
                go_wp2_with (at_lookup; refine KEY.out _ _ _ _ _ _ _ _ rfl rfl rfl (Below.heap_alloc _ _ _ hm4) rfl ?_; intro y)
                go_roundw
                case rel =>
                  have hba := (Below.refl wi.heap.size wi).alloc (Nat.le_refl _) (Obj.cells #[.int .i64 (b : Int), .int .i64 ((ht' : Int) + 1)] 225)
                  refine ⟨j + 1, seen', m', it', v', nm', by go_num, by omega, SRi.out.later hba, ORi.out, FIi.out, fun o => (World.cell?_alloc_past _ _ _ hb8').trans (BXi.out o), by simp; omega, Gi.out, STi.out, SHi.out, fun i hi b' hb' => ?_, own_below OWi.out hba, CNi.out⟩
                  by_cases e : i = j
                  · subst e
                    have e2 : b' = b := by have := HBZ.out; omega
                    subst e2
                    have := HKB.out
                    intro e3
                    rw [e3] at this; cases this
                  · exact DNi.out i (by omega) b' hb'
                case measure => simp [intOf]; omega
            · have hj2 : j = L.length := by omega
              have ALL : Hid (∀ b : Nat, goesM co cs n R hc' b ht' = true → seen' b (ht' + 1) ≠ none) := fun b hb => by
                obtain ⟨i, hi, e⟩ := mem_at ((hLM.out b).2 hb)
                exact DNi.out i (by omega) b e
              have ST14 := Hid.mk (star_next STi.out ALL.out)
              have hb0 := hbox' 0
              have hb1 := hbox' 1
              simp only [List.getElem?_toArray, List.getElem?_cons_zero, List.getElem?_cons_succ] at hb0 hb1
              clear hbox' ALL STi DNi OWi
              have SR14 := Hid.mk (SRi.out.later ((Below.refl _ _).alloc (Nat.le_refl _) (Obj.cells #[.int .i64 (hc' : Int), .int .i64 (ht' : Int)] 225)))
              have B14 : Hid (∀ o, (wi.alloc (Obj.cells #[.int .i64 (hc' : Int), .int .i64 (ht' : Int)] 225)).cell? ⟨wi.heap.size, o, none⟩ = #[Value.int .i64 (hc' : Int), .int .i64 (ht' : Int)][o]?) := by unfold Hid; intro o; go_simp
              have R14 : Hid (∀ o, (wi.alloc (Obj.cells #[.int .i64 (hc' : Int), .int .i64 (ht' : Int)] 225)).frozen? ⟨wi.heap.size, o, none⟩ = false) := by unfold Hid; intro o; go_simp
              have Z14 : Hid ((wi.alloc (Obj.cells #[.int .i64 (hc' : Int), .int .i64 (ht' : Int)] 225)).heap.size = wi.heap.size + 1) := by unfold Hid; simp
              have SZi : Hid (∀ G, v'.ownBlock = some G → G < wi.heap.size) := SRi.out.list.lt
              go_wp2_with fail
              refine (pop_srch w.heap.size gf cs.size w6 _ _ _ _ _ nm' st SR14.out F6.out hgl BD.out FIi.out ORi.out).mono ?_
              rintro e w15 ⟨ok2, hc2, ht2, m2, it2, v2, rfl, hsr15, hord15, hfin15, hyes15, hno15, hon15, hloc15⟩
              have SR15 := Hid.mk hsr15
              have OR15 := Hid.mk hord15
              have FI15 := Hid.mk hfin15
              have YES15 := Hid.mk hyes15
              have NO15 := Hid.mk hno15
              have LO15 := Hid.mk hloc15
              have hz14 := Z14.out
              have hne : ¬ (wi.heap.size = w.heap.size + 1 + 1 ∨ v'.ownBlock = some wi.heap.size) := fun e => by
                rcases e with e | e
                · omega
                · have := SZi.out _ e; omega
              have b15 : ∀ o, w15.cell? ⟨wi.heap.size, o, none⟩ = #[Value.int .i64 (hc' : Int), .int .i64 (ht' : Int)][o]? := fun o => (hon15.cell (p := ⟨wi.heap.size, o, none⟩) (by show wi.heap.size < _; omega) hne).trans (B14.out o)
              have r15 : ∀ o, w15.frozen? ⟨wi.heap.size, o, none⟩ = false := fun o => (hon15.frozen (p := ⟨wi.heap.size, o, none⟩) (by show wi.heap.size < _; omega) hne).trans (R14.out o)
              have hz15 : Hid (wi.heap.size + 1 ≤ w15.heap.size) := by have := hon15.size; unfold Hid; omega
              have B15 := Hid.mk b15
              have b150 := b15 0
              have b151 := b15 1
              have r150 := r15 0
              have r151 := r15 1
              simp only [List.getElem?_toArray, List.getElem?_cons_zero, List.getElem?_cons_succ] at b150 b151
              clear hsr15 hord15 hfin15 hyes15 hno15 hon15 hloc15 b15 r15 SR14 B14 R14 Z14 hz14 hb0 hb1 hne
              go_wp2
              go_roundg (unseen cs.size seen' + m2 + (if ok2 then 1 else 0))
              case rel =>
                have hz := hz15.out
                refine ⟨seen', m2, it2, v2, nm', wi.heap.size, ok2, hc2, ht2, rfl, rfl, ((SR15.out.box (by omega) (fun G hG e => ?_) 0 _).box (by omega) (fun G hG e => ?_) 1 _), OR15.out, FI15.out, box_set (box_set B15.out (by simp) rfl) (by simp) rfl, hzi, by simp; omega, fun G hG e => ?_, star_congr ST14.out (fun a b => ?_), fun h a b hab => (YES15.out h).2.1 a b (((YES15.out h).1 a b).2 (Or.inl hab)), fun h => (NO15.out h).2, fun h => (YES15.out h).2.2.2, Nat.le_refl _⟩
                · have := SZi.out G (LO15.out G hG); omega
                · have := SZi.out G (LO15.out G hG); omega
                · have := SZi.out G (LO15.out G hG); omega
                · constructor
                  · intro h
                    rcases h with h | ⟨h, e1, e2⟩
                    · cases ok2
                      · have := (NO15.out rfl).2
                        obtain ⟨i, hi, _⟩ := h
                        omega
                      · exact ((YES15.out rfl).1 a b).2 (Or.inl h)
                    · exact ((YES15.out h).1 a b).2 (Or.inr ⟨e1, e2⟩)
                  · intro h
                    cases ok2
                    · have := (NO15.out rfl).1
                      obtain ⟨i, hi, _⟩ := h
                      omega
                    · rcases ((YES15.out rfl).1 a b).1 h with h | h
                      · exact Or.inl h
                      · exact Or.inr ⟨rfl, h⟩
              case measure =>
                have h1 := CNi.out
                have h2 := GK2.out
                cases ok2
                · have := (NO15.out rfl).2
                  simp; omega
                · have := (YES15.out rfl).2.2.1
                  simp; omega
        · go_wp2_with fail
          refine (nexts_any ro co bu cs ac mc cc f c S bs bt n hc' ht' R wo (SidesIn.below_at SD6.out SR.out.below (by omega)) r1 r2 r3 r4 hs hcN' FH.out (by have := HT.out; omega) (by exact BA6.out.block (SR.out.below.block _ (by omega)) (SR.out.below.block _ (by omega)))).mono ?_
          rintro e w10 ⟨vL, rfl, hown, hb10⟩
          have hLM : Hid (∀ b : Nat, (b : Int) ∈ nxL ro co cs n R hc' ht' ↔ goesM co cs n R hc' b ht' = true) := fun b => nx_mem r3 r4 HSZ.out hcN' FH.out
          have hLN : Hid (∀ z, z ∈ nxL ro co cs n R hc' ht' → ∃ b : Nat, z = b ∧ b < cs.size) := fun z hz => nx_nat FH.out hz
          have hL5 : (nxL ro co cs n R hc' ht').length ≤ 5 := Nat.le_trans (List.length_filter_le _ _) (mvL_len (ro := ro) (co := co) (cs := cs) (c := (hc' : Int))).1
          obtain ⟨L, hL⟩ : ∃ L, L = nxL ro co cs n R hc' ht' := ⟨_, rfl⟩
          rw [← hL] at hown hLM hLN hL5
          obtain ⟨aL, capL, rfl, haL, hcapL⟩ := own_form hown
          have OWL := Hid.mk hown
          have HAL := Hid.mk haL
          have SR10 := Hid.mk (SR.out.later hb10)
          have BX10 : Hid (∀ o, w10.cell? ⟨B8, o, none⟩ = #[Value.int .i64 (hc' : Int), .int .i64 (ht' : Int)][o]?) := fun o => (hb10.cell (p := ⟨B8, o, none⟩) hb8l).trans (BX.out o)
          have hz10 := hb10.size
          have ST10 := Hid.mk (star_pop STAR2.out (op' := fun a b => Mem m it (a, b)) (fun a b h => Or.inl h) (fun a b h => h) NG.out)
          have SH10 : Hid (seen hc' ht' ≠ none) := STAR2.out.sub hc' ht' (Or.inr ⟨rfl, rfl⟩)
          clear hL hown haL hb10 hcapL yo hbox hb0 hb1 y6 y9
          go_wp2
          go_loopw [57] (fun s wr => ∃ (j : Nat) (seen' : Nat → Nat → Option Nat) (m' : Nat) (it' : Nat → Spot) (v' : Value) (nm' : Nat), s = .int .i64 j ∧ j ≤ L.length ∧ Srch w.heap.size w6 wr cs.size seen' m' it' v' nm' ∧ Ord (keyM st) m' it' ∧ Fine cs.size m' it' ∧
            (∀ o, wr.cell? ⟨B8, o, none⟩ = #[Value.int .i64 (hc' : Int), .int .i64 (ht' : Int)][o]?) ∧ B8 < wr.heap.size ∧ (∀ G, v'.ownBlock = some G → G ≠ B8 ∧ aL ≠ some ⟨G, 0, none⟩) ∧
            Star cs.size (reachM co cs n R f) (goesM co cs n R) f c (settledM c R n) seen' (fun a b => Mem m' it' (a, b)) (fun a b => a = hc' ∧ b = ht') ∧ seen' hc' ht' ≠ none ∧ (∀ i, i < j → ∀ b : Nat, L.getD i 0 = b → seen' b (ht' + 1) ≠ none) ∧
            wr.ownsRow wo.heap.size 3 1 (.slice aL L.length capL) L.length (ints L) ∧ unseen cs.size seen' + m' ≤ unseen cs.size seen + m) (fun s _ => L.length - (intOf s).toNat)
          case atStart =>
            refine ⟨0, seen, m, it, v, nm, rfl, Nat.zero_le _, SR10.out, OR.out, FI.out, BX10.out, by omega, fun G hG => ⟨G8.out G hG, fun e => ?_⟩, ST10.out, SH10.out, fun i hi => absurd hi (Nat.not_lt_zero i), OWL.out, Nat.le_refl _⟩
            have h1 := (OWL.out.lt G (by rw [e]; rfl)).1
            have h2 := SR.out.list.lt G hG
            omega
          case round =>
            obtain ⟨wi, rfl⟩ : ∃ x, x = wr := ⟨_, rfl⟩
            obtain ⟨j, seen', m', it', v', nm', rfl, hj, hsr', hord', hfin', hbox', hb8', hG', hstar', hsh', hdone', hown', hcnt'⟩ := hrel
            have SRi := Hid.mk hsr'
            have ORi := Hid.mk hord'
            have FIi := Hid.mk hfin'
            have BXi := Hid.mk hbox'
            have Gi := Hid.mk hG'
            have STi := Hid.mk hstar'
            have SHi := Hid.mk hsh'
            have DNi := Hid.mk hdone'
            have OWi := Hid.mk hown'
            have CNi := Hid.mk hcnt'
            have hzi := hsr'.sz
            clear hsr' hord' hfin' hG' hstar' hsh' hdone' hown' hcnt'
            by_cases hlt : j < L.length
            · obtain ⟨gL, rfl⟩ := HAL.out (by omega)
              have hx := own_cell OWi.out hlt
              obtain ⟨b, hbz, hbN⟩ := hLN.out (L.getD j 0) (at_mem hlt)
              rw [ints_at' hlt, hbz] at hx
              have HBZ := Hid.mk hbz
              have GOES : Hid (goesM co cs n R hc' b ht' = true) := (hLM.out b).1 (by rw [← hbz]; exact at_mem hlt)
              have hb0 := hbox' 0
              have hb1 := hbox' 1
              simp only [List.getElem?_toArray, List.getElem?_cons_zero, List.getElem?_cons_succ] at hb0 hb1
              have WB : Hid (i64B (b : Int)) := i64B_small (by omega) (by omega)
              have WT : Hid (i64B ((ht' : Int) + 1)) := i64B_small (by omega) (by have := HT.out; omega)
              have WC : Hid (i64B (hc' : Int)) := i64B_small (by omega) (by omega)
              have hT1 : ((ht' + 1 : Nat) : Int) = (ht' : Int) + 1 := by omega
              have HT1 := Hid.mk hT1
              have MPx : Hid (∀ o, SpotMap (wi.alloc o) (w.heap.size + 1 + 1 + 1 + 1) nm' (mapOf seen')) := fun o => SRi.out.map.block (Below.heap_alloc _ _ _ SRi.out.map.lt)
              obtain ⟨kb, hkb⟩ : ∃ kb, kb = (mapOf seen' (b : Int) ((ht' : Int) + 1)).isSome := ⟨_, rfl⟩
              have KEY : Hid (∀ (ops : Array Oper) (rest : List Oper) (o : Oper) (a : Act) (Q : Exit → Act → World → Prop) (w' : World) (mo xo : Operand), o.guard = none → o.op = Op.lookup 230 mo xo true → a.eval mo = .map (some (w.heap.size + 1 + 1 + 1 + 1)) → w'.heap[w.heap.size + 1 + 1 + 1 + 1]? = wi.heap[w.heap.size + 1 + 1 + 1 + 1]? → a.eval xo = .agg #[.int .i64 (b : Int), .int .i64 ((ht' : Int) + 1)] →
                  (∀ y, wpList Tryd.prog ops Q rest (a.put o.dst (.tuple #[.int .i64 y, .bool kb])) w') → wpList Tryd.prog ops Q (o :: rest) a w') := by
                intro ops rest o a Q w' mo xo g1 g2 g3 g4 g5 g6
                refine wpList_look_map g1 mo xo g2 _ nm' (mapOf seen') g3 (SRi.out.map.block g4) _ _ g5 WB.out WT.out ?_
                rw [← hkb]; exact g6
              have HKB : Hid (kb = (seen' b (ht' + 1)).isSome) := by
                unfold Hid
                rw [hkb, ← hT1, mapOf_nat]
                cases seen' b (ht' + 1) <;> rfl
              have hm4 := SRi.out.map.lt
              clear hT1 hkb hbz hbox'
              cases kb
              · -- not seen: put in
                have SN : Hid (seen' b (ht' + 1) = none) := by
                  have := HKB.out
                  unfold Hid
                  cases e : seen' b (ht' + 1) with
                  | none => rfl
                  | some y => rw [e] at this; cases this
                go_wp2_with (first
                  | (at_lookup; refine KEY.out _ _ _ _ _ _ _ _ rfl rfl rfl (Below.heap_alloc _ _ _ hm4) rfl ?_; intro y)
                  | (at_mapUpdate; refine wpList_put_map rfl _ _ _ rfl (w.heap.size + 1 + 1 + 1 + 1) nm' (mapOf seen') rfl (MPx.out _) (by have := SRi.out.cnt; unfold maxLen; omega) (b : Int) ((ht' : Int) + 1) (hc' : Int) rfl rfl WB.out WT.out WC.out ?_; intro w12 hm12 hg12; have t12 : ∀ o, w12.cell? ⟨wi.heap.size, o, none⟩ = #[Value.int .i64 (b : Int), .int .i64 ((ht' : Int) + 1)][o]? := fun o => (World.cell?_of_block (hg12.block _ (by simp) (by intro e; have e := Option.some.inj e; have e : wi.heap.size = w.heap.size + 1 + 1 + 1 + 1 := e; omega))).trans (by go_simp)))
                have SR12 : Hid (Srch w.heap.size w6 w12 cs.size (seenPut seen' b (ht' + 1) hc') m' it' v' (nm' + 1)) :=
                  (SRi.out.later ((Below.refl _ _).alloc (Nat.le_refl _) _)).put (by omega) hbN (by have := HT.out; omega) SN.out (by rw [HT1.out]; exact hm12) hg12
                have BX12 : Hid (∀ o, w12.cell? ⟨B8, o, none⟩ = #[Value.int .i64 (hc' : Int), .int .i64 (ht' : Int)][o]?) := fun o => (World.cell?_of_block (hg12.block B8 (by simp; omega) (by intro e; have e := Option.some.inj e; omega))).trans ((World.cell?_alloc_past _ _ _ hb8').trans (BXi.out o))
                have OW12 : Hid (w12.ownsRow wo.heap.size 3 1 (.slice (some ⟨gL, 0, none⟩) L.length capL) L.length (ints L)) := own_block_keep OWi.out fun k hk hkl _ => (hg12.block k (by simp; omega) (by intro e; have e := Option.some.inj e; have := SR.out.sz; omega)).trans (Below.heap_alloc _ _ _ hkl)
                have ST12 : Hid (∀ op', (∀ a t, op' a t ↔ Mem m' it' (a, t) ∨ (a = b ∧ t = ht' + 1)) → Star cs.size (reachM co cs n R f) (goesM co cs n R) f c (settledM c R n) (seenPut seen' b (ht' + 1) hc') op' (fun a b => a = hc' ∧ b = ht')) := fun op' hop' => star_push TR.out STi.out SHi.out GOES.out NG.out HT.out hop'
                have UN12 := Hid.mk (unseen_put (N := cs.size) (p := hc') (by omega) hbN (show ht' + 1 ≤ 61 + cs.size by have := HT.out; omega) SN.out)
                have hz12 : Hid (wi.heap.size + 1 ≤ w12.heap.size) := by have := hg12.size; unfold Hid; simpa using this
                clear hm12 hg12 t12 hb0 hb1 hx MPx KEY hm4
                refine (push_srch_at w.heap.size gf cs.size w6 w12 _ m' it' v' (nm' + 1) st b (ht' + 1) _ HT1.out.symm SR12.out F6.out hgl BD.out FIi.out ORi.out hbN (by have := HT.out; omega) (by have h1 := SRi.out.size; have h2 := UN12.out; omega)).mono ?_
                rintro e w13 ⟨rfl, it13, v13, hsr13, hord13, hfin13, hmem13, hon13, hloc13⟩
                have SR13 := Hid.mk hsr13
                have OR13 := Hid.mk hord13
                have FI13 := Hid.mk hfin13
                have ME13 := Hid.mk hmem13
                have ON13 := Hid.mk hon13
                have LO13 := Hid.mk hloc13
                clear hsr13 hord13 hfin13 hmem13 hon13 hloc13
                go_wp2
                go_roundw
                case rel =>
                  have h12 := hz12.out
                  have h8 : ¬ (B8 = w.heap.size + 1 + 1 ∨ v'.ownBlock = some B8) := fun e => by
                    rcases e with e | e
                    · omega
                    · exact (Gi.out B8 e).1 rfl
                  refine ⟨j + 1, seenPut seen' b (ht' + 1) hc', m' + 1, it13, v13, nm' + 1, by go_num, by omega, SR13.out, OR13.out, FI13.out, fun o => (ON13.out.cell (p := ⟨B8, o, none⟩) (by show B8 < _; omega) h8).trans (BX12.out o), by have := ON13.out.size; omega, fun G hG => ?_, ST12.out _ (fun a t => ME13.out a t), seenPut_some SHi.out, fun i hi b' hb' => ?_, own_block_keep OW12.out fun k hk hkl hk2 => ON13.out.block k hkl (fun e => ?_), by have h1 := UN12.out; have h2 := CNi.out; omega⟩
                  · rcases LO13.out G hG with e | e
                    · exact Gi.out G e
                    · refine ⟨by omega, fun e2 => ?_⟩
                      have := (OW12.out.lt G (by rw [e2]; rfl)).2
                      omega
                  · by_cases e : i = j
                    · subst e
                      have e2 : b' = b := by have := HBZ.out; omega
                      subst e2
                      unfold seenPut; simp
                    · exact seenPut_some (DNi.out i (by omega) b' hb')
                  · have e4 : gL = k := by simpa [Value.ownBlock] using hk2
                    rcases e with e | e
                    · have := SR.out.sz; omega
                    · exact (Gi.out k e).2 (by rw [e4])
                case measure => simp [intOf]; omega
              · -- known
                go_wp2_with (at_lookup; refine KEY.out _ _ _ _ _ _ _ _ rfl rfl rfl (Below.heap_alloc _ _ _ hm4) rfl ?_; intro y)
                go_roundw
                case rel =>
                  have hba := (Below.refl wi.heap.size wi).alloc (Nat.le_refl _) (Obj.cells #[.int .i64 (b : Int), .int .i64 ((ht' : Int) + 1)] 225)
                  refine ⟨j + 1, seen', m', it', v', nm', by go_num, by omega, SRi.out.later hba, ORi.out, FIi.out, fun o => (World.cell?_alloc_past _ _ _ hb8').trans (BXi.out o), by simp; omega, Gi.out, STi.out, SHi.out, fun i hi b' hb' => ?_, own_below OWi.out hba, CNi.out⟩
                  by_cases e : i = j
                  · subst e
                    have e2 : b' = b := by have := HBZ.out; omega
                    subst e2
                    have := HKB.out
                    intro e3
                    rw [e3] at this; cases this
                  · exact DNi.out i (by omega) b' hb'
                case measure => simp [intOf]; omega
            · have hj2 : j = L.length := by omega
              have ALL : Hid (∀ b : Nat, goesM co cs n R hc' b ht' = true → seen' b (ht' + 1) ≠ none) := fun b hb => by
                obtain ⟨i, hi, e⟩ := mem_at ((hLM.out b).2 hb)
                exact DNi.out i (by omega) b e
              have ST14 := Hid.mk (star_next STi.out ALL.out)
              have hb0 := hbox' 0
              have hb1 := hbox' 1
              simp only [List.getElem?_toArray, List.getElem?_cons_zero, List.getElem?_cons_succ] at hb0 hb1
              clear hbox' ALL STi DNi OWi
              have SR14 := Hid.mk (SRi.out.later ((Below.refl _ _).alloc (Nat.le_refl _) (Obj.cells #[.int .i64 (hc' : Int), .int .i64 (ht' : Int)] 225)))
              have B14 : Hid (∀ o, (wi.alloc (Obj.cells #[.int .i64 (hc' : Int), .int .i64 (ht' : Int)] 225)).cell? ⟨wi.heap.size, o, none⟩ = #[Value.int .i64 (hc' : Int), .int .i64 (ht' : Int)][o]?) := by unfold Hid; intro o; go_simp
              have R14 : Hid (∀ o, (wi.alloc (Obj.cells #[.int .i64 (hc' : Int), .int .i64 (ht' : Int)] 225)).frozen? ⟨wi.heap.size, o, none⟩ = false) := by unfold Hid; intro o; go_simp
              have Z14 : Hid ((wi.alloc (Obj.cells #[.int .i64 (hc' : Int), .int .i64 (ht' : Int)] 225)).heap.size = wi.heap.size + 1) := by unfold Hid; simp
              have SZi : Hid (∀ G, v'.ownBlock = some G → G < wi.heap.size) := SRi.out.list.lt
              go_wp2_with fail
              refine (pop_srch w.heap.size gf cs.size w6 _ _ _ _ _ nm' st SR14.out F6.out hgl BD.out FIi.out ORi.out).mono ?_
              rintro e w15 ⟨ok2, hc2, ht2, m2, it2, v2, rfl, hsr15, hord15, hfin15, hyes15, hno15, hon15, hloc15⟩
              have SR15 := Hid.mk hsr15
              have OR15 := Hid.mk hord15
              have FI15 := Hid.mk hfin15
              have YES15 := Hid.mk hyes15
              have NO15 := Hid.mk hno15
              have LO15 := Hid.mk hloc15
              have hz14 := Z14.out
              have hne : ¬ (wi.heap.size = w.heap.size + 1 + 1 ∨ v'.ownBlock = some wi.heap.size) := fun e => by
                rcases e with e | e
                · omega
                · have := SZi.out _ e; omega
              have b15 : ∀ o, w15.cell? ⟨wi.heap.size, o, none⟩ = #[Value.int .i64 (hc' : Int), .int .i64 (ht' : Int)][o]? := fun o => (hon15.cell (p := ⟨wi.heap.size, o, none⟩) (by show wi.heap.size < _; omega) hne).trans (B14.out o)
              have r15 : ∀ o, w15.frozen? ⟨wi.heap.size, o, none⟩ = false := fun o => (hon15.frozen (p := ⟨wi.heap.size, o, none⟩) (by show wi.heap.size < _; omega) hne).trans (R14.out o)
              have hz15 : Hid (wi.heap.size + 1 ≤ w15.heap.size) := by have := hon15.size; unfold Hid; omega
              have B15 := Hid.mk b15
              have b150 := b15 0
              have b151 := b15 1
              have r150 := r15 0
              have r151 := r15 1
              simp only [List.getElem?_toArray, List.getElem?_cons_zero, List.getElem?_cons_succ] at b150 b151
              clear hsr15 hord15 hfin15 hyes15 hno15 hon15 hloc15 b15 r15 SR14 B14 R14 Z14 hz14 hb0 hb1 hne
              go_wp2
              go_roundg (unseen cs.size seen' + m2 + (if ok2 then 1 else 0))
              case rel =>
                have hz := hz15.out
                refine ⟨seen', m2, it2, v2, nm', wi.heap.size, ok2, hc2, ht2, rfl, rfl, ((SR15.out.box (by omega) (fun G hG e => ?_) 0 _).box (by omega) (fun G hG e => ?_) 1 _), OR15.out, FI15.out, box_set (box_set B15.out (by simp) rfl) (by simp) rfl, hzi, by simp; omega, fun G hG e => ?_, star_congr ST14.out (fun a b => ?_), fun h a b hab => (YES15.out h).2.1 a b (((YES15.out h).1 a b).2 (Or.inl hab)), fun h => (NO15.out h).2, fun h => (YES15.out h).2.2.2, Nat.le_refl _⟩
                · have := SZi.out G (LO15.out G hG); omega
                · have := SZi.out G (LO15.out G hG); omega
                · have := SZi.out G (LO15.out G hG); omega
                · constructor
                  · intro h
                    rcases h with h | ⟨h, e1, e2⟩
                    · cases ok2
                      · have := (NO15.out rfl).2
                        obtain ⟨i, hi, _⟩ := h
                        omega
                      · exact ((YES15.out rfl).1 a b).2 (Or.inl h)
                    · exact ((YES15.out h).1 a b).2 (Or.inr ⟨e1, e2⟩)
                  · intro h
                    cases ok2
                    · have := (NO15.out rfl).1
                      obtain ⟨i, hi, _⟩ := h
                      omega
                    · rcases ((YES15.out rfl).1 a b).1 h with h | h
                      · exact Or.inl h
                      · exact Or.inr ⟨rfl, h⟩
              case measure =>
                have h1 := CNi.out
                have h2 := GK2.out
                cases ok2
                · have := (NO15.out rfl).2
                  simp; omega
                · have := (YES15.out rfl).2.2.1
                  simp; omega

end Go.Proofs.YtnkgpinadgacgaaDoor
