/- Gr, Gs. -/
import Derived.Test.YtnkgpinadgacgaaGreatDoorQzh
set_option maxRecDepth 1000000
set_option maxHeartbeats 16000000
namespace Go.Proofs.YtnkgpinadgacgaaGreatDoor
section
open Go.RowKit M SM
theorem Tryz.infoLead : (Tryz.prog.info? 152).map (fun i => (i.zero, i.size, i.bytes)) = some (some (.agg #[.int .u8 0, .int .u8 0, .int .u8 0, .int .u8 0, .bool false, .bool false, .bool false, .bool false, .int .i64 0, .int .i64 0]), 10, 24) := by kernel_rfl
def leadCells (it : Nat -> LeadM) : Nat -> List Value
 | 0 => []
 | m + 1 => leadCells it m ++ ldL (it m)
theorem leadCells_len (it : Nat -> LeadM) : ∀ m, (leadCells it m).length = m * 10
 | 0 => rfl
 | m + 1 => by simp only [leadCells, List.length_append, leadCells_len it m, ldL_len]; omega
theorem leadCells_at {it : Nat -> LeadM} : ∀ {m i t : Nat}, i < m -> t < 10 -> (leadCells it m)[i * 10 + t]? = (ldL (it i))[t]?
 | m + 1, i, t, h, ht => by
   have hl := leadCells_len it m; simp only [leadCells]; by_cases e : i = m
   . subst e; rw [List.getElem?_append_right (by omega), hl, show i * 10 + t - i * 10 = t by omega]
   . rw [List.getElem?_append_left (by omega)]; exact leadCells_at (by omega) ht
theorem leadCells_same {it it' : Nat -> LeadM} : ∀ {m : Nat}, (∀ i, i < m -> it i = it' i) -> leadCells it m = leadCells it' m
 | 0, _ => rfl
 | m + 1, h => by simp only [leadCells]; rw [leadCells_same (fun i hi => h i (by omega)), h m (by omega)]
def ListL (w : World) (v : Value) (n : Nat) (it : Nat -> LeadM) : Prop := (v = .slice none 0 0 ∧ n = 0) ∨ ∃ G cap, v = .slice (some ⟨G, 0, none⟩) n cap ∧ ItemsL w G cap n it
theorem listL_own {w : World} {v : Value} {n : Nat} {it : Nat -> LeadM} (h : ListL w v n it) : w.ownsRow 0 152 10 v n (leadCells it n) := by
 rcases h with ⟨h1, h2⟩ | ⟨G, cap, h1, g2, g3, f, ⟨cur, g4, g5, g6⟩, g7⟩
 . subst h1 h2; exact ⟨rfl, Or.inl ⟨rfl, rfl⟩⟩
 . subst h1; refine ⟨leadCells_len it n, Or.inr ⟨G, cap, cur, rfl, Nat.zero_le _, g4, g2, g3, g5, ?_⟩⟩; apply List.ext_getElem?
   intro i; by_cases hi : i < n * 10
   . rw [List.getElem?_take, if_pos hi, Array.getElem?_toList, g6 i (by omega)]; have e : i = i / 10 * 10 + i % 10 := by omega
     rw [e, leadCells_at (by omega) (by omega), g7 (i / 10) (by omega) (i % 10) (by omega)]
   . rw [List.getElem?_take, if_neg hi, List.getElem?_eq_none (by rw [leadCells_len]; omega)]
theorem itemsL_own {w : World} {base G cap n : Nat} {it : Nat -> LeadM} (h : w.ownsRow base 152 10 (.slice (some ⟨G, 0, none⟩) n cap) n (leadCells it n)) : ItemsL w G cap n it := by
 rcases h.2 with ⟨h0, _⟩ | ⟨g', cap', cur, hv, _, hh, hn, hc, hs, ht⟩
 . cases h0
 . cases hv; refine ⟨hn, hc, fun o => (cur[o]?).getD undef, ⟨cur, hh, hs, fun i hi => ?_⟩, fun i hi t ht' => ?_⟩
   . show cur[i]? = some ((cur[i]?).getD undef); rw [Array.getElem?_eq_getElem (by omega)]; rfl
   . show _ = some ((cur[i * 10 + t]?).getD undef); rw [<- leadCells_at (it := it) hi ht', <- ht, List.getElem?_take, if_pos (by omega), Array.getElem?_toList, Array.getElem?_eq_getElem (by omega)]; rfl
theorem listL_apart {w : World} {S n : Nat} {c0 c1 c2 c3 u v : Value} {it : Nat -> LeadM} (h : SrcAt w S c0 c1 c2 c3 u) (h' : ListL w v n it) : v.ownBlock ≠ some S := by
 rcases h' with ⟨h1, _⟩ | ⟨G, cap, h1, h2⟩
 . subst h1; intro e; cases e
 . subst h1; intro e; have e : G = S := Option.some.inj e; exact src_apart h h2 e.symm
def PutL (w wx : World) (S n : Nat) (c0 c1 c2 c3 v : Value) (it : Nat -> LeadM) (l : LeadM) (G cap : Nat) : Prop :=
 SrcAt wx S c0 c1 c2 c3 (.slice (some ⟨G, 0, none⟩) (n + 1) cap) ∧ ItemsL wx G cap (n + 1) (HM.pushIt it n l) ∧ (v.ownBlock = some G ∨ w.heap.size <= G) ∧ Only (fun k => k = S ∨ v.ownBlock = some k) w wx
theorem putL_mk {w pre w9 : World} {S n G cap : Nat} {c0 c1 c2 c3 v : Value} {it : Nat -> LeadM} {l : LeadM} (hh : SrcAt w S c0 c1 c2 c3 v) (hHv : v.ownBlock ≠ some S) (hp : Below w.heap.size w pre) (ho : w9.ownsRow 0 152 10 (.slice (some ⟨G, 0, none⟩) (n + 1) cap) (n + 1) (leadCells it n ++ ldL l))
 (hg : pre.grownBy w9 v.ownBlock) (hl : v.ownBlock = some G ∨ w.heap.size <= G) : PutL w (w9.setCell ⟨S, 5, none⟩ (.slice (some ⟨G, 0, none⟩) (n + 1) cap)) S n c0 c1 c2 c3 v it l G cap := by
 have hHl := hh.lt; have hGH : G ≠ S := fun e => by
  subst e; rcases hl with h | h
  . exact hHv h
  . omega
 have h9 : w9.heap[S]? = w.heap[S]? := (hg.block S (Nat.lt_of_lt_of_le hHl hp.size) (fun e => hHv e.symm)).trans (hp.block S hHl); have hit : ItemsL w9 G cap (n + 1) (HM.pushIt it n l) := by
  refine itemsL_own (base := 0) ?_; have e : leadCells (HM.pushIt it n l) (n + 1) = leadCells it n ++ ldL l := by
   simp only [leadCells]; rw [leadCells_same (it := HM.pushIt it n l) (it' := it) (fun i hi => by unfold HM.pushIt; rw [if_neg (by omega)])]; unfold HM.pushIt; rw [if_pos rfl]
  rw [e]; exact ho
 refine ⟨(hh.block h9).put _, hit.block (Below.heap_setCell _ _ _ _ hGH), hl, ?_⟩; have o9 : Only (fun k => k = S ∨ v.ownBlock = some k) w w9 := ⟨hg.os.trans hp.os, hg.tape.trans hp.tape, hg.output.trans hp.output, Nat.le_trans hp.size hg.size, fun k hk hn => (hg.block k (Nat.lt_of_lt_of_le hk hp.size) (fun e => hn (Or.inr e.symm))).trans (hp.block k hk)⟩
 exact o9.setCell (p := ⟨S, 5, none⟩) (fun _ => Or.inl rfl) _
theorem range_new (w : World) (l : LeadM) (b : Nat) (hb : b = w.heap.size) : (w.alloc (.cells (ldL l).toArray 152)).rangeAt b 0 (ldL l) := by
 subst hb; intro j v hv; have := World.rangeAt_of_block (w := w.alloc (.cells (ldL l).toArray 152)) (b := w.heap.size) (C := (ldL l).toArray) (t := 152) (fr := (0, 0)) (by show (w.heap.push _)[w.heap.size]? = _; simp) 0 10 j v (by
  rw [show ((ldL l).toArray.extract 0 (0 + 10)).toList = ldL l from rfl]; exact hv)
 exact this
theorem pushL_any (S n : Nat) (c0 c1 c2 c3 v : Value) (it : Nat -> LeadM) (l : LeadM) (w : World) (hh : SrcAt w S c0 c1 c2 c3 v) (hit : ListL w v n it) (hn : n < 900000000) :
 Calls Tryz.prog 78 #[.pointer (some ⟨S, 4, none⟩), .agg (ldL l).toArray] w fun e w' =>
  e = .returned (.tuple #[]) ∧ ∃ G cap, SrcAt w' S c0 c1 c2 c3 (.slice (some ⟨G, 0, none⟩) (n + 1) cap) ∧ ItemsL w' G cap (n + 1) (HM.riseF ltL (n + 1) (HM.pushIt it n l) n) ∧ (v.ownBlock = some G ∨ w.heap.size <= G) ∧ Only (fun k => k = S ∨ v.ownBlock = some k) w w' := by
 obtain ⟨i0, hi0, hi1, hi2, hi3⟩ := info_parts Tryz.infoLead; have hHl := hh.lt; have OWN := zx (listL_own hit); have HH := zx hh; have NHV := zx (listL_apart hh hit); obtain ⟨av, cv, hv⟩ : ∃ av cv, v = .slice av n cv := by
  rcases hit with ⟨h1, h2⟩ | ⟨G, cap, h1, _⟩
  . exact ⟨none, 0, by rw [h1, h2]⟩
  . exact ⟨_, _, h1⟩
 subst hv; clear hh hit; obtain ⟨w1, hw1⟩ : ∃ w1, w1 = w.alloc (.cells (ldL l).toArray 152) := ⟨_, rfl⟩
 have B1 : Below w.heap.size w w1 := by rw [hw1]; exact (Below.refl _ w).alloc zl _
 have hz1 : w1.heap.size = w.heap.size + 1 := by rw [hw1]; simp
 have HS : (fun u : World => u.cell? ⟨S, 5, none⟩ = some (.slice av n cv) ∧ u.rangeAt w.heap.size 0 (ldL l)) w1.drew := ⟨(zj B1 HH.out.cells.2.2.2.2.2 : w1.cell? _ = _), by rw [hw1]; simpa using range_new w l _ rfl⟩
 go_enter Tryz.func78, Tryz.ntmps78; go_upto_region 1 with fail; rw [<- hw1]; have HW1 := zx hw1; clear hw1; refine wp_region_any (by kernel_rfl) ?_; change wpAny _ _ _ _ _ _ _ (World.drew _); refine LM.T 0 (.pointer (some ⟨S, 4, none⟩)) rfl ?_; refine LM.T 1 (.pointer (some ⟨S, 4, none⟩)) rfl ?_; refine LM.T 2 (.pointer (some ⟨S, 4, none⟩)) rfl ?_; refine LM.T 3 (.pointer (some ⟨S, 5, none⟩)) rfl ?_; refine LM.any_of_L (late := LM.lateOf [7, 8, 9, 10]) (S := fun u => u.cell? ⟨S, 5, none⟩ = some (.slice av n cv) ∧ u.rangeAt w.heap.size 0 (ldL l)) _ _ _ _ ?_
 refine LM.TL 4 (.slice av n cv) rfl (Or.inl ⟨by rfl, fun u hu => by have h5 := hu.1; go_simp⟩) HS ?_; refine LM.TL 5 (.agg (ldL l).toArray) rfl (yieldsIf_load_mid (by rfl) 152 (.tmp 3) rfl w.heap.size 0 (by go_simp) (ldL l) _ (fun u hu => hu.2) Tryz.underlying152 rfl ((congrArg some (ldL_len l)).symm ▸ Tryz.sizeLead)) HS ?_; refine LM.L_one (i := 6) rfl (by kernel_rfl) rfl (fun K hK => ?_); unfold ldL; go_simp; have B2 : Hid (Below w.heap.size w (w1.alloc (.cells (ldL l).toArray 152)).drew) := (B1.alloc (by omega) _).drew
 have NR : (w1.alloc (.cells (ldL l).toArray 152)).drew.rangeAt (w.heap.size + 1) 0 (ldL l) := by simpa using range_new w1 l (w.heap.size + 1) (by omega)
 have hz2 : (w1.alloc (.cells (ldL l).toArray 152)).drew.heap.size = w.heap.size + 2 := by show (w1.alloc _).heap.size = _; simp; omega
 refine hK _ (w1.alloc (.cells (ldL l).toArray 152)).drew ⟨(zj B2.out HH.out.cells.2.2.2.2.2 : World.cell? _ _ = _), by simpa using World.rangeAt_alloc (w := w1) (by simpa using HS.2) _⟩ ?_; clear HS hK K; generalize (w1.alloc (.cells (ldL l).toArray 152)).drew = w2 at *; refine LM.L_rest (by kernel_rfl) ?_; refine LM.any_one (i := 7) rfl (by kernel_rfl) rfl (fun K hK => ?_)
 refine wp_append_lies w2 (.tmp 8) (.tmp 10) 117 rfl 0 152 i0 _ 10 24 Tryz.underlying117 hi0 hi1 hi2 hi3 rfl (by omega) (.slice av n cv) n (leadCells it n) (by go_simp) (own_later OWN.out B2.out) ⟨w.heap.size + 1, 0, none⟩ 1 1 (ldL l) (by go_simp) rfl (fun j u hj => by rw [Addr.add_mid]; exact NR j u hj) (ldL_one l) (by omega) (by unfold maxLen; omega) (by omega) (Nat.zero_le _) (w.heap.size + 2) hz2 ?_; intro g9 c9 w9 ho9 hg9 hl9 _; have PUT := zx (putL_mk HH.out NHV.out B2.out ho9 hg9 (hl9.imp id (fun e => by omega)))
 have D1 : ∀ k, Value.ownBlock (.slice av n cv) = some k -> S ≠ k := fun k hk e => NHV.out (by rw [e]; exact hk)
 have e9 := grow_cell HH.out.cells.2.2.2.2.2 B2.out hg9 D1; have f9 := grow_frozen (HH.out.fz 5) hHl B2.out hg9 D1; clear ho9 hg9 hl9 D1; refine hK _ _ ?_; refine LM.T 8 (.pointer (some ⟨S, 4, none⟩)) rfl ?_; refine LM.T 9 (.pointer (some ⟨S, 5, none⟩)) rfl ?_; refine LM.any_one (i := 10) rfl (by kernel_rfl) rfl (fun K hK => ?_); go_simp; refine hK _ _ ?_; refine wpAny_done (by kernel_rfl) ?_ _; clear hK K e9 f9; have x1 := PUT.out.1.cells.2.2.2.2.2; generalize w9.setCell ⟨S, 5, none⟩ (.slice (some ⟨g9, 0, none⟩) (n + 1) c9) = wx at *; go_wp2_with fail
 refine (riseL_any S g9 c9 (n + 1) n (n + 1) c0 c1 c2 c3 (HM.pushIt it n l) _ PUT.out.1 PUT.out.2.1 (by omega) (by omega) (by omega)).mono ?_; rintro e w5 ⟨rfl, hi5, ho5⟩; have R3 := zx hi5; have R4 := zx ho5; have R5 := zx (PUT.out.1.block (ho5.block _ PUT.out.1.lt (src_apart PUT.out.1 PUT.out.2.1))); clear hi5 ho5 x1; go_wp2; go_end0
 refine ⟨rfl, g9, c9, R5.out, R3.out, PUT.out.2.2.1, PUT.out.2.2.2.trans R4.out (fun i hi e => ?_)⟩; have e : i = g9 := e; rcases PUT.out.2.2.1 with h | h
 . exact Or.inr (by rw [e]; exact h)
 . omega
end
section
open Go.RowKit M SM
theorem results_cell_tmp {fn : Func} {p q : Tmp} {ty : TypeId} (h : fn.results = #[.cell p ty, .tmp q]) (tmps : Array Value) (P : Program) (w : World) {b o : Nat} {v : Value} (hp : tmps.getD p undef = .pointer (some ⟨b, o, none⟩)) (hl : (loadVar ty ⟨b, o, none⟩).run P w = .ok v w) :
 (results fn tmps).run P w = .ok (.tuple #[v, tmps.getD q undef]) w := by
 simp only [results, h]; have ha : (asAddr (tmps.getD p undef)).run P w = .ok ⟨b, o, none⟩ w := by rw [hp]; rfl
 simp only [Array.getD_eq_getD_getElem?] at ha ⊢; simp [Sem.run_bind, Result.andThen, ha, hl]
def lead0 : LeadM := ⟨([], []), 0, 0⟩
theorem ldL_mk (l : LeadM) : ∃ (a0 a1 a2 a3 : Nat) (a4 a5 a6 a7 : Bool) (a8 a9 : Nat), ldL l = [.int .u8 a0, .int .u8 a1, .int .u8 a2, .int .u8 a3, .bool a4, .bool a5, .bool a6, .bool a7, .int .i64 (a8 : Nat), .int .i64 (a9 : Nat)] := ⟨_, _, _, _, _, _, _, _, _, _, rfl⟩
theorem range_ten {w : World} {G o : Nat} {a0 a1 a2 a3 : Nat} {a4 a5 a6 a7 : Bool} {a8 a9 : Nat} (h : w.rangeAt G o [.int .u8 a0, .int .u8 a1, .int .u8 a2, .int .u8 a3, .bool a4, .bool a5, .bool a6, .bool a7, .int .i64 (a8 : Nat), .int .i64 (a9 : Nat)]) :
 w.cell? ⟨G, o, none⟩ = some (.int .u8 a0) ∧ w.cell? ⟨G, o + 1, none⟩ = some (.int .u8 a1) ∧ w.cell? ⟨G, o + 2, none⟩ = some (.int .u8 a2) ∧ w.cell? ⟨G, o + 3, none⟩ = some (.int .u8 a3) ∧ w.cell? ⟨G, o + 4, none⟩ = some (.bool a4) ∧ w.cell? ⟨G, o + 5, none⟩ = some (.bool a5) ∧ w.cell? ⟨G, o + 6, none⟩ = some (.bool a6) ∧ w.cell? ⟨G, o + 7, none⟩ = some (.bool a7) ∧ w.cell? ⟨G, o + 8, none⟩ = some (.int .i64 (a8 : Nat)) ∧ w.cell? ⟨G, o + 9, none⟩ = some (.int .i64 (a9 : Nat)) :=
 ⟨h 0 _ rfl, h 1 _ rfl, h 2 _ rfl, h 3 _ rfl, h 4 _ rfl, h 5 _ rfl, h 6 _ rfl, h 7 _ rfl, h 8 _ rfl, h 9 _ rfl⟩
theorem popL_some (S G cap n : Nat) (c0 c1 c2 c3 : Value) (it : Nat -> LeadM) (w : World) (hh : SrcAt w S c0 c1 c2 c3 (.slice (some ⟨G, 0, none⟩) n cap)) (hit : ItemsL w G cap n it) (hn0 : 0 < n) (hn : n < 900000000) :
 Calls Tryz.prog 80 #[.pointer (some ⟨S, 4, none⟩)] w fun e w' =>
  e = .returned (.tuple #[.agg (ldL (it 0)).toArray, .bool true]) ∧ SrcAt w' S c0 c1 c2 c3 (.slice (some ⟨G, 0, none⟩) (n - 1) cap) ∧ ItemsL w' G cap (n - 1) (HM.sinkF ltL (n - 1) (n - 1) (HM.popIt it n) 0) ∧ Only (fun k => k = S ∨ k = G) w w' := by
 have hHl := hh.lt; have hGl := hit.lt; have NE := zx (src_apart hh hit); obtain ⟨m, hm⟩ : ∃ m, n = m + 1 := ⟨n - 1, by omega⟩
 subst hm; obtain ⟨a0, a1, a2, a3, a4, a5, a6, a7, a8, a9, ha⟩ := ldL_mk (it 0); have FI := zx ha; have W2 : Hid (Only (fun _ => False) w ((w.alloc (.cells #[.int .u8 0, .int .u8 0, .int .u8 0, .int .u8 0, .bool false, .bool false, .bool false, .bool false, .int .i64 0, .int .i64 0] 152)).alloc (.cells #[.int .u8 0, .int .u8 0, .int .u8 0, .int .u8 0, .bool false, .bool false, .bool false, .bool false, .int .i64 0, .int .i64 0] 152))) := ((Only.refl _ w).alloc _).alloc _
 have HH2 : Hid (SrcAt ((w.alloc (.cells #[.int .u8 0, .int .u8 0, .int .u8 0, .int .u8 0, .bool false, .bool false, .bool false, .bool false, .int .i64 0, .int .i64 0] 152)).alloc (.cells #[.int .u8 0, .int .u8 0, .int .u8 0, .int .u8 0, .bool false, .bool false, .bool false, .bool false, .int .i64 0, .int .i64 0] 152)) S c0 c1 c2 c3 (.slice (some ⟨G, 0, none⟩) (m + 1) cap)) := hh.block (W2.out.block _ hHl (fun e => e))
 have IT2 : Hid (ItemsL ((w.alloc (.cells #[.int .u8 0, .int .u8 0, .int .u8 0, .int .u8 0, .bool false, .bool false, .bool false, .bool false, .int .i64 0, .int .i64 0] 152)).alloc (.cells #[.int .u8 0, .int .u8 0, .int .u8 0, .int .u8 0, .bool false, .bool false, .bool false, .bool false, .int .i64 0, .int .i64 0] 152)) G cap (m + 1) it) := hit.block (W2.out.block _ hGl (fun e => e))
 have R2 : Hid (∀ o, ((w.alloc (.cells #[.int .u8 0, .int .u8 0, .int .u8 0, .int .u8 0, .bool false, .bool false, .bool false, .bool false, .int .i64 0, .int .i64 0] 152)).alloc (.cells #[.int .u8 0, .int .u8 0, .int .u8 0, .int .u8 0, .bool false, .bool false, .bool false, .bool false, .int .i64 0, .int .i64 0] 152)).cell? ⟨w.heap.size, o, none⟩ = #[Value.int .u8 0, .int .u8 0, .int .u8 0, .int .u8 0, .bool false, .bool false, .bool false, .bool false, .int .i64 0, .int .i64 0][o]?) := by intro o; go_simp
 have RF2 : Hid (∀ o, ((w.alloc (.cells #[.int .u8 0, .int .u8 0, .int .u8 0, .int .u8 0, .bool false, .bool false, .bool false, .bool false, .int .i64 0, .int .i64 0] 152)).alloc (.cells #[.int .u8 0, .int .u8 0, .int .u8 0, .int .u8 0, .bool false, .bool false, .bool false, .bool false, .int .i64 0, .int .i64 0] 152)).frozen? ⟨w.heap.size, o, none⟩ = false) := by intro o; go_simp
 have N2 : Hid (((w.alloc (.cells #[.int .u8 0, .int .u8 0, .int .u8 0, .int .u8 0, .bool false, .bool false, .bool false, .bool false, .int .i64 0, .int .i64 0] 152)).alloc (.cells #[.int .u8 0, .int .u8 0, .int .u8 0, .int .u8 0, .bool false, .bool false, .bool false, .bool false, .int .i64 0, .int .i64 0] 152)).rangeAt (w.heap.size + 1) 0 (ldL lead0)) := range_new (w.alloc (.cells #[.int .u8 0, .int .u8 0, .int .u8 0, .int .u8 0, .bool false, .bool false, .bool false, .bool false, .int .i64 0, .int .i64 0] 152)) lead0 _ (by simp)
 have hz2 : ((w.alloc (.cells #[.int .u8 0, .int .u8 0, .int .u8 0, .int .u8 0, .bool false, .bool false, .bool false, .bool false, .int .i64 0, .int .i64 0] 152)).alloc (.cells #[.int .u8 0, .int .u8 0, .int .u8 0, .int .u8 0, .bool false, .bool false, .bool false, .bool false, .int .i64 0, .int .i64 0] 152)).heap.size = w.heap.size + 2 := by simp
 have x1 := HH2.out.cells.2.2.2.2.2; have rg := IT2.out.range (i := 0) hn0; rw [ha, Nat.zero_mul] at rg; obtain ⟨p0, p1, p2, p3, p4, p5, p6, p7, p8, p9⟩ := range_ten rg; simp only [Nat.zero_add] at p1 p2 p3 p4 p5 p6 p7 p8 p9; have rm := hit.room; unfold maxLen at rm; have i1 : ((m + 1 : Nat) : Int) = (m : Int) + 1 := by omega
 have i2 : ((m : Int) + 1 == 0) = false := by simp; omega
 have i3 : (0 : Int) < (m : Int) + 1 := by omega
 have i4 : IntKind.i64.wrap ((m : Int) + 1 - 1) = (m : Int) := by rw [IntKind.wrap_i64]; omega
 have i5 : IntKind.i64.wrap (m : Int) = (m : Int) := by rw [IntKind.wrap_i64]; omega
 clear hh hit ha rg; go_enter Tryz.func80, Tryz.ntmps80; go_upto_region 4 with fail; generalize ((w.alloc (.cells #[.int .u8 0, .int .u8 0, .int .u8 0, .int .u8 0, .bool false, .bool false, .bool false, .bool false, .int .i64 0, .int .i64 0] 152)).alloc (.cells #[.int .u8 0, .int .u8 0, .int .u8 0, .int .u8 0, .bool false, .bool false, .bool false, .bool false, .int .i64 0, .int .i64 0] 152)) = w2 at *; have hH2 : S < w2.heap.size := by omega
 have hG2 : G < w2.heap.size := by omega
 have g0 : ∀ o, (w2.alloc o).cell? ⟨G, 0, none⟩ = some (.int .u8 a0) := fun o => by rw [World.cell?_alloc_past _ _ _ (by show G < _; exact hG2)]; exact p0
 have g1 : ∀ o, (w2.alloc o).cell? ⟨G, 1, none⟩ = some (.int .u8 a1) := fun o => by rw [World.cell?_alloc_past _ _ _ (by show G < _; exact hG2)]; exact p1
 have g2 : ∀ o, (w2.alloc o).cell? ⟨G, 2, none⟩ = some (.int .u8 a2) := fun o => by rw [World.cell?_alloc_past _ _ _ (by show G < _; exact hG2)]; exact p2
 have g3 : ∀ o, (w2.alloc o).cell? ⟨G, 3, none⟩ = some (.int .u8 a3) := fun o => by rw [World.cell?_alloc_past _ _ _ (by show G < _; exact hG2)]; exact p3
 have g4 : ∀ o, (w2.alloc o).cell? ⟨G, 4, none⟩ = some (.bool a4) := fun o => by rw [World.cell?_alloc_past _ _ _ (by show G < _; exact hG2)]; exact p4
 have g5 : ∀ o, (w2.alloc o).cell? ⟨G, 5, none⟩ = some (.bool a5) := fun o => by rw [World.cell?_alloc_past _ _ _ (by show G < _; exact hG2)]; exact p5
 have g6 : ∀ o, (w2.alloc o).cell? ⟨G, 6, none⟩ = some (.bool a6) := fun o => by rw [World.cell?_alloc_past _ _ _ (by show G < _; exact hG2)]; exact p6
 have g7 : ∀ o, (w2.alloc o).cell? ⟨G, 7, none⟩ = some (.bool a7) := fun o => by rw [World.cell?_alloc_past _ _ _ (by show G < _; exact hG2)]; exact p7
 have g8 : ∀ o, (w2.alloc o).cell? ⟨G, 8, none⟩ = some (.int .i64 (a8 : Nat)) := fun o => by rw [World.cell?_alloc_past _ _ _ (by show G < _; exact hG2)]; exact p8
 have g9 : ∀ o, (w2.alloc o).cell? ⟨G, 9, none⟩ = some (.int .i64 (a9 : Nat)) := fun o => by rw [World.cell?_alloc_past _ _ _ (by show G < _; exact hG2)]; exact p9
 have q1 : ∀ o, (w2.alloc o).cell? ⟨S, 5, none⟩ = some (.slice (some ⟨G, 0, none⟩) (m + 1) cap) := fun o => by rw [World.cell?_alloc_past _ _ _ (by show S < _; exact hH2)]; exact x1
 have HZ2 := zx hz2; clear hz2; go_big_region
 have O3 : Hid (Only (fun k => k = S ∨ k = G) w (w2.alloc (.cells #[.int .u8 a0, .int .u8 a1, .int .u8 a2, .int .u8 a3, .bool a4, .bool a5, .bool a6, .bool a7, .int .i64 (a8 : Nat), .int .i64 (a9 : Nat)] 152)).drew) := ((W2.out.mono (fun _ _ e => e.elim) : Only (fun k => k = S ∨ k = G) w w2).alloc _).drew; have HH3 : Hid (SrcAt (w2.alloc (.cells #[.int .u8 a0, .int .u8 a1, .int .u8 a2, .int .u8 a3, .bool a4, .bool a5, .bool a6, .bool a7, .int .i64 (a8 : Nat), .int .i64 (a9 : Nat)] 152)).drew S c0 c1 c2 c3 (.slice (some ⟨G, 0, none⟩) (m + 1) cap)) := HH2.out.block (Below.heap_alloc _ _ _ hH2)
 have IT3 : Hid (ItemsL (w2.alloc (.cells #[.int .u8 a0, .int .u8 a1, .int .u8 a2, .int .u8 a3, .bool a4, .bool a5, .bool a6, .bool a7, .int .i64 (a8 : Nat), .int .i64 (a9 : Nat)] 152)).drew G cap (m + 1) it) := (IT2.out.block (Below.heap_alloc _ _ _ hG2)).drew
 have R3 : Hid (∀ o, (w2.alloc (.cells #[.int .u8 a0, .int .u8 a1, .int .u8 a2, .int .u8 a3, .bool a4, .bool a5, .bool a6, .bool a7, .int .i64 (a8 : Nat), .int .i64 (a9 : Nat)] 152)).drew.cell? ⟨w.heap.size, o, none⟩ = #[Value.int .u8 0, .int .u8 0, .int .u8 0, .int .u8 0, .bool false, .bool false, .bool false, .bool false, .int .i64 0, .int .i64 0][o]?) := fun o => (World.cell?_alloc_past _ _ _ (by have := HZ2.out; show w.heap.size < _; omega)).trans (R2.out o)
 have RF3 : Hid (∀ o, (w2.alloc (.cells #[.int .u8 a0, .int .u8 a1, .int .u8 a2, .int .u8 a3, .bool a4, .bool a5, .bool a6, .bool a7, .int .i64 (a8 : Nat), .int .i64 (a9 : Nat)] 152)).drew.frozen? ⟨w.heap.size, o, none⟩ = false) := fun o => ((Below.refl w2.heap.size w2).alloc zl (Obj.cells #[Value.int .u8 a0, .int .u8 a1, .int .u8 a2, .int .u8 a3, .bool a4, .bool a5, .bool a6, .bool a7, .int .i64 (a8 : Nat), .int .i64 (a9 : Nat)] 152)).frozen (p := ⟨w.heap.size, o, none⟩) (by have := HZ2.out; show w.heap.size < _; omega) |>.trans (RF2.out o)
 have N3 : Hid ((w2.alloc (.cells #[.int .u8 a0, .int .u8 a1, .int .u8 a2, .int .u8 a3, .bool a4, .bool a5, .bool a6, .bool a7, .int .i64 (a8 : Nat), .int .i64 (a9 : Nat)] 152)).drew.rangeAt (w.heap.size + 1) 0 (ldL lead0)) := by
  have h := World.rangeAt_alloc N2.out (Obj.cells #[Value.int .u8 a0, .int .u8 a1, .int .u8 a2, .int .u8 a3, .bool a4, .bool a5, .bool a6, .bool a7, .int .i64 (a8 : Nat), .int .i64 (a9 : Nat)] 152); simpa [Hid] using h
 have F3 : Hid (∀ o, (w2.alloc (.cells #[.int .u8 a0, .int .u8 a1, .int .u8 a2, .int .u8 a3, .bool a4, .bool a5, .bool a6, .bool a7, .int .i64 (a8 : Nat), .int .i64 (a9 : Nat)] 152)).drew.cell? ⟨w2.heap.size, o, none⟩ = #[Value.int .u8 a0, .int .u8 a1, .int .u8 a2, .int .u8 a3, .bool a4, .bool a5, .bool a6, .bool a7, .int .i64 (a8 : Nat), .int .i64 (a9 : Nat)][o]?) := fun o => by
  show (w2.alloc _).cell? _ = _; go_simp
 have HZ3 : Hid ((w2.alloc (.cells #[.int .u8 a0, .int .u8 a1, .int .u8 a2, .int .u8 a3, .bool a4, .bool a5, .bool a6, .bool a7, .int .i64 (a8 : Nat), .int .i64 (a9 : Nat)] 152)).drew.heap.size = w.heap.size + 3) := by
  have := HZ2.out; show (w2.alloc _).heap.size = _; simp; omega
 clear x1 p0 p1 p2 p3 p4 p5 p6 p7 p8 p9 g0 g1 g2 g3 g4 g5 g6 g7 g8 g9 q1 HH2 IT2 R2 RF2 N2 W2 hH2 hG2; generalize (w2.alloc (.cells #[.int .u8 a0, .int .u8 a1, .int .u8 a2, .int .u8 a3, .bool a4, .bool a5, .bool a6, .bool a7, .int .i64 (a8 : Nat), .int .i64 (a9 : Nat)] 152)).drew = w3 at *; have HS : (fun u : World => u.cell? ⟨S, 5, none⟩ = some (.slice (some ⟨G, 0, none⟩) (m + 1) cap) ∧ u.rangeAt G (m * 10) (ldL (it m))) w3.drew := ⟨HH3.out.cells.2.2.2.2.2, by simpa using IT3.out.range (show m < m + 1 by omega)⟩
 have T3 := zx (show w3.drew.there G 0 10 from by
  have h := IT3.out.there (i := 0) (by omega); rw [Nat.zero_mul] at h; simpa using h)
 have i6 : (m : Int) < (m : Int) + 1 := by omega
 go_upto_region 5 with fail; refine wp_region_any (by kernel_rfl) ?_; change wpAny _ _ _ _ _ _ _ (World.drew _); refine LM.T 0 (.pointer (some ⟨S, 4, none⟩)) rfl ?_; refine LM.T 1 (.pointer (some ⟨S, 4, none⟩)) rfl ?_; refine LM.T 2 (.pointer (some ⟨S, 5, none⟩)) rfl ?_; refine LM.T 4 (.pointer (some ⟨S, 4, none⟩)) rfl ?_; refine LM.T 5 (.pointer (some ⟨S, 4, none⟩)) rfl ?_; refine LM.T 6 (.pointer (some ⟨S, 5, none⟩)) rfl ?_; refine LM.T 8 (.int .i64 m) rfl ?_
 refine LM.any_of_L (late := LM.lateOf [11, 12]) (S := fun u => u.cell? ⟨S, 5, none⟩ = some (.slice (some ⟨G, 0, none⟩) (m + 1) cap) ∧ u.rangeAt G (m * 10) (ldL (it m))) _ _ _ _ ?_; refine LM.TL 3 (.slice (some ⟨G, 0, none⟩) (m + 1) cap) rfl (Or.inl ⟨by rfl, fun u hu => by have h5 := hu.1; go_simp⟩) HS ?_; refine LM.TL 7 (.slice (some ⟨G, 0, none⟩) (m + 1) cap) rfl (Or.inl ⟨by rfl, fun u hu => by have h5 := hu.1; go_simp⟩) HS ?_; refine LM.TL 9 (.pointer (some ⟨G, m * 10, none⟩)) rfl (Or.inl ⟨by rfl, fun u _ => by go_simp⟩) HS ?_
 refine LM.TL 10 (.agg (ldL (it m)).toArray) rfl (yieldsIf_load_mid (by rfl) 152 (.tmp 35) rfl G (m * 10) (by go_simp) (ldL (it m)) _ (fun u hu => hu.2) Tryz.underlying152 rfl ((congrArg some (ldL_len _)).symm ▸ Tryz.sizeLead)) HS ?_; refine LM.L_rest (by kernel_rfl) ?_; refine LM.T 11 (.pointer (some ⟨G, 0, none⟩)) rfl ?_; refine LM.any_store (i := 12) rfl (by kernel_rfl) rfl 152 (.tmp 37) (.tmp 36) rfl G 0 (ldL (it m)).toArray (by go_simp) (by go_simp) (by exact T3.out) ((congrArg some (ldL_len (it m))).symm ▸ Tryz.sizeLead) (all_oneCell_toArray (ldL_one _)) ?_
 refine wpAny_done (by kernel_rfl) ?_ _; have IT4 : Hid (ItemsL (w3.drew.setCells G 0 (ldL (it m))) G cap (m + 1) (HM.popIt it (m + 1))) := by
  have h := IT3.out.drew.put 0 (it m); rw [Nat.zero_mul] at h; exact h.same fun j _ => by
   unfold HM.popIt; rw [show m + 1 - 1 = m by omega]
 have O4 : Hid (Only (fun k => k = S ∨ k = G) w3 (w3.drew.setCells G 0 (ldL (it m)))) := by
  have o0 : Only (fun k => k = S ∨ k = G) w3 w3.drew := (Only.refl _ _).drew; exact Only.setCells (S := fun k => k = S ∨ k = G) (fun _ => Or.inr rfl) _ _ _ o0
 have NG : S ≠ G := NE.out; have HH4 : Hid (SrcAt (w3.drew.setCells G 0 (ldL (it m))) S c0 c1 c2 c3 (.slice (some ⟨G, 0, none⟩) (m + 1) cap)) := by
  have o0 : Only (fun k => k = G) w3 (w3.drew.setCells G 0 (ldL (it m))) := Only.setCells (S := fun k => k = G) (fun _ => rfl) _ _ _ (Only.refl _ _).drew; exact HH3.out.block (o0.block S HH3.out.lt NG)
 clear HS; generalize w3.drew.setCells G 0 (ldL (it m)) = w4 at *; have hz4 := O4.out.size; have N4 : Hid (w4.rangeAt (w.heap.size + 1) 0 (ldL lead0)) := fun j v hv => by
  have h := N3.out j v hv; exact (O4.out.cell (p := ⟨w.heap.size + 1, 0 + j, none⟩) (by have := HZ3.out; show w.heap.size + 1 < _; omega) (by show ¬ (w.heap.size + 1 = S ∨ w.heap.size + 1 = G); omega)).trans h
 have HS : (fun u : World => u.cell? ⟨S, 5, none⟩ = some (.slice (some ⟨G, 0, none⟩) (m + 1) cap) ∧ u.rangeAt (w.heap.size + 1) 0 (ldL lead0)) w4.drew := ⟨HH4.out.cells.2.2.2.2.2, by simpa using N4.out⟩
 have T4 := zx (show w4.drew.there G (m * 10) 10 from by simpa using IT4.out.there (show m < cap by omega)); go_upto_region 6 with fail; refine wp_region_any (by kernel_rfl) ?_; change wpAny _ _ _ _ _ _ _ (World.drew _); refine LM.T 0 (.pointer (some ⟨S, 4, none⟩)) rfl ?_; refine LM.T 1 (.pointer (some ⟨S, 4, none⟩)) rfl ?_; refine LM.T 2 (.pointer (some ⟨S, 5, none⟩)) rfl ?_; refine LM.T 4 (.int .i64 m) rfl ?_
 refine LM.any_of_L (late := LM.lateOf [6, 7]) (S := fun u => u.cell? ⟨S, 5, none⟩ = some (.slice (some ⟨G, 0, none⟩) (m + 1) cap) ∧ u.rangeAt (w.heap.size + 1) 0 (ldL lead0)) _ _ _ _ ?_; refine LM.TL 3 (.slice (some ⟨G, 0, none⟩) (m + 1) cap) rfl (Or.inl ⟨by rfl, fun u hu => by have h5 := hu.1; go_simp⟩) HS ?_; refine LM.TL 5 (.agg (ldL lead0).toArray) rfl (yieldsIf_load_mid (by rfl) 152 (.tmp 4) rfl (w.heap.size + 1) (0) (by go_simp) (ldL lead0) _ (fun u hu => hu.2) Tryz.underlying152 rfl ((congrArg some (ldL_len _)).symm ▸ Tryz.sizeLead)) HS ?_; refine LM.L_rest (by kernel_rfl) ?_
 refine LM.T 6 (.pointer (some ⟨G, m * 10, none⟩)) rfl ?_; refine LM.any_store (i := 7) rfl (by kernel_rfl) rfl 152 (.tmp 44) (.tmp 43) rfl G (m * 10) (ldL lead0).toArray (by go_simp) (by go_simp) (by exact T4.out) ((congrArg some (ldL_len lead0)).symm ▸ Tryz.sizeLead) (all_oneCell_toArray (ldL_one _)) ?_; refine wpAny_done (by kernel_rfl) ?_ _; have IT5 : Hid (ItemsL (w4.drew.setCells G (m * 10) (ldL lead0)) G cap m (HM.popIt it (m + 1))) := ((IT4.out.drew.put m lead0).less (n' := m) (by omega)).same fun j hj => by
  show (if j = m then lead0 else _) = _; rw [if_neg (by omega)]
 have O5 : Hid (Only (fun k => k = S ∨ k = G) w3 (w4.drew.setCells G (m * 10) (ldL lead0))) := Only.setCells (S := fun k => k = S ∨ k = G) (fun _ => Or.inr rfl) _ _ _ O4.out.drew; have HH5 : Hid (SrcAt (w4.drew.setCells G (m * 10) (ldL lead0)) S c0 c1 c2 c3 (.slice (some ⟨G, 0, none⟩) (m + 1) cap)) := by
  have o0 : Only (fun k => k = G) w4 (w4.drew.setCells G (m * 10) (ldL lead0)) := Only.setCells (S := fun k => k = G) (fun _ => rfl) _ _ _ (Only.refl _ _).drew; exact HH4.out.block (o0.block S HH4.out.lt NG)
 clear HS; generalize w4.drew.setCells G (m * 10) (ldL lead0) = w5 at *; have x1 := HH5.out.cells.2.2.2.2.2; have fz := HH5.out.fz; have rm2 := IT4.out.room; have i7 : (m : Int) <= (cap : Int) := by omega
 have i8 : (m : Int) <= (cap : Int) ∧ (0 : Int) <= (m : Int) := by omega
 clear hz4; go_wp2_with fail; have O6 : Hid (Only (fun k => k = S ∨ k = G) w (w5.setCell ⟨S, 5, none⟩ (.slice (some ⟨G, 0, none⟩) m cap))) := (O3.out.trans O5.out (fun _ _ e => e)).setCell (p := ⟨S, 5, none⟩) (fun _ => Or.inl rfl) _; have HH6 : Hid (SrcAt (w5.setCell ⟨S, 5, none⟩ (.slice (some ⟨G, 0, none⟩) m cap)) S c0 c1 c2 c3 (.slice (some ⟨G, 0, none⟩) m cap)) := HH5.out.put _; have IT6 : Hid (ItemsL (w5.setCell ⟨S, 5, none⟩ (.slice (some ⟨G, 0, none⟩) m cap)) G cap m (HM.popIt it (m + 1))) := IT5.out.block (Below.heap_setCell _ _ _ _ (by show G ≠ S; exact fun e => NG e.symm))
 have K6 : Hid (∀ b, b < w3.heap.size -> b ≠ S -> b ≠ G -> (w5.setCell ⟨S, 5, none⟩ (.slice (some ⟨G, 0, none⟩) m cap)).heap[b]? = w3.heap[b]?) := fun b hb h1 h2 => (Below.heap_setCell _ _ _ _ (by show b ≠ S; exact h1)).trans (O5.out.block b hb (fun e => e.elim h1 h2))
 have Z6 : Hid (w3.heap.size <= (w5.setCell ⟨S, 5, none⟩ (.slice (some ⟨G, 0, none⟩) m cap)).heap.size) := by have := O5.out.size; unfold Hid; simpa using this
 clear x1 fz i7 i8; generalize w5.setCell ⟨S, 5, none⟩ (.slice (some ⟨G, 0, none⟩) m cap) = w6 at *; refine (sinkL_any S G cap m m c0 c1 c2 c3 (HM.popIt it (m + 1)) _ HH6.out IT6.out zl (by omega)).mono ?_; rintro e w7 ⟨rfl, hi', hon'⟩; have P3 := zx hi'; have P4 := zx hon'; have P5 := zx (HH6.out.block (hon'.block _ HH6.out.lt NG)); have K7 : ∀ b, b < w3.heap.size -> b ≠ S -> b ≠ G -> w7.heap[b]? = w3.heap[b]? := fun b hb h1 h2 => (hon'.block b (Nat.lt_of_lt_of_le hb Z6.out) h2).trans (K6.out b hb h1 h2)
 have z3 := HZ3.out; have z2 := HZ2.out; have k0 := K7 w.heap.size (by omega) (by omega) (by omega); have k2 := K7 w2.heap.size (by omega) (by omega) (by omega); have hx : Hid (w.heap.size ≠ S ∧ w.heap.size ≠ G) := ⟨by omega, by omega⟩
 have T7 := zx (show w7.there w.heap.size 0 10 from fun j hj => by
  have e1 := (World.cell?_of_block (w := w3) (a := ⟨w.heap.size, 0 + j, none⟩) k0).trans (R3.out (0 + j)); have e2 := (World.frozen?_of_block (w := w3) (a := ⟨w.heap.size, 0 + j, none⟩) k0).trans (RF3.out (0 + j)); refine ⟨?_, e2⟩; rw [e1, List.getElem?_toArray, List.getElem?_eq_getElem (by simp; omega)]; rfl)
 have F7 := zx (show w7.rangeAt w2.heap.size 0 (ldL (it 0)) from fun j v hv => by
  rw [(World.cell?_of_block (w := w3) (a := ⟨w2.heap.size, 0 + j, none⟩) k2), F3.out (0 + j), List.getElem?_toArray, Nat.zero_add]; rw [FI.out] at hv; exact hv)
 have LV : Hid ((loadVar 152 ⟨w.heap.size, 0, none⟩).run Tryz.prog (w7.setCells w.heap.size 0 (ldL (it 0))) = .ok (.agg (ldL (it 0)).toArray) (w7.setCells w.heap.size 0 (ldL (it 0)))) :=
  run_loadVar_mid _ w.heap.size 0 152 (ldL (it 0)) _ (World.rangeAt_setCells_same w7 w.heap.size 0 (ldL (it 0)) (by rw [ldL_len]; exact T7.out)) Tryz.underlying152 rfl ((congrArg some (ldL_len (it 0))).symm ▸ Tryz.sizeLead)
 have P6 : Hid (SrcAt (w7.setCells w.heap.size 0 (ldL (it 0))) S c0 c1 c2 c3 (.slice (some ⟨G, 0, none⟩) m cap) ∧ ItemsL (w7.setCells w.heap.size 0 (ldL (it 0))) G cap m (HM.sinkF ltL m m (HM.popIt it (m + 1)) 0)) := by
  have o0 : Only (fun k => k = w.heap.size) w7 (w7.setCells w.heap.size 0 (ldL (it 0))) := Only.setCells (S := fun k => k = w.heap.size) (fun _ => rfl) _ _ _ (Only.refl _ _); exact ⟨P5.out.block (o0.block S P5.out.lt (fun e => hx.out.1 e.symm)), P3.out.block (o0.block G P3.out.lt (fun e => hx.out.2 e.symm))⟩
 have P7 : Hid (Only (fun k => k = S ∨ k = G) w (w7.setCells w.heap.size 0 (ldL (it 0)))) := Only.setCells (S := fun k => k = S ∨ k = G) (fun h => absurd h (Nat.lt_irrefl _)) _ _ _ (O6.out.trans P4.out (fun _ _ e => Or.inr e)); clear hi' hon' K7 z3 z2 k0 k2; go_upto_region 9 with fail; refine wp_region_list ?_; refine wpList_load_mid rfl 152 (.tmp 5) rfl w2.heap.size 0 (by rfl) (ldL (it 0)) _ F7.out Tryz.underlying152 rfl ((congrArg some (ldL_len (it 0))).symm ▸ Tryz.sizeLead) ?_
 refine wpList_store_mid rfl 152 (.tmp 2) (.tmp 56) rfl w.heap.size 0 (ldL (it 0)).toArray (by rfl) (by rfl) T7.out ((congrArg some (ldL_len (it 0))).symm ▸ Tryz.sizeLead) (all_oneCell_toArray (ldL_one _)) ?_; go_wp2; refine bodyPost_ret (results_cell_tmp Tryz.results80 _ _ _ (b := w.heap.size) (o := 0) rfl LV.out) rfl ⟨rfl, P6.out.1, P6.out.2, P7.out⟩
end
end Go.Proofs.YtnkgpinadgacgaaGreatDoor
