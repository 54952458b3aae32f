/- Gy. -/
import Derived.Test.YtnkgpinadgacgaaGreatDoorQzn
set_option maxRecDepth 1000000
set_option maxHeartbeats 8000000
namespace Go.Proofs.YtnkgpinadgacgaaGreatDoor
section
open Go.RowKit M SM
theorem SrcAt.put2 {w : World} {S : Nat} {c0 c1 c2 c3 v : Value} (h : SrcAt w S c0 c1 c2 c3 v) (u : Value) : SrcAt (w.setCell ⟨S, 2, none⟩ u) S c0 c1 u c3 v := by
 unfold SrcAt at *; simp [World.setCell, Array.getElem?_modify, h]
structure FarT (w : World) (base : Nat) (V : Value) (k N : Nat) (H : Nat -> Nat) (st : Nat -> Nat -> Int) : Prop where
 own : w.ownsRow base 23 1 V k ((List.range k).map fun t => Value.slice (some ⟨H t, 0, none⟩) N N)
 low : ∀ t, t < k -> base <= H t ∧ V.ownBlock ≠ some (H t)
 rows : ∀ t, t < k -> w.rowIs (H t) 3 N (intV (st t))
theorem farT_nil (w : World) (base N : Nat) : FarT w base (.slice none 0 0) 0 N (fun _ => 0) (fun _ _ => 0) :=
 ⟨⟨rfl, .inl ⟨rfl, rfl⟩⟩, fun t h => absurd h (Nat.not_lt_zero t), fun t h => absurd h (Nat.not_lt_zero t)⟩
theorem FarT.below {w w' : World} {base : Nat} {V : Value} {k N : Nat} {H : Nat -> Nat} {st : Nat -> Nat -> Int} (h : FarT w base V k N H st) (hb : Below w.heap.size w w') : FarT w' base V k N H st :=
 ⟨own_later h.own hb, h.low, fun t ht => rowIs_below (h.rows t ht) hb⟩
theorem FarT.form {w : World} {base : Nat} {V : Value} {k N : Nat} {H : Nat -> Nat} {st : Nat -> Nat -> Int} (h : FarT w base V k N H st) : ∃ a cap, V = .slice a k cap ∧ (0 < k -> ∃ g, a = some ⟨g, 0, none⟩) ∧ k <= cap := own_form h.own
theorem FarT.more {w6 w9 : World} {base k N g g9 c9 : Nat} {V : Value} {H : Nat -> Nat} {st : Nat -> Nat -> Int} {sk : Nat -> Int} (h : FarT w6 base V k N H st) (hg : base <= g) (hrow : w6.rowIs g 3 N (intV sk)) (hV : V.ownBlock ≠ some g)
 (ho : w9.ownsRow base 23 1 (.slice (some ⟨g9, 0, none⟩) (k + 1) c9) (k + 1) (((List.range k).map fun t => Value.slice (some ⟨H t, 0, none⟩) N N) ++ [.slice (some ⟨g, 0, none⟩) N N])) (hgr : w6.grownBy w9 V.ownBlock) (hl : V.ownBlock = some g9 ∨ w6.heap.size <= g9) :
 FarT w9 base (.slice (some ⟨g9, 0, none⟩) (k + 1) c9) (k + 1) N (fun t => if t = k then g else H t) (fun t => if t = k then sk else st t) := by
 have keep : ∀ b f, w6.rowIs b 3 N f -> V.ownBlock ≠ some b -> w9.rowIs b 3 N f ∧ b ≠ g9 := fun b f hr hb => by
  have hlt := hr.lt; refine ⟨hr.of_block (hgr.block b hlt hb.symm), fun e => ?_⟩; rcases hl with h | h
  . exact hb (by rw [h, e])
  . omega
 refine ⟨?_, fun t ht => ?_, fun t ht => ?_⟩
 . have e : ((List.range (k + 1)).map fun t => Value.slice (some ⟨if t = k then g else H t, 0, none⟩) N N) = ((List.range k).map fun t => Value.slice (some ⟨H t, 0, none⟩) N N) ++ [.slice (some ⟨g, 0, none⟩) N N] := by
    rw [List.range_succ, List.map_append]; congr 1
    . refine List.map_congr_left fun t ht => ?_
      have := List.mem_range.1 ht; rw [if_neg (by omega)]
    . simp
   rw [e]; exact ho
 . by_cases e : t = k
   . rw [if_pos e]; exact ⟨hg, fun hh => (keep g _ hrow hV).2 (Option.some.inj hh).symm⟩
   . rw [if_neg e]; exact ⟨(h.low t (by omega)).1, fun hh => (keep (H t) _ (h.rows t (by omega)) (h.low t (by omega)).2).2 (Option.some.inj hh).symm⟩
 . by_cases e : t = k
   . simp only [if_pos e]; exact (keep g _ hrow hV).1
   . simp only [if_neg e]; exact (keep (H t) _ (h.rows t (by omega)) (h.low t (by omega)).2).1
structure Fresh (w : World) (base S mb gf cf gm m : Nat) (Gg C H : Nat -> Nat) (st : Nat -> Nat -> Int) (ro co : Int) (cs : ByteArray) (fr : Nat -> Int) : Prop where
 src : SrcAt w S (.int .i64 (m : Nat)) (.slice (some ⟨gm, 0, none⟩) cs.size cs.size) (.slice (some ⟨gf, 0, none⟩) m cf) (.map (some mb)) (.slice none 0 0)
 seen : SeenMap w mb m 0 (fun _ => none)
 far : FarL w gf m cs.size H (fun _ => cs.size) st
 isf : ∀ t, t < m -> IsFar cs.size (adjM co cs) (fr t).toNat (st t)
 gnd : GroundIn w gm cs.size Gg C ro co cs
 low : base <= S ∧ base <= mb ∧ S ≠ mb
 farA : (gf ≠ S ∧ gf ≠ mb) ∧ ∀ t, t < m -> H t ≠ S ∧ H t ≠ mb
 gndA : (gm ≠ S ∧ gm ≠ mb) ∧ ∀ j, j < cs.size -> freeB cs j = true -> Gg j ≠ S ∧ Gg j ≠ mb
theorem newSearch_any (ro co bu : Int) (cs : ByteArray) (b off m cc : Nat) (fr tt : Nat -> Int) (w : World) (hsz : (cs.size : Int) = ro * co) (r1 : 1 <= ro) (r2 : ro <= 6) (h1 : 1 <= co) (h2 : co <= 6) (hm1 : 1 <= m) (hm : m <= 4) (hsd : SidesIn w) (hcs : CartsIn w b off m fr tt) (hf : ∀ k, k < m -> freeB cs (fr k) = true) :
 Calls Tryz.prog 48 #[.agg #[.int .i64 ro, .int .i64 co, .string cs, .slice (some ⟨b, off, none⟩) m cc, .int .i64 bu]] w fun e w' =>
  ∃ S mb gf cf gm Gg C H st, e = .returned (.pointer (some ⟨S, 0, none⟩)) ∧ Fresh w' w.heap.size S mb gf cf gm m Gg C H st ro co cs fr ∧ Below w.heap.size w w' := by
 have hs : cs.size <= 36 := by obtain ⟨_, _⟩ := mul_bd r1 r2 h1 h2; omega
 have hs1 : 1 <= cs.size := by obtain ⟨_, _⟩ := mul_bd r1 r2 h1 h2; omega
 obtain ⟨i0, hi0, hi1, hi2, hi3⟩ := info_parts Tryz.infoSl; have HSD := zx hsd; have HCS := zx hcs; have HF := zx hf; have hmm := @run_makeMap Tryz.prog; clear hsd hcs hf; go_enter Tryz.func48, Tryz.ntmps48; go_wp2_with fail; have B1 : Hid (Below w.heap.size w (w.alloc (.cells #[.int .i64 ro, .int .i64 co, .string cs, .slice (some ⟨b, off, none⟩) m cc, .int .i64 bu] 34))) := (Below.refl _ w).alloc zl _
 have y1 : ∀ o, (w.alloc (.cells #[.int .i64 ro, .int .i64 co, .string cs, .slice (some ⟨b, off, none⟩) m cc, .int .i64 bu] 34)).cell? ⟨w.heap.size, o, none⟩ = #[Value.int .i64 ro, .int .i64 co, .string cs, .slice (some ⟨b, off, none⟩) m cc, .int .i64 bu][o]? := by
  intro o; go_simp
 have hz1 : (w.alloc (.cells #[.int .i64 ro, .int .i64 co, .string cs, .slice (some ⟨b, off, none⟩) m cc, .int .i64 bu] 34)).heap.size = w.heap.size + 1 := by simp
 generalize w.alloc (.cells #[.int .i64 ro, .int .i64 co, .string cs, .slice (some ⟨b, off, none⟩) m cc, .int .i64 bu] 34) = w1 at *; refine (newGround_any ro co bu cs (some ⟨b, off, none⟩) m cc _ hs r1 r2 h1 h2 (HSD.out.below B1.out)).mono ?_; rintro e w2 ⟨gm, Gg, C, rfl, hgm, hg2, hb2⟩; have G2 := zx hg2; have hz2 := hb2.size; have Y2 : Hid (∀ o, w2.cell? ⟨w.heap.size, o, none⟩ = #[Value.int .i64 ro, .int .i64 co, .string cs, .slice (some ⟨b, off, none⟩) m cc, .int .i64 bu][o]?) := fun o => (hb2.cell (p := ⟨w.heap.size, o, none⟩) (by show w.heap.size < w1.heap.size; omega)).trans (y1 o)
 have BW2 := zx (B1.out.trans (hb2.mono (by omega))); clear hg2 hb2 y1 B1; go_upto_region 2 with fail; have B3 : Hid (Below w2.heap.size w2 ((w2.alloc (Obj.map #[] 0)).alloc (.cells #[.int .i64 (m : Nat), .slice (some ⟨gm, 0, none⟩) cs.size cs.size, .slice none 0 0, .map (some w2.heap.size), .func (.func 76) #[] #[], .slice none 0 0] 121))) := ((Below.refl _ w2).alloc zl _).alloc (by simp) _
 have S3 : Hid (SrcAt ((w2.alloc (Obj.map #[] 0)).alloc (.cells #[.int .i64 (m : Nat), .slice (some ⟨gm, 0, none⟩) cs.size cs.size, .slice none 0 0, .map (some w2.heap.size), .func (.func 76) #[] #[], .slice none 0 0] 121)) (w2.heap.size + 1) (.int .i64 (m : Nat)) (.slice (some ⟨gm, 0, none⟩) cs.size cs.size) (.slice none 0 0) (.map (some w2.heap.size)) (.slice none 0 0)) := by
  have e : ∀ (x : World) (o : Obj) (k : Nat), k = x.heap.size -> (x.alloc o).heap[k]? = some o := fun x o k hk => by subst hk; exact heap_alloc_new x o
  exact e _ _ _ (by simp)
 have M3 : Hid (SeenMap ((w2.alloc (Obj.map #[] 0)).alloc (.cells #[.int .i64 (m : Nat), .slice (some ⟨gm, 0, none⟩) cs.size cs.size, .slice none 0 0, .map (some w2.heap.size), .func (.func 76) #[] #[], .slice none 0 0] 121)) w2.heap.size m 0 (fun _ => none)) := (seen_made w2 w2.heap.size m rfl).block (Below.heap_alloc _ _ _ (by simp)); have hz3 : ((w2.alloc (Obj.map #[] 0)).alloc (.cells #[.int .i64 (m : Nat), .slice (some ⟨gm, 0, none⟩) cs.size cs.size, .slice none 0 0, .map (some w2.heap.size), .func (.func 76) #[] #[], .slice none 0 0] 121)).heap.size = w2.heap.size + 2 := by simp
 generalize ((w2.alloc (Obj.map #[] 0)).alloc (.cells #[.int .i64 (m : Nat), .slice (some ⟨gm, 0, none⟩) cs.size cs.size, .slice none 0 0, .map (some w2.heap.size), .func (.func 76) #[] #[], .slice none 0 0] 121)) = w3 at *; have Y3 : Hid (∀ o, w3.cell? ⟨w.heap.size, o, none⟩ = #[Value.int .i64 ro, .int .i64 co, .string cs, .slice (some ⟨b, off, none⟩) m cc, .int .i64 bu][o]?) := fun o => (B3.out.cell (p := ⟨w.heap.size, o, none⟩) (by show w.heap.size < w2.heap.size; omega)).trans (Y2.out o)
 have BW3 := zx (BW2.out.trans (B3.out.mono (by omega))); have G3 := zx (G2.out.below B3.out); have y3 := Y3.out 3; clear hmm; go_wp2_with fail; clear y3
 go_loopw [15] (fun v15 wr => ∃ (k : Nat) (H : Nat -> Nat) (st : Nat -> Nat -> Int) (V : Value), k <= m ∧ v15 = .int .i64 k ∧ SrcAt wr (w2.heap.size + 1) (.int .i64 (m : Nat)) (.slice (some ⟨gm, 0, none⟩) cs.size cs.size) V (.map (some w2.heap.size)) (.slice none 0 0) ∧ FarT wr w3.heap.size V k cs.size H st ∧ (∀ t, t < k -> IsFar cs.size (adjM co cs) (fr t).toNat (st t)) ∧ Only (fun i => i = w2.heap.size + 1) w3 wr) (fun v15 _ => m - (intOf v15).toNat)
 case atStart => exact ⟨0, fun _ => 0, fun _ _ => 0, _, Nat.zero_le _, rfl, S3.out, farT_nil _ _ _, fun t ht => absurd ht (Nat.not_lt_zero t), Only.refl _ _⟩
 case round =>
  obtain ⟨wo, rfl⟩ : ∃ q, q = wr := ⟨_, rfl⟩
  obtain ⟨k, H, st, V, hk, rfl, hsr, hfr, hif, hon⟩ := hrel; have SR := zx hsr; have FT := zx hfr; have IF := zx hif; have ON := zx hon; have hzo := hon.size; clear hsr hfr hif hon; by_cases hlt : k < m
  . have hkI : (k : Int) < (m : Int) := by omega
    obtain ⟨av, cv, rfl, hav, hcv⟩ := FT.out.form; obtain ⟨f, hf, hfN⟩ := free_nat (HF.out k hlt); have hff := HF.out k hlt; rw [hf] at hff; have HFE := zx hf; obtain ⟨c0, c1⟩ := HCS.out k hlt; have hbl : b < w.heap.size := World.block_lt_of_cell? (a := ⟨b, off + k * 2, none⟩) w c0; have oc : ∀ j o, j < w2.heap.size -> wo.cell? ⟨j, o, none⟩ = w3.cell? ⟨j, o, none⟩ := fun j o hj => ON.out.cell (p := ⟨j, o, none⟩) (by show j < w3.heap.size; omega) (by show ¬ j = w2.heap.size + 1; omega)
    have c0 : wo.cell? ⟨b, off + k * 2, none⟩ = some (.int .i64 (f : Nat)) := by rw [oc b _ (by omega), <- hf]; exact zj BW3.out c0
    have c1 : wo.cell? ⟨b, off + k * 2 + 1, none⟩ = some (.int .i64 (tt k)) := by rw [oc b _ (by omega)]; exact zj BW3.out c1
    have YO : Hid (∀ o, wo.cell? ⟨w.heap.size, o, none⟩ = #[Value.int .i64 ro, .int .i64 co, .string cs, .slice (some ⟨b, off, none⟩) m cc, .int .i64 bu][o]?) := fun o => (oc w.heap.size o (by omega)).trans (Y3.out o)
    clear hf oc hav; go_upto_region 5 with fail; have BA : Hid (Below wo.heap.size wo (wo.alloc (.cells #[.int .i64 (f : Nat), .int .i64 (tt k)] 75))) := (Below.refl _ wo).alloc zl _; have hza : (wo.alloc (.cells #[.int .i64 (f : Nat), .int .i64 (tt k)] 75)).heap.size = wo.heap.size + 1 := by simp
    have xa : (wo.alloc (.cells #[.int .i64 (f : Nat), .int .i64 (tt k)] 75)).cell? ⟨wo.heap.size, 0, none⟩ = some (.int .i64 (f : Nat)) := by go_simp
    generalize (wo.alloc (.cells #[.int .i64 (f : Nat), .int .i64 (tt k)] 75)) = wa at *
    have HS : (fun u : World => u.cell? ⟨w2.heap.size + 1, 2, none⟩ = some (.slice av k cv) ∧ u.cell? ⟨w.heap.size, 0, none⟩ = some (.int .i64 ro) ∧ u.cell? ⟨w.heap.size, 1, none⟩ = some (.int .i64 co) ∧ u.cell? ⟨w.heap.size, 2, none⟩ = some (.string cs) ∧ u.cell? ⟨w.heap.size, 3, none⟩ = some (.slice (some ⟨b, off, none⟩) m cc) ∧ u.cell? ⟨w.heap.size, 4, none⟩ = some (.int .i64 bu) ∧ u.cell? ⟨wo.heap.size, 0, none⟩ = some (.int .i64 (f : Nat))) wa.drew := ⟨(zj BA.out SR.out.cells.2.2.1 : wa.cell? _ = _), (zj BA.out (YO.out 0) : wa.cell? _ = _), (zj BA.out (YO.out 1) : wa.cell? _ = _), (zj BA.out (YO.out 2) : wa.cell? _ = _), (zj BA.out (YO.out 3) : wa.cell? _ = _), (zj BA.out (YO.out 4) : wa.cell? _ = _), xa⟩
    refine wp_region_any (by kernel_rfl) ?_; change wpAny _ _ _ _ _ _ _ (World.drew _); refine LM.T 0 (.pointer (some ⟨w2.heap.size + 1, 0, none⟩)) rfl ?_; refine LM.T 1 (.pointer (some ⟨w2.heap.size + 1, 0, none⟩)) rfl ?_; refine LM.T 2 (.pointer (some ⟨w2.heap.size + 1, 0, none⟩)) rfl ?_; refine LM.T 3 (.pointer (some ⟨w2.heap.size + 1, 2, none⟩)) rfl ?_; refine LM.T 6 (.pointer (some ⟨wo.heap.size, 0, none⟩)) rfl ?_
    refine LM.any_of_L (late := LM.lateOf [10, 11, 12, 13]) (S := fun u : World => u.cell? ⟨w2.heap.size + 1, 2, none⟩ = some (.slice av k cv) ∧ u.cell? ⟨w.heap.size, 0, none⟩ = some (.int .i64 ro) ∧ u.cell? ⟨w.heap.size, 1, none⟩ = some (.int .i64 co) ∧ u.cell? ⟨w.heap.size, 2, none⟩ = some (.string cs) ∧ u.cell? ⟨w.heap.size, 3, none⟩ = some (.slice (some ⟨b, off, none⟩) m cc) ∧ u.cell? ⟨w.heap.size, 4, none⟩ = some (.int .i64 bu) ∧ u.cell? ⟨wo.heap.size, 0, none⟩ = some (.int .i64 (f : Nat))) _ _ _ _ ?_
    refine LM.TL 4 (.slice av k cv) rfl (Or.inl ⟨by rfl, fun u hu => by have h5 := hu.1; go_simp⟩) HS ?_; refine LM.TL 5 (.agg #[.int .i64 ro, .int .i64 co, .string cs, .slice (some ⟨b, off, none⟩) m cc, .int .i64 bu]) rfl (Or.inl ⟨by rfl, fun u hu => by obtain ⟨_, q0, q1, q2, q3, q4, _⟩ := hu; go_simp⟩) HS ?_; refine LM.TL 7 (.int .i64 (f : Nat)) rfl (Or.inl ⟨by rfl, fun u hu => by have h5 := hu.2.2.2.2.2.2; go_simp⟩) HS ?_; refine LM.L_one (i := 8) rfl (by kernel_rfl) rfl (fun K hK => ?_); go_simp; obtain ⟨q, q0, q1, q2, q3, q4, q5⟩ := HS
    have BWO := zx (BW3.out.trans ⟨ON.out.os, ON.out.tape, ON.out.output, ON.out.size, fun j hj => ON.out.block j (by omega) (by omega)⟩); have BAD : Hid (Below wo.heap.size wo wa.drew) := BA.out.drew; have hzw := BWO.out.size; have hzd : wa.drew.heap.size = wo.heap.size + 1 := hza; refine (gfar_any ro co bu cs _ f _ (HSD.out.below (BWO.out.trans (BAD.out.mono hzw))) r1 r2 h1 h2 hsz hff).mono ?_; rintro e w5 ⟨g5, st5, rfl, hg5, hif5, hrow5, hb5⟩; have IF5 := zx hif5; have ROW5 := zx hrow5; have hz5 := hb5.size; have B5 := zx (BAD.out.trans (hb5.mono (by omega)))
    have hg5l := hrow5.lt; refine hK _ _ ⟨zj hb5 q, zj hb5 q0, zj hb5 q1, zj hb5 q2, zj hb5 q3, zj hb5 q4, zj hb5 q5⟩ ?_; have y5 := zj hb5 q5; clear hK K q q0 q1 q2 q3 q4 q5 hif5 hrow5 hb5; have hs5 := zj B5.out SR.out.cells.2.2.1; have y0 := zj B5.out (YO.out 0); have y1 := zj B5.out (YO.out 1); have y2 := zj B5.out (YO.out 2); have y3 := zj B5.out (YO.out 3); have y4 := zj B5.out (YO.out 4); refine LM.L_one (i := 9) rfl (by kernel_rfl) rfl (fun K hK => ?_); go_simp
    have B6 : Hid (Below w5.heap.size w5 (w5.alloc (.cells #[Value.slice (some ⟨g5, 0, none⟩) cs.size cs.size] 23))) := (Below.refl _ w5).alloc zl _; have hz6 : (w5.alloc (.cells #[Value.slice (some ⟨g5, 0, none⟩) cs.size cs.size] 23)).heap.size = w5.heap.size + 1 := by simp
    have x6 : (w5.alloc (.cells #[Value.slice (some ⟨g5, 0, none⟩) cs.size cs.size] 23)).cell? ⟨w5.heap.size, 0, none⟩ = some (.slice (some ⟨g5, 0, none⟩) cs.size cs.size) := by go_simp
    generalize (w5.alloc (.cells #[Value.slice (some ⟨g5, 0, none⟩) cs.size cs.size] 23)) = w6 at *; have B56 := zx (B5.out.trans (B6.out.mono (by omega))); refine hK _ _ ⟨zj B6.out hs5, zj B6.out y0, zj B6.out y1, zj B6.out y2, zj B6.out y3, zj B6.out y4, zj B6.out y5⟩ ?_; clear hK K hs5 y0 y1 y2 y3 y4 y5; have FT6 := zx (FT.out.below B56.out); have ROW6 := zx (rowIs_below ROW5.out B6.out); have hgv : ∀ g, Value.ownBlock (.slice av k cv) = some g -> w3.heap.size <= g ∧ g < wo.heap.size := fun g hg => FT.out.own.lt g hg
    have HGV := zx hgv; clear hgv; refine LM.L_rest (by kernel_rfl) ?_; refine LM.any_one (i := 10) rfl (by kernel_rfl) rfl (fun K hK => ?_); refine wp_append_lies w6 (.tmp 23) (.tmp 28) 39 rfl w3.heap.size 23 i0 _ 1 24 Tryz.underlying39 hi0 hi1 hi2 hi3 rfl (by omega) (.slice av k cv) k _ (by go_simp) FT6.out.own ⟨w5.heap.size, 0, none⟩ 1 1 [.slice (some ⟨g5, 0, none⟩) cs.size cs.size] (by go_simp) rfl (fun j u hj => ?_) (fun u hu => ?_) (by omega) (by unfold maxLen; omega) (by omega) (by omega) (w5.heap.size + 1) hz6 ?_
    . match j, hj with
      | 0, hj => simp at hj; subst hj; simpa [Addr.add] using x6
      | j + 1, hj => simp at hj
    . simp at hu; subst hu; rfl
    intro g9 c9 w9 ho9 hg9 hl9 _; have FT9 := zx (FT6.out.more (g := g5) (by omega) ROW6.out (fun hh => by have := (HGV.out g5 hh).2; omega) ho9 hg9 (hl9.imp id (fun e => by omega))); have D1 : ∀ j, Value.ownBlock (.slice av k cv) = some j -> w2.heap.size + 1 ≠ j := fun j hj e => by have := (HGV.out j hj).1; omega
    have e9 := grow_cell SR.out.cells.2.2.1 B56.out hg9 D1; have f9 := grow_frozen (SR.out.fz 2) SR.out.lt B56.out hg9 D1; have S9 : Hid (SrcAt w9 (w2.heap.size + 1) (.int .i64 (m : Nat)) (.slice (some ⟨gm, 0, none⟩) cs.size cs.size) (.slice av k cv) (.map (some w2.heap.size)) (.slice none 0 0)) := SR.out.block ((hg9.block _ (by have := SR.out.lt; omega) (fun hh => D1 _ hh.symm rfl)).trans (B56.out.block _ SR.out.lt))
    have O9 : Hid (Only (fun i => i = w2.heap.size + 1) w3 w9) := ON.out.trans (⟨hg9.os.trans B56.out.os, hg9.tape.trans B56.out.tape, hg9.output.trans B56.out.output, Nat.le_trans B56.out.size hg9.size, fun j hj hn => (hg9.block j (by omega) (fun e => hn e.symm)).trans (B56.out.block j hj)⟩ : Only (fun j => Value.ownBlock (.slice av k cv) = some j) wo w9) (fun j hj hh => by have := (HGV.out j hh).1; omega); clear ho9 hg9 hl9 D1 x6; refine hK _ _ ?_; clear hK K; refine LM.T 11 (.pointer (some ⟨w2.heap.size + 1, 0, none⟩)) rfl ?_; refine LM.T 12 (.pointer (some ⟨w2.heap.size + 1, 2, none⟩)) rfl ?_
    refine LM.any_one (i := 13) rfl (by kernel_rfl) rfl (fun K hK => ?_); go_simp; refine hK _ _ ?_; refine wpAny_done (by kernel_rfl) ?_ _; clear hK K e9 f9; have NG : g9 ≠ w2.heap.size + 1 := by
     have h := FT9.out.own; have := (h.lt g9 rfl).1; omega
    have FX : Hid (FarT (w9.setCell ⟨w2.heap.size + 1, 2, none⟩ (.slice (some ⟨g9, 0, none⟩) (k + 1) c9)) w3.heap.size (.slice (some ⟨g9, 0, none⟩) (k + 1) c9) (k + 1) cs.size (fun t => if t = k then g5 else H t) (fun t => if t = k then st5 else st t)) := by
     refine ⟨own_keep FT9.out.own fun g _ hg hv => Below.heap_setCell _ _ _ _ (fun e => NG ((show g9 = g from Option.some.inj hv).trans e)), FT9.out.low, fun t ht => (FT9.out.rows t ht).of_block (Below.heap_setCell _ _ _ _ (fun e => ?_))⟩; have := (FT9.out.low t ht).1; have e : (if t = k then g5 else H t) = w2.heap.size + 1 := e; omega
    have SX := zx (S9.out.put2 (.slice (some ⟨g9, 0, none⟩) (k + 1) c9)); have OX : Hid (Only (fun i => i = w2.heap.size + 1) w3 (w9.setCell ⟨w2.heap.size + 1, 2, none⟩ (.slice (some ⟨g9, 0, none⟩) (k + 1) c9))) := O9.out.setCell (p := ⟨w2.heap.size + 1, 2, none⟩) (fun _ => rfl) _; generalize (w9.setCell ⟨w2.heap.size + 1, 2, none⟩ (.slice (some ⟨g9, 0, none⟩) (k + 1) c9)) = wx at *; go_wp2_with fail; go_roundw; case rel =>
     refine ⟨k + 1, _, _, _, by omega, by go_num, SX.out, FX.out, fun t ht => ?_, OX.out⟩; by_cases e : t = k
     . subst e; simp only [if_pos]; rw [HFE.out]; exact IF5.out
     . simp only [if_neg e]; exact IF.out t (by omega)
    case measure => simp [intOf]; omega
  . have hd : k = m := by omega
    have hnk : ¬ (k : Int) < (m : Int) := by omega
    obtain ⟨av, cv, rfl, hav, hcv⟩ := FT.out.form; obtain ⟨gf, rfl⟩ := hav (by omega); have GL : ∀ j, j < cs.size -> freeB cs j = true -> Gg j < w2.heap.size := fun j g1 g2 => by
     have g3 := (mvL_len (ro := ro) (co := co) (cs := cs) (c := j)).2; have g4 := G2.out.lists j g1 g2 0 (by omega); rw [List.getElem?_eq_getElem (by unfold ints; simp; omega)] at g4; exact World.block_lt_of_cell? (a := ⟨Gg j, 0, none⟩) w2 g4
    have hgml := G2.out.row.lt; have hgf := FT.out.own.lt gf rfl; have OK : Hid (Fresh wo w.heap.size (w2.heap.size + 1) w2.heap.size gf cv gm m Gg C H st ro co cs fr) := by
     rw [<- hd]; refine ⟨by rw [hd]; exact hd ▸ SR.out, ?_, ⟨fun t ht => ?_, fun t i ht hi => (FT.out.rows t ht).cell hi⟩, IF.out, G3.out.only ON.out (fun e => by omega) (fun j g1 g2 e => by have := GL j g1 g2; omega), ⟨by omega, by omega, by omega⟩, ⟨⟨by omega, by omega⟩, fun t ht => ?_⟩, ⟨by omega, by omega⟩, fun j g1 g2 => by have := GL j g1 g2; omega⟩
     . rw [hd]; exact M3.out.block (ON.out.block _ (by omega) (by omega))
     . rw [own_cell FT.out.own ht]; rw [List.getElem?_map, List.getElem?_range ht]; rfl
     . have := (FT.out.low t ht).1; omega
    have BWO := zx (BW3.out.trans ⟨ON.out.os, ON.out.tape, ON.out.output, ON.out.size, fun j hj => ON.out.block j (by omega) (by omega)⟩); clear hd hgf hgml GL; go_wp2_with fail; go_ret; exact ⟨_, rfl, ⟨_, _, _, _, _, _, _, _, OK.out⟩, BWO.out⟩
end
end Go.Proofs.YtnkgpinadgacgaaGreatDoor
