/- Several texts in one: Gs. -/
import Derived.Test.YtnkgpinadgacgabDoorMkzb
namespace Go.Proofs.YtnkgpinadgacgabDoor
open Go.RowKit M SM
theorem results_cell_tmp {fn : Func} {p q : Tmp} {ty : TypeId} (h : fn.results = #[.cell p ty, .tmp q]) (tmps : Array Value) (P : Program) (w : World) {b o : Nat} {v : Value} (hp : tmps.getD p undef = .pointer (some ⟨b, o, none⟩)) (hl : (loadVar ty ⟨b, o, none⟩).run P w = .ok v w) :
    (results fn tmps).run P w = .ok (.tuple #[v, tmps.getD q undef]) w := by
  simp only [results, h]
  have ha : (asAddr (tmps.getD p undef)).run P w = .ok ⟨b, o, none⟩ w := by rw [hp]; rfl
  simp only [Array.getD_eq_getD_getElem?] at ha ⊢
  simp [Sem.run_bind, Result.andThen, ha, hl]

/-- A lead of noughts. -/
def lead0 : LeadM := ⟨([], []), 0, 0⟩

theorem ldL_mk (l : LeadM) : ∃ (a0 a1 a2 a3 : Nat) (a4 a5 a6 a7 : Bool) (a8 a9 : Nat), ldL l = [.int .u8 (a0 : Nat), .int .u8 (a1 : Nat), .int .u8 (a2 : Nat), .int .u8 (a3 : Nat), .bool a4, .bool a5, .bool a6, .bool a7, .int .i64 (a8 : Nat), .int .i64 (a9 : Nat)] := ⟨_, _, _, _, _, _, _, _, _, _, rfl⟩

theorem range_ten {w : World} {G o : Nat} {a0 a1 a2 a3 : Nat} {a4 a5 a6 a7 : Bool} {a8 a9 : Nat} (h : w.rangeAt G o [.int .u8 (a0 : Nat), .int .u8 (a1 : Nat), .int .u8 (a2 : Nat), .int .u8 (a3 : Nat), .bool a4, .bool a5, .bool a6, .bool a7, .int .i64 (a8 : Nat), .int .i64 (a9 : Nat)]) :
    w.cell? ⟨G, o, none⟩ = some (.int .u8 (a0 : Nat)) ∧ w.cell? ⟨G, o + 1, none⟩ = some (.int .u8 (a1 : Nat)) ∧ w.cell? ⟨G, o + 2, none⟩ = some (.int .u8 (a2 : Nat)) ∧ w.cell? ⟨G, o + 3, none⟩ = some (.int .u8 (a3 : Nat)) ∧ w.cell? ⟨G, o + 4, none⟩ = some (.bool a4) ∧ w.cell? ⟨G, o + 5, none⟩ = some (.bool a5) ∧ w.cell? ⟨G, o + 6, none⟩ = some (.bool a6) ∧ w.cell? ⟨G, o + 7, none⟩ = some (.bool a7) ∧ w.cell? ⟨G, o + 8, none⟩ = some (.int .i64 (a8 : Nat)) ∧ w.cell? ⟨G, o + 9, none⟩ = some (.int .i64 (a9 : Nat)) :=
  ⟨h 0 _ rfl, h 1 _ rfl, h 2 _ rfl, h 3 _ rfl, h 4 _ rfl, h 5 _ rfl, h 6 _ rfl, h 7 _ rfl, h 8 _ rfl, h 9 _ rfl⟩

set_option maxRecDepth 1000000 in
set_option maxHeartbeats 16000000 in
theorem popL_some (S G cap n : Nat) (c0 c1 c2 c3 : Value) (it : Nat → LeadM) (w : World) (hh : SrcAt w S c0 c1 c2 c3 (.slice (some ⟨G, 0, none⟩) n cap)) (hit : ItemsL w G cap n it) (hn0 : 0 < n) (hn : n < 900000000) :
    Calls Tryd.prog 83 #[.pointer (some ⟨S, 4, none⟩)] w fun e w' =>
      e = .returned (.tuple #[.agg (ldL (it 0)).toArray, .bool true]) ∧ SrcAt w' S c0 c1 c2 c3 (.slice (some ⟨G, 0, none⟩) (n - 1) cap) ∧ ItemsL w' G cap (n - 1) (HM.sinkF ltL (n - 1) (n - 1) (HM.popIt it n) 0) ∧ Only (fun k => k = S ∨ k = G) w w' := by
  have hHl := hh.lt
  have hGl := hit.lt
  have NE := Hid.mk (src_apart hh hit)
  obtain ⟨m, hm⟩ : ∃ m, n = m + 1 := ⟨n - 1, by omega⟩
  subst hm
  obtain ⟨a0, a1, a2, a3, a4, a5, a6, a7, a8, a9, ha⟩ := ldL_mk (it 0)
  have FI := Hid.mk ha
  have W2 : Hid (Only (fun _ => False) w ((w.alloc (Obj.cells #[Value.int .u8 0, .int .u8 0, .int .u8 0, .int .u8 0, .bool false, .bool false, .bool false, .bool false, .int .i64 0, .int .i64 0] 149)).alloc (Obj.cells #[Value.int .u8 0, .int .u8 0, .int .u8 0, .int .u8 0, .bool false, .bool false, .bool false, .bool false, .int .i64 0, .int .i64 0] 149))) := ((Only.refl _ w).alloc _).alloc _
  have HH2 : Hid (SrcAt ((w.alloc (Obj.cells #[Value.int .u8 0, .int .u8 0, .int .u8 0, .int .u8 0, .bool false, .bool false, .bool false, .bool false, .int .i64 0, .int .i64 0] 149)).alloc (Obj.cells #[Value.int .u8 0, .int .u8 0, .int .u8 0, .int .u8 0, .bool false, .bool false, .bool false, .bool false, .int .i64 0, .int .i64 0] 149)) S c0 c1 c2 c3 (.slice (some ⟨G, 0, none⟩) (m + 1) cap)) := hh.block (W2.out.block _ hHl (fun e => e))
  have IT2 : Hid (ItemsL ((w.alloc (Obj.cells #[Value.int .u8 0, .int .u8 0, .int .u8 0, .int .u8 0, .bool false, .bool false, .bool false, .bool false, .int .i64 0, .int .i64 0] 149)).alloc (Obj.cells #[Value.int .u8 0, .int .u8 0, .int .u8 0, .int .u8 0, .bool false, .bool false, .bool false, .bool false, .int .i64 0, .int .i64 0] 149)) G cap (m + 1) it) := hit.block (W2.out.block _ hGl (fun e => e))
  have R2 : Hid (∀ o, ((w.alloc (Obj.cells #[Value.int .u8 0, .int .u8 0, .int .u8 0, .int .u8 0, .bool false, .bool false, .bool false, .bool false, .int .i64 0, .int .i64 0] 149)).alloc (Obj.cells #[Value.int .u8 0, .int .u8 0, .int .u8 0, .int .u8 0, .bool false, .bool false, .bool false, .bool false, .int .i64 0, .int .i64 0] 149)).cell? ⟨w.heap.size, o, none⟩ = #[Value.int .u8 0, .int .u8 0, .int .u8 0, .int .u8 0, .bool false, .bool false, .bool false, .bool false, .int .i64 0, .int .i64 0][o]?) := by intro o; go_simp
  have RF2 : Hid (∀ o, ((w.alloc (Obj.cells #[Value.int .u8 0, .int .u8 0, .int .u8 0, .int .u8 0, .bool false, .bool false, .bool false, .bool false, .int .i64 0, .int .i64 0] 149)).alloc (Obj.cells #[Value.int .u8 0, .int .u8 0, .int .u8 0, .int .u8 0, .bool false, .bool false, .bool false, .bool false, .int .i64 0, .int .i64 0] 149)).frozen? ⟨w.heap.size, o, none⟩ = false) := by intro o; go_simp
  have N2 : Hid (((w.alloc (Obj.cells #[Value.int .u8 0, .int .u8 0, .int .u8 0, .int .u8 0, .bool false, .bool false, .bool false, .bool false, .int .i64 0, .int .i64 0] 149)).alloc (Obj.cells #[Value.int .u8 0, .int .u8 0, .int .u8 0, .int .u8 0, .bool false, .bool false, .bool false, .bool false, .int .i64 0, .int .i64 0] 149)).rangeAt (w.heap.size + 1) 0 (ldL lead0)) := range_new (w.alloc (Obj.cells #[Value.int .u8 0, .int .u8 0, .int .u8 0, .int .u8 0, .bool false, .bool false, .bool false, .bool false, .int .i64 0, .int .i64 0] 149)) lead0 _ (by simp)
  have hz2 : ((w.alloc (Obj.cells #[Value.int .u8 0, .int .u8 0, .int .u8 0, .int .u8 0, .bool false, .bool false, .bool false, .bool false, .int .i64 0, .int .i64 0] 149)).alloc (Obj.cells #[Value.int .u8 0, .int .u8 0, .int .u8 0, .int .u8 0, .bool false, .bool false, .bool false, .bool false, .int .i64 0, .int .i64 0] 149)).heap.size = w.heap.size + 2 := by simp
  have x1 := HH2.out.cells.2.2.2.2.2
  have rg := IT2.out.range (i := 0) hn0
  rw [ha, Nat.zero_mul] at rg
  obtain ⟨p0, p1, p2, p3, p4, p5, p6, p7, p8, p9⟩ := range_ten rg
  simp only [Nat.zero_add] at p1 p2 p3 p4 p5 p6 p7 p8 p9
  have rm := hit.room
  unfold maxLen at rm
  have i1 : ((m + 1 : Nat) : Int) = (m : Int) + 1 := by omega
  have i2 : ((m : Int) + 1 == 0) = false := by simp; omega
  have i3 : (0 : Int) < (m : Int) + 1 := by omega
  have i4 : IntKind.i64.wrap ((m : Int) + 1 - 1) = (m : Int) := by rw [IntKind.wrap_i64]; omega
  have i5 : IntKind.i64.wrap (m : Int) = (m : Int) := by rw [IntKind.wrap_i64]; omega
  clear hh hit ha rg
  go_enter Tryd.func83, Tryd.ntmps83
  go_upto_region 4 with fail
  generalize ((w.alloc (Obj.cells #[Value.int .u8 0, .int .u8 0, .int .u8 0, .int .u8 0, .bool false, .bool false, .bool false, .bool false, .int .i64 0, .int .i64 0] 149)).alloc (Obj.cells #[Value.int .u8 0, .int .u8 0, .int .u8 0, .int .u8 0, .bool false, .bool false, .bool false, .bool false, .int .i64 0, .int .i64 0] 149)) = w2 at *
  have hH2 : S < w2.heap.size := by omega
  have hG2 : G < w2.heap.size := by omega
  have g0 : ∀ o, (w2.alloc o).cell? ⟨G, 0, none⟩ = some (.int .u8 (a0 : Nat)) := fun o => by rw [World.cell?_alloc_past _ _ _ (by show G < _; exact hG2)]; exact p0
  have g1 : ∀ o, (w2.alloc o).cell? ⟨G, 1, none⟩ = some (.int .u8 (a1 : Nat)) := fun o => by rw [World.cell?_alloc_past _ _ _ (by show G < _; exact hG2)]; exact p1
  have g2 : ∀ o, (w2.alloc o).cell? ⟨G, 2, none⟩ = some (.int .u8 (a2 : Nat)) := fun o => by rw [World.cell?_alloc_past _ _ _ (by show G < _; exact hG2)]; exact p2
  have g3 : ∀ o, (w2.alloc o).cell? ⟨G, 3, none⟩ = some (.int .u8 (a3 : Nat)) := fun o => by rw [World.cell?_alloc_past _ _ _ (by show G < _; exact hG2)]; exact p3
  have g4 : ∀ o, (w2.alloc o).cell? ⟨G, 4, none⟩ = some (.bool a4) := fun o => by rw [World.cell?_alloc_past _ _ _ (by show G < _; exact hG2)]; exact p4
  have g5 : ∀ o, (w2.alloc o).cell? ⟨G, 5, none⟩ = some (.bool a5) := fun o => by rw [World.cell?_alloc_past _ _ _ (by show G < _; exact hG2)]; exact p5
  have g6 : ∀ o, (w2.alloc o).cell? ⟨G, 6, none⟩ = some (.bool a6) := fun o => by rw [World.cell?_alloc_past _ _ _ (by show G < _; exact hG2)]; exact p6
  have g7 : ∀ o, (w2.alloc o).cell? ⟨G, 7, none⟩ = some (.bool a7) := fun o => by rw [World.cell?_alloc_past _ _ _ (by show G < _; exact hG2)]; exact p7
  have g8 : ∀ o, (w2.alloc o).cell? ⟨G, 8, none⟩ = some (.int .i64 (a8 : Nat)) := fun o => by rw [World.cell?_alloc_past _ _ _ (by show G < _; exact hG2)]; exact p8
  have g9 : ∀ o, (w2.alloc o).cell? ⟨G, 9, none⟩ = some (.int .i64 (a9 : Nat)) := fun o => by rw [World.cell?_alloc_past _ _ _ (by show G < _; exact hG2)]; exact p9
  have q1 : ∀ o, (w2.alloc o).cell? ⟨S, 5, none⟩ = some (.slice (some ⟨G, 0, none⟩) (m + 1) cap) := fun o => by rw [World.cell?_alloc_past _ _ _ (by show S < _; exact hH2)]; exact x1
  have HZ2 := Hid.mk hz2
  clear hz2
  go_big_region
  have O3 : Hid (Only (fun k => k = S ∨ k = G) w (w2.alloc (Obj.cells #[Value.int .u8 (a0 : Nat), .int .u8 (a1 : Nat), .int .u8 (a2 : Nat), .int .u8 (a3 : Nat), .bool a4, .bool a5, .bool a6, .bool a7, .int .i64 (a8 : Nat), .int .i64 (a9 : Nat)] 149)).drew) := ((W2.out.mono (fun _ _ e => e.elim) : Only (fun k => k = S ∨ k = G) w w2).alloc _).drew
  have HH3 : Hid (SrcAt (w2.alloc (Obj.cells #[Value.int .u8 (a0 : Nat), .int .u8 (a1 : Nat), .int .u8 (a2 : Nat), .int .u8 (a3 : Nat), .bool a4, .bool a5, .bool a6, .bool a7, .int .i64 (a8 : Nat), .int .i64 (a9 : Nat)] 149)).drew S c0 c1 c2 c3 (.slice (some ⟨G, 0, none⟩) (m + 1) cap)) := HH2.out.block (Below.heap_alloc _ _ _ hH2)
  have IT3 : Hid (ItemsL (w2.alloc (Obj.cells #[Value.int .u8 (a0 : Nat), .int .u8 (a1 : Nat), .int .u8 (a2 : Nat), .int .u8 (a3 : Nat), .bool a4, .bool a5, .bool a6, .bool a7, .int .i64 (a8 : Nat), .int .i64 (a9 : Nat)] 149)).drew G cap (m + 1) it) := (IT2.out.block (Below.heap_alloc _ _ _ hG2)).drew
  have R3 : Hid (∀ o, (w2.alloc (Obj.cells #[Value.int .u8 (a0 : Nat), .int .u8 (a1 : Nat), .int .u8 (a2 : Nat), .int .u8 (a3 : Nat), .bool a4, .bool a5, .bool a6, .bool a7, .int .i64 (a8 : Nat), .int .i64 (a9 : Nat)] 149)).drew.cell? ⟨w.heap.size, o, none⟩ = #[Value.int .u8 0, .int .u8 0, .int .u8 0, .int .u8 0, .bool false, .bool false, .bool false, .bool false, .int .i64 0, .int .i64 0][o]?) := fun o => (World.cell?_alloc_past _ _ _ (by have := HZ2.out; show w.heap.size < _; omega)).trans (R2.out o)
  have RF3 : Hid (∀ o, (w2.alloc (Obj.cells #[Value.int .u8 (a0 : Nat), .int .u8 (a1 : Nat), .int .u8 (a2 : Nat), .int .u8 (a3 : Nat), .bool a4, .bool a5, .bool a6, .bool a7, .int .i64 (a8 : Nat), .int .i64 (a9 : Nat)] 149)).drew.frozen? ⟨w.heap.size, o, none⟩ = false) := fun o => ((Below.refl w2.heap.size w2).alloc (Nat.le_refl _) (Obj.cells #[Value.int .u8 (a0 : Nat), .int .u8 (a1 : Nat), .int .u8 (a2 : Nat), .int .u8 (a3 : Nat), .bool a4, .bool a5, .bool a6, .bool a7, .int .i64 (a8 : Nat), .int .i64 (a9 : Nat)] 149)).frozen (p := ⟨w.heap.size, o, none⟩) (by have := HZ2.out; show w.heap.size < _; omega) |>.trans (RF2.out o)
  have N3 : Hid ((w2.alloc (Obj.cells #[Value.int .u8 (a0 : Nat), .int .u8 (a1 : Nat), .int .u8 (a2 : Nat), .int .u8 (a3 : Nat), .bool a4, .bool a5, .bool a6, .bool a7, .int .i64 (a8 : Nat), .int .i64 (a9 : Nat)] 149)).drew.rangeAt (w.heap.size + 1) 0 (ldL lead0)) := by
    have h := World.rangeAt_alloc N2.out (Obj.cells #[Value.int .u8 (a0 : Nat), .int .u8 (a1 : Nat), .int .u8 (a2 : Nat), .int .u8 (a3 : Nat), .bool a4, .bool a5, .bool a6, .bool a7, .int .i64 (a8 : Nat), .int .i64 (a9 : Nat)] 149)
    simpa [Hid] using h
  have F3 : Hid (∀ o, (w2.alloc (Obj.cells #[Value.int .u8 (a0 : Nat), .int .u8 (a1 : Nat), .int .u8 (a2 : Nat), .int .u8 (a3 : Nat), .bool a4, .bool a5, .bool a6, .bool a7, .int .i64 (a8 : Nat), .int .i64 (a9 : Nat)] 149)).drew.cell? ⟨w2.heap.size, o, none⟩ = #[Value.int .u8 (a0 : Nat), .int .u8 (a1 : Nat), .int .u8 (a2 : Nat), .int .u8 (a3 : Nat), .bool a4, .bool a5, .bool a6, .bool a7, .int .i64 (a8 : Nat), .int .i64 (a9 : Nat)][o]?) := fun o => by
    show (w2.alloc _).cell? _ = _
    go_simp
  have HZ3 : Hid ((w2.alloc (Obj.cells #[Value.int .u8 (a0 : Nat), .int .u8 (a1 : Nat), .int .u8 (a2 : Nat), .int .u8 (a3 : Nat), .bool a4, .bool a5, .bool a6, .bool a7, .int .i64 (a8 : Nat), .int .i64 (a9 : Nat)] 149)).drew.heap.size = w.heap.size + 3) := by
    have := HZ2.out
    show (w2.alloc _).heap.size = _
    simp; omega
  clear x1 p0 p1 p2 p3 p4 p5 p6 p7 p8 p9 g0 g1 g2 g3 g4 g5 g6 g7 g8 g9 q1 HH2 IT2 R2 RF2 N2 W2 hH2 hG2
  generalize (w2.alloc (Obj.cells #[Value.int .u8 (a0 : Nat), .int .u8 (a1 : Nat), .int .u8 (a2 : Nat), .int .u8 (a3 : Nat), .bool a4, .bool a5, .bool a6, .bool a7, .int .i64 (a8 : Nat), .int .i64 (a9 : Nat)] 149)).drew = w3 at *
  have HS : (fun u : World => u.cell? ⟨S, 5, none⟩ = some (.slice (some ⟨G, 0, none⟩) (m + 1) cap) ∧ u.rangeAt G (m * 10) (ldL (it m))) w3.drew := ⟨HH3.out.cells.2.2.2.2.2, by simpa using IT3.out.range (show m < m + 1 by omega)⟩
  have T3 := Hid.mk (show w3.drew.there G 0 10 from by
    have h := IT3.out.there (i := 0) (by omega)
    rw [Nat.zero_mul] at h
    simpa using h)
  have i6 : (m : Int) < (m : Int) + 1 := by omega
  go_upto_region 5 with fail
  refine wp_region_any (by kernel_rfl) ?_
  change wpAny _ _ _ _ _ _ _ (World.drew _)
  refine wpAny_take (i := 0) (v := .pointer (some ⟨S, 4, none⟩)) rfl (by kernel_rfl) (by kernel_rfl) (by kernel_rfl) (fun _ _ _ h => h) (Or.inl ⟨by rfl, fun u => by go_simp⟩) ?_
  refine wpAny_take (i := 1) (v := .pointer (some ⟨S, 4, none⟩)) rfl (by kernel_rfl) (by kernel_rfl) (by kernel_rfl) (fun _ _ _ h => h) (Or.inl ⟨by rfl, fun u => by go_simp⟩) ?_
  refine wpAny_take (i := 2) (v := .pointer (some ⟨S, 5, none⟩)) rfl (by kernel_rfl) (by kernel_rfl) (by kernel_rfl) (fun _ _ _ h => h) (Or.inl ⟨by rfl, fun u => by go_simp⟩) ?_
  refine wpAny_take (i := 4) (v := .pointer (some ⟨S, 4, none⟩)) rfl (by kernel_rfl) (by kernel_rfl) (by kernel_rfl) (fun _ _ _ h => h) (Or.inl ⟨by rfl, fun u => by go_simp⟩) ?_
  refine wpAny_take (i := 5) (v := .pointer (some ⟨S, 4, none⟩)) rfl (by kernel_rfl) (by kernel_rfl) (by kernel_rfl) (fun _ _ _ h => h) (Or.inl ⟨by rfl, fun u => by go_simp⟩) ?_
  refine wpAny_take (i := 6) (v := .pointer (some ⟨S, 5, none⟩)) rfl (by kernel_rfl) (by kernel_rfl) (by kernel_rfl) (fun _ _ _ h => h) (Or.inl ⟨by rfl, fun u => by go_simp⟩) ?_
  refine wpAny_take (i := 8) (v := .int .i64 (m : Int)) rfl (by kernel_rfl) (by kernel_rfl) (by kernel_rfl) (fun _ _ _ h => h) (Or.inl ⟨by rfl, fun u => by go_simp⟩) ?_
  refine LM.any_of_L (late := LM.lateOf [11, 12]) (S := fun u => u.cell? ⟨S, 5, none⟩ = some (.slice (some ⟨G, 0, none⟩) (m + 1) cap) ∧ u.rangeAt G (m * 10) (ldL (it m))) _ _ _ _ ?_
  refine LM.L_take (i := 3) (v := .slice (some ⟨G, 0, none⟩) (m + 1) cap) rfl (by kernel_rfl) (by kernel_rfl) (by kernel_rfl) (by kernel_rfl) (fun _ _ _ h => h) (Or.inl ⟨by rfl, fun u hu => by have h5 := hu.1; go_simp⟩) HS ?_
  refine LM.L_take (i := 7) (v := .slice (some ⟨G, 0, none⟩) (m + 1) cap) rfl (by kernel_rfl) (by kernel_rfl) (by kernel_rfl) (by kernel_rfl) (fun _ _ _ h => h) (Or.inl ⟨by rfl, fun u hu => by have h5 := hu.1; go_simp⟩) HS ?_
  refine LM.L_take (i := 9) (v := .pointer (some ⟨G, m * 10, none⟩)) rfl (by kernel_rfl) (by kernel_rfl) (by kernel_rfl) (by kernel_rfl) (fun _ _ _ h => h) (Or.inl ⟨by rfl, fun u _ => by go_simp⟩) HS ?_
  refine LM.L_take (i := 10) (v := .agg (ldL (it m)).toArray) rfl (by kernel_rfl) (by kernel_rfl) (by kernel_rfl) (by kernel_rfl) (fun _ _ _ h => h) (yieldsIf_load_mid (by rfl) 149 (.tmp 35) rfl G (m * 10) (by go_simp) (ldL (it m)) _ (fun u hu => hu.2) Tryd.underlying149 rfl ((congrArg some (ldL_len _)).symm ▸ Tryd.sizeLead)) HS ?_
  refine LM.L_rest (by kernel_rfl) ?_
  refine wpAny_take (i := 11) (v := .pointer (some ⟨G, 0, none⟩)) rfl (by kernel_rfl) (by kernel_rfl) (by kernel_rfl) (fun _ _ _ h => h) (Or.inl ⟨by rfl, fun u => by go_simp⟩) ?_
  refine LM.any_store (i := 12) rfl (by kernel_rfl) rfl 149 (.tmp 37) (.tmp 36) rfl G 0 (ldL (it m)).toArray (by go_simp) (by go_simp) (by exact T3.out) ((congrArg some (ldL_len (it m))).symm ▸ Tryd.sizeLead) (all_oneCell_toArray (ldL_one _)) ?_
  refine wpAny_done (by kernel_rfl) ?_ _
  have IT4 : Hid (ItemsL (w3.drew.setCells G 0 (ldL (it m))) G cap (m + 1) (HM.popIt it (m + 1))) := by
    have h := IT3.out.drew.put 0 (it m)
    rw [Nat.zero_mul] at h
    exact h.same fun j _ => by
      unfold HM.popIt
      rw [show m + 1 - 1 = m by omega]
  have O4 : Hid (Only (fun k => k = S ∨ k = G) w3 (w3.drew.setCells G 0 (ldL (it m)))) := by
    have o0 : Only (fun k => k = S ∨ k = G) w3 w3.drew := (Only.refl _ _).drew
    exact Only.setCells (S := fun k => k = S ∨ k = G) (fun _ => Or.inr rfl) _ _ _ o0
  have NG : S ≠ G := NE.out
  have HH4 : Hid (SrcAt (w3.drew.setCells G 0 (ldL (it m))) S c0 c1 c2 c3 (.slice (some ⟨G, 0, none⟩) (m + 1) cap)) := by
    have o0 : Only (fun k => k = G) w3 (w3.drew.setCells G 0 (ldL (it m))) := Only.setCells (S := fun k => k = G) (fun _ => rfl) _ _ _ (Only.refl _ _).drew
    exact HH3.out.block (o0.block S HH3.out.lt NG)
  clear HS
  generalize w3.drew.setCells G 0 (ldL (it m)) = w4 at *
  have hz4 := O4.out.size
  have N4 : Hid (w4.rangeAt (w.heap.size + 1) 0 (ldL lead0)) := fun j v hv => by
    have h := N3.out j v hv
    exact (O4.out.cell (p := ⟨w.heap.size + 1, 0 + j, none⟩) (by have := HZ3.out; show w.heap.size + 1 < _; omega) (by show ¬ (w.heap.size + 1 = S ∨ w.heap.size + 1 = G); omega)).trans h
  have HS : (fun u : World => u.cell? ⟨S, 5, none⟩ = some (.slice (some ⟨G, 0, none⟩) (m + 1) cap) ∧ u.rangeAt (w.heap.size + 1) 0 (ldL lead0)) w4.drew := ⟨HH4.out.cells.2.2.2.2.2, by simpa using N4.out⟩
  have T4 := Hid.mk (show w4.drew.there G (m * 10) 10 from by simpa using IT4.out.there (show m < cap by omega))
  go_upto_region 6 with fail
  refine wp_region_any (by kernel_rfl) ?_
  change wpAny _ _ _ _ _ _ _ (World.drew _)
  refine wpAny_take (i := 0) (v := .pointer (some ⟨S, 4, none⟩)) rfl (by kernel_rfl) (by kernel_rfl) (by kernel_rfl) (fun _ _ _ h => h) (Or.inl ⟨by rfl, fun u => by go_simp⟩) ?_
  refine wpAny_take (i := 1) (v := .pointer (some ⟨S, 4, none⟩)) rfl (by kernel_rfl) (by kernel_rfl) (by kernel_rfl) (fun _ _ _ h => h) (Or.inl ⟨by rfl, fun u => by go_simp⟩) ?_
  refine wpAny_take (i := 2) (v := .pointer (some ⟨S, 5, none⟩)) rfl (by kernel_rfl) (by kernel_rfl) (by kernel_rfl) (fun _ _ _ h => h) (Or.inl ⟨by rfl, fun u => by go_simp⟩) ?_
  refine wpAny_take (i := 4) (v := .int .i64 (m : Int)) rfl (by kernel_rfl) (by kernel_rfl) (by kernel_rfl) (fun _ _ _ h => h) (Or.inl ⟨by rfl, fun u => by go_simp⟩) ?_
  refine LM.any_of_L (late := LM.lateOf [6, 7]) (S := fun u => u.cell? ⟨S, 5, none⟩ = some (.slice (some ⟨G, 0, none⟩) (m + 1) cap) ∧ u.rangeAt (w.heap.size + 1) 0 (ldL lead0)) _ _ _ _ ?_
  refine LM.L_take (i := 3) (v := .slice (some ⟨G, 0, none⟩) (m + 1) cap) rfl (by kernel_rfl) (by kernel_rfl) (by kernel_rfl) (by kernel_rfl) (fun _ _ _ h => h) (Or.inl ⟨by rfl, fun u hu => by have h5 := hu.1; go_simp⟩) HS ?_
  refine LM.L_take (i := 5) (v := .agg (ldL lead0).toArray) rfl (by kernel_rfl) (by kernel_rfl) (by kernel_rfl) (by kernel_rfl) (fun _ _ _ h => h) (yieldsIf_load_mid (by rfl) 149 (.tmp 4) rfl (w.heap.size + 1) (0) (by go_simp) (ldL lead0) _ (fun u hu => hu.2) Tryd.underlying149 rfl ((congrArg some (ldL_len _)).symm ▸ Tryd.sizeLead)) HS ?_
  refine LM.L_rest (by kernel_rfl) ?_
  refine wpAny_take (i := 6) (v := .pointer (some ⟨G, m * 10, none⟩)) rfl (by kernel_rfl) (by kernel_rfl) (by kernel_rfl) (fun _ _ _ h => h) (Or.inl ⟨by rfl, fun u => by go_simp⟩) ?_
  refine LM.any_store (i := 7) rfl (by kernel_rfl) rfl 149 (.tmp 44) (.tmp 43) rfl G (m * 10) (ldL lead0).toArray (by go_simp) (by go_simp) (by exact T4.out) ((congrArg some (ldL_len lead0)).symm ▸ Tryd.sizeLead) (all_oneCell_toArray (ldL_one _)) ?_
  refine wpAny_done (by kernel_rfl) ?_ _
  have IT5 : Hid (ItemsL (w4.drew.setCells G (m * 10) (ldL lead0)) G cap m (HM.popIt it (m + 1))) := ((IT4.out.drew.put m lead0).less (n' := m) (by omega)).same fun j hj => by
    show (if j = m then lead0 else _) = _
    rw [if_neg (by omega)]
  have O5 : Hid (Only (fun k => k = S ∨ k = G) w3 (w4.drew.setCells G (m * 10) (ldL lead0))) := Only.setCells (S := fun k => k = S ∨ k = G) (fun _ => Or.inr rfl) _ _ _ O4.out.drew
  have HH5 : Hid (SrcAt (w4.drew.setCells G (m * 10) (ldL lead0)) S c0 c1 c2 c3 (.slice (some ⟨G, 0, none⟩) (m + 1) cap)) := by
    have o0 : Only (fun k => k = G) w4 (w4.drew.setCells G (m * 10) (ldL lead0)) := Only.setCells (S := fun k => k = G) (fun _ => rfl) _ _ _ (Only.refl _ _).drew
    exact HH4.out.block (o0.block S HH4.out.lt NG)
  clear HS
  generalize w4.drew.setCells G (m * 10) (ldL lead0) = w5 at *
  have x1 := HH5.out.cells.2.2.2.2.2
  have fz := HH5.out.fz
  have rm2 := IT4.out.room
  have i7 : (m : Int) ≤ (cap : Int) := by omega
  have i8 : (m : Int) ≤ (cap : Int) ∧ (0 : Int) ≤ (m : Int) := by omega
  clear hz4
  go_wp2_with fail
  have O6 : Hid (Only (fun k => k = S ∨ k = G) w (w5.setCell ⟨S, 5, none⟩ (.slice (some ⟨G, 0, none⟩) m cap))) := (O3.out.trans O5.out (fun _ _ e => e)).setCell (p := ⟨S, 5, none⟩) (fun _ => Or.inl rfl) _
  have HH6 : Hid (SrcAt (w5.setCell ⟨S, 5, none⟩ (.slice (some ⟨G, 0, none⟩) m cap)) S c0 c1 c2 c3 (.slice (some ⟨G, 0, none⟩) m cap)) := HH5.out.put _
  have IT6 : Hid (ItemsL (w5.setCell ⟨S, 5, none⟩ (.slice (some ⟨G, 0, none⟩) m cap)) G cap m (HM.popIt it (m + 1))) := IT5.out.block (Below.heap_setCell _ _ _ _ (by show G ≠ S; exact fun e => NG e.symm))
  have K6 : Hid (∀ b, b < w3.heap.size → b ≠ S → b ≠ G → (w5.setCell ⟨S, 5, none⟩ (.slice (some ⟨G, 0, none⟩) m cap)).heap[b]? = w3.heap[b]?) := fun b hb h1 h2 => (Below.heap_setCell _ _ _ _ (by show b ≠ S; exact h1)).trans (O5.out.block b hb (fun e => e.elim h1 h2))
  have Z6 : Hid (w3.heap.size ≤ (w5.setCell ⟨S, 5, none⟩ (.slice (some ⟨G, 0, none⟩) m cap)).heap.size) := by have := O5.out.size; unfold Hid; simpa using this
  clear x1 fz i7 i8
  generalize w5.setCell ⟨S, 5, none⟩ (.slice (some ⟨G, 0, none⟩) m cap) = w6 at *
  refine (sinkL_any S G cap m m c0 c1 c2 c3 (HM.popIt it (m + 1)) _ HH6.out IT6.out (Nat.le_refl _) (by omega)).mono ?_
  rintro e w7 ⟨rfl, hi', hon'⟩
  have P3 := Hid.mk hi'
  have P4 := Hid.mk hon'
  have P5 := Hid.mk (HH6.out.block (hon'.block _ HH6.out.lt NG))
  have K7 : ∀ b, b < w3.heap.size → b ≠ S → b ≠ G → w7.heap[b]? = w3.heap[b]? := fun b hb h1 h2 => (hon'.block b (Nat.lt_of_lt_of_le hb Z6.out) h2).trans (K6.out b hb h1 h2)
  have z3 := HZ3.out
  have z2 := HZ2.out
  have k0 := K7 w.heap.size (by omega) (by omega) (by omega)
  have k2 := K7 w2.heap.size (by omega) (by omega) (by omega)
  have hx : Hid (w.heap.size ≠ S ∧ w.heap.size ≠ G) := ⟨by omega, by omega⟩
  have T7 := Hid.mk (show w7.there w.heap.size 0 10 from fun j hj => by
    have e1 := (World.cell?_of_block (w := w3) (a := ⟨w.heap.size, 0 + j, none⟩) k0).trans (R3.out (0 + j))
    have e2 := (World.frozen?_of_block (w := w3) (a := ⟨w.heap.size, 0 + j, none⟩) k0).trans (RF3.out (0 + j))
    refine ⟨?_, e2⟩
    rw [e1, List.getElem?_toArray, List.getElem?_eq_getElem (by simp; omega)]; rfl)
  have F7 := Hid.mk (show w7.rangeAt w2.heap.size 0 (ldL (it 0)) from fun j v hv => by
    rw [(World.cell?_of_block (w := w3) (a := ⟨w2.heap.size, 0 + j, none⟩) k2), F3.out (0 + j), List.getElem?_toArray, Nat.zero_add]
    rw [FI.out] at hv
    exact hv)
  have LV : Hid ((loadVar 149 ⟨w.heap.size, 0, none⟩).run Tryd.prog (w7.setCells w.heap.size 0 (ldL (it 0))) = .ok (.agg (ldL (it 0)).toArray) (w7.setCells w.heap.size 0 (ldL (it 0)))) :=
    run_loadVar_mid _ w.heap.size 0 149 (ldL (it 0)) _ (World.rangeAt_setCells_same w7 w.heap.size 0 (ldL (it 0)) (by rw [ldL_len]; exact T7.out)) Tryd.underlying149 rfl ((congrArg some (ldL_len (it 0))).symm ▸ Tryd.sizeLead)
  have P6 : Hid (SrcAt (w7.setCells w.heap.size 0 (ldL (it 0))) S c0 c1 c2 c3 (.slice (some ⟨G, 0, none⟩) m cap) ∧ ItemsL (w7.setCells w.heap.size 0 (ldL (it 0))) G cap m (HM.sinkF ltL m m (HM.popIt it (m + 1)) 0)) := by
    have o0 : Only (fun k => k = w.heap.size) w7 (w7.setCells w.heap.size 0 (ldL (it 0))) := Only.setCells (S := fun k => k = w.heap.size) (fun _ => rfl) _ _ _ (Only.refl _ _)
    exact ⟨P5.out.block (o0.block S P5.out.lt (fun e => hx.out.1 e.symm)), P3.out.block (o0.block G P3.out.lt (fun e => hx.out.2 e.symm))⟩
  have P7 : Hid (Only (fun k => k = S ∨ k = G) w (w7.setCells w.heap.size 0 (ldL (it 0)))) := Only.setCells (S := fun k => k = S ∨ k = G) (fun h => absurd h (Nat.lt_irrefl _)) _ _ _ (O6.out.trans P4.out (fun _ _ e => Or.inr e))
  clear hi' hon' K7 z3 z2 k0 k2
  go_upto_region 9 with fail
  refine wp_region_list ?_
  refine wpList_load_mid rfl 149 (.tmp 5) rfl w2.heap.size 0 (by rfl) (ldL (it 0)) _ F7.out Tryd.underlying149 rfl ((congrArg some (ldL_len (it 0))).symm ▸ Tryd.sizeLead) ?_
  refine wpList_store_mid rfl 149 (.tmp 2) (.tmp 56) rfl w.heap.size 0 (ldL (it 0)).toArray (by rfl) (by rfl) T7.out ((congrArg some (ldL_len (it 0))).symm ▸ Tryd.sizeLead) (all_oneCell_toArray (ldL_one _)) ?_
  go_wp2
  refine bodyPost_ret (results_cell_tmp Tryd.results83 _ _ _ (b := w.heap.size) (o := 0) rfl LV.out) rfl ⟨rfl, P6.out.1, P6.out.2, P7.out⟩

end Go.Proofs.YtnkgpinadgacgabDoor
