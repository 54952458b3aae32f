/- Lists that are written over: fill, where there may be spare room. -/
import Derived.Test.YtnkgpinadgacgaaDoorEo
import Derived.Test.YtnkgpinadgacgaaDoorBe
import Derived.Test.YtnkgpinadgacgaaDoorDz
namespace Go.Proofs.YtnkgpinadgacgaaDoor
open Go.RowKit M

theorem own_to_row {w : World} {base g n cap : Nat} {L : List Int} (h : OwnZ w base (.slice (some ⟨g, 0, none⟩) n cap) L) (hn : 0 < n) :
    ∃ F, w.rowIs g 3 cap F ∧ (∀ j, j < n → F j = .int .i64 (L.getD j 0)) ∧ base ≤ g ∧ n ≤ cap ∧ cap ≤ maxLen ∧ n = L.length := by
  obtain ⟨a, cap2, hv, _, _⟩ := h.form
  have e : n = L.length := by cases hv; rfl
  subst e
  have h2 := h
  rcases h with ⟨h1, h3 | ⟨g', cap', cur, hv', hg, hh, hnc, hcm, hs, ht⟩⟩
  · cases h3.1
  · cases hv'
    refine ⟨fun j => (cur[j]?).getD (.int .i64 0), ⟨cur, hh, by omega, fun i hi => ?_⟩, fun j hj => ?_, hg, hnc, hcm, rfl⟩
    · show _ = some ((cur[i]?).getD (.int .i64 0))
      rw [Array.getElem?_eq_getElem (by omega)]; rfl
    · have hc := h2.cell hj
      have hc2 : w.cell? ⟨g, j, none⟩ = cur[j]? := by simp [World.cell?, hh]
      rw [hc2] at hc
      show (cur[j]?).getD (.int .i64 0) = _
      rw [hc]; rfl

theorem row_to_own {w : World} {base g n cap : Nat} {L : List Int} {F : Nat → Value} (h : w.rowIs g 3 cap F) (hF : ∀ j, j < n → F j = .int .i64 (L.getD j 0)) (hg : base ≤ g) (hn : n ≤ cap) (hc : cap ≤ maxLen) (hl : n = L.length) : OwnZ w base (.slice (some ⟨g, 0, none⟩) n cap) L := by
  obtain ⟨cur, hh, hs, hf⟩ := h
  subst hl
  refine ⟨by simp [ints], .inr ⟨g, cap, cur, rfl, hg, hh, hn, hc, by omega, ?_⟩⟩
  refine List.ext_getElem? fun j => ?_
  by_cases hj : j < L.length
  · rw [List.getElem?_take, if_pos (by omega), Array.getElem?_toList, hf j (by omega), hF j hj]
    unfold ints
    rw [List.getElem?_map, List.getElem?_eq_getElem hj, List.getD_eq_getElem?_getD, List.getElem?_eq_getElem hj]; rfl
  · rw [List.getElem?_eq_none (by simp; omega), List.getElem?_eq_none (by simp [ints]; omega)]

theorem wpList_push3 {P : Program} {w : World} {ops : Array Oper} {rest : List Oper} {o : Oper} {a : Act} {Q : Exit → Act → World → Prop} (hgd : o.guard = none) (s x : Operand) (t : TypeId)
    (ho : o.op = .call { callee := .builtin .append, args := #[s, x], argTypes := #[t, t] })
    (base : Nat) (e : TypeId) (z : Value) (bytes : Nat) (ht : P.underlying t = some (.slice e)) (hinfo : (P.info? e).map (fun i => (i.zero, i.size, i.bytes)) = some (some z, 1, bytes)) (hzs : z.cells.size = 1)
    (gq n cap : Nat) (xs : List Value) (hs : a.eval s = .slice (some ⟨gq, 0, none⟩) n cap) (hown : w.ownsRow base e 1 (.slice (some ⟨gq, 0, none⟩) n cap) n xs)
    (ad : Addr) (c : Nat) (u : Value) (hx : a.eval x = .slice (some ad) 1 c) (hu : w.cell? ad = some u) (h1 : u.oneCell' = true)
    (h63 : n + 1 ≤ maxLen) (hbytes : (n + 1) * bytes ≤ 140737488355328) (hbase : base ≤ w.heap.size)
    (h : ∀ g cap' w', w'.ownsRow base e 1 (.slice (some ⟨g, 0, none⟩) (n + 1) cap') (n + 1) (xs ++ [u]) → w.grownBy w' (some gq) → (g = gq ∨ (w.heap.size ≤ g ∧ Below w.heap.size w w')) → wpList P ops Q rest (a.put o.dst (.slice (some ⟨g, 0, none⟩) (n + 1) cap')) w') :
    wpList P ops Q (o :: rest) a w := by
  by_cases hroom : n + 1 ≤ cap
  · obtain ⟨i, h2, h3, h4, h5⟩ := info_parts hinfo
    refine wpList_append_fits_any w hgd s x t ho base e i 1 ht h2 h4 gq n cap xs hs hown (some ad) 1 c [u] hx rfl (fun hh => by cases hh) ?_ ?_ hroom ?_
    · intro ad' had j v' hj
      cases had
      match j, hj with
      | 0, hj =>
        simp at hj; subst hj
        simpa [Addr.add] using hu
    · intro v' hv'
      simp at hv'; subst hv'; exact h1
    · intro w' hown' hgr
      exact h gq cap w' hown' hgr (Or.inl rfl)
  · have hnc : cap = n := by have := own_cap hown; omega
    subst hnc
    refine wpList_push_full hgd s x t ho e z bytes ht hinfo hzs (some ⟨gq, 0, none⟩) cap xs hs (fun hh => by cases hh) (by have := hown.1; simpa using this) ?_ ad c u hx hu h1 h63 hbytes ?_
    · intro b hb j v' hj
      cases hb
      have hjl : j < cap := by
        have h1 := (List.getElem?_eq_some_iff.1 hj).1
        have h2 := hown.1
        omega
      have e1 : (⟨gq, 0, none⟩ : Addr).add j = ⟨gq, j, none⟩ := by unfold Addr.add; split <;> simp_all
      rw [e1, own_cell hown hjl]; exact hj
    · intro g cap' w' hown' hb
      exact h g cap' w' (own_base hown' hbase) ⟨hb.os, hb.tape, hb.output, hb.size, fun k hk _ => hb.block k hk⟩ (Or.inr ⟨(own_lt hown').1, hb⟩)


set_option maxRecDepth 100000 in
set_option maxHeartbeats 4000000 in
theorem fill_own (base g n cap : Nat) (L : List Int) (mv : Int) (w : World) (hn : 0 < n) (hn2 : n ≤ 1000) (_hbase : base ≤ w.heap.size) (h1 : OwnZ w base (.slice (some ⟨g, 0, none⟩) n cap) L) :
    Calls Tryd.prog 66 #[.slice (some ⟨g, 0, none⟩) n cap, .int .i64 mv] w fun e w' =>
      ∃ h c, e = .returned (.slice (some ⟨h, 0, none⟩) (n + 1) c) ∧ (∀ j, j < n + 1 → w'.cell? ⟨h, j, none⟩ = some (.int .i64 mv)) ∧ (h = g ∨ w.heap.size ≤ h) ∧ (∀ j, j < n → w'.cell? ⟨g, j, none⟩ = some (.int .i64 mv)) ∧ Only (fun k => k = g) w w' := by
  obtain ⟨F, hrow, hF, hbg, hnc, hcm, hnl⟩ := own_to_row h1 hn
  have HR := Hid.mk hrow
  have HF := Hid.mk hF
  have hgl := hrow.lt
  clear h1 hrow hF hnl
  go_enter Tryd.func66, Tryd.ntmps66
  go_wp2
  go_loopw [5] (fun v5 wr => ∃ k : Nat, v5 = .int .i64 k ∧ k ≤ n ∧ wr.rowIs g 3 cap (fun j => if j < k then .int .i64 mv else F j) ∧ Only (fun k => k = g) w wr) (fun v5 _ => n - (intOf v5).toNat)
  case atStart => exact ⟨0, rfl, Nat.zero_le _, HR.out.congr (fun i _ => by rw [if_neg (by omega)]), Only.refl _ _⟩
  case round =>
    obtain ⟨w1, rfl⟩ : ∃ q, q = wr := ⟨_, rfl⟩
    obtain ⟨k, rfl, hk, hr, ho⟩ := hrel
    have R1 := Hid.mk hr
    have O1 := Hid.mk ho
    have hz1 := ho.size
    by_cases hlt : k < n
    · have rc := hr.cell (i := k) (by omega)
      rw [if_neg (by omega), HF.out k hlt] at rc
      have rf := hr.frozen
      clear hr ho
      go_wp2
      go_roundw
      case rel =>
        refine ⟨k + 1, by go_num, by omega, (R1.out.set k (.int .i64 mv)).congr (fun i _ => ?_), O1.out.setCell (p := ⟨g, k, none⟩) (fun _ => rfl) _⟩
        by_cases e : i = k
        · rw [if_pos e, if_pos (by omega)]
        · rw [if_neg e]
          by_cases e2 : i < k
          · rw [if_pos e2, if_pos (by omega)]
          · rw [if_neg e2, if_neg (by omega)]
      case measure => simp [intOf]; omega
    · have hd : k = n := by omega
      subst hd
      have OW : Hid (OwnZ w1 base (.slice (some ⟨g, 0, none⟩) k cap) (List.replicate k mv)) := row_to_own R1.out (fun j hj => by rw [if_pos hj, List.getD_eq_getElem?_getD, List.getElem?_replicate, if_pos hj]; rfl) hbg hnc hcm (by simp)
      have hb1 : base ≤ w1.heap.size := by omega
      have hb2 : base ≤ (w1.alloc (Obj.cells #[Value.int .i64 mv] 3)).heap.size := by simp; omega
      have OW2 : Hid (OwnZ (w1.alloc (Obj.cells #[Value.int .i64 mv] 3)) base (.slice (some ⟨g, 0, none⟩) k cap) (List.replicate k mv)) := own_keep OW.out (fun q _ hq _ => Below.heap_alloc _ _ _ hq)
      have R2 := Hid.mk R1.out
      clear hr ho
      go_wp2_with (at_builtin; go_must (refine wpList_push3 rfl _ _ 26 rfl base 3 _ _ Tryd.underlying26 Tryd.infoInt2 rfl g k cap (ints (List.replicate k mv)) rfl (by have h := OW2.out; unfold OwnZ at h; rw [List.length_replicate] at h; exact h) ⟨w1.heap.size, 0, none⟩ 1 (.int .i64 mv) rfl (by go_simp) rfl (by unfold maxLen; omega) (by omega) (by exact hb2) ?_; intro g5 c5 w2 ho5 hgr5 hat5))
      go_ret
      have hz1' : (w1.alloc (Obj.cells #[Value.int .i64 mv] 3)).heap.size = w1.heap.size + 1 := by simp
      have hon : Only (fun q => q = g) w1 w2 := ((Only.refl _ w1).alloc _).trans (Only.of_grown hgr5) (fun _ _ e => e)
      have hcell : ∀ j, j < k + 1 → w2.cell? ⟨g5, j, none⟩ = some (.int .i64 mv) := fun j hj => by
        rw [own_cell ho5 hj]
        have e : ints (List.replicate k mv) ++ [Value.int .i64 mv] = ints (List.replicate (k + 1) mv) := by rw [List.replicate_succ']; simp [ints]
        rw [e, ints_at' (by simp; omega), List.getD_eq_getElem?_getD, List.getElem?_replicate, if_pos hj]; rfl
      refine ⟨g5, c5, rfl, hcell, ?_, fun j hj => ?_, O1.out.trans hon (fun _ _ e => e)⟩
      · rcases hat5 with e | ⟨e, _⟩
        · exact .inl e
        · exact .inr (by omega)
      · rcases hat5 with e | ⟨_, hb⟩
        · subst e; exact hcell j (by omega)
        · have hrc := R2.out.cell (i := j) (by omega)
          rw [if_pos hj] at hrc
          rw [cell_block (hb.block g (by omega)), cell_block (Below.heap_alloc _ _ _ (by omega))]
          exact hrc

end Go.Proofs.YtnkgpinadgacgaaDoor
