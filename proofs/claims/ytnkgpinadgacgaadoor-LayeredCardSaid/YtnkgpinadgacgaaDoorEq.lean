/- Walk of apart, for any number of lists of one's own. -/
import Derived.Test.YtnkgpinadgacgaaDoorEp
namespace Go.Proofs.YtnkgpinadgacgaaDoor
open Go.RowKit M

set_option maxRecDepth 100000 in
/-- A slice is pushed onto a list of slices. -/
theorem wpList_pushV {w0 : World} {ops : Array Oper} {rest : List Oper} {o : Oper} {a : Act} {Q : Exit → Act → World → Prop} (hgd : o.guard = none) (s x : Operand)
    (ho : o.op = .call { callee := .builtin .append, args := #[s, x], argTypes := #[35, 35] })
    (base : Nat) (v : Value) (K : Nat) (A : List Value) (ay : Option Addr) (ny cy : Nat) (hs : a.eval s = v) (hown : w0.ownsRow base 26 1 v K A) (hbase : base ≤ w0.heap.size) (c : Nat)
    (hx : a.eval x = .slice (some ⟨w0.heap.size, 0, none⟩) 1 c) (hL : K ≤ 100000000)
    (h : ∀ g cap w', w'.ownsRow base 26 1 (.slice (some ⟨g, 0, none⟩) (K + 1) cap) (K + 1) (A ++ [.slice ay ny cy]) → Only (fun k => v.ownBlock = some k) w0 w' → (v.ownBlock = some g ∨ w0.heap.size ≤ g) → wpList Tryd.prog ops Q rest (a.put o.dst (.slice (some ⟨g, 0, none⟩) (K + 1) cap)) w') :
    wpList Tryd.prog ops Q (o :: rest) a (w0.alloc (.cells #[.slice ay ny cy] 26)) := by
  obtain ⟨i0, hi0, hi1, hi2, hi3⟩ := info_parts Tryd.infoSl
  have hown1 := own_keep (w' := w0.alloc (.cells #[.slice ay ny cy] 26)) hown (fun g _ hg _ => Below.heap_alloc _ _ _ hg)
  refine wpList_append_lies _ hgd s x _ ho base 26 i0 _ 1 24 Tryd.underlying35 hi0 hi1 hi2 hi3 rfl (by omega) v K A hs hown1 _ 1 c [.slice ay ny cy] hx rfl (fun j u hj => ?_) (fun u hu => ?_) (by omega) (by unfold maxLen; omega) (by omega) (by simp; omega) (w0.heap.size + 1) (by simp) ?_
  · match j, hj with
    | 0, hj => simp at hj; subst hj; simp [Addr.add]
    | j + 1, hj => simp at hj
  · simp at hu; subst hu; rfl
  · intro g cap w' ho9 hg9 hl9 _
    refine h g cap w' ho9 ⟨hg9.os, hg9.tape, hg9.output, Nat.le_trans (by simp) hg9.size, fun k hk hn => ?_⟩ (hl9.imp id (fun e => by omega))
    rw [hg9.block k (by simp; omega) (fun e => hn e.symm)]
    exact Below.heap_alloc _ _ _ hk

/-- What fill has written, list by list. -/
structure Tails (w wr : World) (i : Nat) (g n : Nat → Nat) (V : Value) (A : List Value) (H C : Nat → Nat) : Prop where
  own : wr.ownsRow w.heap.size 26 1 V i A
  at' : ∀ t, t < i → A.getD t (.bool false) = .slice (some ⟨H t, 0, none⟩) (n t + 1) (C t)
  cells : ∀ t, t < i → ∀ j, j < n t + 1 → wr.cell? ⟨H t, j, none⟩ = some (.int .i64 (-9 - (t : Int)))
  lies : ∀ t, t < i → H t = g t ∨ w.heap.size ≤ H t
  ne : ∀ t, t < i → V.ownBlock ≠ some (H t)
  old : ∀ t, t < i → ∀ j, j < n t → wr.cell? ⟨g t, j, none⟩ = some (.int .i64 (-9 - (t : Int)))

set_option maxRecDepth 100000 in
set_option maxHeartbeats 8000000 in
theorem apart_own (base K gp cp : Nat) (g n c : Nat → Nat) (Lz : Nat → List Int) (w : World) (hK : K ≤ 300) (hbase : base ≤ w.heap.size)
    (hp : ∀ t, t < K → w.cell? ⟨gp, t, none⟩ = some (.slice (some ⟨g t, 0, none⟩) (n t) (c t))) (hown : ∀ t, t < K → OwnZ w base (.slice (some ⟨g t, 0, none⟩) (n t) (c t)) (Lz t)) (hn : ∀ t, t < K → 0 < n t ∧ n t ≤ 100)
    (hinj : ∀ s t, s < K → t < K → g s = g t → s = t) (hgp : ∀ t, t < K → g t ≠ gp) (hgpl : gp < w.heap.size) :
    Calls Tryd.prog 18 #[.slice (some ⟨gp, 0, none⟩) K cp] w fun e w' => e = .returned (.bool true) ∧ Only (fun k => ∃ t, t < K ∧ k = g t) w w' := by
  have HP := Hid.mk hp
  have HOWN := Hid.mk hown
  have HN := Hid.mk hn
  have HINJ := Hid.mk hinj
  have HGP := Hid.mk hgp
  have GL : Hid (∀ t, t < K → base ≤ g t ∧ g t < w.heap.size) := fun t ht => (hown t ht).lt (g t) rfl
  clear hp hown hn hinj hgp
  go_enter Tryd.func18, Tryd.ntmps18
  go_wp2
  go_loopw [3, 4] (fun v3 v4 wr => ∃ (i : Nat) (V : Value) (A : List Value) (H C : Nat → Nat), V = v3 ∧ v4 = .int .i64 i ∧ i ≤ K ∧ Tails w wr i g n V A H C ∧ Only (fun k => ∃ t, t < i ∧ k = g t) w wr) (fun _ v4 _ => K - (intOf v4).toNat)
  case atStart => exact ⟨0, _, [], fun _ => 0, fun _ => 0, rfl, rfl, Nat.zero_le _, ⟨⟨rfl, .inl ⟨rfl, rfl⟩⟩, fun t h => absurd h (Nat.not_lt_zero t), fun t h => absurd h (Nat.not_lt_zero t), fun t h => absurd h (Nat.not_lt_zero t), fun t h => absurd h (Nat.not_lt_zero t), fun t h => absurd h (Nat.not_lt_zero t)⟩, Only.refl _ _⟩
  case round =>
    obtain ⟨w1, rfl⟩ : ∃ q, q = wr := ⟨_, rfl⟩
    obtain ⟨i, V, A, H, C, rfl, rfl, hi, htl, ho⟩ := hrel
    have TL := Hid.mk htl
    have O1 := Hid.mk ho
    have hz1 := ho.size
    clear htl ho
    by_cases hlt : i < K
    · have d0 := (O1.out.cell (p := ⟨gp, i, none⟩) hgpl (by rintro ⟨t, ht, e⟩; exact HGP.out t (by omega) e.symm)).trans (HP.out i hlt)
      have hiI : (i : Int) < (K : Int) := by omega
      have hwi : IntKind.i64.wrap (-9 - (i : Int)) = -9 - (i : Int) := wrap_mid (by omega) (by omega)
      have hni := HN.out i hlt
      have hgi := GL.out i hlt
      have OW1 : Hid (OwnZ w1 base (.slice (some ⟨g i, 0, none⟩) (n i) (c i)) (Lz i)) := own_keep (HOWN.out i hlt) (fun q _ hq hv => O1.out.block q hq (by
        have e : g i = q := Option.some.inj hv
        rintro ⟨t, ht, e2⟩
        have := HINJ.out i t hlt (by omega) (by omega)
        omega))
      go_wp2_with fail
      refine (fill_own base (g i) (n i) (c i) (Lz i) (-9 - (i : Int)) w1 hni.1 (by omega) (by omega) OW1.out).mono ?_
      rintro e w2 ⟨h, ch, rfl, hcells, hlies, hold, ho2⟩
      have hz2 := ho2.size
      have hVlo : ∀ q, V.ownBlock = some q → w.heap.size ≤ q ∧ q < w1.heap.size := fun q hq => TL.out.own.lt q hq
      have OWV : Hid (w2.ownsRow w.heap.size 26 1 V i A) := own_keep TL.out.own (fun q hq hl _ => ho2.block q hl (by omega))
      have CE := Hid.mk hcells
      have LI := Hid.mk hlies
      have OLD := Hid.mk hold
      have O2 := Hid.mk ho2
      have hw2 : w.heap.size ≤ w2.heap.size := by omega
      have hi8 : i ≤ 100000000 := by omega
      have hhl : h < w2.heap.size := World.block_lt_of_cell? (a := ⟨h, 0, none⟩) _ (hcells 0 (by omega))
      clear hcells hlies hold ho2 d0
      go_wp2_with (at_builtin; go_must (refine wpList_pushV rfl _ _ rfl w.heap.size V i A (some ⟨h, 0, none⟩) (n i + 1) ch rfl OWV.out (by exact hw2) _ rfl hi8 ?_; intro g5 c5 w3 ho5 hon5 hat5))
      go_roundw
      case rel =>
        have hz3 := hon5.size
        have nV : ∀ q, q < w.heap.size → ¬ (V.ownBlock = some q) := fun q hq hh => by have := (hVlo q hh).1; omega
        have hA : A.length = i := by have := TL.out.own.1; omega
        have hhV : V.ownBlock ≠ some h := fun hh => by
          have h1 := hVlo h hh
          rcases LI.out with e | e <;> omega
        have h12 : Only (fun k => ∃ t, t < i + 1 ∧ k = g t) w w2 := (O1.out.mono (fun q _ e => by obtain ⟨t, ht, e⟩ := e; exact ⟨t, by omega, e⟩)).trans O2.out (fun q _ e => ⟨i, by omega, e⟩)
        refine ⟨i + 1, _, A ++ [.slice (some ⟨h, 0, none⟩) (n i + 1) ch], fun t => if t = i then h else H t, fun t => if t = i then ch else C t, rfl, by go_num, by omega, ⟨ho5, fun t ht => ?_, fun t ht j hj => ?_, fun t ht => ?_, fun t ht hh => ?_, fun t ht j hj => ?_⟩, h12.trans hon5 (fun q hq e => absurd e (nV q hq))⟩
        · show _ = Value.slice (some ⟨if t = i then h else H t, 0, none⟩) (n t + 1) (if t = i then ch else C t)
          by_cases e : t = i
          · rw [if_pos e, if_pos e, e, getD_snoc_new hA.symm]
          · rw [if_neg e, if_neg e, getD_snoc_old (by omega)]
            exact TL.out.at' t (by omega)
        · show w3.cell? ⟨if t = i then h else H t, j, none⟩ = _
          by_cases e : t = i
          · subst e
            rw [if_pos rfl, hon5.cell (p := ⟨h, j, none⟩) hhl hhV]
            exact CE.out j hj
          · rw [if_neg e]
            have hc := TL.out.cells t (by omega) j hj
            have hHl := World.block_lt_of_cell? (a := ⟨H t, j, none⟩) _ hc
            have hHi : H t ≠ g i := by
              rcases TL.out.lies t (by omega) with e2 | e2
              · rw [e2]
                intro e3
                exact e (HINJ.out t i (by omega) hlt e3)
              · have := hgi.2
                omega
            rw [hon5.cell (p := ⟨H t, j, none⟩) (by show H t < _; have : H t < w1.heap.size := hHl; omega) (TL.out.ne t (by omega)), O2.out.cell (p := ⟨H t, j, none⟩) hHl hHi]
            exact hc
        · show (if t = i then h else H t) = g t ∨ w.heap.size ≤ (if t = i then h else H t)
          by_cases e : t = i
          · rw [if_pos e, e]
            rcases LI.out with e2 | e2
            · exact .inl e2
            · exact .inr (by omega)
          · rw [if_neg e]
            exact TL.out.lies t (by omega)
        · have hh2 : g5 = (if t = i then h else H t) := Option.some.inj hh
          by_cases e : t = i
          · rw [if_pos e] at hh2
            rcases hat5 with e2 | e2
            · exact hhV (by rw [e2, hh2])
            · omega
          · rw [if_neg e] at hh2
            have hc := TL.out.cells t (by omega) 0 (by omega)
            have hHl : H t < w1.heap.size := World.block_lt_of_cell? (a := ⟨H t, 0, none⟩) _ hc
            rcases hat5 with e2 | e2
            · exact TL.out.ne t (by omega) (by rw [e2, hh2])
            · omega
        · by_cases e : t = i
          · subst e
            rw [hon5.cell (p := ⟨g t, j, none⟩) (by show g t < _; have := hgi.2; omega) (nV (g t) hgi.2)]
            exact OLD.out j hj
          · have hgt := (GL.out t (by omega)).2
            rw [hon5.cell (p := ⟨g t, j, none⟩) (by show g t < _; omega) (nV (g t) hgt), O2.out.cell (p := ⟨g t, j, none⟩) (by show g t < _; omega) (by show ¬ (g t = g i); exact fun e3 => e (HINJ.out t i (by omega) hlt e3))]
            exact TL.out.old t (by omega) j hj
      case measure => simp [intOf]; omega
    · have hd : i = K := by omega
      subst hd
      obtain ⟨aV, cV, rfl, haV, _⟩ := own_form TL.out.own
      have HAV := Hid.mk haV
      clear haV
      go_wp2
      go_loopw [6] (fun v6 wr => ∃ k : Nat, v6 = .int .i64 k ∧ k ≤ i ∧ wr = w1) (fun v6 _ => i - (intOf v6).toNat)
      case atStart => exact ⟨0, rfl, Nat.zero_le _, rfl⟩
      case round =>
        obtain ⟨k, rfl, hk, rfl⟩ := hrel
        by_cases hltk : k < i
        · obtain ⟨gV, rfl⟩ := HAV.out (by omega)
          have d0 := (O1.out.cell (p := ⟨gp, k, none⟩) hgpl (by rintro ⟨t, ht, e⟩; exact HGP.out t (by omega) e.symm)).trans (HP.out k hltk)
          have d1 : wr.cell? ⟨gV, k, none⟩ = some (.slice (some ⟨H k, 0, none⟩) (n k + 1) (C k)) := by
            rw [own_cell TL.out.own hltk, ← TL.out.at' k hltk]
            have hA : A.length = i := by have := TL.out.own.1; omega
            rw [List.getD_eq_getElem?_getD, List.getElem?_eq_getElem (by omega)]; rfl
          have hkI : (k : Int) < (i : Int) := by omega
          have hwk : IntKind.i64.wrap (-9 - (k : Int)) = -9 - (k : Int) := wrap_mid (by omega) (by omega)
          have hnk := (HN.out k hltk).2
          go_wp2_with fail
          refine (filled_any _ (n k) (c k) (-9 - (k : Int)) wr (by omega) (fun _ => ⟨g k, rfl, fun j hj => TL.out.old k hltk j hj⟩)).mono ?_
          rintro e w9 ⟨rfl, hw9⟩
          have hw9 := hw9.symm
          subst hw9
          go_wp2_with fail
          refine (filled_any _ (n k + 1) (C k) (-9 - (k : Int)) wr (by omega) (fun _ => ⟨H k, rfl, fun j hj => TL.out.cells k hltk j hj⟩)).mono ?_
          rintro e w9 ⟨rfl, hw9⟩
          have hw9 := hw9.symm
          subst hw9
          clear d0 d1
          go_wp2
          go_roundw
          case rel => exact ⟨k + 1, by go_num, by omega, (by first | rfl | trivial)⟩
          case measure => simp [intOf]; omega
        · go_wp2
          go_ret
          exact ⟨rfl, O1.out⟩

end Go.Proofs.YtnkgpinadgacgaaDoor
