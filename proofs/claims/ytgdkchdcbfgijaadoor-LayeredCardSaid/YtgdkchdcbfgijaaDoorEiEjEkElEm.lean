/- The library's Sorted over a map's keys, at a set of cells: the cells in order. -/
import Derived.Test.YtgdkchdcbfgijaaDoorEa
import Derived.Test.YtgdkchdcbfgijaaDoorDo
import Derived.Test.YtgdkchdcbfgijaaDoorSh
import Derived.Test.YtgdkchdcbfgijaaDoorEh
import Derived.Test.YtgdkchdcbfgijaaDoorDt
import Derived.Test.YtgdkchdcbfgijaaDoorDe
namespace Go.Proofs
open Go.RowKit Go.Maps Go.Sort Go.Shelf

theorem Tryd.sortsA (m : Nat) : AnyZI.SortsIn Tryd.prog Tryd.sortedA_ren Fence.wide m :=
  ⟨fun blk off cap ss W hH hblk hsz => callsIn_wide.2 (AnyM.slices_Sort_int Tryd.sortA blk off cap ss W hH hblk hsz),
   fun p cap W => callsIn_wide.2 (AnyM.slices_Sort_int_none Tryd.sortA p cap W)⟩

theorem Tryd.keys_calls (mb : Option Nat) (W : World) : Calls Tryd.prog 108 #[.map mb] W fun e w' => e = .returned (.func (.func 143) #[] #[.pointer (some ⟨W.heap.size, 0, none⟩)]) ∧ w' = W.alloc (.cells #[.map mb] 146) := by
  refine (callsIn_wide (n := 5)).1 ?_
  exact AnyZI.keys_in Tryd.keysA Fence.wide 5 trivial rfl mb W

set_option maxHeartbeats 1000000 in
theorem Tryd.sorted_calls {H : Type} (b nn : Nat) (D0 : DataW H) (R : Value → Option (DataW H × List MemPlace)) (w : World) (hown : w.ownsMap Tryd.prog 3 R b nn D0) (hmax : Maps.size D0 ≤ maxLen) (hbytes : Maps.size D0 * 8 ≤ 140737488355328) :
    Calls Tryd.prog 107 #[.func (.func 143) #[] #[.pointer (some ⟨w.heap.size, 0, none⟩)]] (w.alloc (.cells #[.map (some b)] 146)) fun e w' => ∃ (v : Value) (ss : List Int), e = .returned v ∧ ss.Perm (intKeys D0) ∧
      w'.ownsRow w.heap.size 3 1 v ss.length ((ss.mergeSort (fun x y => decide (x ≤ y))).map encZ) ∧ Below w.heap.size (w.alloc (.cells #[.map (some b)] 146)) w' := by
  refine (callsIn_wide (n := 5)).1 ?_
  have hbl := hown.lt
  have hseq : SeqGives Fence.wide 2 Tryd.prog 143 #[.pointer (some ⟨w.heap.size, 0, none⟩)] encZ (fun ss => ss.Perm (intKeys D0)) (Maps.size D0) (w.alloc (.cells #[.map (some b)] 146)) :=
    AnyZI.keys_gives (ρ := Tryd.keysA_ren) { Tryd.keysA with } Fence.wide _ trivial rfl (by omega) w.heap.size b nn D0 _ (by simp) (by simp) (by
      obtain ⟨es, clock, hb, Ft, hs, hD⟩ := hown
      exact ⟨es, clock, (Below.heap_alloc _ _ b hbl).trans hb, Ft, hs, hD⟩)
  have cS := AnyZI.sorted_in Tryd.sortedA Fence.wide 5 trivial trivial trivial trivial rfl (by omega) (Tryd.sortsA _) (enters_of Tryd.func142 (by kernel_rfl) rfl) 143 #[.pointer (some ⟨w.heap.size, 0, none⟩)] trivial (enters_of Tryd.func143 (by kernel_rfl) rfl) _ _ hmax hbytes _ hseq
  change CallsIn _ _ Tryd.prog 107 _ _ _ at cS
  refine cS.mono ?_
  rintro e w' ⟨v, ss, rfl, hS, hrow, hnil, hb⟩
  exact ⟨v, ss, rfl, hS, ownsRow_base_a hrow (by simp), hb.mono (by simp)⟩

end Go.Proofs

/- A set of cells, sorted: the cells in order. -/
namespace Go.Proofs.YtgdkchdcbfgijaaDoor
open Go.RowKit Go.Maps M

/-- The cells of a set, in order. -/
def cellsL (f : Nat → Bool) : List Nat := (List.range 36).filter f

theorem cellsL_mem {f : Nat → Bool} {c : Nat} : c ∈ cellsL f ↔ c < 36 ∧ f c = true := by
  unfold cellsL
  rw [List.mem_filter, List.mem_range]

theorem qi_nodup {f : Nat → Bool} : (qi (cellsL f)).Nodup := by
  unfold qi cellsL
  rw [List.Nodup, List.pairwise_map]
  refine (List.Pairwise.filter f (List.pairwise_lt_range (n := 36))).imp fun {a b} h e => ?_
  omega

theorem qi_le {f : Nat → Bool} : (qi (cellsL f)).Pairwise (fun a b => decide (a ≤ b) = true) := by
  unfold qi cellsL
  rw [List.pairwise_map]
  refine (List.Pairwise.filter f (List.pairwise_lt_range (n := 36))).imp fun {a b} h => ?_
  simp
  omega

theorem keys_perm {w : World} {b n : Nat} {D : DataW Unit} {f : Nat → Bool} (h : w.ownsMap Tryd.prog 3 (unitElem (H := Unit)) b n D) (hk : ∀ kl, Maps.has D kl = true → ∃ c : Nat, c < 36 ∧ kl = .int .i64 (c : Int)) (hf : ∀ c : Nat, c < 36 → Maps.has D (.int .i64 (c : Int)) = f c) : (Go.intKeys D).Perm (qi (cellsL f)) := by
  obtain ⟨es, rfl, hp, hl⟩ := h.entries Tryd.lawInt
  have hin : ∀ p ∈ es, ∃ c : Nat, c < 36 ∧ p.1 = .int .i64 (c : Int) := fun p hm => hk p.1 (by
    rw [Maps.has_eq, List.any_eq_true]
    exact ⟨p, hm, WideAt.sameKey_self (hl p hm)⟩)
  refine (List.perm_ext_iff_of_nodup ?_ qi_nodup).2 fun x => ?_
  · show (es.map _).Nodup
    rw [List.Nodup, List.pairwise_map]
    refine hp.imp_of_mem fun {p q} hpm hqm hne e => ?_
    obtain ⟨c, _, e1⟩ := hin p hpm
    obtain ⟨d, _, e2⟩ := hin q hqm
    rw [e1, e2] at e hne
    have e3 : (c : Int) = (d : Int) := e
    exact hne (by rw [e3])
  · constructor
    · intro hx
      obtain ⟨p, hpm, rfl⟩ := List.mem_map.1 (show x ∈ es.map _ from hx)
      obtain ⟨c, hc, e1⟩ := hin p hpm
      have hh : Maps.has (.map es) (.int .i64 (c : Int)) = true := by
        rw [Maps.has_eq, List.any_eq_true]
        exact ⟨p, hpm, by rw [e1]; exact WideAt.sameKey_self (by rw [← e1]; exact hl p hpm)⟩
      rw [hf c hc] at hh
      refine List.mem_map.2 ⟨c, cellsL_mem.2 ⟨hc, hh⟩, ?_⟩
      rw [e1]; rfl
    · intro hx
      obtain ⟨c, hc, rfl⟩ := List.mem_map.1 hx
      obtain ⟨hc1, hc2⟩ := cellsL_mem.1 hc
      have hh := hf c hc1
      rw [hc2, Maps.has_eq, List.any_eq_true] at hh
      obtain ⟨p, hpm, hs⟩ := hh
      have e1 : p.1 = .int .i64 (c : Int) := WideAt.sameKey_eq hs
      refine List.mem_map.2 ⟨p, hpm, ?_⟩
      rw [e1]; rfl

theorem sorted_cells (b : Nat) (f : Nat → Bool) (w : World) (hc : CellSet w b f) :
    Calls Tryd.prog 107 #[.func (.func 143) #[] #[.pointer (some ⟨w.heap.size, 0, none⟩)]] (w.alloc (.cells #[.map (some b)] 146)) fun e w' => ∃ v, e = .returned v ∧ OwnN w' w.heap.size v (cellsL f) ∧ Below w.heap.size (w.alloc (.cells #[.map (some b)] 146)) w' := by
  obtain ⟨D, hD, hk, hf⟩ := hc
  have hsz := cells_size hD hk
  refine (Tryd.sorted_calls b _ D _ w hD (by unfold maxLen; omega) (by omega)).mono ?_
  rintro e w' ⟨v, ss, rfl, hp, hrow, hb⟩
  refine ⟨v, rfl, ?_, hb⟩
  have e1 : ss.mergeSort (fun x y => decide (x ≤ y)) = qi (cellsL f) := by
    refine List.Perm.eq_of_pairwise (le := fun a b => decide (a ≤ b) = true) (fun a b _ _ h1 h2 => ?_) (List.pairwise_mergeSort (fun a b c h1 h2 => ?_) (fun a b => ?_) ss) qi_le (((List.mergeSort_perm ss _).trans hp).trans (keys_perm hD hk hf))
    · simp at h1 h2; omega
    · simp at h1 h2 ⊢; omega
    · simp; omega
  have hl : ss.length = (cellsL f).length := by
    have h := (hp.trans (keys_perm hD hk hf)).length_eq
    rw [h]; simp [qi]
  unfold OwnN
  rw [e1, hl] at hrow
  exact hrow

end Go.Proofs.YtgdkchdcbfgijaaDoor

/- A trip's two maps are two: the walks of bansOf and newTrip once more, with that said. -/
namespace Go.Proofs.YtgdkchdcbfgijaaDoor
open Go.RowKit M

set_option maxRecDepth 100000 in
set_option maxHeartbeats 2000000 in
theorem bansOf_two (ro co bu : Int) (cs : ByteArray) (ca : Value) (a : Option Addr) (n cap : Nat) (R : Nat → RuleM) (w : World) (hs : cs.size ≤ 36) (hr : rulesB cs.size n R = true) (hwf : RulesWf n R) (ha : RulesAt w a n R) :
    Calls Tryd.prog 128 #[.agg #[.int .i64 ro, .int .i64 co, .string cs, ca, .int .i64 bu], .slice a n cap] w fun e w' =>
      ∃ bs bt, e = .returned (.agg #[.map (some bs), .map (some bt)]) ∧ w.heap.size ≤ bs ∧ w.heap.size ≤ bt ∧ bs ≠ bt ∧ BansIn w' bs bt cs.size n R ∧ Below w.heap.size w w' := by
  have HA := Hid.mk ha
  have HR := Hid.mk hr
  have HWF := Hid.mk hwf
  have hn := rulesB_len hr
  have hmm := @run_makeMap Tryd.prog
  clear ha hr hwf
  go_enter Tryd.func128, Tryd.ntmps128
  go_wp2
  have HB5 : Hid (Below w.heap.size w (((((w.alloc (Obj.cells #[Value.int IntKind.i64 ro, Value.int IntKind.i64 co, Value.string cs, ca, Value.int IntKind.i64 bu] 24)).alloc (Obj.cells #[Value.map none, Value.map none] 134)).alloc (Obj.map #[] 0)).alloc (Obj.map #[] 0)).alloc (Obj.cells #[Value.map (some (w.heap.size + 1 + 1)), Value.map (some (w.heap.size + 1 + 1 + 1))] 134))) := ((((Below.refl _ w).alloc (Nat.le_refl _) _).alloc (by simp) _).alloc (by simp; omega) _).alloc (by simp; omega) _ |>.alloc (by simp; omega) _
  have HS5 : Hid (SpotSet (((((w.alloc (Obj.cells #[Value.int IntKind.i64 ro, Value.int IntKind.i64 co, Value.string cs, ca, Value.int IntKind.i64 bu] 24)).alloc (Obj.cells #[Value.map none, Value.map none] 134)).alloc (Obj.map #[] 0)).alloc (Obj.map #[] 0)).alloc (Obj.cells #[Value.map (some (w.heap.size + 1 + 1)), Value.map (some (w.heap.size + 1 + 1 + 1))] 134)) (w.heap.size + 1 + 1) 0 (fun _ _ => false)) :=
    ((spotSet_made ((w.alloc (Obj.cells #[Value.int IntKind.i64 ro, Value.int IntKind.i64 co, Value.string cs, ca, Value.int IntKind.i64 bu] 24)).alloc (Obj.cells #[Value.map none, Value.map none] 134)) (w.heap.size + 1 + 1) (by simp)).block (Below.heap_alloc _ _ _ (by simp))).block (Below.heap_alloc _ _ _ (by simp))
  have HT5 : Hid (StepSet (((((w.alloc (Obj.cells #[Value.int IntKind.i64 ro, Value.int IntKind.i64 co, Value.string cs, ca, Value.int IntKind.i64 bu] 24)).alloc (Obj.cells #[Value.map none, Value.map none] 134)).alloc (Obj.map #[] 0)).alloc (Obj.map #[] 0)).alloc (Obj.cells #[Value.map (some (w.heap.size + 1 + 1)), Value.map (some (w.heap.size + 1 + 1 + 1))] 134)) (w.heap.size + 1 + 1 + 1) 0 (fun _ _ _ => false)) :=
    (stepSet_made (((w.alloc (Obj.cells #[Value.int IntKind.i64 ro, Value.int IntKind.i64 co, Value.string cs, ca, Value.int IntKind.i64 bu] 24)).alloc (Obj.cells #[Value.map none, Value.map none] 134)).alloc (Obj.map #[] 0)) (w.heap.size + 1 + 1 + 1) (by simp)).block (Below.heap_alloc _ _ _ (by simp))
  have y5 : ∀ o, (((((w.alloc (Obj.cells #[Value.int IntKind.i64 ro, Value.int IntKind.i64 co, Value.string cs, ca, Value.int IntKind.i64 bu] 24)).alloc (Obj.cells #[Value.map none, Value.map none] 134)).alloc (Obj.map #[] 0)).alloc (Obj.map #[] 0)).alloc (Obj.cells #[Value.map (some (w.heap.size + 1 + 1)), Value.map (some (w.heap.size + 1 + 1 + 1))] 134)).cell? ⟨w.heap.size, o, none⟩ = #[Value.int .i64 ro, .int .i64 co, .string cs, ca, .int .i64 bu][o]? := by
    intro o; go_simp
  have z5 : ∀ o, (((((w.alloc (Obj.cells #[Value.int IntKind.i64 ro, Value.int IntKind.i64 co, Value.string cs, ca, Value.int IntKind.i64 bu] 24)).alloc (Obj.cells #[Value.map none, Value.map none] 134)).alloc (Obj.map #[] 0)).alloc (Obj.map #[] 0)).alloc (Obj.cells #[Value.map (some (w.heap.size + 1 + 1)), Value.map (some (w.heap.size + 1 + 1 + 1))] 134)).cell? ⟨w.heap.size + 1, o, none⟩ = #[Value.map none, Value.map none][o]? := by
    intro o; go_simp
  have zf5 : ∀ o, (((((w.alloc (Obj.cells #[Value.int IntKind.i64 ro, Value.int IntKind.i64 co, Value.string cs, ca, Value.int IntKind.i64 bu] 24)).alloc (Obj.cells #[Value.map none, Value.map none] 134)).alloc (Obj.map #[] 0)).alloc (Obj.map #[] 0)).alloc (Obj.cells #[Value.map (some (w.heap.size + 1 + 1)), Value.map (some (w.heap.size + 1 + 1 + 1))] 134)).frozen? ⟨w.heap.size + 1, o, none⟩ = false := by
    intro o; go_simp
  have b5 : ∀ o, (((((w.alloc (Obj.cells #[Value.int IntKind.i64 ro, Value.int IntKind.i64 co, Value.string cs, ca, Value.int IntKind.i64 bu] 24)).alloc (Obj.cells #[Value.map none, Value.map none] 134)).alloc (Obj.map #[] 0)).alloc (Obj.map #[] 0)).alloc (Obj.cells #[Value.map (some (w.heap.size + 1 + 1)), Value.map (some (w.heap.size + 1 + 1 + 1))] 134)).cell? ⟨w.heap.size + 1 + 1 + 1 + 1, o, none⟩ = #[Value.map (some (w.heap.size + 1 + 1)), Value.map (some (w.heap.size + 1 + 1 + 1))][o]? := by
    intro o; go_simp
  have hz5 : (((((w.alloc (Obj.cells #[Value.int IntKind.i64 ro, Value.int IntKind.i64 co, Value.string cs, ca, Value.int IntKind.i64 bu] 24)).alloc (Obj.cells #[Value.map none, Value.map none] 134)).alloc (Obj.map #[] 0)).alloc (Obj.map #[] 0)).alloc (Obj.cells #[Value.map (some (w.heap.size + 1 + 1)), Value.map (some (w.heap.size + 1 + 1 + 1))] 134)).heap.size = w.heap.size + 5 := by simp
  generalize ((((w.alloc (Obj.cells #[Value.int IntKind.i64 ro, Value.int IntKind.i64 co, Value.string cs, ca, Value.int IntKind.i64 bu] 24)).alloc (Obj.cells #[Value.map none, Value.map none] 134)).alloc (Obj.map #[] 0)).alloc (Obj.map #[] 0)).alloc (Obj.cells #[Value.map (some (w.heap.size + 1 + 1)), Value.map (some (w.heap.size + 1 + 1 + 1))] 134) = w5 at *
  have Y5 := Hid.mk y5
  have Z5 := Hid.mk z5
  have ZF5 := Hid.mk zf5
  have B5 := Hid.mk b5
  clear y5 z5 zf5 b5 hmm
  go_loopw [13] (fun s wr => ∃ (k ns nt : Nat) (f : Int → Int → Bool) (g : Int → Int → Int → Bool), k ≤ n ∧ s = .int .i64 k ∧ ns ≤ k * 40 ∧ nt ≤ k ∧ SpotSet wr (w.heap.size + 1 + 1) ns f ∧ StepSet wr (w.heap.size + 1 + 1 + 1) nt g ∧
    (∀ c : Int, 0 ≤ c → c < cs.size → ∀ t, f c t = !onM k R c t) ∧ (∀ a c t, g a c t = noWayM k R a c t) ∧ Only (fun i => i = w.heap.size + 1 + 1 ∨ i = w.heap.size + 1 + 1 + 1) w5 wr) (fun s _ => n - (intOf s).toNat)
  case atStart => exact ⟨0, 0, 0, _, _, Nat.zero_le _, rfl, Nat.zero_le _, Nat.zero_le _, HS5.out, HT5.out, fun _ _ _ _ => rfl, fun _ _ _ => rfl, Only.refl _ _⟩
  case round =>
    obtain ⟨k, ns, nt, f, g, hk, rfl, hns, hnt, hset, hste, hf0, hg0, honly⟩ := hrel
    have HS := Hid.mk hset
    have HT := Hid.mk hste
    have HF := Hid.mk hf0
    have HG := Hid.mk hg0
    have HO := Hid.mk honly
    have hz := honly.size
    have HW : Hid (Below w.heap.size w wr) := below_only HB5.out honly (by omega) (fun i hi => by rcases hi with e | e <;> omega)
    have yr : ∀ o, wr.cell? ⟨w.heap.size, o, none⟩ = #[Value.int .i64 ro, .int .i64 co, .string cs, ca, .int .i64 bu][o]? := fun o => (honly.cell (p := ⟨w.heap.size, o, none⟩) (by show w.heap.size < _; omega) (by show ¬ (w.heap.size = _ ∨ w.heap.size = _); omega)).trans (Y5.out o)
    have br : ∀ o, wr.cell? ⟨w.heap.size + 1 + 1 + 1 + 1, o, none⟩ = #[Value.map (some (w.heap.size + 1 + 1)), Value.map (some (w.heap.size + 1 + 1 + 1))][o]? := fun o => (honly.cell (p := ⟨w.heap.size + 1 + 1 + 1 + 1, o, none⟩) (by show w.heap.size + 1 + 1 + 1 + 1 < _; omega) (by show ¬ (w.heap.size + 1 + 1 + 1 + 1 = _ ∨ w.heap.size + 1 + 1 + 1 + 1 = _); omega)).trans (B5.out o)
    have hzw : w.heap.size < wr.heap.size := by omega
    have hzb : w.heap.size + 1 + 1 + 1 + 1 < wr.heap.size := by omega
    clear hset hste hf0 hg0 honly
    by_cases hlt : k < n
    · obtain ⟨b, off, rfl, hrs⟩ := HA.out (by omega)
      obtain ⟨c0, c1, c2, c3⟩ := hrs k hlt
      have c0 := cell_later HW.out c0
      have c1 := cell_later HW.out c1
      have c2 := cell_later HW.out c2
      have c3 := cell_later HW.out c3
      have hrk := rulesB_at HR.out hlt
      have hwk := HWF.out k hlt
      clear hrs
      obtain ⟨r, hr⟩ : ∃ r, r = R k := ⟨_, rfl⟩
      rw [← hr] at c0 c1 c2 c3 hrk hwk
      obtain ⟨kd, ce, ne, ta⟩ := r
      have Hr := Hid.mk hr
      clear hr
      dsimp only at c0 c1 c2 c3 hrk hwk
      have WN := Hid.mk hwk
      have wt : Hid (i64B ta) := i64B_small (by omega) (by omega)
      have wc : Hid (i64B ce) := i64B_small (by omega) (by omega)
      have HSx : Hid (SpotSet (wr.alloc (Obj.cells #[.int .i64 kd, .int .i64 ce, .int .i64 ne, .int .i64 ta] 91)) (w.heap.size + 1 + 1) ns f) := HS.out.block (Below.heap_alloc _ _ _ (by omega))
      have HTx : Hid (StepSet (wr.alloc (Obj.cells #[.int .i64 kd, .int .i64 ce, .int .i64 ne, .int .i64 ta] 91)) (w.heap.size + 1 + 1 + 1) nt g) := HT.out.block (Below.heap_alloc _ _ _ (by omega))
      have HOx : Hid (Only (fun i => i = w.heap.size + 1 + 1 ∨ i = w.heap.size + 1 + 1 + 1) w5 (wr.alloc (Obj.cells #[.int .i64 kd, .int .i64 ce, .int .i64 ne, .int .i64 ta] 91))) := HO.out.alloc _
      clear hwk
      by_cases k0 : (kd == 0) = true
      · have K0 := Hid.mk k0
        go_wp2_with fail
        refine (banSpot_any _ (w.heap.size + 1 + 1 + 1) ns f ce ta _ HSx.out (by omega) wc.out wt.out).mono ?_
        rintro e w7 ⟨rfl, hs7, ho7⟩
        have HS7 := Hid.mk hs7
        have HT7 : Hid (StepSet w7 (w.heap.size + 1 + 1 + 1) nt g) := HTx.out.block (ho7.block _ HTx.out.lt (by omega))
        have HO7 : Hid (Only (fun i => i = w.heap.size + 1 + 1 ∨ i = w.heap.size + 1 + 1 + 1) w5 w7) := HOx.out.trans ho7 (fun _ _ e => Or.inl e)
        clear hs7 ho7 yr br c0 c1 c2 c3
        go_wp2
        go_roundw
        case rel => exact ⟨k + 1, ns + 1, nt, _, g, by omega, by go_num, by omega, by omega, HS7.out, HT7.out, fun c h0 h1 t => bans_keep Hr.out K0.out (HF.out c h0 h1 t), fun a c t => ways_same Hr.out (by have := K0.out; simp at this ⊢; omega) (HG.out a c t), HO7.out⟩
        case measure => simp [intOf]; omega
      · have k0' : (kd == 0) = false := by simpa using k0
        clear k0
        by_cases k1 : (kd == 1) = true
        · have K1 := Hid.mk k1
          go_wp2_with fail
          refine (banStep_any (w.heap.size + 1 + 1) _ nt g ce ne ta _ HTx.out (by omega) wc.out WN.out wt.out).mono ?_
          rintro e w7 ⟨rfl, hs7, ho7⟩
          have HT7 := Hid.mk hs7
          have HS7 : Hid (SpotSet w7 (w.heap.size + 1 + 1) ns f) := HSx.out.block (ho7.block _ HSx.out.lt (by omega))
          have HO7 : Hid (Only (fun i => i = w.heap.size + 1 + 1 ∨ i = w.heap.size + 1 + 1 + 1) w5 w7) := HOx.out.trans ho7 (fun _ _ e => Or.inr e)
          clear hs7 ho7 yr br c0 c1 c2 c3
          go_wp2
          go_roundw
          case rel => exact ⟨k + 1, ns, nt + 1, f, _, by omega, by go_num, by omega, by omega, HS7.out, HT7.out, fun c h0 h1 t => bans_same Hr.out K1.out (HF.out c h0 h1 t), fun a c t => ways_put Hr.out K1.out (HG.out a c t), HO7.out⟩
          case measure => simp [intOf]; omega
        · have k1' : (kd == 1) = false := by simpa using k1
          clear k1
          have k2 : (kd == 2) = true := by simp at k0' k1' ⊢; omega
          have K1 := Hid.mk k1'
          have K2 := Hid.mk k2
          go_wp2_with fail
          refine (banOthers_any _ (w.heap.size + 1 + 1 + 1) ns cs.size f ce ta _ HSx.out hs (by omega) wt.out).mono ?_
          rintro e w7 ⟨rfl, hs7, ho7⟩
          have HS7 := Hid.mk hs7
          have HT7 : Hid (StepSet w7 (w.heap.size + 1 + 1 + 1) nt g) := HTx.out.block (ho7.block _ HTx.out.lt (by omega))
          have HO7 : Hid (Only (fun i => i = w.heap.size + 1 + 1 ∨ i = w.heap.size + 1 + 1 + 1) w5 w7) := HOx.out.trans ho7 (fun _ _ e => Or.inl e)
          clear hs7 ho7 yr br c0 c1 c2 c3
          go_wp2
          go_roundw
          case rel => exact ⟨k + 1, ns + cs.size, nt, _, g, by omega, by go_num, by omega, by omega, HS7.out, HT7.out, fun c h0 h1 t => bans_there Hr.out K2.out h0 h1 (HF.out c h0 h1 t), fun a c t => ways_same Hr.out K1.out (HG.out a c t), HO7.out⟩
          case measure => simp [intOf]; omega
    · have hd : k = n := by omega
      have zr : ∀ o, wr.cell? ⟨w.heap.size + 1, o, none⟩ = #[Value.map none, Value.map none][o]? := fun o => (HO.out.cell (p := ⟨w.heap.size + 1, o, none⟩) (by show w.heap.size + 1 < _; omega) (by show ¬ (w.heap.size + 1 = _ ∨ w.heap.size + 1 = _); omega)).trans (Z5.out o)
      have zfr : ∀ o, wr.frozen? ⟨w.heap.size + 1, o, none⟩ = false := fun o => (HO.out.frozen (p := ⟨w.heap.size + 1, o, none⟩) (by show w.heap.size + 1 < _; omega) (by show ¬ (w.heap.size + 1 = _ ∨ w.heap.size + 1 = _); omega)).trans (ZF5.out o)
      go_wp2
      subst hd
      refine bodyPost_ret (v := .agg #[.map (some (w.heap.size + 1 + 1)), .map (some (w.heap.size + 1 + 1 + 1))]) (by simp [results, Tryd.results128]; go_simp) rfl ⟨w.heap.size + 1 + 1, w.heap.size + 1 + 1 + 1, rfl, by omega, by omega, by omega, ?_, ?_⟩
      · refine ⟨ns, nt, f, g, hns, hnt, HS.out.block ?_, HT.out.block ?_, HF.out, HG.out⟩
        · iterate 2 rw [Below.heap_setCell _ _ _ _ (by show w.heap.size + 1 + 1 ≠ w.heap.size + 1; omega)]
        · iterate 2 rw [Below.heap_setCell _ _ _ _ (by show w.heap.size + 1 + 1 + 1 ≠ w.heap.size + 1; omega)]
      · iterate 2 refine Below.setCell ?_ (by show w.heap.size ≤ w.heap.size + 1; omega) _
        exact HW.out

set_option maxRecDepth 100000 in
set_option maxHeartbeats 4000000 in
theorem newTrip_two (ro co bu f c : Int) (cs : ByteArray) (ac : Option Addr) (mc cc : Nat) (a : Option Addr) (n cap : Nat) (R : Nat → RuleM) (w : World) (hs : cs.size ≤ 36) (hr : rulesB cs.size n R = true) (hwf : RulesWf n R) (ha : RulesAt w a n R) :
    Calls Tryd.prog 100 #[.agg #[.int .i64 ro, .int .i64 co, .string cs, .slice ac mc cc, .int .i64 bu], .agg #[.int .i64 f, .int .i64 c], .slice a n cap] w fun e w' =>
      ∃ bs bt, e = .returned (tripV ro co bu cs ac mc cc f c bs bt (settledM c R n)) ∧ w.heap.size ≤ bs ∧ w.heap.size ≤ bt ∧ bs ≠ bt ∧ BansIn w' bs bt cs.size n R ∧ Below w.heap.size w w' := by
  have HA := Hid.mk ha
  have HR := Hid.mk hr
  have HWF := Hid.mk hwf
  clear ha hr hwf
  go_enter Tryd.func100, Tryd.ntmps100
  go_upto_region 1 with fail
  have HB3 : Hid (Below w.heap.size w ((((w.alloc (Obj.cells #[Value.int IntKind.i64 ro, Value.int IntKind.i64 co, Value.string cs, .slice ac mc cc, Value.int IntKind.i64 bu] 24)).alloc (Obj.cells #[Value.int IntKind.i64 f, Value.int IntKind.i64 c] 77)).alloc (Obj.cells #[Value.int IntKind.i64 0, Value.int IntKind.i64 0, Value.string { data := #[] }, Value.slice none 0 0, Value.int IntKind.i64 0, Value.int IntKind.i64 0, Value.int IntKind.i64 0, Value.map none, Value.map none, Value.int IntKind.i64 0] 136)))) := (((Below.refl _ w).alloc (Nat.le_refl _) _).alloc (by simp) _).alloc (by simp; omega) _
  have k0 : ((((w.alloc (Obj.cells #[Value.int IntKind.i64 ro, Value.int IntKind.i64 co, Value.string cs, .slice ac mc cc, Value.int IntKind.i64 bu] 24)).alloc (Obj.cells #[Value.int IntKind.i64 f, Value.int IntKind.i64 c] 77)).alloc (Obj.cells #[Value.int IntKind.i64 0, Value.int IntKind.i64 0, Value.string { data := #[] }, Value.slice none 0 0, Value.int IntKind.i64 0, Value.int IntKind.i64 0, Value.int IntKind.i64 0, Value.map none, Value.map none, Value.int IntKind.i64 0] 136))).cell? ⟨w.heap.size, 0, none⟩ = some (.int .i64 ro) := by go_simp
  have k1 : ((((w.alloc (Obj.cells #[Value.int IntKind.i64 ro, Value.int IntKind.i64 co, Value.string cs, .slice ac mc cc, Value.int IntKind.i64 bu] 24)).alloc (Obj.cells #[Value.int IntKind.i64 f, Value.int IntKind.i64 c] 77)).alloc (Obj.cells #[Value.int IntKind.i64 0, Value.int IntKind.i64 0, Value.string { data := #[] }, Value.slice none 0 0, Value.int IntKind.i64 0, Value.int IntKind.i64 0, Value.int IntKind.i64 0, Value.map none, Value.map none, Value.int IntKind.i64 0] 136))).cell? ⟨w.heap.size, 1, none⟩ = some (.int .i64 co) := by go_simp
  have k2 : ((((w.alloc (Obj.cells #[Value.int IntKind.i64 ro, Value.int IntKind.i64 co, Value.string cs, .slice ac mc cc, Value.int IntKind.i64 bu] 24)).alloc (Obj.cells #[Value.int IntKind.i64 f, Value.int IntKind.i64 c] 77)).alloc (Obj.cells #[Value.int IntKind.i64 0, Value.int IntKind.i64 0, Value.string { data := #[] }, Value.slice none 0 0, Value.int IntKind.i64 0, Value.int IntKind.i64 0, Value.int IntKind.i64 0, Value.map none, Value.map none, Value.int IntKind.i64 0] 136))).cell? ⟨w.heap.size, 2, none⟩ = some (.string cs) := by go_simp
  have k3 : ((((w.alloc (Obj.cells #[Value.int IntKind.i64 ro, Value.int IntKind.i64 co, Value.string cs, .slice ac mc cc, Value.int IntKind.i64 bu] 24)).alloc (Obj.cells #[Value.int IntKind.i64 f, Value.int IntKind.i64 c] 77)).alloc (Obj.cells #[Value.int IntKind.i64 0, Value.int IntKind.i64 0, Value.string { data := #[] }, Value.slice none 0 0, Value.int IntKind.i64 0, Value.int IntKind.i64 0, Value.int IntKind.i64 0, Value.map none, Value.map none, Value.int IntKind.i64 0] 136))).cell? ⟨w.heap.size, 3, none⟩ = some (.slice ac mc cc) := by go_simp
  have k4 : ((((w.alloc (Obj.cells #[Value.int IntKind.i64 ro, Value.int IntKind.i64 co, Value.string cs, .slice ac mc cc, Value.int IntKind.i64 bu] 24)).alloc (Obj.cells #[Value.int IntKind.i64 f, Value.int IntKind.i64 c] 77)).alloc (Obj.cells #[Value.int IntKind.i64 0, Value.int IntKind.i64 0, Value.string { data := #[] }, Value.slice none 0 0, Value.int IntKind.i64 0, Value.int IntKind.i64 0, Value.int IntKind.i64 0, Value.map none, Value.map none, Value.int IntKind.i64 0] 136))).cell? ⟨w.heap.size, 4, none⟩ = some (.int .i64 bu) := by go_simp
  have k5 : ((((w.alloc (Obj.cells #[Value.int IntKind.i64 ro, Value.int IntKind.i64 co, Value.string cs, .slice ac mc cc, Value.int IntKind.i64 bu] 24)).alloc (Obj.cells #[Value.int IntKind.i64 f, Value.int IntKind.i64 c] 77)).alloc (Obj.cells #[Value.int IntKind.i64 0, Value.int IntKind.i64 0, Value.string { data := #[] }, Value.slice none 0 0, Value.int IntKind.i64 0, Value.int IntKind.i64 0, Value.int IntKind.i64 0, Value.map none, Value.map none, Value.int IntKind.i64 0] 136))).cell? ⟨w.heap.size + 1, 0, none⟩ = some (.int .i64 f) := by go_simp
  have k6 : ((((w.alloc (Obj.cells #[Value.int IntKind.i64 ro, Value.int IntKind.i64 co, Value.string cs, .slice ac mc cc, Value.int IntKind.i64 bu] 24)).alloc (Obj.cells #[Value.int IntKind.i64 f, Value.int IntKind.i64 c] 77)).alloc (Obj.cells #[Value.int IntKind.i64 0, Value.int IntKind.i64 0, Value.string { data := #[] }, Value.slice none 0 0, Value.int IntKind.i64 0, Value.int IntKind.i64 0, Value.int IntKind.i64 0, Value.map none, Value.map none, Value.int IntKind.i64 0] 136))).cell? ⟨w.heap.size + 1, 1, none⟩ = some (.int .i64 c) := by go_simp
  have r3 : ∀ o, ((((w.alloc (Obj.cells #[Value.int IntKind.i64 ro, Value.int IntKind.i64 co, Value.string cs, .slice ac mc cc, Value.int IntKind.i64 bu] 24)).alloc (Obj.cells #[Value.int IntKind.i64 f, Value.int IntKind.i64 c] 77)).alloc (Obj.cells #[Value.int IntKind.i64 0, Value.int IntKind.i64 0, Value.string { data := #[] }, Value.slice none 0 0, Value.int IntKind.i64 0, Value.int IntKind.i64 0, Value.int IntKind.i64 0, Value.map none, Value.map none, Value.int IntKind.i64 0] 136))).cell? ⟨w.heap.size + 1 + 1, o, none⟩ = #[Value.int IntKind.i64 0, Value.int IntKind.i64 0, Value.string { data := #[] }, Value.slice none 0 0, Value.int IntKind.i64 0, Value.int IntKind.i64 0, Value.int IntKind.i64 0, Value.map none, Value.map none, Value.int IntKind.i64 0][o]? := by
    intro o; go_simp
  have rf3 : ∀ o, ((((w.alloc (Obj.cells #[Value.int IntKind.i64 ro, Value.int IntKind.i64 co, Value.string cs, .slice ac mc cc, Value.int IntKind.i64 bu] 24)).alloc (Obj.cells #[Value.int IntKind.i64 f, Value.int IntKind.i64 c] 77)).alloc (Obj.cells #[Value.int IntKind.i64 0, Value.int IntKind.i64 0, Value.string { data := #[] }, Value.slice none 0 0, Value.int IntKind.i64 0, Value.int IntKind.i64 0, Value.int IntKind.i64 0, Value.map none, Value.map none, Value.int IntKind.i64 0] 136))).frozen? ⟨w.heap.size + 1 + 1, o, none⟩ = false := by
    intro o; go_simp
  have hz3 : ((((w.alloc (Obj.cells #[Value.int IntKind.i64 ro, Value.int IntKind.i64 co, Value.string cs, .slice ac mc cc, Value.int IntKind.i64 bu] 24)).alloc (Obj.cells #[Value.int IntKind.i64 f, Value.int IntKind.i64 c] 77)).alloc (Obj.cells #[Value.int IntKind.i64 0, Value.int IntKind.i64 0, Value.string { data := #[] }, Value.slice none 0 0, Value.int IntKind.i64 0, Value.int IntKind.i64 0, Value.int IntKind.i64 0, Value.map none, Value.map none, Value.int IntKind.i64 0] 136))).heap.size = w.heap.size + 3 := by simp
  generalize (((w.alloc (Obj.cells #[Value.int IntKind.i64 ro, Value.int IntKind.i64 co, Value.string cs, .slice ac mc cc, Value.int IntKind.i64 bu] 24)).alloc (Obj.cells #[Value.int IntKind.i64 f, Value.int IntKind.i64 c] 77)).alloc (Obj.cells #[Value.int IntKind.i64 0, Value.int IntKind.i64 0, Value.string { data := #[] }, Value.slice none 0 0, Value.int IntKind.i64 0, Value.int IntKind.i64 0, Value.int IntKind.i64 0, Value.map none, Value.map none, Value.int IntKind.i64 0] 136)) = w3 at *
  have R3 := Hid.mk r3
  have RF3 := Hid.mk rf3
  clear r3 rf3
  have e0 : w.heap.size < w3.heap.size := by omega
  have e1 : w.heap.size + 1 < w3.heap.size := by omega
  have e2 : w.heap.size + 1 + 1 < w3.heap.size := by omega
  have n0 : w.heap.size + 1 + 1 ≠ w.heap.size := by omega
  have n1 : w.heap.size ≠ w.heap.size + 1 + 1 := by omega
  go_region_held3 (fun w' => w'.cell? ⟨w.heap.size, 0, none⟩ = some (.int .i64 ro) ∧ w'.cell? ⟨w.heap.size, 1, none⟩ = some (.int .i64 co) ∧ w'.cell? ⟨w.heap.size, 2, none⟩ = some (.string cs) ∧ w'.cell? ⟨w.heap.size, 3, none⟩ = some (.slice ac mc cc) ∧ w'.cell? ⟨w.heap.size, 4, none⟩ = some (.int .i64 bu) ∧ w'.cell? ⟨w.heap.size + 1, 0, none⟩ = some (.int .i64 f) ∧ w'.cell? ⟨w.heap.size + 1, 1, none⟩ = some (.int .i64 c)) (go_keep)
    (first
      | (go_at_call_of 128 (Value.int IntKind.i64 ro); refine (bansOf_two _ _ _ _ _ _ _ _ R _ hs HR.out HWF.out (HA.out.below (by exact HB3.out.drew))).mono ?_; rintro e w4 ⟨bs, bt, rfl, hbs, hbt, hneq, hban, hb4⟩; have q40 : w4.cell? ⟨w.heap.size, 0, none⟩ = some (.int .i64 ro) := (hb4.cell (p := ⟨w.heap.size, 0, none⟩) e0).trans k0; have q41 : w4.cell? ⟨w.heap.size, 1, none⟩ = some (.int .i64 co) := (hb4.cell (p := ⟨w.heap.size, 1, none⟩) e0).trans k1; have q42 : w4.cell? ⟨w.heap.size, 2, none⟩ = some (.string cs) := (hb4.cell (p := ⟨w.heap.size, 2, none⟩) e0).trans k2; have q43 : w4.cell? ⟨w.heap.size, 3, none⟩ = some (.slice ac mc cc) := (hb4.cell (p := ⟨w.heap.size, 3, none⟩) e0).trans k3; have q44 : w4.cell? ⟨w.heap.size, 4, none⟩ = some (.int .i64 bu) := (hb4.cell (p := ⟨w.heap.size, 4, none⟩) e0).trans k4; have q45 : w4.cell? ⟨w.heap.size + 1, 0, none⟩ = some (.int .i64 f) := (hb4.cell (p := ⟨w.heap.size + 1, 0, none⟩) e1).trans k5; have q46 : w4.cell? ⟨w.heap.size + 1, 1, none⟩ = some (.int .i64 c) := (hb4.cell (p := ⟨w.heap.size + 1, 1, none⟩) e1).trans k6; have r4 : ∀ o, w4.cell? ⟨w.heap.size + 1 + 1, o, none⟩ = #[Value.int IntKind.i64 0, Value.int IntKind.i64 0, Value.string { data := #[] }, Value.slice none 0 0, Value.int IntKind.i64 0, Value.int IntKind.i64 0, Value.int IntKind.i64 0, Value.map none, Value.map none, Value.int IntKind.i64 0][o]? := fun o => (hb4.cell (p := ⟨w.heap.size + 1 + 1, o, none⟩) e2).trans (R3.out o); have rf4 : ∀ o, w4.frozen? ⟨w.heap.size + 1 + 1, o, none⟩ = false := fun o => (hb4.frozen (p := ⟨w.heap.size + 1 + 1, o, none⟩) e2).trans (RF3.out o); have g0 : w.heap.size < w4.heap.size := Nat.lt_of_lt_of_le e0 hb4.size; have g1 : w.heap.size + 1 < w4.heap.size := Nat.lt_of_lt_of_le e1 hb4.size; have g2 : w.heap.size + 1 + 1 < w4.heap.size := Nat.lt_of_lt_of_le e2 hb4.size)
      | (go_at_call_of 129 (Value.int IntKind.i64 c); refine (settled_any c _ _ _ cs.size R _ HR.out (HA.out.below (by exact HB3.out.drew.trans (hb4.mono (Nat.le_of_lt e0))))).mono ?_; rintro e w5 ⟨rfl, hb5⟩; have q50 : w5.cell? ⟨w.heap.size, 0, none⟩ = some (.int .i64 ro) := (hb5.cell (p := ⟨w.heap.size, 0, none⟩) g0).trans q40; have q51 : w5.cell? ⟨w.heap.size, 1, none⟩ = some (.int .i64 co) := (hb5.cell (p := ⟨w.heap.size, 1, none⟩) g0).trans q41; have q52 : w5.cell? ⟨w.heap.size, 2, none⟩ = some (.string cs) := (hb5.cell (p := ⟨w.heap.size, 2, none⟩) g0).trans q42; have q53 : w5.cell? ⟨w.heap.size, 3, none⟩ = some (.slice ac mc cc) := (hb5.cell (p := ⟨w.heap.size, 3, none⟩) g0).trans q43; have q54 : w5.cell? ⟨w.heap.size, 4, none⟩ = some (.int .i64 bu) := (hb5.cell (p := ⟨w.heap.size, 4, none⟩) g0).trans q44; have q55 : w5.cell? ⟨w.heap.size + 1, 0, none⟩ = some (.int .i64 f) := (hb5.cell (p := ⟨w.heap.size + 1, 0, none⟩) g1).trans q45; have q56 : w5.cell? ⟨w.heap.size + 1, 1, none⟩ = some (.int .i64 c) := (hb5.cell (p := ⟨w.heap.size + 1, 1, none⟩) g1).trans q46; have r5 : ∀ o, w5.cell? ⟨w.heap.size + 1 + 1, o, none⟩ = #[Value.int IntKind.i64 0, Value.int IntKind.i64 0, Value.string { data := #[] }, Value.slice none 0 0, Value.int IntKind.i64 0, Value.int IntKind.i64 0, Value.int IntKind.i64 0, Value.map none, Value.map none, Value.int IntKind.i64 0][o]? := fun o => (hb5.cell (p := ⟨w.heap.size + 1 + 1, o, none⟩) g2).trans (r4 o); have rf5 : ∀ o, w5.frozen? ⟨w.heap.size + 1 + 1, o, none⟩ = false := fun o => (hb5.frozen (p := ⟨w.heap.size + 1 + 1, o, none⟩) g2).trans (rf4 o)))
  have hneq2 := Hid.mk hneq
  have HBAN : Hid (BansIn w5 bs bt cs.size n R) := hban.below hb5
  have hn1 : Hid (bs ≠ w.heap.size + 1 + 1 ∧ bt ≠ w.heap.size + 1 + 1) := by
    have h1 : w3.heap.size ≤ bs := hbs
    have h2 : w3.heap.size ≤ bt := hbt
    exact ⟨by omega, by omega⟩
  have hle : Hid (w.heap.size ≤ bs ∧ w.heap.size ≤ bt) := by
    have h1 : w3.heap.size ≤ bs := hbs
    have h2 : w3.heap.size ≤ bt := hbt
    exact ⟨by omega, by omega⟩
  have HB5 : Hid (Below w.heap.size w w5) := (HB3.out.drew.trans (hb4.mono (Nat.le_of_lt e0))).trans (hb5.mono (Nat.le_of_lt g0))
  clear hban hb4 hb5 hbs hbt hneq
  go_wp2
  refine bodyPost_ret (v := tripV ro co bu cs ac mc cc f c bs bt (settledM c R n)) (by simp [results, Tryd.results100, tripV]; go_simp) rfl ⟨bs, bt, rfl, hle.out.1, hle.out.2, hneq2.out, ?_, ?_⟩
  · refine HBAN.out.block ?_ ?_
    · iterate 10 rw [Below.heap_setCell _ _ _ _ (by show bs ≠ w.heap.size + 1 + 1; exact hn1.out.1)]
    · iterate 10 rw [Below.heap_setCell _ _ _ _ (by show bt ≠ w.heap.size + 1 + 1; exact hn1.out.2)]
  · iterate 10 refine Below.setCell ?_ (by show w.heap.size ≤ w.heap.size + 1 + 1; omega) _
    exact HB5.out

end Go.Proofs.YtgdkchdcbfgijaaDoor

/- Walk of the program's Layers: where one cart is in all its paths of one cost. -/
namespace Go.Proofs.YtgdkchdcbfgijaaDoor
open Go.RowKit Go.Maps M

/-- The rules, and one more: the cart does not wait at its To at the last instant. -/
def extR (n : Nat) (R : Nat → RuleM) (tt T : Nat) : Nat → RuleM := fun i => if i = n then ⟨1, tt, tt, (T : Int) - 1⟩ else R i

theorem anyB_congr {p q : Nat → Bool} : ∀ {n : Nat}, (∀ i, i < n → p i = q i) → anyB p n = anyB q n
  | 0, _ => rfl
  | n + 1, h => by
    show (anyB p n || p n) = (anyB q n || q n)
    rw [anyB_congr (fun i hi => h i (by omega)), h n (by omega)]

theorem ext_on {n : Nat} {R : Nat → RuleM} {tt T : Nat} {c t : Int} : onM (n + 1) (extR n R tt T) c t = onM n R c t := by
  unfold onM
  congr 1
  show (anyB _ n || brkOn (extR n R tt T n) c t) = _
  rw [anyB_congr (q := fun i => brkOn (R i) c t) (fun i hi => by unfold extR; rw [if_neg (by omega)])]
  unfold extR
  rw [if_pos rfl]
  simp [brkOn]

theorem ext_ways {n : Nat} {R : Nat → RuleM} {tt T : Nat} {a b t : Int} : noWayM (n + 1) (extR n R tt T) a b t = (noWayM n R a b t || (a == tt && b == tt && t == (T : Int) - 1)) := by
  have h := ways_put (k := n) (R := extR n R tt T) (g := fun a c t => noWayM n (extR n R tt T) a c t) (a := a) (c := b) (t := t) (kd := 1) (ce := tt) (ne := tt) (ta := (T : Int) - 1) (by unfold extR; rw [if_pos rfl]) rfl rfl
  rw [← h]
  congr 1
  unfold noWayM
  exact anyB_congr (fun i hi => by unfold extR; rw [if_neg (by omega)])

theorem bans_more {w w' : World} {bs bt N n tt T ns nt : Nat} {R : Nat → RuleM} {F : Int → Int → Bool} {G : Int → Int → Int → Bool} (hns : ns ≤ n * 40) (hnt : nt ≤ n) (hset : SpotSet w bs ns F) (hF : ∀ c : Int, 0 ≤ c → c < N → ∀ t, F c t = !onM n R c t) (hG : ∀ a c t, G a c t = noWayM n R a c t) (hne : bs ≠ bt)
    (hst : StepSet w' bt (nt + 1) (fun a' c' t' => G a' c' t' || (a' == (tt : Int) && c' == (tt : Int) && t' == (T : Int) - 1))) (ho : Only (fun k => k = bt) w w') : BansIn w' bs bt N (n + 1) (extR n R tt T) :=
  ⟨ns, nt + 1, F, _, by omega, by omega, hset.block (ho.block bs hset.lt hne), hst, fun c h0 h1 t => by rw [hF c h0 h1, ext_on], fun a c t => by rw [ext_ways, hG]⟩

theorem wpList_len_cells {w : World} {ops : Array Oper} {rest : List Oper} {o : Oper} {a : Act} {Q : Exit → Act → World → Prop} (hg : o.guard = none) (mo : Operand) (hop : o.op = Op.call { callee := Callee.builtin Builtin.len, args := #[mo], argTypes := #[146] }) (b : Nat) (f : Nat → Bool) (hmo : a.eval mo = .map (some b)) (hown : CellSet w b f)
    (hK : wpList Tryd.prog ops Q rest (a.put o.dst (.int .i64 ((cellsL f).length : Nat))) w) : wpList Tryd.prog ops Q (o :: rest) a w := by
  obtain ⟨D, hD, hk, hf⟩ := hown
  refine wpList_len_own (H := Unit) (w := w) hg mo 146 hop 3 151 Tryd.underlying146 _ b _ D hmo hD ?_
  have h := (keys_perm hD hk hf).length_eq
  obtain ⟨es, rfl, _, _⟩ := hD.entries Tryd.lawInt
  have e : Maps.size (.map es) = (cellsL f).length := by
    rw [Maps.size_eq]
    have h2 : (es.map fun p => Go.intOf p.1).length = (qi (cellsL f)).length := h
    simpa [qi] using h2
  rw [e]; exact hK

/-- Where the cart is at an instant in all its paths of a cost. -/
def layM (co : Int) (cs : ByteArray) (n : Nat) (R : Nat → RuleM) (f tt T t : Nat) : Nat → Bool :=
  keepJ cs.size T tt (fun t => reachM co cs (n + 1) (extR n R tt T) f t) (fun a b t => goesM co cs (n + 1) (extR n R tt T) a b t) (T - t)

/-- What Layers tells: the lists of cells; nothing, if there is no such path. -/
def layO (co : Int) (cs : ByteArray) (n : Nat) (R : Nat → RuleM) (f tt T : Nat) : Option (List (List Nat)) :=
  if settledM tt R n ≤ (T : Int) ∧ (cellsL (layM co cs n R f tt T 0)).length ≠ 0 then some ((List.range (T + 1)).map fun t => cellsL (layM co cs n R f tt T t)) else none

/-- A list of lists of the call's own, each in a block of its own. -/
def ListsOwn (w : World) (base : Nat) (v : Value) (Ls : List (List Nat)) : Prop :=
  ∃ (g : Nat) (A : Nat → Value), v = .slice (some ⟨g, 0, none⟩) Ls.length Ls.length ∧ base ≤ g ∧ w.rowIs g 26 Ls.length A ∧ (∀ t, t < Ls.length → OwnN w base (A t) (Ls.getD t [])) ∧ (∀ t, t < Ls.length → (A t).ownBlock ≠ some g) ∧
    ∀ s t h, s < Ls.length → t < Ls.length → s ≠ t → (A s).ownBlock = some h → (A t).ownBlock ≠ some h

def LayTold (w w' : World) (v : Value) (x : Option (List (List Nat))) : Prop :=
  match x with
  | none => v = .slice none 0 0
  | some Ls => ListsOwn w' w.heap.size v Ls

theorem LaysIn.below_at {w w' : World} {gl n K : Nat} {B : Nat → Nat} {F : Nat → Nat → Bool} (h : LaysIn w gl n B F) (hb : Below K w w') (h1 : ∀ t, t < n → B t < K) (h2 : gl < K) : LaysIn w' gl n B F :=
  ⟨fun t ht => (cell_block (hb.block gl h2)).trans (h.cells t ht), fun t ht => (h.sets t ht).block (hb.block _ (h1 t ht)), h.inj, h.ne⟩

def extA (A : Nat → Value) (k : Nat) (v : Value) : Nat → Value := fun t => if t = k then v else A t
theorem extA_at {A : Nat → Value} {k : Nat} {v : Value} : extA A k v k = v := by unfold extA; rw [if_pos rfl]
theorem extA_ne {A : Nat → Value} {k t : Nat} {v : Value} (h : ¬ t = k) : extA A k v t = A t := by unfold extA; rw [if_neg h]

set_option maxRecDepth 100000 in
set_option maxHeartbeats 16000000 in
theorem layers_any (ro co bu : Int) (cs : ByteArray) (ac : Option Addr) (mc cc f tt T n cap : Nat) (a : Option Addr) (R : Nat → RuleM) (w : World) (hsd : SidesIn w) (r1 : 1 ≤ ro) (r2 : ro ≤ 6) (r3 : 1 ≤ co) (r4 : co ≤ 6) (hs : cs.size ≤ 36) (hsz : (cs.size : Int) = ro * co) (hr : rulesB cs.size n R = true) (hwf : RulesWf n R) (ha : RulesAt w a n R) (hf : freeB cs f = true) (hc : freeB cs tt = true) (hT : T ≤ 60) :
    Calls Tryd.prog 69 #[.agg #[Value.int IntKind.i64 ro, Value.int IntKind.i64 co, Value.string cs, Value.slice ac mc cc, Value.int IntKind.i64 bu], .agg #[.int .i64 (f : Nat), .int .i64 (tt : Nat)], .slice a n cap, .int .i64 (T : Nat)] w fun e w' =>
      ∃ v, e = .returned v ∧ LayTold w w' v (layO co cs n R f tt T) ∧ Below w.heap.size w w' := by
  have HSD := Hid.mk hsd
  have HA := Hid.mk ha
  have HR := Hid.mk hr
  have HWF := Hid.mk hwf
  have HF := Hid.mk hf
  have HC := Hid.mk hc
  have hfs : f < cs.size := free_lt hf
  have hts : tt < cs.size := free_lt hc
  have hb0 : 0 < w.heap.size := World.block_lt_of_cell? _ _ hsd.1
  obtain ⟨S, hS⟩ : ∃ S, S = settledM tt R n := ⟨_, rfl⟩
  have NT : Hid (∀ u : World, RulesAt u a n R → Calls Tryd.prog 100 #[.agg #[Value.int IntKind.i64 ro, Value.int IntKind.i64 co, Value.string cs, Value.slice ac mc cc, Value.int IntKind.i64 bu], .agg #[.int .i64 (f : Nat), .int .i64 (tt : Nat)], .slice a n cap] u fun e w' =>
      ∃ bs bt, e = .returned (.agg #[Value.int IntKind.i64 ro, Value.int IntKind.i64 co, Value.string cs, Value.slice ac mc cc, Value.int IntKind.i64 bu, Value.int IntKind.i64 (f : Nat), Value.int IntKind.i64 (tt : Nat), Value.map (some bs), Value.map (some bt), Value.int IntKind.i64 S]) ∧ u.heap.size ≤ bs ∧ u.heap.size ≤ bt ∧ bs ≠ bt ∧ BansIn w' bs bt cs.size n R ∧ Below u.heap.size u w') := fun u hu => by
    have h := newTrip_two ro co bu f tt cs ac mc cc a n cap R u hs hr hwf hu
    unfold tripV at h
    rw [← hS] at h
    exact h
  have HS := Hid.mk hS
  clear hsd ha hr hwf hf hc hS
  go_enter Tryd.func69, Tryd.ntmps69
  go_upto_region 1 with fail
  have B0 : Hid (Below w.heap.size w ((w.alloc (Obj.cells #[Value.int IntKind.i64 ro, Value.int IntKind.i64 co, Value.string cs, Value.slice ac mc cc, Value.int IntKind.i64 bu] 24)).alloc (Obj.cells #[Value.int IntKind.i64 (f : Nat), Value.int IntKind.i64 (tt : Nat)] 77))) := ((Below.refl _ w).alloc (Nat.le_refl _) _).alloc (by simp) _
  have x0 : ∀ o, ((w.alloc (Obj.cells #[Value.int IntKind.i64 ro, Value.int IntKind.i64 co, Value.string cs, Value.slice ac mc cc, Value.int IntKind.i64 bu] 24)).alloc (Obj.cells #[Value.int IntKind.i64 (f : Nat), Value.int IntKind.i64 (tt : Nat)] 77)).cell? ⟨w.heap.size, o, none⟩ = #[Value.int IntKind.i64 ro, Value.int IntKind.i64 co, Value.string cs, Value.slice ac mc cc, Value.int IntKind.i64 bu][o]? := by
    intro o; go_simp
  have x1 : ∀ o, ((w.alloc (Obj.cells #[Value.int IntKind.i64 ro, Value.int IntKind.i64 co, Value.string cs, Value.slice ac mc cc, Value.int IntKind.i64 bu] 24)).alloc (Obj.cells #[Value.int IntKind.i64 (f : Nat), Value.int IntKind.i64 (tt : Nat)] 77)).cell? ⟨w.heap.size + 1, o, none⟩ = #[Value.int IntKind.i64 (f : Nat), Value.int IntKind.i64 (tt : Nat)][o]? := by
    intro o; go_simp
  have hz : ((w.alloc (Obj.cells #[Value.int IntKind.i64 ro, Value.int IntKind.i64 co, Value.string cs, Value.slice ac mc cc, Value.int IntKind.i64 bu] 24)).alloc (Obj.cells #[Value.int IntKind.i64 (f : Nat), Value.int IntKind.i64 (tt : Nat)] 77)).heap.size = w.heap.size + 2 := by simp
  generalize ((w.alloc (Obj.cells #[Value.int IntKind.i64 ro, Value.int IntKind.i64 co, Value.string cs, Value.slice ac mc cc, Value.int IntKind.i64 bu] 24)).alloc (Obj.cells #[Value.int IntKind.i64 (f : Nat), Value.int IntKind.i64 (tt : Nat)] 77)) = w0 at *
  have hzl : w.heap.size + 2 ≤ w0.heap.size := by omega
  have X1 := Hid.mk x1
  have y0 := x0 0
  have y1 := x0 1
  have y2 := x0 2
  have y3 := x0 3
  have y4 := x0 4
  have c0 := x1 0
  have c1 := x1 1
  clear x0 x1 hz
  go_wp2_with fail
  refine (NT.out _ (HA.out.below B0.out)).mono ?_
  rintro e w2 ⟨bs, bt, rfl, hbs, hbt, hne, hban, hb2⟩
  have HB2 := Hid.mk hb2
  have hz2 := hb2.size
  have HBAN := Hid.mk hban
  have HNE := Hid.mk hne
  have c1' := cell_later hb2 c1
  clear y0 y1 y2 y3 y4 c0 c1 hb2 hban hne
  go_upto_region 2 with fail
  have BT3 : Hid (Below w2.heap.size w2 (w2.alloc (Obj.cells #[Value.int IntKind.i64 ro, Value.int IntKind.i64 co, Value.string cs, Value.slice ac mc cc, Value.int IntKind.i64 bu, Value.int IntKind.i64 (f : Nat), Value.int IntKind.i64 (tt : Nat), Value.map (some bs), Value.map (some bt), Value.int IntKind.i64 S] 136))) := (Below.refl _ _).alloc (Nat.le_refl _) _
  have x3 : ∀ o, (w2.alloc (Obj.cells #[Value.int IntKind.i64 ro, Value.int IntKind.i64 co, Value.string cs, Value.slice ac mc cc, Value.int IntKind.i64 bu, Value.int IntKind.i64 (f : Nat), Value.int IntKind.i64 (tt : Nat), Value.map (some bs), Value.map (some bt), Value.int IntKind.i64 S] 136)).cell? ⟨w2.heap.size, o, none⟩ = #[Value.int IntKind.i64 ro, Value.int IntKind.i64 co, Value.string cs, Value.slice ac mc cc, Value.int IntKind.i64 bu, Value.int IntKind.i64 (f : Nat), Value.int IntKind.i64 (tt : Nat), Value.map (some bs), Value.map (some bt), Value.int IntKind.i64 S][o]? := by
    intro o; go_simp
  have hz3 : (w2.alloc (Obj.cells #[Value.int IntKind.i64 ro, Value.int IntKind.i64 co, Value.string cs, Value.slice ac mc cc, Value.int IntKind.i64 bu, Value.int IntKind.i64 (f : Nat), Value.int IntKind.i64 (tt : Nat), Value.map (some bs), Value.map (some bt), Value.int IntKind.i64 S] 136)).heap.size = w2.heap.size + 1 := by simp
  generalize (w2.alloc (Obj.cells #[Value.int IntKind.i64 ro, Value.int IntKind.i64 co, Value.string cs, Value.slice ac mc cc, Value.int IntKind.i64 bu, Value.int IntKind.i64 (f : Nat), Value.int IntKind.i64 (tt : Nat), Value.map (some bs), Value.map (some bt), Value.int IntKind.i64 S] 136)) = w3 at *
  have hz3a : w2.heap.size + 1 ≤ w3.heap.size := by omega
  have X3 := Hid.mk x3
  have BW3 : Hid (Below w.heap.size w w3) := (B0.out.trans (HB2.out.mono (by omega))).trans (BT3.out.mono (by omega))
  have hbans3 := HBAN.out.below BT3.out
  have hblt := HBAN.out.lt
  have s9 := x3 9
  have c13 := cell_later BT3.out c1'
  clear x3 c1' hz3
  by_cases hST : (T : Int) < S
  · clear c13 hbans3
    go_wp2
    go_ret
    refine ⟨_, rfl, ?_, BW3.out⟩
    unfold layO
    rw [if_neg (fun h => by have := h.1; rw [← HS.out] at this; omega)]
    rfl
  · obtain ⟨ns, nt, F, G, hns, hnt, hset, hste, hF, hG⟩ := hbans3
    have HSET := Hid.mk hset
    have HST := Hid.mk hste
    have HFF := Hid.mk hF
    have HGG := Hid.mk hG
    have s7 := X3.out 7
    have s8 := X3.out 8
    have hwt : IntKind.i64.wrap ((T : Int) - 1) = (T : Int) - 1 := wrap_mid (by omega) (by omega)
    have hn40 := rulesB_len HR.out
    clear hset hste hF hG
    go_wp2_with fail
    refine (banStep_any bs bt nt G tt tt ((T : Int) - 1) w3 HST.out (by omega) (i64B_small (by omega) (by omega)) (i64B_small (by omega) (by omega)) (i64B_small (by omega) (by omega))).mono ?_
    rintro e w4 ⟨rfl, hst4, ho4⟩
    have BN4 : Hid (BansIn w4 bs bt cs.size (n + 1) (extR n R tt T)) := bans_more hns hnt HSET.out HFF.out HGG.out HNE.out hst4 ho4
    have hz4 := ho4.size
    have BW4 : Hid (Below w.heap.size w w4) := BW3.out.trans (ho4.below BW3.out.size (fun i e => by omega))
    have t0 := (ho4.cell (p := ⟨w2.heap.size, 0, none⟩) (by show w2.heap.size < _; omega) (by show ¬ (w2.heap.size = bt); omega)).trans (X3.out 0)
    have t1 := (ho4.cell (p := ⟨w2.heap.size, 1, none⟩) (by show w2.heap.size < _; omega) (by show ¬ (w2.heap.size = bt); omega)).trans (X3.out 1)
    have t2 := (ho4.cell (p := ⟨w2.heap.size, 2, none⟩) (by show w2.heap.size < _; omega) (by show ¬ (w2.heap.size = bt); omega)).trans (X3.out 2)
    have t3 := (ho4.cell (p := ⟨w2.heap.size, 3, none⟩) (by show w2.heap.size < _; omega) (by show ¬ (w2.heap.size = bt); omega)).trans (X3.out 3)
    have t4 := (ho4.cell (p := ⟨w2.heap.size, 4, none⟩) (by show w2.heap.size < _; omega) (by show ¬ (w2.heap.size = bt); omega)).trans (X3.out 4)
    have t5 := (ho4.cell (p := ⟨w2.heap.size, 5, none⟩) (by show w2.heap.size < _; omega) (by show ¬ (w2.heap.size = bt); omega)).trans (X3.out 5)
    have t6 := (ho4.cell (p := ⟨w2.heap.size, 6, none⟩) (by show w2.heap.size < _; omega) (by show ¬ (w2.heap.size = bt); omega)).trans (X3.out 6)
    have t7 := (ho4.cell (p := ⟨w2.heap.size, 7, none⟩) (by show w2.heap.size < _; omega) (by show ¬ (w2.heap.size = bt); omega)).trans (X3.out 7)
    have t8 := (ho4.cell (p := ⟨w2.heap.size, 8, none⟩) (by show w2.heap.size < _; omega) (by show ¬ (w2.heap.size = bt); omega)).trans (X3.out 8)
    have t9 := (ho4.cell (p := ⟨w2.heap.size, 9, none⟩) (by show w2.heap.size < _; omega) (by show ¬ (w2.heap.size = bt); omega)).trans (X3.out 9)
    have X4 : Hid (∀ o, w4.cell? ⟨w2.heap.size, o, none⟩ = #[Value.int IntKind.i64 ro, Value.int IntKind.i64 co, Value.string cs, Value.slice ac mc cc, Value.int IntKind.i64 bu, Value.int IntKind.i64 (f : Nat), Value.int IntKind.i64 (tt : Nat), Value.map (some bs), Value.map (some bt), Value.int IntKind.i64 S][o]?) := fun o => (ho4.cell (p := ⟨w2.heap.size, o, none⟩) (by show w2.heap.size < _; omega) (by show ¬ (w2.heap.size = bt); omega)).trans (X3.out o)
    obtain ⟨nn, hnn⟩ : ∃ nn, nn = T + 1 := ⟨_, rfl⟩
    have REA : Hid (Calls Tryd.prog 105 #[.agg #[Value.int IntKind.i64 ro, Value.int IntKind.i64 co, Value.string cs, Value.slice ac mc cc, Value.int IntKind.i64 bu, Value.int IntKind.i64 (f : Nat), Value.int IntKind.i64 (tt : Nat), Value.map (some bs), Value.map (some bt), Value.int IntKind.i64 S], .int .i64 (T : Nat)] w4 fun e w' =>
      ∃ gl B, e = .returned (.slice (some ⟨gl, 0, none⟩) nn nn) ∧ LaysIn w' gl nn B (fun t => reachM co cs (n + 1) (extR n R tt T) f t) ∧ (∀ t, t < nn → w4.heap.size ≤ B t) ∧ w4.heap.size ≤ gl ∧ Below w4.heap.size w4 w') := by
      have h := reached_lay ro co bu cs ac mc cc (tt : Int) S f bs bt (n + 1) T nn (extR n R tt T) w4 (HSD.out.below BW4.out) r1 r2 r3 r4 hs hsz (by omega) hnn BN4.out HF.out
      unfold tripV at h
      exact h
    have HNN := Hid.mk hnn
    have hn1 : T + 1 ≤ nn := by omega
    have hn2 : nn ≤ T + 1 := by omega
    clear hst4 ho4 s7 s8 s9 c13 hnn
    go_wp2_with fail
    refine REA.out.mono ?_
    rintro e w5 ⟨gl, B, rfl, hla, hlow, hgl, hb5⟩
    have LA5 := Hid.mk hla
    have LOW := Hid.mk hlow
    have hz5 := hb5.size
    have BW5 : Hid (Below w.heap.size w w5) := BW4.out.trans (hb5.mono BW4.out.size)
    have BN5 := Hid.mk (BN4.out.below hb5)
    have u0' := cell_later hb5 t0
    have u1' := cell_later hb5 t1
    have u2' := cell_later hb5 t2
    have u3' := cell_later hb5 t3
    have u4' := cell_later hb5 t4
    have u5' := cell_later hb5 t5
    have u6' := cell_later hb5 t6
    have u7' := cell_later hb5 t7
    have u8' := cell_later hb5 t8
    have u9' := cell_later hb5 t9
    have KEEP : Hid (Calls Tryd.prog 106 #[.agg #[Value.int IntKind.i64 ro, Value.int IntKind.i64 co, Value.string cs, Value.slice ac mc cc, Value.int IntKind.i64 bu, Value.int IntKind.i64 (f : Nat), Value.int IntKind.i64 (tt : Nat), Value.map (some bs), Value.map (some bt), Value.int IntKind.i64 S], .slice (some ⟨gl, 0, none⟩) nn nn] w5 fun e w' =>
      e = .returned (.tuple #[]) ∧ LaysIn w' gl nn B (layM co cs n R f tt T) ∧ Only (fun k => ∃ t, t < nn ∧ k = B t) w5 w') := by
      have h := keep_any ro co bu cs ac mc cc (f : Int) S tt bs bt (n + 1) gl T nn nn (extR n R tt T) B (fun t => reachM co cs (n + 1) (extR n R tt T) f t) w5 (HSD.out.below BW5.out) r1 r2 r3 r4 hs hsz (by omega) HNN.out BN5.out (fun t ht => by have := hlow t ht; omega) LA5.out (fun t z hz => ⟨free_lt (reach_in HF.out hz), reach_in HF.out hz⟩)
      unfold tripV at h
      exact h
    clear hla hlow hb5 t0 t1 t2 t3 t4 t5 t6 t7 t8 t9
    go_wp2_with fail
    refine KEEP.out.mono ?_
    rintro e w6 ⟨rfl, hla6, ho6⟩
    have LA6 := Hid.mk hla6
    have hz6 := ho6.size
    have BW6 : Hid (Below w.heap.size w w6) := BW5.out.trans (ho6.below BW5.out.size (fun i e => by obtain ⟨t, ht, e⟩ := e; have := LOW.out t ht; have := BW4.out.size; omega))
    have d0 := hla6.cells 0 (by omega)
    have HS0 := Hid.mk (hla6.sets 0 (by omega))
    have hn0I : (0 : Int) < (nn : Int) := by omega
    have hn0 : 0 < nn := by omega
    obtain ⟨s, hs0⟩ : ∃ s, s = (cellsL (layM co cs n R f tt T 0)).length := ⟨_, rfl⟩
    have HS00 := Hid.mk hs0
    clear hla6 ho6 u0' u1' u2' u3' u4' u5' u6' u7' u8' u9'
    by_cases hse : s = 0
    · have e' : (((s : Nat) : Int) == 0) = true := by simp [hse]
      have HSE := Hid.mk hse
      clear hse
      go_wp2_with (first
        | (at_len; refine wpList_len_cells rfl _ rfl (B 0) _ rfl HS0.out ?_; rw [← hs0]; clear hs0)
        | go_in)
      go_ret
      refine ⟨_, rfl, ?_, BW6.out⟩
      unfold layO
      rw [if_neg (fun h => h.2 (by rw [← HS00.out]; exact HSE.out))]
      rfl
    · have e' : (((s : Nat) : Int) == 0) = false := by simpa using hse
      have HSE := Hid.mk hse
      clear hse
      go_upto_region 10 with (first
        | (at_len; refine wpList_len_cells rfl _ rfl (B 0) _ rfl HS0.out ?_; rw [← hs0]; clear hs0)
        | (at_make; go_must (refine wpList_make_all _ rfl _ _ 35 rfl 26 _ _ _ Tryd.underlying35 Tryd.infoSl _ _ _ _ nn rfl rfl (by simp) (by simp) (by omega) (by omega) ?_)))
      have ROW7 := Hid.mk (nilRow nn w6 26 w6.heap.size rfl)
      have B67 : Hid (Below w6.heap.size w6 (w6.alloc (Obj.cells (madeCells #[Value.slice none 0 0] nn) 26))) := (Below.refl _ _).alloc (Nat.le_refl _) _
      have hz7 : (w6.alloc (Obj.cells (madeCells #[Value.slice none 0 0] nn) 26)).heap.size = w6.heap.size + 1 := by simp
      generalize (w6.alloc (Obj.cells (madeCells #[Value.slice none 0 0] nn) 26)) = w7 at *
      have LA7 := Hid.mk (LA6.out.below B67.out)
      have hz7a : w6.heap.size + 1 ≤ w7.heap.size := by omega
      obtain ⟨LM, hLM⟩ : ∃ LM, LM = layM co cs n R f tt T := ⟨_, rfl⟩
      rw [← hLM] at LA7
      have HLM := Hid.mk hLM
      clear hz7 hLM d0
      go_wp2
      go_loopw [48] (fun v48 wr => ∃ (k : Nat) (A : Nat → Value), v48 = .int .i64 k ∧ k ≤ nn ∧ wr.rowIs w6.heap.size 26 nn (fun t => if t < k then A t else .slice none 0 0) ∧ (∀ t, t < k → OwnN wr w7.heap.size (A t) (cellsL (LM t))) ∧ (∀ s t h, s < k → t < k → s ≠ t → (A s).ownBlock = some h → (A t).ownBlock ≠ some h) ∧ Below w6.heap.size w7 wr) (fun v48 _ => nn - (intOf v48).toNat)
      case atStart => exact ⟨0, fun _ => .slice none 0 0, rfl, Nat.zero_le _, ROW7.out.congr (fun i _ => by rw [if_neg (by omega)]), fun t ht => absurd ht (Nat.not_lt_zero t), fun s t h hs => absurd hs (Nat.not_lt_zero s), Below.refl _ _⟩
      case round =>
        obtain ⟨w8, rfl⟩ : ∃ q, q = wr := ⟨_, rfl⟩
        obtain ⟨k, A, rfl, hk, hrow, hown, hdis, hb8⟩ := hrel
        have ROW8 := Hid.mk hrow
        have OWN8 := Hid.mk hown
        have DIS8 := Hid.mk hdis
        have B8 := Hid.mk hb8
        have hz8 := hb8.size
        have LA8 : Hid (LaysIn w8 gl nn B LM) := LA7.out.below_at hb8 (fun t ht => (LA6.out.sets t ht).lt) (LA6.out.lt (by omega))
        have BW8 : Hid (Below w.heap.size w w8) := (BW6.out.trans (B67.out.mono BW6.out.size)).trans (hb8.mono BW6.out.size)
        clear hrow hown hdis hb8
        by_cases hlt : k < nn
        · have dk := LA8.out.cells k hlt
          have SK := Hid.mk (LA8.out.sets k hlt)
          have hkI : ((k : Nat) : Int) < (nn : Int) := by omega
          go_upto_region 13 with fail
          go_wp2_with fail
          refine (Tryd.keys_calls _ _).mono ?_
          rintro e w9 ⟨rfl, rfl⟩
          go_wp2_with fail
          refine (sorted_cells (B k) (LM k) w8 SK.out).mono ?_
          rintro e w9 ⟨v, rfl, hov, hb9⟩
          obtain ⟨av, cv, rfl, hav, _⟩ := hov.form
          have hb89 : Below w8.heap.size w8 w9 := ((Below.refl _ w8).alloc (Nat.le_refl _) _).trans hb9
          have HOV := Hid.mk hov
          have B89 := Hid.mk hb89
          have hz9 := hb89.size
          have ROW9 := Hid.mk (rowIs_below ROW8.out hb89)
          have rc := ROW9.out.cell (i := k) hlt
          rw [if_neg (by omega)] at rc
          have rf := ROW9.out.frozen
          clear hov hb9 hb89 dk hav
          go_wp2
          go_roundw
          case rel =>
            refine ⟨k + 1, extA A k (.slice av (cellsL (LM k)).length cv), by go_num, by omega, (ROW9.out.set k _).congr (fun i hi => ?_), fun t ht => ?_, fun s t h hs ht hst hsb => ?_, (B8.out.trans (B89.out.mono (by omega))).setCell (p := ⟨w6.heap.size, k, none⟩) (Nat.le_refl _) _⟩
            · by_cases e : i = k
              · rw [if_pos e, if_pos (by omega), e, extA_at]
              · rw [if_neg e]
                by_cases e2 : i < k
                · rw [if_pos e2, if_pos (by omega), extA_ne e]
                · rw [if_neg e2, if_neg (by omega)]
            · refine own_keep (w := w9) ?_ fun g hg _ _ => Below.heap_setCell w9 ⟨w6.heap.size, k, none⟩ _ g (by show g ≠ w6.heap.size; omega)
              by_cases e : t = k
              · rw [e, extA_at]
                exact OwnN.le HOV.out (by omega)
              · rw [extA_ne e]
                exact (OWN8.out t (by omega)).below B89.out
            · by_cases e1 : s = k <;> by_cases e2 : t = k
              · omega
              · rw [e1, extA_at] at hsb
                rw [extA_ne e2]
                intro hh
                have h1 := (HOV.out.lt h hsb).1
                have h2 := ((OWN8.out t (by omega)).lt h hh).2
                omega
              · rw [extA_ne e1] at hsb
                rw [e2, extA_at]
                intro hh
                have h1 := (HOV.out.lt h hh).1
                have h2 := ((OWN8.out s (by omega)).lt h hsb).2
                omega
              · rw [extA_ne e1] at hsb
                rw [extA_ne e2]
                exact DIS8.out s t h (by omega) (by omega) hst hsb
          case measure => simp [intOf]; omega
        · have hd : k = nn := by omega
          subst hd
          go_wp2
          go_ret
          refine ⟨_, rfl, ?_, BW8.out⟩
          have hkT : k = T + 1 := HNN.out
          have e : layO co cs n R f tt T = some ((List.range (T + 1)).map fun t => cellsL (LM t)) := by
            unfold layO
            rw [if_pos ⟨by rw [← HS.out]; omega, by rw [← HS00.out]; exact HSE.out⟩, HLM.out]
          rw [e]
          have hlen : ((List.range (T + 1)).map fun t => cellsL (LM t)).length = k := by simp [hkT]
          show ListsOwn w8 w.heap.size _ _
          refine ⟨w6.heap.size, A, by rw [hlen]; rfl, by have := BW6.out.size; omega, by rw [hlen]; exact ROW8.out.congr (fun i hi => by rw [if_pos hi]), fun t ht => ?_, fun t ht hh => ?_, fun s t h hs ht hst hsb => DIS8.out s t h (by omega) (by omega) hst hsb⟩
          · rw [hlen] at ht
            rw [List.getD_eq_getElem?_getD, List.getElem?_map, List.getElem?_range (by omega)]
            exact OwnN.le (OWN8.out t ht) (by have := BW6.out.size; omega)
          · rw [hlen] at ht
            have := ((OWN8.out t ht).lt _ hh).1
            omega

end Go.Proofs.YtgdkchdcbfgijaaDoor

/- Walk of the document's behind: from where a cart can come to one of these cells. -/
namespace Go.Proofs.YtgdkchdcbfgijaaDoor
open Go.RowKit M

/-- May one come from a to b, where one of the cells is b? -/
def behP (co : Int) (cs : ByteArray) (n : Nat) (R : Nat → RuleM) (s : Nat → Bool) (t : Int) (eb : Bool) (a b : Nat) : Bool := s b && goesI co cs n R a b t && !(eb && a == b)

/-- The row as far as it is filled. -/
def behF (P : Nat → Nat → Bool) (N A B i : Nat) : Bool := if i < A then anyB (P i) N else if i = A then anyB (P A) B else false

theorem behF_skip {P : Nat → Nat → Bool} {N A B : Nat} (h : P A B = false) (i : Nat) : behF P N A B i = behF P N A (B + 1) i := by
  unfold behF
  by_cases e : i < A
  · rw [if_pos e, if_pos e]
  · rw [if_neg e, if_neg e]
    by_cases e2 : i = A
    · rw [if_pos e2, if_pos e2]
      show _ = (anyB (P A) B || P A B)
      rw [h, Bool.or_false]
    · rw [if_neg e2, if_neg e2]

theorem behF_hit {P : Nat → Nat → Bool} {N A B : Nat} (h : P A B = true) (i : Nat) : (if i = A then true else behF P N A B i) = behF P N A (B + 1) i := by
  unfold behF
  by_cases e2 : i = A
  · subst e2
    rw [if_pos rfl, if_neg (Nat.lt_irrefl _), if_pos rfl]
    show _ = (anyB (P i) B || P i B)
    rw [h, Bool.or_true]
  · rw [if_neg e2]
    by_cases e : i < A
    · rw [if_pos e, if_pos e]
    · rw [if_neg e, if_neg e2, if_neg e, if_neg e2]

theorem behF_full {P : Nat → Nat → Bool} {N A : Nat} (i : Nat) : behF P N A N i = behF P N (A + 1) 0 i := by
  unfold behF
  by_cases e : i < A
  · rw [if_pos e, if_pos (by omega)]
  · rw [if_neg e]
    by_cases e2 : i = A
    · rw [if_pos e2, if_pos (by omega), e2]
    · rw [if_neg e2, if_neg (by omega)]
      by_cases e3 : i = A + 1
      · rw [if_pos e3]; rfl
      · rw [if_neg e3]

set_option maxRecDepth 100000 in
set_option maxHeartbeats 4000000 in
theorem behind_any (ro co bu : Int) (cs : ByteArray) (ca : Value) (ar : Option Addr) (n capr : Nat) (R : Nat → RuleM) (g0 c0 t : Nat) (eb : Bool) (s : Nat → Bool) (w : World) (hs : cs.size ≤ 36) (h1 : 1 ≤ co) (h2 : co ≤ 6) (hn : n ≤ maxLen) (ht : t ≤ 999) (har : RulesAt w ar n R) (hrow : w.rowIs g0 4 cs.size (boolV s)) :
    Calls Tryd.prog 70 #[.agg #[.int .i64 ro, .int .i64 co, .string cs, ca, .int .i64 bu], .slice ar n capr, .slice (some ⟨g0, 0, none⟩) cs.size c0, .int .i64 t, .bool eb] w fun e w' =>
      ∃ g, e = .returned (.slice (some ⟨g, 0, none⟩) cs.size cs.size) ∧ w.heap.size ≤ g ∧ w'.rowIs g 4 cs.size (boolV (fun a => anyB (behP co cs n R s ((t : Int) - 1) eb a) cs.size)) ∧ Below w.heap.size w w' := by
  have HA := Hid.mk har
  have HS := Hid.mk hrow
  obtain ⟨P, hP⟩ : ∃ P, P = behP co cs n R s ((t : Int) - 1) eb := ⟨_, rfl⟩
  rw [← hP]
  have HP := Hid.mk hP
  have hwt : IntKind.i64.wrap ((t : Int) - 1) = (t : Int) - 1 := wrap_mid (by omega) (by omega)
  clear har hrow hP
  go_enter Tryd.func70, Tryd.ntmps70
  go_wp2_with (at_make; go_must (refine wpList_make_all _ rfl _ _ 95 rfl 4 _ _ _ Tryd.underlying95 Tryd.infoBool _ _ _ _ cs.size rfl rfl rfl rfl (by omega) (by omega) ?_))
  have hrow0 := Hid.mk (brow_zero cs.size (w.alloc (Obj.cells #[Value.int IntKind.i64 ro, Value.int IntKind.i64 co, Value.string cs, ca, Value.int IntKind.i64 bu] 24)) 4 (w.heap.size + 1) (by simp))
  have hB3 : Hid (Below w.heap.size w ((w.alloc (Obj.cells #[Value.int IntKind.i64 ro, Value.int IntKind.i64 co, Value.string cs, ca, Value.int IntKind.i64 bu] 24)).alloc (Obj.cells (madeCells #[Value.bool false] cs.size) 4))) := ((Below.refl _ w).alloc (Nat.le_refl _) _).alloc (by simp) _
  have y3 : ∀ o, ((w.alloc (Obj.cells #[Value.int IntKind.i64 ro, Value.int IntKind.i64 co, Value.string cs, ca, Value.int IntKind.i64 bu] 24)).alloc (Obj.cells (madeCells #[Value.bool false] cs.size) 4)).cell? ⟨w.heap.size, o, none⟩ = #[Value.int IntKind.i64 ro, Value.int IntKind.i64 co, Value.string cs, ca, Value.int IntKind.i64 bu][o]? := by
    intro o; go_simp
  have hz3 : ((w.alloc (Obj.cells #[Value.int IntKind.i64 ro, Value.int IntKind.i64 co, Value.string cs, ca, Value.int IntKind.i64 bu] 24)).alloc (Obj.cells (madeCells #[Value.bool false] cs.size) 4)).heap.size = w.heap.size + 2 := by simp
  generalize (w.alloc (Obj.cells #[Value.int IntKind.i64 ro, Value.int IntKind.i64 co, Value.string cs, ca, Value.int IntKind.i64 bu] 24)).alloc (Obj.cells (madeCells #[Value.bool false] cs.size) 4) = w3 at *
  have Y3 := Hid.mk y3
  have hz3a : w.heap.size + 2 ≤ w3.heap.size := by omega
  clear y3 hz3
  go_loopw [13] (fun v wr => ∃ A : Nat, A ≤ cs.size ∧ v = .int .i64 A ∧ wr.rowIs (w.heap.size + 1) 4 cs.size (boolV (behF P cs.size A 0)) ∧ Below (w.heap.size + 1) w3 wr) (fun v _ => cs.size - (intOf v).toNat)
  case atStart => exact ⟨0, Nat.zero_le _, rfl, hrow0.out.congr fun i _ => by unfold boolV behF; rw [if_neg (by omega)]; by_cases e : i = 0; rw [if_pos e]; rfl; rw [if_neg e], Below.refl _ _⟩
  case round =>
    obtain ⟨wo, rfl⟩ : ∃ x, x = wr := ⟨_, rfl⟩
    obtain ⟨A, hA, rfl, hrw, hbr⟩ := hrel
    have HR := Hid.mk hrw
    have HB := Hid.mk hbr
    clear hrw hbr
    by_cases hlt : A < cs.size
    · go_wp2
      go_loopw [14] (fun v wr => ∃ B : Nat, B ≤ cs.size ∧ v = .int .i64 B ∧ wr.rowIs (w.heap.size + 1) 4 cs.size (boolV (behF P cs.size A B)) ∧ Below (w.heap.size + 1) w3 wr) (fun v _ => cs.size - (intOf v).toNat)
      case atStart => exact ⟨0, Nat.zero_le _, rfl, HR.out, HB.out⟩
      case round =>
        obtain ⟨wi, rfl⟩ : ∃ x, x = wr := ⟨_, rfl⟩
        obtain ⟨B, hB, rfl, hrw, hbi⟩ := hrel
        have HRI := Hid.mk hrw
        have HBI := Hid.mk hbi
        have hzi := hbi.size
        have HWI : Hid (Below w.heap.size w wi) := hB3.out.trans (hbi.mono (by omega))
        clear hrw hbi
        by_cases hltB : B < cs.size
        · have yi : ∀ o, wi.cell? ⟨w.heap.size, o, none⟩ = #[Value.int .i64 ro, .int .i64 co, .string cs, ca, .int .i64 bu][o]? := fun o => (HBI.out.cell (p := ⟨w.heap.size, o, none⟩) (by show w.heap.size < _; omega)).trans (Y3.out o)
          have y0 := yi 0
          have y1 := yi 1
          have y2 := yi 2
          have y3 := yi 3
          have y4 := yi 4
          clear yi
          go_wp2_with fail
          refine (goes_any ro co bu cs ca ar n capr R A B ((t : Int) - 1) wi hs h1 h2 hn (by omega) (by omega) (by omega) (HA.out.below HWI.out)).mono ?_
          rintro e w4 ⟨rfl, hb4⟩
          have HR4 := Hid.mk (rowIs_below HRI.out hb4)
          have HB4 := Hid.mk (HBI.out.trans (hb4.mono (by omega)))
          obtain ⟨g, hg⟩ : ∃ g, g = goesI co cs n R A B ((t : Int) - 1) := ⟨_, rfl⟩
          obtain ⟨sb, hsb⟩ : ∃ x, x = s B := ⟨_, rfl⟩
          have sB : w4.cell? ⟨g0, B, none⟩ = some (.bool sb) := by
            rw [hsb]
            exact cell_later (HWI.out.trans (hb4.mono HWI.out.size)) (HS.out.cell (i := B) hltB)
          have cF := HR4.out.frozen
          have cA := HR4.out.cell (i := A) hlt
          rw [← hg]
          have PV : Hid (P A B = (sb && g && !(eb && A == B))) := by unfold Hid; rw [HP.out, hsb, hg]; rfl
          have SKIP : Hid (P A B = false → w4.rowIs (w.heap.size + 1) 4 cs.size (boolV (behF P cs.size A (B + 1)))) := fun h => HR4.out.congr fun i _ => by unfold boolV; rw [behF_skip h]
          have HIT : Hid (P A B = true → (w4.setCell ⟨w.heap.size + 1, A, none⟩ (.bool true)).rowIs (w.heap.size + 1) 4 cs.size (boolV (behF P cs.size A (B + 1)))) := fun h => brow_store HR4.out A true fun j _ => behF_hit h j
          have hBI : (B : Int) < (cs.size : Int) := by omega
          have hAI : (A : Int) < (cs.size : Int) := by omega
          clear hg hsb hb4 y0 y1 y2 y3 y4
          cases sb with
          | false =>
            go_wp2
            go_roundw
            case rel => exact ⟨B + 1, by omega, by go_num, SKIP.out (by rw [PV.out]; rfl), HB4.out⟩
            case measure => simp [intOf]; omega
          | true =>
            cases g with
            | false =>
              go_wp2
              go_roundw
              case rel => exact ⟨B + 1, by omega, by go_num, SKIP.out (by rw [PV.out]; rfl), HB4.out⟩
              case measure => simp [intOf]; omega
            | true =>
              cases eb with
              | false =>
                go_wp2
                go_roundw
                case rel => exact ⟨B + 1, by omega, by go_num, HIT.out (by rw [PV.out]; rfl), HB4.out.setCell (p := ⟨w.heap.size + 1, A, none⟩) (Nat.le_refl _) _⟩
                case measure => simp [intOf]; omega
              | true =>
                by_cases e : A = B
                · have e1 : (((A : Nat) : Int) == ((B : Nat) : Int)) = true := by simp [e]
                  have E := Hid.mk e
                  clear e
                  go_wp2
                  go_roundw
                  case rel => exact ⟨B + 1, by omega, by go_num, SKIP.out (by rw [PV.out, E.out]; simp), HB4.out⟩
                  case measure => simp [intOf]; omega
                · have e1 : (((A : Nat) : Int) == ((B : Nat) : Int)) = false := by simp; omega
                  have E := Hid.mk e
                  clear e
                  go_wp2
                  go_roundw
                  case rel => exact ⟨B + 1, by omega, by go_num, HIT.out (by rw [PV.out]; simp [E.out]), HB4.out.setCell (p := ⟨w.heap.size + 1, A, none⟩) (Nat.le_refl _) _⟩
                  case measure => simp [intOf]; omega
        · have hd : B = cs.size := by omega
          subst hd
          go_wp2
          go_roundw
          case rel => exact ⟨A + 1, by omega, by go_num, HRI.out.congr fun i _ => by unfold boolV; rw [behF_full], HBI.out⟩
          case measure => simp [intOf]; omega
    · have hd : A = cs.size := by omega
      go_wp2
      go_ret
      subst hd
      exact ⟨w.heap.size + 1, rfl, by omega, HR.out.congr fun i hi => by unfold boolV behF; rw [if_pos hi], hB3.out.trans (HB.out.mono (by omega))⟩

end Go.Proofs.YtgdkchdcbfgijaaDoor
