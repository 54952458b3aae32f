/- Several texts in one: Cn. -/
import Derived.Test.YtnkgpinadgacgabDoorMkzr
import Derived.Test.YtnkgpinadgacgabDoorMkzs
import Derived.Test.YtnkgpinadgacgabDoorMkzt
namespace Go.Proofs.YtnkgpinadgacgabDoor
open Go.RowKit M
namespace M
/-- The faults of a level and of all below it. -/
def allF (lvl : Nat) (co : Int) (cs : ByteArray) (fr tt : Nat → Int) (n : Nat) (len : Nat → Nat) (num : Nat → Nat → Int) : List FaultM :=
  (((if 3 ≤ lvl then pairsF 3 n len num n else []) ++ (if 2 ≤ lvl then pairsF 2 n len num n else [])) ++ (if 1 ≤ lvl then stepsF co cs len num n else [])) ++ endsF fr tt len num n

end M
theorem own_oneF (w : World) (f : FaultM) (k : Nat) (hk : k = w.heap.size) : OwnF (w.alloc (.cells #[.int .i64 f.level, .int .i64 f.cart, .int .i64 f.other, .int .i64 f.at'] 55)) k (.slice (some ⟨k, 0, none⟩) 1 1) [f] := by
  subst hk
  refine ⟨⟨rfl, .inr ⟨w.heap.size, 1, #[.int .i64 f.level, .int .i64 f.cart, .int .i64 f.other, .int .i64 f.at'], rfl, Nat.le_refl _, ?_, Nat.le_refl _, by unfold maxLen; omega, rfl, rfl⟩⟩, fun e => by cases e⟩
  show (w.heap.push _)[w.heap.size]? = _
  simp

theorem pairs_all {lvl n : Nat} {len : Nat → Nat} {num : Nat → Nat → Int} (hn : n ≤ 4) (h : ∀ j, j < n → len j ≤ 1048576) : (pairsF lvl n len num n).length ≤ 16777216 := pairs_bd hn h (Nat.le_refl _)

theorem steps_all {co : Int} {cs : ByteArray} {n : Nat} {len : Nat → Nat} {num : Nat → Nat → Int} (hn : n ≤ 4) (h : ∀ j, j < n → len j ≤ 1048576) : (stepsF co cs len num n).length ≤ 4194304 := steps_bd hn h (Nat.le_refl _)

theorem ends_all {fr tt : Nat → Int} {n : Nat} {len : Nat → Nat} {num : Nat → Nat → Int} (hn : n ≤ 4) : (endsF fr tt len num n).length ≤ 8 := by have := endsF_len fr tt len num n; omega

theorem allF_len {lvl : Nat} {co : Int} {cs : ByteArray} {fr tt : Nat → Int} {n : Nat} {len : Nat → Nat} {num : Nat → Nat → Int} (hn : n ≤ 4) (h : ∀ j, j < n → len j ≤ 1048576) : (allF lvl co cs fr tt n len num).length ≤ 40000000 := by
  have h1 := pairs_all (lvl := 3) (num := num) hn h
  have h2 := pairs_all (lvl := 2) (num := num) hn h
  have h3 := steps_all (co := co) (cs := cs) (num := num) hn h
  have h4 := ends_all (fr := fr) (tt := tt) (len := len) (num := num) hn
  unfold allF
  simp only [List.length_append]
  split <;> split <;> split <;> simp <;> omega

set_option maxRecDepth 100000 in
set_option maxHeartbeats 1000000 in
theorem faults_bad (ro co bu : Int) (cs : ByteArray) (ca : Option Addr) (m cc : Nat) (ap : Option Addr) (n cap : Nat) (lvl : Int) (w : World) (hmn : n ≠ m) :
    Calls Tryd.prog 43 #[.agg #[.int .i64 ro, .int .i64 co, .string cs, .slice ca m cc, .int .i64 bu], .slice ap n cap, .int .i64 lvl] w fun e w' => ∃ v, e = .returned v ∧ OwnF w' w.heap.size v [⟨0, -1, -1, 0⟩] ∧ Below w.heap.size w w' := by
  have hmnI : ((n : Int) != (m : Int)) = true := by simp; omega
  have OW : Hid (OwnF ((w.alloc (Obj.cells #[Value.int IntKind.i64 ro, Value.int IntKind.i64 co, Value.string cs, .slice ca m cc, Value.int IntKind.i64 bu] 28)).alloc (.cells #[.int .i64 0, .int .i64 (-1), .int .i64 (-1), .int .i64 0] 55)) (w.heap.size + 1) (.slice (some ⟨w.heap.size + 1, 0, none⟩) 1 1) [⟨0, -1, -1, 0⟩]) := own_oneF _ ⟨0, -1, -1, 0⟩ _ (by simp)
  have BW : Hid (Below w.heap.size w ((w.alloc (Obj.cells #[Value.int IntKind.i64 ro, Value.int IntKind.i64 co, Value.string cs, .slice ca m cc, Value.int IntKind.i64 bu] 28)).alloc (.cells #[.int .i64 0, .int .i64 (-1), .int .i64 (-1), .int .i64 0] 55))) := ((Below.refl _ w).alloc (Nat.le_refl _) _).alloc (by simp) _
  clear hmn
  go_enter Tryd.func43, Tryd.ntmps43
  go_wp2
  go_ret
  exact ⟨_, rfl, OW.out.le (by omega), BW.out⟩

set_option maxRecDepth 100000 in
set_option maxHeartbeats 4000000 in
theorem faults_0 (ro co bu : Int) (cs : ByteArray) (bc oc m cc : Nat) (fr tt : Nat → Int) (ap : Option Addr) (n cap : Nat) (p : PlanM) (w : World) (_hs : cs.size ≤ 36) (_r1 : 1 ≤ ro) (_r2 : ro ≤ 6) (_h1 : 1 ≤ co) (_h2 : co ≤ 6) (hsz : (cs.size : Int) = ro * co) (hsd : SidesIn w)
    (hcs : CartsIn w bc oc m fr tt) (hmn : n = m) (hn : n ≤ 4) (hB : ∀ i, i < n → p.len i ≤ 1048576) (hp : PlanAt w ap n p) :
    Calls Tryd.prog 43 #[.agg #[.int .i64 ro, .int .i64 co, .string cs, .slice (some ⟨bc, oc, none⟩) m cc, .int .i64 bu], .slice ap n cap, .int .i64 0] w fun e w' => ∃ v, e = .returned v ∧ OwnF w' w.heap.size v (allF 0 co cs fr tt n p.len p.num) ∧ Below w.heap.size w w' := by
  have HP := Hid.mk hp
  have HB := Hid.mk hB
  have HCS := Hid.mk hcs
  have HSD := Hid.mk hsd
  have HSZ := Hid.mk hsz
  have P3 := Hid.mk (pairs_all (lvl := 3) (num := p.num) hn hB)
  have P2 := Hid.mk (pairs_all (lvl := 2) (num := p.num) hn hB)
  have ST := Hid.mk (steps_all (co := co) (cs := cs) (num := p.num) hn hB)
  have EN := Hid.mk (ends_all (fr := fr) (tt := tt) (len := p.len) (num := p.num) hn)
  have HMN := Hid.mk hmn
  have hmnI : ((n : Int) != (m : Int)) = false := by simp [hmn]
  clear hp hB hcs hsd hsz hmn
  go_enter Tryd.func43, Tryd.ntmps43
  go_wp2_with fail
  have B0 : Hid (Below w.heap.size w (w.alloc (Obj.cells #[Value.int IntKind.i64 ro, Value.int IntKind.i64 co, Value.string cs, .slice (some ⟨bc, oc, none⟩) m cc, Value.int IntKind.i64 bu] 28))) := (Below.refl _ w).alloc (Nat.le_refl _) _
  have y0 : ∀ o, (w.alloc (Obj.cells #[Value.int IntKind.i64 ro, Value.int IntKind.i64 co, Value.string cs, .slice (some ⟨bc, oc, none⟩) m cc, Value.int IntKind.i64 bu] 28)).cell? ⟨w.heap.size, o, none⟩ = #[Value.int .i64 ro, .int .i64 co, .string cs, .slice (some ⟨bc, oc, none⟩) m cc, .int .i64 bu][o]? := by
    intro o; go_simp
  have hz0 : w.heap.size + 1 = (w.alloc (Obj.cells #[Value.int IntKind.i64 ro, Value.int IntKind.i64 co, Value.string cs, .slice (some ⟨bc, oc, none⟩) m cc, Value.int IntKind.i64 bu] 28)).heap.size := by simp
  generalize (w.alloc (Obj.cells #[Value.int IntKind.i64 ro, Value.int IntKind.i64 co, Value.string cs, .slice (some ⟨bc, oc, none⟩) m cc, Value.int IntKind.i64 bu] 28)) = w0 at *
  have Y0 := Hid.mk y0
  have YALL : Hid (∀ wx, Below (w.heap.size + 1) w0 wx → (∀ o, wx.cell? ⟨w.heap.size, o, none⟩ = #[Value.int .i64 ro, .int .i64 co, .string cs, .slice (some ⟨bc, oc, none⟩) m cc, .int .i64 bu][o]?) ∧ SidesIn wx ∧ CartsIn wx bc oc m fr tt ∧ PlanAt wx ap n p ∧ Below w.heap.size w wx ∧ w.heap.size + 1 ≤ wx.heap.size ∧ w.heap.size < wx.heap.size) := by
    intro wx hb
    have hsz := hb.size
    have hw : Below w.heap.size w wx := B0.out.trans (hb.mono (by omega))
    exact ⟨fun o => (hb.cell (p := ⟨w.heap.size, o, none⟩) (by show w.heap.size < _; omega)).trans (Y0.out o), HSD.out.below hw, HCS.out.below hw, HP.out.below hw, hw, by omega, by omega⟩
  clear y0 hz0
  have OWc : Hid (OwnF w0 (w.heap.size + 1) (.slice none 0 0) []) := OwnF.nil _ _
  have BRc : Hid (Below (w.heap.size + 1) w0 w0) := Below.refl _ _
  obtain ⟨y0, SA, CA, PA, bw0, zz0, zw0⟩ := YALL.out w0 BRc.out
  go_wp2_with fail
  refine (endFaults_any ro co bu cs bc oc m cc fr tt ap n cap p _ (by exact CA) HMN.out hn HB.out (by exact PA)).mono ?_
  rintro e wa0 ⟨va0, rfl, hown0, hb0⟩
  have G0 := Hid.mk hown0
  have OWN0 : Hid (OwnF wa0 (w.heap.size + 1) (.slice none 0 0) (([] : List FaultM))) := OWc.out.below hb0
  have BRA0 : Hid (Below (w.heap.size + 1) w0 wa0) := BRc.out.trans (hb0.mono zz0)
  have HBS0 : Hid (w.heap.size + 1 ≤ wa0.heap.size) := (YALL.out _ BRA0.out).2.2.2.2.2.1
  have HL0 : Hid ((([] : List FaultM)).length + (endsF fr tt p.len p.num n).length ≤ 100000000) := by
    have a1 := P3.out; have a2 := P2.out; have a3 := ST.out; have a4 := EN.out
    unfold Hid; (try simp only [List.length_append]); (try simp only [List.length_nil]); omega
  clear hown0 hb0 y0 SA CA PA bw0 zz0 zw0
  go_wp2_with (at_builtin; go_must (refine wpList_catF rfl _ _ rfl (w.heap.size + 1) _ (.slice none 0 0) va0 (([] : List FaultM)) (endsF fr tt p.len p.num n) rfl OWN0.out rfl G0.out HBS0.out HL0.out ?_; intro vb0 wb0 hownb0 hbb0; have OWb0 := Hid.mk hownb0; have BRb0 : Hid (Below (w.heap.size + 1) w0 wb0) := BRA0.out.trans hbb0; clear hownb0 hbb0; obtain ⟨y1, SA, CA, PA, bw1, zz1, zw1⟩ := YALL.out wb0 BRb0.out))
  have RES : Hid (OwnF wb0 w.heap.size vb0 (allF 0 co cs fr tt n p.len p.num)) := by
    unfold Hid
    have h := OWb0.out.le (show w.heap.size ≤ w.heap.size + 1 by omega)
    simpa [allF] using h
  have RB : Hid (Below w.heap.size w wb0) := (YALL.out _ BRb0.out).2.2.2.2.1
  go_ret
  exact ⟨vb0, rfl, RES.out, RB.out⟩

set_option maxRecDepth 100000 in
set_option maxHeartbeats 4000000 in
theorem faults_1 (ro co bu : Int) (cs : ByteArray) (bc oc m cc : Nat) (fr tt : Nat → Int) (ap : Option Addr) (n cap : Nat) (p : PlanM) (w : World) (hs : cs.size ≤ 36) (r1 : 1 ≤ ro) (r2 : ro ≤ 6) (h1 : 1 ≤ co) (h2 : co ≤ 6) (hsz : (cs.size : Int) = ro * co) (hsd : SidesIn w)
    (hcs : CartsIn w bc oc m fr tt) (hmn : n = m) (hn : n ≤ 4) (hB : ∀ i, i < n → p.len i ≤ 1048576) (hp : PlanAt w ap n p) :
    Calls Tryd.prog 43 #[.agg #[.int .i64 ro, .int .i64 co, .string cs, .slice (some ⟨bc, oc, none⟩) m cc, .int .i64 bu], .slice ap n cap, .int .i64 1] w fun e w' => ∃ v, e = .returned v ∧ OwnF w' w.heap.size v (allF 1 co cs fr tt n p.len p.num) ∧ Below w.heap.size w w' := by
  have HP := Hid.mk hp
  have HB := Hid.mk hB
  have HCS := Hid.mk hcs
  have HSD := Hid.mk hsd
  have HSZ := Hid.mk hsz
  have P3 := Hid.mk (pairs_all (lvl := 3) (num := p.num) hn hB)
  have P2 := Hid.mk (pairs_all (lvl := 2) (num := p.num) hn hB)
  have ST := Hid.mk (steps_all (co := co) (cs := cs) (num := p.num) hn hB)
  have EN := Hid.mk (ends_all (fr := fr) (tt := tt) (len := p.len) (num := p.num) hn)
  have HMN := Hid.mk hmn
  have hmnI : ((n : Int) != (m : Int)) = false := by simp [hmn]
  clear hp hB hcs hsd hsz hmn
  go_enter Tryd.func43, Tryd.ntmps43
  go_wp2_with fail
  have B0 : Hid (Below w.heap.size w (w.alloc (Obj.cells #[Value.int IntKind.i64 ro, Value.int IntKind.i64 co, Value.string cs, .slice (some ⟨bc, oc, none⟩) m cc, Value.int IntKind.i64 bu] 28))) := (Below.refl _ w).alloc (Nat.le_refl _) _
  have y0 : ∀ o, (w.alloc (Obj.cells #[Value.int IntKind.i64 ro, Value.int IntKind.i64 co, Value.string cs, .slice (some ⟨bc, oc, none⟩) m cc, Value.int IntKind.i64 bu] 28)).cell? ⟨w.heap.size, o, none⟩ = #[Value.int .i64 ro, .int .i64 co, .string cs, .slice (some ⟨bc, oc, none⟩) m cc, .int .i64 bu][o]? := by
    intro o; go_simp
  have hz0 : w.heap.size + 1 = (w.alloc (Obj.cells #[Value.int IntKind.i64 ro, Value.int IntKind.i64 co, Value.string cs, .slice (some ⟨bc, oc, none⟩) m cc, Value.int IntKind.i64 bu] 28)).heap.size := by simp
  generalize (w.alloc (Obj.cells #[Value.int IntKind.i64 ro, Value.int IntKind.i64 co, Value.string cs, .slice (some ⟨bc, oc, none⟩) m cc, Value.int IntKind.i64 bu] 28)) = w0 at *
  have Y0 := Hid.mk y0
  have YALL : Hid (∀ wx, Below (w.heap.size + 1) w0 wx → (∀ o, wx.cell? ⟨w.heap.size, o, none⟩ = #[Value.int .i64 ro, .int .i64 co, .string cs, .slice (some ⟨bc, oc, none⟩) m cc, .int .i64 bu][o]?) ∧ SidesIn wx ∧ CartsIn wx bc oc m fr tt ∧ PlanAt wx ap n p ∧ Below w.heap.size w wx ∧ w.heap.size + 1 ≤ wx.heap.size ∧ w.heap.size < wx.heap.size) := by
    intro wx hb
    have hsz := hb.size
    have hw : Below w.heap.size w wx := B0.out.trans (hb.mono (by omega))
    exact ⟨fun o => (hb.cell (p := ⟨w.heap.size, o, none⟩) (by show w.heap.size < _; omega)).trans (Y0.out o), HSD.out.below hw, HCS.out.below hw, HP.out.below hw, hw, by omega, by omega⟩
  clear y0 hz0
  have OWc : Hid (OwnF w0 (w.heap.size + 1) (.slice none 0 0) []) := OwnF.nil _ _
  have BRc : Hid (Below (w.heap.size + 1) w0 w0) := Below.refl _ _
  obtain ⟨y0, SA, CA, PA, bw0, zz0, zw0⟩ := YALL.out w0 BRc.out
  go_wp2_with fail
  refine (stepFaults_any ro co bu cs _ m cc ap n cap p _ hs r1 r2 h1 h2 HSZ.out (by exact SA) hn HB.out (by exact PA)).mono ?_
  rintro e wa0 ⟨va0, rfl, hown0, hb0⟩
  have G0 := Hid.mk hown0
  have OWN0 : Hid (OwnF wa0 (w.heap.size + 1) (.slice none 0 0) (([] : List FaultM))) := OWc.out.below hb0
  have BRA0 : Hid (Below (w.heap.size + 1) w0 wa0) := BRc.out.trans (hb0.mono zz0)
  have HBS0 : Hid (w.heap.size + 1 ≤ wa0.heap.size) := (YALL.out _ BRA0.out).2.2.2.2.2.1
  have HL0 : Hid ((([] : List FaultM)).length + (stepsF co cs p.len p.num n).length ≤ 100000000) := by
    have a1 := P3.out; have a2 := P2.out; have a3 := ST.out; have a4 := EN.out
    unfold Hid; (try simp only [List.length_append]); (try simp only [List.length_nil]); omega
  clear hown0 hb0 y0 SA CA PA bw0 zz0 zw0
  go_wp2_with (at_builtin; go_must (refine wpList_catF rfl _ _ rfl (w.heap.size + 1) _ (.slice none 0 0) va0 (([] : List FaultM)) (stepsF co cs p.len p.num n) rfl OWN0.out rfl G0.out HBS0.out HL0.out ?_; intro vb0 wb0 hownb0 hbb0; have OWb0 := Hid.mk hownb0; have BRb0 : Hid (Below (w.heap.size + 1) w0 wb0) := BRA0.out.trans hbb0; clear hownb0 hbb0; obtain ⟨y1, SA, CA, PA, bw1, zz1, zw1⟩ := YALL.out wb0 BRb0.out))
  refine (endFaults_any ro co bu cs bc oc m cc fr tt ap n cap p _ (by exact CA) HMN.out hn HB.out (by exact PA)).mono ?_
  rintro e wa1 ⟨va1, rfl, hown1, hb1⟩
  have G1 := Hid.mk hown1
  have OWN1 : Hid (OwnF wa1 (w.heap.size + 1) (vb0) ((([] : List FaultM)) ++ stepsF co cs p.len p.num n)) := OWb0.out.below hb1
  have BRA1 : Hid (Below (w.heap.size + 1) w0 wa1) := BRb0.out.trans (hb1.mono zz1)
  have HBS1 : Hid (w.heap.size + 1 ≤ wa1.heap.size) := (YALL.out _ BRA1.out).2.2.2.2.2.1
  have HL1 : Hid (((([] : List FaultM)) ++ stepsF co cs p.len p.num n).length + (endsF fr tt p.len p.num n).length ≤ 100000000) := by
    have a1 := P3.out; have a2 := P2.out; have a3 := ST.out; have a4 := EN.out
    unfold Hid; (try simp only [List.length_append]); (try simp only [List.length_nil]); omega
  clear hown1 hb1 y1 SA CA PA bw1 zz1 zw1
  go_wp2_with (at_builtin; go_must (refine wpList_catF rfl _ _ rfl (w.heap.size + 1) _ (vb0) va1 ((([] : List FaultM)) ++ stepsF co cs p.len p.num n) (endsF fr tt p.len p.num n) rfl OWN1.out rfl G1.out HBS1.out HL1.out ?_; intro vb1 wb1 hownb1 hbb1; have OWb1 := Hid.mk hownb1; have BRb1 : Hid (Below (w.heap.size + 1) w0 wb1) := BRA1.out.trans hbb1; clear hownb1 hbb1; obtain ⟨y2, SA, CA, PA, bw2, zz2, zw2⟩ := YALL.out wb1 BRb1.out))
  have RES : Hid (OwnF wb1 w.heap.size vb1 (allF 1 co cs fr tt n p.len p.num)) := by
    unfold Hid
    have h := OWb1.out.le (show w.heap.size ≤ w.heap.size + 1 by omega)
    simpa [allF] using h
  have RB : Hid (Below w.heap.size w wb1) := (YALL.out _ BRb1.out).2.2.2.2.1
  go_ret
  exact ⟨vb1, rfl, RES.out, RB.out⟩

set_option maxRecDepth 100000 in
set_option maxHeartbeats 4000000 in
theorem faults_2 (ro co bu : Int) (cs : ByteArray) (bc oc m cc : Nat) (fr tt : Nat → Int) (ap : Option Addr) (n cap : Nat) (p : PlanM) (w : World) (hs : cs.size ≤ 36) (r1 : 1 ≤ ro) (r2 : ro ≤ 6) (h1 : 1 ≤ co) (h2 : co ≤ 6) (hsz : (cs.size : Int) = ro * co) (hsd : SidesIn w)
    (hcs : CartsIn w bc oc m fr tt) (hmn : n = m) (hn : n ≤ 4) (hB : ∀ i, i < n → p.len i ≤ 1048576) (hp : PlanAt w ap n p) :
    Calls Tryd.prog 43 #[.agg #[.int .i64 ro, .int .i64 co, .string cs, .slice (some ⟨bc, oc, none⟩) m cc, .int .i64 bu], .slice ap n cap, .int .i64 2] w fun e w' => ∃ v, e = .returned v ∧ OwnF w' w.heap.size v (allF 2 co cs fr tt n p.len p.num) ∧ Below w.heap.size w w' := by
  have HP := Hid.mk hp
  have HB := Hid.mk hB
  have HCS := Hid.mk hcs
  have HSD := Hid.mk hsd
  have HSZ := Hid.mk hsz
  have P3 := Hid.mk (pairs_all (lvl := 3) (num := p.num) hn hB)
  have P2 := Hid.mk (pairs_all (lvl := 2) (num := p.num) hn hB)
  have ST := Hid.mk (steps_all (co := co) (cs := cs) (num := p.num) hn hB)
  have EN := Hid.mk (ends_all (fr := fr) (tt := tt) (len := p.len) (num := p.num) hn)
  have HMN := Hid.mk hmn
  have hmnI : ((n : Int) != (m : Int)) = false := by simp [hmn]
  clear hp hB hcs hsd hsz hmn
  go_enter Tryd.func43, Tryd.ntmps43
  go_wp2_with fail
  have B0 : Hid (Below w.heap.size w (w.alloc (Obj.cells #[Value.int IntKind.i64 ro, Value.int IntKind.i64 co, Value.string cs, .slice (some ⟨bc, oc, none⟩) m cc, Value.int IntKind.i64 bu] 28))) := (Below.refl _ w).alloc (Nat.le_refl _) _
  have y0 : ∀ o, (w.alloc (Obj.cells #[Value.int IntKind.i64 ro, Value.int IntKind.i64 co, Value.string cs, .slice (some ⟨bc, oc, none⟩) m cc, Value.int IntKind.i64 bu] 28)).cell? ⟨w.heap.size, o, none⟩ = #[Value.int .i64 ro, .int .i64 co, .string cs, .slice (some ⟨bc, oc, none⟩) m cc, .int .i64 bu][o]? := by
    intro o; go_simp
  have hz0 : w.heap.size + 1 = (w.alloc (Obj.cells #[Value.int IntKind.i64 ro, Value.int IntKind.i64 co, Value.string cs, .slice (some ⟨bc, oc, none⟩) m cc, Value.int IntKind.i64 bu] 28)).heap.size := by simp
  generalize (w.alloc (Obj.cells #[Value.int IntKind.i64 ro, Value.int IntKind.i64 co, Value.string cs, .slice (some ⟨bc, oc, none⟩) m cc, Value.int IntKind.i64 bu] 28)) = w0 at *
  have Y0 := Hid.mk y0
  have YALL : Hid (∀ wx, Below (w.heap.size + 1) w0 wx → (∀ o, wx.cell? ⟨w.heap.size, o, none⟩ = #[Value.int .i64 ro, .int .i64 co, .string cs, .slice (some ⟨bc, oc, none⟩) m cc, .int .i64 bu][o]?) ∧ SidesIn wx ∧ CartsIn wx bc oc m fr tt ∧ PlanAt wx ap n p ∧ Below w.heap.size w wx ∧ w.heap.size + 1 ≤ wx.heap.size ∧ w.heap.size < wx.heap.size) := by
    intro wx hb
    have hsz := hb.size
    have hw : Below w.heap.size w wx := B0.out.trans (hb.mono (by omega))
    exact ⟨fun o => (hb.cell (p := ⟨w.heap.size, o, none⟩) (by show w.heap.size < _; omega)).trans (Y0.out o), HSD.out.below hw, HCS.out.below hw, HP.out.below hw, hw, by omega, by omega⟩
  clear y0 hz0
  have OWc : Hid (OwnF w0 (w.heap.size + 1) (.slice none 0 0) []) := OwnF.nil _ _
  have BRc : Hid (Below (w.heap.size + 1) w0 w0) := Below.refl _ _
  obtain ⟨y0, SA, CA, PA, bw0, zz0, zw0⟩ := YALL.out w0 BRc.out
  go_wp2_with fail
  refine (pairFaults_2 ap n cap p _ hn HB.out (by exact PA)).mono ?_
  rintro e wa0 ⟨va0, rfl, hown0, hb0⟩
  have G0 := Hid.mk hown0
  have OWN0 : Hid (OwnF wa0 (w.heap.size + 1) (.slice none 0 0) (([] : List FaultM))) := OWc.out.below hb0
  have BRA0 : Hid (Below (w.heap.size + 1) w0 wa0) := BRc.out.trans (hb0.mono zz0)
  have HBS0 : Hid (w.heap.size + 1 ≤ wa0.heap.size) := (YALL.out _ BRA0.out).2.2.2.2.2.1
  have HL0 : Hid ((([] : List FaultM)).length + (pairsF 2 n p.len p.num n).length ≤ 100000000) := by
    have a1 := P3.out; have a2 := P2.out; have a3 := ST.out; have a4 := EN.out
    unfold Hid; (try simp only [List.length_append]); (try simp only [List.length_nil]); omega
  clear hown0 hb0 y0 SA CA PA bw0 zz0 zw0
  go_wp2_with (at_builtin; go_must (refine wpList_catF rfl _ _ rfl (w.heap.size + 1) _ (.slice none 0 0) va0 (([] : List FaultM)) (pairsF 2 n p.len p.num n) rfl OWN0.out rfl G0.out HBS0.out HL0.out ?_; intro vb0 wb0 hownb0 hbb0; have OWb0 := Hid.mk hownb0; have BRb0 : Hid (Below (w.heap.size + 1) w0 wb0) := BRA0.out.trans hbb0; clear hownb0 hbb0; obtain ⟨y1, SA, CA, PA, bw1, zz1, zw1⟩ := YALL.out wb0 BRb0.out))
  refine (stepFaults_any ro co bu cs _ m cc ap n cap p _ hs r1 r2 h1 h2 HSZ.out (by exact SA) hn HB.out (by exact PA)).mono ?_
  rintro e wa1 ⟨va1, rfl, hown1, hb1⟩
  have G1 := Hid.mk hown1
  have OWN1 : Hid (OwnF wa1 (w.heap.size + 1) (vb0) ((([] : List FaultM)) ++ pairsF 2 n p.len p.num n)) := OWb0.out.below hb1
  have BRA1 : Hid (Below (w.heap.size + 1) w0 wa1) := BRb0.out.trans (hb1.mono zz1)
  have HBS1 : Hid (w.heap.size + 1 ≤ wa1.heap.size) := (YALL.out _ BRA1.out).2.2.2.2.2.1
  have HL1 : Hid (((([] : List FaultM)) ++ pairsF 2 n p.len p.num n).length + (stepsF co cs p.len p.num n).length ≤ 100000000) := by
    have a1 := P3.out; have a2 := P2.out; have a3 := ST.out; have a4 := EN.out
    unfold Hid; (try simp only [List.length_append]); (try simp only [List.length_nil]); omega
  clear hown1 hb1 y1 SA CA PA bw1 zz1 zw1
  go_wp2_with (at_builtin; go_must (refine wpList_catF rfl _ _ rfl (w.heap.size + 1) _ (vb0) va1 ((([] : List FaultM)) ++ pairsF 2 n p.len p.num n) (stepsF co cs p.len p.num n) rfl OWN1.out rfl G1.out HBS1.out HL1.out ?_; intro vb1 wb1 hownb1 hbb1; have OWb1 := Hid.mk hownb1; have BRb1 : Hid (Below (w.heap.size + 1) w0 wb1) := BRA1.out.trans hbb1; clear hownb1 hbb1; obtain ⟨y2, SA, CA, PA, bw2, zz2, zw2⟩ := YALL.out wb1 BRb1.out))
  refine (endFaults_any ro co bu cs bc oc m cc fr tt ap n cap p _ (by exact CA) HMN.out hn HB.out (by exact PA)).mono ?_
  rintro e wa2 ⟨va2, rfl, hown2, hb2⟩
  have G2 := Hid.mk hown2
  have OWN2 : Hid (OwnF wa2 (w.heap.size + 1) (vb1) (((([] : List FaultM)) ++ pairsF 2 n p.len p.num n) ++ stepsF co cs p.len p.num n)) := OWb1.out.below hb2
  have BRA2 : Hid (Below (w.heap.size + 1) w0 wa2) := BRb1.out.trans (hb2.mono zz2)
  have HBS2 : Hid (w.heap.size + 1 ≤ wa2.heap.size) := (YALL.out _ BRA2.out).2.2.2.2.2.1
  have HL2 : Hid ((((([] : List FaultM)) ++ pairsF 2 n p.len p.num n) ++ stepsF co cs p.len p.num n).length + (endsF fr tt p.len p.num n).length ≤ 100000000) := by
    have a1 := P3.out; have a2 := P2.out; have a3 := ST.out; have a4 := EN.out
    unfold Hid; (try simp only [List.length_append]); (try simp only [List.length_nil]); omega
  clear hown2 hb2 y2 SA CA PA bw2 zz2 zw2
  go_wp2_with (at_builtin; go_must (refine wpList_catF rfl _ _ rfl (w.heap.size + 1) _ (vb1) va2 (((([] : List FaultM)) ++ pairsF 2 n p.len p.num n) ++ stepsF co cs p.len p.num n) (endsF fr tt p.len p.num n) rfl OWN2.out rfl G2.out HBS2.out HL2.out ?_; intro vb2 wb2 hownb2 hbb2; have OWb2 := Hid.mk hownb2; have BRb2 : Hid (Below (w.heap.size + 1) w0 wb2) := BRA2.out.trans hbb2; clear hownb2 hbb2; obtain ⟨y3, SA, CA, PA, bw3, zz3, zw3⟩ := YALL.out wb2 BRb2.out))
  have RES : Hid (OwnF wb2 w.heap.size vb2 (allF 2 co cs fr tt n p.len p.num)) := by
    unfold Hid
    have h := OWb2.out.le (show w.heap.size ≤ w.heap.size + 1 by omega)
    simpa [allF] using h
  have RB : Hid (Below w.heap.size w wb2) := (YALL.out _ BRb2.out).2.2.2.2.1
  go_ret
  exact ⟨vb2, rfl, RES.out, RB.out⟩

set_option maxRecDepth 100000 in
set_option maxHeartbeats 4000000 in
theorem faults_3 (ro co bu : Int) (cs : ByteArray) (bc oc m cc : Nat) (fr tt : Nat → Int) (ap : Option Addr) (n cap : Nat) (p : PlanM) (w : World) (hs : cs.size ≤ 36) (r1 : 1 ≤ ro) (r2 : ro ≤ 6) (h1 : 1 ≤ co) (h2 : co ≤ 6) (hsz : (cs.size : Int) = ro * co) (hsd : SidesIn w)
    (hcs : CartsIn w bc oc m fr tt) (hmn : n = m) (hn : n ≤ 4) (hB : ∀ i, i < n → p.len i ≤ 1048576) (hp : PlanAt w ap n p) :
    Calls Tryd.prog 43 #[.agg #[.int .i64 ro, .int .i64 co, .string cs, .slice (some ⟨bc, oc, none⟩) m cc, .int .i64 bu], .slice ap n cap, .int .i64 3] w fun e w' => ∃ v, e = .returned v ∧ OwnF w' w.heap.size v (allF 3 co cs fr tt n p.len p.num) ∧ Below w.heap.size w w' := by
  have HP := Hid.mk hp
  have HB := Hid.mk hB
  have HCS := Hid.mk hcs
  have HSD := Hid.mk hsd
  have HSZ := Hid.mk hsz
  have P3 := Hid.mk (pairs_all (lvl := 3) (num := p.num) hn hB)
  have P2 := Hid.mk (pairs_all (lvl := 2) (num := p.num) hn hB)
  have ST := Hid.mk (steps_all (co := co) (cs := cs) (num := p.num) hn hB)
  have EN := Hid.mk (ends_all (fr := fr) (tt := tt) (len := p.len) (num := p.num) hn)
  have HMN := Hid.mk hmn
  have hmnI : ((n : Int) != (m : Int)) = false := by simp [hmn]
  clear hp hB hcs hsd hsz hmn
  go_enter Tryd.func43, Tryd.ntmps43
  go_wp2_with fail
  have B0 : Hid (Below w.heap.size w (w.alloc (Obj.cells #[Value.int IntKind.i64 ro, Value.int IntKind.i64 co, Value.string cs, .slice (some ⟨bc, oc, none⟩) m cc, Value.int IntKind.i64 bu] 28))) := (Below.refl _ w).alloc (Nat.le_refl _) _
  have y0 : ∀ o, (w.alloc (Obj.cells #[Value.int IntKind.i64 ro, Value.int IntKind.i64 co, Value.string cs, .slice (some ⟨bc, oc, none⟩) m cc, Value.int IntKind.i64 bu] 28)).cell? ⟨w.heap.size, o, none⟩ = #[Value.int .i64 ro, .int .i64 co, .string cs, .slice (some ⟨bc, oc, none⟩) m cc, .int .i64 bu][o]? := by
    intro o; go_simp
  have hz0 : w.heap.size + 1 = (w.alloc (Obj.cells #[Value.int IntKind.i64 ro, Value.int IntKind.i64 co, Value.string cs, .slice (some ⟨bc, oc, none⟩) m cc, Value.int IntKind.i64 bu] 28)).heap.size := by simp
  generalize (w.alloc (Obj.cells #[Value.int IntKind.i64 ro, Value.int IntKind.i64 co, Value.string cs, .slice (some ⟨bc, oc, none⟩) m cc, Value.int IntKind.i64 bu] 28)) = w0 at *
  have Y0 := Hid.mk y0
  have YALL : Hid (∀ wx, Below (w.heap.size + 1) w0 wx → (∀ o, wx.cell? ⟨w.heap.size, o, none⟩ = #[Value.int .i64 ro, .int .i64 co, .string cs, .slice (some ⟨bc, oc, none⟩) m cc, .int .i64 bu][o]?) ∧ SidesIn wx ∧ CartsIn wx bc oc m fr tt ∧ PlanAt wx ap n p ∧ Below w.heap.size w wx ∧ w.heap.size + 1 ≤ wx.heap.size ∧ w.heap.size < wx.heap.size) := by
    intro wx hb
    have hsz := hb.size
    have hw : Below w.heap.size w wx := B0.out.trans (hb.mono (by omega))
    exact ⟨fun o => (hb.cell (p := ⟨w.heap.size, o, none⟩) (by show w.heap.size < _; omega)).trans (Y0.out o), HSD.out.below hw, HCS.out.below hw, HP.out.below hw, hw, by omega, by omega⟩
  clear y0 hz0
  have OWc : Hid (OwnF w0 (w.heap.size + 1) (.slice none 0 0) []) := OwnF.nil _ _
  have BRc : Hid (Below (w.heap.size + 1) w0 w0) := Below.refl _ _
  obtain ⟨y0, SA, CA, PA, bw0, zz0, zw0⟩ := YALL.out w0 BRc.out
  go_wp2_with fail
  refine (pairFaults_3 ap n cap p _ hn HB.out (by exact PA)).mono ?_
  rintro e wa0 ⟨va0, rfl, hown0, hb0⟩
  have G0 := Hid.mk hown0
  have OWN0 : Hid (OwnF wa0 (w.heap.size + 1) (.slice none 0 0) (([] : List FaultM))) := OWc.out.below hb0
  have BRA0 : Hid (Below (w.heap.size + 1) w0 wa0) := BRc.out.trans (hb0.mono zz0)
  have HBS0 : Hid (w.heap.size + 1 ≤ wa0.heap.size) := (YALL.out _ BRA0.out).2.2.2.2.2.1
  have HL0 : Hid ((([] : List FaultM)).length + (pairsF 3 n p.len p.num n).length ≤ 100000000) := by
    have a1 := P3.out; have a2 := P2.out; have a3 := ST.out; have a4 := EN.out
    unfold Hid; (try simp only [List.length_append]); (try simp only [List.length_nil]); omega
  clear hown0 hb0 y0 SA CA PA bw0 zz0 zw0
  go_wp2_with (at_builtin; go_must (refine wpList_catF rfl _ _ rfl (w.heap.size + 1) _ (.slice none 0 0) va0 (([] : List FaultM)) (pairsF 3 n p.len p.num n) rfl OWN0.out rfl G0.out HBS0.out HL0.out ?_; intro vb0 wb0 hownb0 hbb0; have OWb0 := Hid.mk hownb0; have BRb0 : Hid (Below (w.heap.size + 1) w0 wb0) := BRA0.out.trans hbb0; clear hownb0 hbb0; obtain ⟨y1, SA, CA, PA, bw1, zz1, zw1⟩ := YALL.out wb0 BRb0.out))
  refine (pairFaults_2 ap n cap p _ hn HB.out (by exact PA)).mono ?_
  rintro e wa1 ⟨va1, rfl, hown1, hb1⟩
  have G1 := Hid.mk hown1
  have OWN1 : Hid (OwnF wa1 (w.heap.size + 1) (vb0) ((([] : List FaultM)) ++ pairsF 3 n p.len p.num n)) := OWb0.out.below hb1
  have BRA1 : Hid (Below (w.heap.size + 1) w0 wa1) := BRb0.out.trans (hb1.mono zz1)
  have HBS1 : Hid (w.heap.size + 1 ≤ wa1.heap.size) := (YALL.out _ BRA1.out).2.2.2.2.2.1
  have HL1 : Hid (((([] : List FaultM)) ++ pairsF 3 n p.len p.num n).length + (pairsF 2 n p.len p.num n).length ≤ 100000000) := by
    have a1 := P3.out; have a2 := P2.out; have a3 := ST.out; have a4 := EN.out
    unfold Hid; (try simp only [List.length_append]); (try simp only [List.length_nil]); omega
  clear hown1 hb1 y1 SA CA PA bw1 zz1 zw1
  go_wp2_with (at_builtin; go_must (refine wpList_catF rfl _ _ rfl (w.heap.size + 1) _ (vb0) va1 ((([] : List FaultM)) ++ pairsF 3 n p.len p.num n) (pairsF 2 n p.len p.num n) rfl OWN1.out rfl G1.out HBS1.out HL1.out ?_; intro vb1 wb1 hownb1 hbb1; have OWb1 := Hid.mk hownb1; have BRb1 : Hid (Below (w.heap.size + 1) w0 wb1) := BRA1.out.trans hbb1; clear hownb1 hbb1; obtain ⟨y2, SA, CA, PA, bw2, zz2, zw2⟩ := YALL.out wb1 BRb1.out))
  refine (stepFaults_any ro co bu cs _ m cc ap n cap p _ hs r1 r2 h1 h2 HSZ.out (by exact SA) hn HB.out (by exact PA)).mono ?_
  rintro e wa2 ⟨va2, rfl, hown2, hb2⟩
  have G2 := Hid.mk hown2
  have OWN2 : Hid (OwnF wa2 (w.heap.size + 1) (vb1) (((([] : List FaultM)) ++ pairsF 3 n p.len p.num n) ++ pairsF 2 n p.len p.num n)) := OWb1.out.below hb2
  have BRA2 : Hid (Below (w.heap.size + 1) w0 wa2) := BRb1.out.trans (hb2.mono zz2)
  have HBS2 : Hid (w.heap.size + 1 ≤ wa2.heap.size) := (YALL.out _ BRA2.out).2.2.2.2.2.1
  have HL2 : Hid ((((([] : List FaultM)) ++ pairsF 3 n p.len p.num n) ++ pairsF 2 n p.len p.num n).length + (stepsF co cs p.len p.num n).length ≤ 100000000) := by
    have a1 := P3.out; have a2 := P2.out; have a3 := ST.out; have a4 := EN.out
    unfold Hid; (try simp only [List.length_append]); (try simp only [List.length_nil]); omega
  clear hown2 hb2 y2 SA CA PA bw2 zz2 zw2
  go_wp2_with (at_builtin; go_must (refine wpList_catF rfl _ _ rfl (w.heap.size + 1) _ (vb1) va2 (((([] : List FaultM)) ++ pairsF 3 n p.len p.num n) ++ pairsF 2 n p.len p.num n) (stepsF co cs p.len p.num n) rfl OWN2.out rfl G2.out HBS2.out HL2.out ?_; intro vb2 wb2 hownb2 hbb2; have OWb2 := Hid.mk hownb2; have BRb2 : Hid (Below (w.heap.size + 1) w0 wb2) := BRA2.out.trans hbb2; clear hownb2 hbb2; obtain ⟨y3, SA, CA, PA, bw3, zz3, zw3⟩ := YALL.out wb2 BRb2.out))
  refine (endFaults_any ro co bu cs bc oc m cc fr tt ap n cap p _ (by exact CA) HMN.out hn HB.out (by exact PA)).mono ?_
  rintro e wa3 ⟨va3, rfl, hown3, hb3⟩
  have G3 := Hid.mk hown3
  have OWN3 : Hid (OwnF wa3 (w.heap.size + 1) (vb2) ((((([] : List FaultM)) ++ pairsF 3 n p.len p.num n) ++ pairsF 2 n p.len p.num n) ++ stepsF co cs p.len p.num n)) := OWb2.out.below hb3
  have BRA3 : Hid (Below (w.heap.size + 1) w0 wa3) := BRb2.out.trans (hb3.mono zz3)
  have HBS3 : Hid (w.heap.size + 1 ≤ wa3.heap.size) := (YALL.out _ BRA3.out).2.2.2.2.2.1
  have HL3 : Hid (((((([] : List FaultM)) ++ pairsF 3 n p.len p.num n) ++ pairsF 2 n p.len p.num n) ++ stepsF co cs p.len p.num n).length + (endsF fr tt p.len p.num n).length ≤ 100000000) := by
    have a1 := P3.out; have a2 := P2.out; have a3 := ST.out; have a4 := EN.out
    unfold Hid; (try simp only [List.length_append]); (try simp only [List.length_nil]); omega
  clear hown3 hb3 y3 SA CA PA bw3 zz3 zw3
  go_wp2_with (at_builtin; go_must (refine wpList_catF rfl _ _ rfl (w.heap.size + 1) _ (vb2) va3 ((((([] : List FaultM)) ++ pairsF 3 n p.len p.num n) ++ pairsF 2 n p.len p.num n) ++ stepsF co cs p.len p.num n) (endsF fr tt p.len p.num n) rfl OWN3.out rfl G3.out HBS3.out HL3.out ?_; intro vb3 wb3 hownb3 hbb3; have OWb3 := Hid.mk hownb3; have BRb3 : Hid (Below (w.heap.size + 1) w0 wb3) := BRA3.out.trans hbb3; clear hownb3 hbb3; obtain ⟨y4, SA, CA, PA, bw4, zz4, zw4⟩ := YALL.out wb3 BRb3.out))
  have RES : Hid (OwnF wb3 w.heap.size vb3 (allF 3 co cs fr tt n p.len p.num)) := by
    unfold Hid
    have h := OWb3.out.le (show w.heap.size ≤ w.heap.size + 1 by omega)
    simpa [allF] using h
  have RB : Hid (Below w.heap.size w wb3) := (YALL.out _ BRb3.out).2.2.2.2.1
  go_ret
  exact ⟨vb3, rfl, RES.out, RB.out⟩

end Go.Proofs.YtnkgpinadgacgabDoor
