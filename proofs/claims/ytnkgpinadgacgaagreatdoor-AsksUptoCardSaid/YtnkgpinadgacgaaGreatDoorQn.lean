/- Ud, Ue, Uf, Ug. -/
import Derived.Test.YtnkgpinadgacgaaGreatDoorQm
import Derived.Test.YtnkgpinadgacgaaGreatDoorQh
import Derived.Laws.OwnMore
set_option maxRecDepth 1000000
set_option maxHeartbeats 1000000
namespace Go.Proofs.YtnkgpinadgacgaaGreatDoor
section
open Go.RowKit Go.Deep M
theorem goes_small {x y : TX.Sc} {c : UInt8} {M : Nat} (h : TX.goesS x c = some y) (hm : SmallS x M) : SmallS y (M + 1) := by
 obtain ⟨h1, h2, h3, h4⟩ := hm; have dig : ∀ z : TX.Sc, z.at_ = x.at_ -> z.wide = x.wide -> z.count = x.count -> z.digs = x.digs -> TX.digitS z c = some y -> SmallS y (M + 1) := by
  intro z e1 e2 e3 e4 hd; unfold TX.digitS at hd; by_cases hq : TX.isDig c = false ∨ z.nought = true ∨ 4 < z.digs
  . rw [if_pos hq] at hd; cases hd
  . rw [if_neg hq] at hd; cases hd; refine ⟨?_, ?_, ?_, ?_⟩
    . show z.at_ <= _; omega
    . show z.wide <= _; omega
    . show z.count <= _; omega
    . show z.digs + 1 <= 5; have : ¬ 4 < z.digs := fun h => hq (.inr (.inr h))
      omega
 unfold TX.goesS at h; by_cases p0 : x.part = 0
 . rw [if_pos p0] at h; unfold TX.firstS at h; by_cases q1 : x.at_ < 5
   . rw [if_pos q1] at h; by_cases q2 : TX.headB[x.at_]? = some c
     . rw [if_pos q2] at h; cases h; exact ⟨by show x.at_ + 1 <= _; omega, by show x.wide <= _; omega, h3, h4⟩
     . rw [if_neg q2] at h; cases h
   . rw [if_neg q1] at h; by_cases q2 : c = 10 ∧ 0 < x.digs
     . rw [if_pos q2] at h; cases h; exact ⟨Nat.zero_le _, by show x.wide <= _; omega, by show 0 <= 3; omega, by show 0 <= 5; omega⟩
     . rw [if_neg q2] at h; exact dig x rfl rfl rfl rfl h
 . rw [if_neg p0] at h; by_cases p1 : x.part = 1
   . rw [if_pos p1] at h; unfold TX.rowS at h; by_cases q1 : TX.isCell c = true
     . rw [if_pos q1] at h; by_cases q2 : x.wide = 0 ∨ x.at_ + 1 <= x.wide
       . rw [if_pos q2] at h; cases h; exact ⟨by show x.at_ + 1 <= _; omega, by show x.wide <= _; omega, h3, h4⟩
       . rw [if_neg q2] at h; cases h
     . rw [if_neg q1] at h; by_cases q2 : c = 10
       . rw [if_pos q2] at h; by_cases q3 : 0 < x.at_ ∧ (x.wide = 0 ∨ x.at_ = x.wide)
         . rw [if_pos q3] at h; cases h; exact ⟨Nat.zero_le _, by show x.at_ <= _; omega, by show 0 <= 3; omega, by show 0 <= 5; omega⟩
         . rw [if_neg q3] at h; cases h
       . rw [if_neg q2] at h; by_cases q3 : 0 < x.at_ ∨ x.wide = 0
         . rw [if_pos q3] at h; cases h
         . rw [if_neg q3] at h; exact dig { x with part := 2 } rfl rfl rfl rfl h
   . rw [if_neg p1] at h; unfold TX.cartS at h; by_cases q1 : c = 32 ∧ 0 < x.digs ∧ x.count < 3
     . rw [if_pos q1] at h; cases h; exact ⟨by show x.at_ <= _; omega, by show x.wide <= _; omega, by show x.count + 1 <= 3; omega, by show 0 <= 5; omega⟩
     . rw [if_neg q1] at h; by_cases q2 : c = 10 ∧ 0 < x.digs ∧ x.count = 3
       . rw [if_pos q2] at h; cases h; exact ⟨Nat.zero_le _, by show x.wide <= _; omega, by show 0 <= 3; omega, by show 0 <= 5; omega⟩
       . rw [if_neg q2] at h; exact dig x rfl rfl rfl rfl h
theorem xgoes_any (b M : Nat) (x : TX.Sc) (c : UInt8) (w : World) (hM : M <= 4000000) (hm : SmallS x M) (h : Box w b (scV x)) :
 Calls Tryz.prog 54 #[.pointer (some ⟨b, 0, none⟩), .int .u8 (c.toNat : Int)] w fun e w' =>
  e = .returned (.bool (TX.goesS x c).isSome) ∧ (∀ y, TX.goesS x c = some y -> Box w' b (scV y)) ∧ Only (fun x => x = b) w w' := by
 have c0 := h.c 0; have fz := h.fz; simp only [scV, List.getElem?_toArray, List.getElem?_cons_zero] at c0; have F1 : Hid _ := zx (xfirst_any b M x c w hM hm h); have F2 : Hid _ := zx (xrow_any b M x c w hM hm h); have F3 : Hid _ := zx (xcart_any b M x c w hM hm h); clear h hm; go_enter Tryz.func54, Tryz.ntmps54; by_cases p0 : x.part = 0
 . have e0 : (((x.part : Nat) : Int) == 0) = true := by simp; omega
   rw [TX.goes0 p0]; clear p0; go_wp2_with fail; refine F1.out.mono ?_; rintro e w1 ⟨rfl, hb1, ho1⟩; have B1 := zx hb1; have O1 := zx ho1; clear hb1 ho1; go_wp2; go_ret; exact ⟨rfl, B1.out, O1.out⟩
 . have e0 : (((x.part : Nat) : Int) == 0) = false := by simp; omega
   by_cases p1 : x.part = 1
   . have e1 : (((x.part : Nat) : Int) == 1) = true := by simp; omega
     rw [TX.goes1 p1]; clear p1; go_wp2_with fail; refine F2.out.mono ?_; rintro e w1 ⟨rfl, hb1, ho1⟩; have B1 := zx hb1; have O1 := zx ho1; clear hb1 ho1; go_wp2; go_ret; exact ⟨rfl, B1.out, O1.out⟩
   . have e1 : (((x.part : Nat) : Int) == 1) = false := by simp; omega
     have hg : TX.goesS x c = TX.cartS x c := by
      unfold TX.goesS; rw [if_neg p0, if_neg p1]
     rw [hg]; clear hg p0 p1; go_wp2_with fail; refine F3.out.mono ?_; rintro e w1 ⟨rfl, hb1, ho1⟩; have B1 := zx hb1; have O1 := zx ho1; clear hb1 ho1; go_wp2; go_ret; exact ⟨rfl, B1.out, O1.out⟩
def placeI (s : ByteArray) : Int := if (TX.runS ⟨0, 0, 0, 0, 0, false⟩ (restS s 0)).2 then -1 else ((s.size - (TX.runS ⟨0, 0, 0, 0, 0, false⟩ (restS s 0)).1.length : Nat) : Int)
theorem place_no {s : ByteArray} {j : Nat} (h : TX.runS ⟨0, 0, 0, 0, 0, false⟩ (restS s 0) = (restS s j, false)) (hj : j <= s.size) : placeI s = (j : Int) := by
 unfold placeI; rw [h, rest_len]; show ((s.size - (s.size - j) : Nat) : Int) = _; omega
theorem place_any (s : ByteArray) (w : World) (hs : s.size <= 2000000) :
 Calls Tryz.prog 26 #[.string s] w fun e w' => e = .returned (.int .i64 (placeI s)) ∧ Below w.heap.size w w' := by
 go_enter Tryz.func26, Tryz.ntmps26; have B1 : Hid (Box (w.alloc (.cells #[.int .i64 0, .int .i64 0, .int .i64 0, .int .i64 0, .int .i64 0, .bool false] 124)) w.heap.size (scV ⟨0, 0, 0, 0, 0, false⟩)) := zx (box_new _ _); have O1 : Hid (Only (fun x => w.heap.size <= x) w (w.alloc (.cells #[.int .i64 0, .int .i64 0, .int .i64 0, .int .i64 0, .int .i64 0, .bool false] 124))) := zx ((Only.refl _ w).alloc _); go_wp2
 go_loopw [4, 5] (fun sj ok wr => ∃ (j : Nat) (x : TX.Sc), sj = .int .i64 j ∧ j <= s.size ∧ Box wr w.heap.size (scV x) ∧ SmallS x j ∧ TX.runS ⟨0, 0, 0, 0, 0, false⟩ (restS s 0) = TX.runS x (restS s j) ∧ Only (fun x => w.heap.size <= x) w wr) (fun sj _ _ => s.size - (intOf sj).toNat)
 case atStart => exact ⟨0, _, rfl, Nat.zero_le _, B1.out, ⟨Nat.zero_le _, Nat.zero_le _, Nat.zero_le _, Nat.zero_le _⟩, rfl, O1.out⟩
 case round =>
  obtain ⟨j, x, rfl, hj, hb, hm, hr, ho⟩ := hrel; have HB := zx hb; have HM := zx hm; have HR := zx hr; have HO := zx ho; have c0 := hb.c 0; have c3 := hb.c 3; have c4 := hb.c 4; simp only [scV, List.getElem?_toArray, List.getElem?_cons_zero, List.getElem?_cons_succ] at c0 c3 c4; clear hb hm hr ho; by_cases hlt : j < s.size
  . have e1 : decide ((j : Int) < (s.size : Int)) = true := by simp; omega
    have CG : Hid _ := zx (xgoes_any w.heap.size j x s[j] wr (by omega) HM.out HB.out); have hrun : TX.runS ⟨0, 0, 0, 0, 0, false⟩ (restS s 0) = match TX.goesS x s[j] with
     | some y => TX.runS y (restS s (j + 1))
     | none => (restS s j, false) := by
     rw [HR.out, rest_cons hlt]; rfl
    have HRUN := zx hrun; clear hrun c0 c3 c4; go_wp2_with fail; refine CG.out.mono ?_; rintro e w1 ⟨rfl, hb1, ho1⟩; have OO : Hid (Only (fun x => w.heap.size <= x) w w1) := zx (HO.out.trans ho1 (fun k _ h => by subst h; exact zl)); obtain ⟨o, hgo⟩ : ∃ o, TX.goesS x s[j] = o := ⟨_, rfl⟩
    have HG := zx hgo; rw [hgo] at hb1 ⊢; have RU := HRUN.out; rw [hgo] at RU; have HRU := zx RU; clear RU hgo ho1; cases o with
    | none =>
      clear hb1; go_wp2; go_ret; exact ⟨by rw [place_no HRU.out hj]; rfl, OO.out.below zl (fun _ h => h)⟩
    | some y =>
      have B2 := zx (hb1 y rfl); have S2 := zx (goes_small HG.out HM.out); clear hb1; go_wp2; go_round
      case rel => exact ⟨j + 1, y, by go_num, hlt, B2.out, S2.out, HRU.out, OO.out⟩
      case measure => simp [intOf]; omega
  . have e1 : decide ((j : Int) < (s.size : Int)) = false := by simp; omega
    have hrun : TX.runS ⟨0, 0, 0, 0, 0, false⟩ (restS s 0) = (restS s s.size, TX.doneS x) := by
     rw [HR.out, rest_nil (by omega), rest_nil zl]; rfl
    have HRUN := zx hrun; clear hrun; have no : TX.doneS x = false -> ((.returned (.int .i64 (s.size : Int)) : Ending) = .returned (.int .i64 (placeI s))) ∧ Below w.heap.size w wr := fun h => by
     rw [place_no (by rw [HRUN.out, h]) zl]; exact ⟨rfl, HO.out.below zl (fun _ h => h)⟩
    have NO := zx no; clear no; by_cases p2 : x.part < 2
    . have e2 : decide (((x.part : Nat) : Int) < 2) = true := by simp; omega
      have hd : TX.doneS x = false := decide_eq_false (fun h => absurd h.1 (by omega)); have HD := zx hd; clear hd; go_wp2; go_ret; exact NO.out HD.out
    . have e2 : decide (((x.part : Nat) : Int) < 2) = false := by simp; omega
      by_cases p3 : 0 < x.digs
      . have e3 : decide (0 < ((x.digs : Nat) : Int)) = true := by simp; omega
        have hd : TX.doneS x = false := decide_eq_false (fun h => absurd h.2.1 (by omega)); have HD := zx hd; clear hd; go_wp2; go_ret; exact NO.out HD.out
      . have e3 : decide (0 < ((x.digs : Nat) : Int)) = false := by simp; omega
        by_cases p4 : 0 < x.count
        . have e4 : decide (0 < ((x.count : Nat) : Int)) = true := by simp; omega
          have hd : TX.doneS x = false := decide_eq_false (fun h => absurd h.2.2 (by omega)); have HD := zx hd; clear hd; go_wp2; go_ret; exact NO.out HD.out
        . have e4 : decide (0 < ((x.count : Nat) : Int)) = false := by simp; omega
          have hd : TX.doneS x = true := decide_eq_true ⟨by omega, by omega, by omega⟩; have HP : Hid (placeI s = -1) := zx (by unfold placeI; rw [HRUN.out, hd]; rfl); clear hd; go_wp2; go_ret; exact ⟨by rw [HP.out]; rfl, HO.out.below zl (fun _ h => h)⟩
theorem place_read (s : ByteArray) : placeI s = match (TX.readT s.data.toList).2 with
 | some _ => -1
 | none => ((s.size - (TX.readT s.data.toList).1.length : Nat) : Int) := by
 have e : restS s 0 = s.data.toList := rfl; unfold placeI; rw [e, TX.look_read]; cases (TX.readT s.data.toList).2 <;> rfl
end
section
open Go.RowKit Go.Deep M
theorem Tryz.infoStr : (Tryz.prog.info? 9).map (fun i => (i.zero, i.size, i.bytes)) = some (some (.string ⟨#[]⟩), 1, 16) := by kernel_rfl
theorem Tryz.strElem : Tryz.prog.underlying 22 = some (.slice 9) := by kernel_rfl
def linesB (s : ByteArray) : Nat -> List ByteArray × Nat
 | 0 => ([], 0)
 | k + 1 => if h : k < s.size then (if s[k] = 10 then ((linesB s k).1 ++ [s.extract (linesB s k).2 k], k + 1) else linesB s k) else linesB s k
theorem linesB_nl {s : ByteArray} {k : Nat} (h : k < s.size) (h1 : s[k] = 10) : linesB s (k + 1) = ((linesB s k).1 ++ [s.extract (linesB s k).2 k], k + 1) := by
 rw [linesB, dif_pos h, if_pos h1]
theorem linesB_no {s : ByteArray} {k : Nat} (h : k < s.size) (h1 : ¬ s[k] = 10) : linesB s (k + 1) = linesB s k := by
 rw [linesB, dif_pos h, if_neg h1]
theorem linesB_le (s : ByteArray) : ∀ k, (linesB s k).1.length <= k ∧ (linesB s k).2 <= k
 | 0 => ⟨zl, zl⟩
 | k + 1 => by
   have ih := linesB_le s k; by_cases h : k < s.size
   . by_cases h1 : s[k] = 10
     . rw [linesB_nl h h1]; exact ⟨by simp; omega, zl⟩
     . rw [linesB_no h h1]; omega
   . rw [linesB, dif_neg h]; omega
def strs (L : List ByteArray) : List Value := L.map .string
theorem lines_any (s : ByteArray) (w : World) (hs : s.size <= 2000000) :
 Calls Tryz.prog 27 #[.string s] w fun e w' => ∃ v, e = .returned v ∧ w'.ownsRow w.heap.size 9 1 v (linesB s s.size).1.length (strs (linesB s s.size).1) ∧ Below w.heap.size w w' := by
 go_enter Tryz.func27, Tryz.ntmps27; go_wp2; go_loopw [3, 4, 5] (fun v sa si wr => ∃ k : Nat, k <= s.size ∧ si = .int .i64 k ∧ sa = .int .i64 ((linesB s k).2 : Int) ∧ wr.ownsRow w.heap.size 9 1 v (linesB s k).1.length (strs (linesB s k).1) ∧ Below w.heap.size w wr) (fun _ _ si _ => s.size - (intOf si).toNat)
 case atStart => exact ⟨0, Nat.zero_le _, rfl, rfl, own_nil _ _ _, Below.refl _ _⟩
 case round =>
  obtain ⟨k, hk, rfl, rfl, hown, hbr⟩ := hrel; obtain ⟨hle, hat⟩ := linesB_le s k; have hszr := hbr.size; have HO := zx hown; have HB := zx hbr; clear hown hbr; by_cases hlt : k < s.size
  . have e1 : decide ((k : Int) < (s.size : Int)) = true := by simp; omega
    by_cases hn : s[k] = 10
    . have e2 : (((s[k].toNat : Nat) : Int) == 10) = true := byte_eq (d := 10) hn; have E3 := zx (linesB_nl hlt hn); clear hn; go_wp2_with (at_builtin; go_must (refine wpList_push rfl _ _ 22 rfl w.heap.size 9 _ _ Tryz.strElem Tryz.infoStr rfl _ _ _ rfl (by exact own_below HO.out ((Below.refl _ _).alloc zl _)) _ _ (.string (s.extract (linesB s k).2 k)) rfl (by go_simp) rfl (by unfold maxLen; omega) (by omega) (by simp; omega) ?_))
      intro g cap w3 ho3 hg3; have hb3 := zx (grown_below (own_below HO.out ((Below.refl _ _).alloc zl _)) hg3 (by simp; omega)); have HO3 := zx ho3; clear ho3 hg3; go_wp2; go_roundw; case rel => exact ⟨k + 1, by omega, by go_num, by rw [E3.out]; go_num, by rw [E3.out]; simpa [strs] using HO3.out, HB.out.trans (((Below.refl _ _).alloc (by omega) _).trans hb3.out)⟩
      case measure => simp [intOf]; omega
    . have e2 : (((s[k].toNat : Nat) : Int) == 10) = false := byte_ne (d := 10) hn; have E3 := zx (linesB_no hlt hn); clear hn; go_wp2; go_roundw; case rel => exact ⟨k + 1, by omega, by go_num, by rw [E3.out], by rw [E3.out]; exact HO.out, HB.out⟩
      case measure => simp [intOf]; omega
  . have e1 : decide ((k : Int) < (s.size : Int)) = false := by simp; omega
    have hd : Hid (k = s.size) := by show k = s.size; omega
    go_wp2; go_ret; exact ⟨_, rfl, by rw [<- hd.out]; exact HO.out, HB.out⟩
theorem xcell_any (ro co r c : Nat) (cs ca bu : Value) (w : World) (hr : r <= 2000000) (hc : c <= 2000000) (hco : co <= 2000000) :
 Calls Tryz.prog 29 #[.agg #[.int .i64 ro, .int .i64 co, cs, ca, bu], .int .i64 r, .int .i64 c] w fun e w' =>
  e = .returned (.int .i64 (TX.atF ro co r c)) ∧ Below w.heap.size w w' := by
 go_enter Tryz.func29, Tryz.ntmps29; have hB0 : Hid (∀ o, Below w.heap.size w (w.alloc o)) := zx fun o => (Below.refl _ w).alloc zl o
 have hmul : r * co <= 2000000 * 2000000 := Nat.mul_le_mul hr hco; by_cases h1 : r < ro
 . have e1 : decide ((ro : Int) <= (r : Int)) = false := by simp; omega
   by_cases h2 : c < co
   . have e2 : decide ((co : Int) <= (c : Int)) = false := by simp; omega
     have hf : TX.atF ro co r c = ((r * co + c : Nat) : Int) := if_pos ⟨h1, h2⟩; have HF := zx hf; clear hf; have m1 : (r : Int) * (co : Int) <= 4000000000000 := by
      rw [<- Int.natCast_mul]; omega
     have m2 : 0 <= (r : Int) * (co : Int) := by
      rw [<- Int.natCast_mul]; omega
     go_wp2; go_ret; exact ⟨by rw [HF.out, Int.natCast_add, Int.natCast_mul]; rfl, hB0.out _⟩
   . have e2 : decide ((co : Int) <= (c : Int)) = true := by simp; omega
     have hf : TX.atF ro co r c = -1 := if_neg (fun h => h2 h.2); have HF := zx hf; clear hf; go_wp2; go_ret; exact ⟨by rw [HF.out]; rfl, hB0.out _⟩
 . have e1 : decide ((ro : Int) <= (r : Int)) = true := by simp; omega
   have hf : TX.atF ro co r c = -1 := if_neg (fun h => h1 h.1); have HF := zx hf; clear hf; go_wp2; go_ret; exact ⟨by rw [HF.out]; rfl, hB0.out _⟩
end
section
open Go.RowKit Go.Deep M
def numF (acc : List Nat) (b : UInt8) : List Nat := if b = 32 then acc ++ [0] else acc.set (acc.length - 1) (10 * acc.getD (acc.length - 1) 0 + (b.toNat - 48))
def numsB (s : ByteArray) (k : Nat) : List Nat := (s.data.toList.take k).foldl numF [0]
theorem numsB_succ {s : ByteArray} {k : Nat} (h : k < s.size) : numsB s (k + 1) = numF (numsB s k) s[k] := by
 unfold numsB; have h' : k < s.data.toList.length := by rw [Array.length_toList]; exact h
 rw [List.take_succ_eq_append_getElem h', List.foldl_append]; rfl
theorem numF_pos {acc : List Nat} (h : 1 <= acc.length) (b : UInt8) : 1 <= (numF acc b).length ∧ (numF acc b).length <= acc.length + 1 := by
 unfold numF; by_cases hb : b = 32
 . rw [if_pos hb]; simp
 . rw [if_neg hb, List.length_set]; omega
theorem numsB_len (s : ByteArray) : ∀ k, k <= s.size -> 1 <= (numsB s k).length ∧ (numsB s k).length <= k + 1
 | 0, _ => ⟨zl, zl⟩
 | k + 1, h => by
   have ih := numsB_len s k (by omega); have h2 := numF_pos ih.1 (s[k]'h); rw [numsB_succ h]; omega
def numLV (L : List Nat) : List Value := L.map fun n : Nat => Value.int .i64 n
theorem numbers_any (s : ByteArray) (w : World) (hs : s.size <= 2000000) (hd : ∀ i (h : i < s.size), s[i] = 32 ∨ TX.isDig s[i] = true) (hB : ∀ k, k <= s.size -> ∀ n ∈ numsB s k, n <= 1000000) :
 Calls Tryz.prog 28 #[.string s] w fun e w' => ∃ g cap, e = .returned (.slice (some ⟨g, 0, none⟩) (numsB s s.size).length cap) ∧ w'.ownsRow w.heap.size 3 1 (.slice (some ⟨g, 0, none⟩) (numsB s s.size).length cap) (numsB s s.size).length (numLV (numsB s s.size)) ∧ Below w.heap.size w w' := by
 go_enter Tryz.func28, Tryz.ntmps28; have HD := zx hd; have HBD := zx hB; clear hd hB; have hown0 : (w.alloc (.cells #[.int .i64 0] 3)).ownsRow w.heap.size 3 1 (.slice (some ⟨w.heap.size, 0, none⟩) 1 1) 1 [.int .i64 0] := own_built w _ _ _ rfl; have HO0 := zx hown0; have B0 := zx ((Below.refl _ w).alloc zl (.cells #[.int .i64 0] 3)); clear hown0; go_wp2
 go_loopw [3, 4, 5] (fun v si _ wr => ∃ (k g cap : Nat), k <= s.size ∧ si = .int .i64 k ∧ v = .slice (some ⟨g, 0, none⟩) (numsB s k).length cap ∧ wr.ownsRow w.heap.size 3 1 (.slice (some ⟨g, 0, none⟩) (numsB s k).length cap) (numsB s k).length (numLV (numsB s k)) ∧ Below w.heap.size w wr) (fun _ si _ _ => s.size - (intOf si).toNat)
 case atStart => exact ⟨0, w.heap.size, 1, Nat.zero_le _, rfl, rfl, HO0.out, B0.out⟩
 case round =>
  obtain ⟨k, g, cap, hk, rfl, rfl, hown, hbr⟩ := hrel; obtain ⟨hl1, hl2⟩ := numsB_len s k hk; have hszr := hbr.size; have hcap := own_cap hown; have hgl := own_lt hown; have HO := zx hown; have HB := zx hbr; by_cases hlt : k < s.size
  . have e1 : decide ((k : Int) < (s.size : Int)) = true := by simp; omega
    have hsucc := numsB_succ hlt; have hlen2 := numF_pos hl1 s[k]; by_cases hn : s[k] = 32
    . have e2 : (((s[k].toNat : Nat) : Int) == 32) = true := byte_eq (d := 32) hn; have hF : numsB s (k + 1) = numsB s k ++ [0] := by
       rw [hsucc]; unfold numF; rw [if_pos hn]
      have E3 := zx hF; clear hn hF hsucc hlen2 hown hbr; go_wp2_with (at_builtin; go_must (refine wpList_push rfl _ _ 23 rfl w.heap.size 3 _ _ Tryz.underlying23 Tryz.infoInt rfl _ _ _ rfl (by exact own_below HO.out ((Below.refl _ _).alloc zl _)) _ _ (.int .i64 0) rfl (by go_simp) rfl (by unfold maxLen; omega) (by omega) (by simp; omega) ?_))
      intro g3 cap3 w3 ho3 hg3; have hb3 := zx (grown_below (own_below HO.out ((Below.refl _ _).alloc zl _)) hg3 (by simp; omega)); have HO3 := zx ho3; clear ho3 hg3; go_wp2; go_roundw; case rel => exact ⟨k + 1, g3, cap3, by omega, by go_num, by rw [E3.out, List.length_append]; rfl, by rw [E3.out]; simpa [numLV] using HO3.out, HB.out.trans (((Below.refl _ _).alloc (by omega) _).trans hb3.out)⟩
      case measure => simp [intOf]; omega
    . have e2 : (((s[k].toNat : Nat) : Int) == 32) = false := byte_ne (d := 32) hn; have hdig : TX.isDig s[k] = true := (HD.out k hlt).resolve_left hn; obtain ⟨hlo, hhi⟩ := TX.isDig_lo hdig; have hF : numsB s (k + 1) = (numsB s k).set ((numsB s k).length - 1) (10 * (numsB s k).getD ((numsB s k).length - 1) 0 + (s[k].toNat - 48)) := by
       rw [hsucc]; unfold numF; rw [if_neg hn]
      have E3 := zx hF; have hLlt : (numsB s k).length - 1 < (numsB s k).length := by omega
      have hLi : ((numsB s k).length : Int) - 1 = (((numsB s k).length - 1 : Nat) : Int) := by omega
      obtain ⟨q, hq⟩ : ∃ q, q = (numsB s k).getD ((numsB s k).length - 1) 0 := ⟨_, rfl⟩
      have hq2 : q = (numsB s k)[(numsB s k).length - 1] := by
       rw [hq, zg, List.getElem?_eq_getElem hLlt]; rfl
      have hqb : q <= 1000000 := by
       rw [hq2]; exact HBD.out k hk _ (List.getElem_mem _)
      have hcell : wr.cell? ⟨g, (numsB s k).length - 1, none⟩ = some (.int .i64 q) := by
       rw [own_cell hown hLlt]; unfold numLV; rw [List.getElem?_map, List.getElem?_eq_getElem hLlt, hq2]; rfl
      have hfr : wr.frozen? ⟨g, (numsB s k).length - 1, none⟩ = false := own_frozen hown _; have hLcap : (numsB s k).length - 1 < cap := by omega
      have hdel : ((s[k].toNat : Nat) : Int) - 48 = ((s[k].toNat - 48 : Nat) : Int) := by omega
      have HQ := zx hq; clear hn hF hsucc hlen2 hown hbr hq hq2; go_wp2; go_region
      go_wp2; go_roundw; case rel =>
       refine ⟨k + 1, g, cap, hlt, by go_num, by rw [E3.out, List.length_set], ?_, (HB.out.setCell (p := ⟨g, _, none⟩) hgl.1 _).drew⟩; have h1 := (HO.out.stored ((numsB s k).length - 1) (.int .i64 (10 * (q : Int) + ((s[k].toNat - 48 : Nat) : Int)))).1; rw [E3.out, List.length_set, <- HQ.out]; have e : numLV ((numsB s k).set ((numsB s k).length - 1) (10 * q + (s[k].toNat - 48))) = (numLV (numsB s k)).set ((numsB s k).length - 1) (.int .i64 (10 * (q : Int) + ((s[k].toNat - 48 : Nat) : Int))) := by
        unfold numLV; rw [List.map_set]; simp
       rw [e]; exact h1
      case measure => simp [intOf]; omega
  . have e1 : decide ((k : Int) < (s.size : Int)) = false := by simp; omega
    have hd : Hid (k = s.size) := by show k = s.size; omega
    clear hown hbr; go_wp2; go_ret; exact ⟨g, cap, by rw [<- hd.out]; rfl, by rw [<- hd.out]; exact HO.out, HB.out⟩
end
section
namespace TX
open Go.Lib
def numF' (acc : List Nat) (b : UInt8) : List Nat := if b = 32 then acc ++ [0] else acc.set (acc.length - 1) (10 * acc.getD (acc.length - 1) 0 + (b.toNat - 48))
theorem numF_dig (acc : List Nat) (v : Nat) {b : UInt8} (h : isDig b = true) : numF' (acc ++ [v]) b = acc ++ [stepD v b] := by
 unfold numF'; rw [if_neg (dig_not10 h).2]; have e1 : (acc ++ [v]).length - 1 = acc.length := by simp
 rw [e1, List.getD_eq_getElem?_getD, List.getElem?_append_right (Nat.le_refl _), Nat.sub_self]; rw [List.set_append_right _ _ (Nat.le_refl _), Nat.sub_self]; rfl
theorem numF_sp (acc : List Nat) : numF' acc 32 = acc ++ [0] := if_pos rfl
theorem digs_fold : ∀ (ds : List UInt8) (acc : List Nat) (v : Nat), (∀ b ∈ ds, isDig b = true) -> ds.foldl numF' (acc ++ [v]) = acc ++ [ds.foldl stepD v]
 | [], _, _, _ => rfl
 | b :: ds, acc, v, h => by
   rw [List.foldl_cons, List.foldl_cons, numF_dig acc v (h b (by simp))]; exact digs_fold ds acc _ fun x hx => h x (by simp [hx])
theorem dec_digs (n : Nat) : (∀ b ∈ decDigits n, isDig b = true) ∧ (decDigits n).foldl stepD 0 = n := by
 by_cases hn : n = 0
 . subst hn; rw [decDigits_one (by omega)]; exact ⟨fun b hb => by rw [List.mem_singleton.1 hb]; exact (isDig_of (d := 0) (by omega)).1, by rfl⟩
 . obtain ⟨d, ds, h1, h2, h3, h4, h5⟩ := dec_parts n (by omega); have hd := isDig_of (d := d) (by omega); rw [h3]; refine ⟨fun b hb => ?_, ?_⟩
   . rcases List.mem_cons.1 hb with rfl | hb
     . exact hd.1
     . exact h4 b hb
   . rw [List.foldl_cons]; have e : stepD 0 (UInt8.ofNat (48 + d)) = d := by
      unfold stepD; rw [hd.2]; omega
     rw [e, h5]
theorem prefix_le (ds : List UInt8) (v k : Nat) : (ds.take k).foldl stepD v <= ds.foldl stepD v := by
 have h := fold_ge (ds.drop k) ((ds.take k).foldl stepD v); rw [<- List.foldl_append, List.take_append_drop] at h; exact h
theorem dec_prefix (n k : Nat) (acc : List Nat) : ∀ x ∈ ((decDigits n).take k).foldl numF' (acc ++ [0]), x ∈ acc ∨ x <= n := by
 intro x hx; obtain ⟨h1, h2⟩ := dec_digs n; rw [digs_fold _ acc 0 (fun b hb => h1 b (List.mem_of_mem_take hb))] at hx; rcases List.mem_append.1 hx with hx | hx
 . exact .inl hx
 . rw [List.mem_singleton.1 hx]; have := prefix_le (decDigits n) 0 k; rw [h2] at this; exact .inr this
theorem sep_fold : ∀ (ns : List Nat) (acc : List Nat), ns ≠ [] -> (sep ns).foldl numF' (acc ++ [0]) = acc ++ ns
 | [], _, h => absurd rfl h
 | [n], acc, _ => by
   show (decDigits n).foldl numF' (acc ++ [0]) = _; rw [digs_fold _ acc 0 (dec_digs n).1, (dec_digs n).2]
 | n :: m :: r, acc, _ => by
   show (decDigits n ++ 32 :: sep (m :: r)).foldl numF' (acc ++ [0]) = _; rw [List.foldl_append, digs_fold _ acc 0 (dec_digs n).1, (dec_digs n).2, List.foldl_cons, numF_sp, sep_fold (m :: r) (acc ++ [n]) (by simp)]; simp
theorem sep_prefix {M : Nat} : ∀ (ns : List Nat) (acc : List Nat) (k : Nat), (∀ n ∈ ns, n <= M) -> ∀ x ∈ ((sep ns).take k).foldl numF' (acc ++ [0]), x ∈ acc ∨ x <= M
 | [], acc, k, _, x, hx => by
   rw [show sep [] = [] from rfl, List.take_nil] at hx; rcases List.mem_append.1 hx with h | h
   . exact .inl h
   . rw [List.mem_singleton.1 h]; exact .inr (Nat.zero_le _)
 | [n], acc, k, h, x, hx => (dec_prefix n k acc x hx).elim .inl fun h' => .inr (Nat.le_trans h' (h n (by simp)))
 | n :: m :: r, acc, k, h, x, hx => by
   have e : sep (n :: m :: r) = decDigits n ++ 32 :: sep (m :: r) := rfl; rw [e, List.take_append] at hx; by_cases hk : k <= (decDigits n).length
   . rw [show k - (decDigits n).length = 0 by omega, List.take_zero, List.append_nil] at hx; exact (dec_prefix n k acc x hx).elim .inl fun h' => .inr (Nat.le_trans h' (h n (by simp)))
   . obtain ⟨j, hj⟩ : ∃ j, k - (decDigits n).length = j + 1 := ⟨k - (decDigits n).length - 1, by omega⟩
     rw [hj, List.take_of_length_le (by omega), List.take_succ_cons, List.foldl_append, digs_fold _ acc 0 (dec_digs n).1, (dec_digs n).2, List.foldl_cons, numF_sp] at hx; rcases sep_prefix (m :: r) (acc ++ [n]) j (fun y hy => h y (by simp [hy])) x hx with h' | h'
     . rcases List.mem_append.1 h' with h' | h'
       . exact .inl h'
       . rw [List.mem_singleton.1 h']; exact .inr (h n (by simp))
     . exact .inr h'
theorem sep_bytes : ∀ (ns : List Nat), ∀ b ∈ sep ns, b = 32 ∨ isDig b = true
 | [], b, h => by cases h
 | [n], b, h => .inr ((dec_digs n).1 b h)
 | n :: m :: r, b, h => by
   rcases List.mem_append.1 (show b ∈ decDigits n ++ 32 :: sep (m :: r) from h) with h | h
   . exact .inr ((dec_digs n).1 b h)
   . rcases List.mem_cons.1 h with h | h
     . exact .inl h
     . exact sep_bytes (m :: r) b h
def splitF (st : List (List UInt8) × List UInt8) (b : UInt8) : List (List UInt8) × List UInt8 := if b = 10 then (st.1 ++ [st.2], []) else (st.1, st.2 ++ [b])
def linesT (ls : List (List UInt8)) : List UInt8 := ls.flatMap (· ++ [10])
theorem split_line : ∀ (l : List UInt8) (L : List (List UInt8)) (cur : List UInt8), (∀ b ∈ l, b ≠ 10) -> l.foldl splitF (L, cur) = (L, cur ++ l)
 | [], L, cur, _ => by simp
 | b :: l, L, cur, h => by
   rw [List.foldl_cons]; have e : splitF (L, cur) b = (L, cur ++ [b]) := if_neg (h b (by simp)); rw [e, split_line l L _ fun x hx => h x (by simp [hx])]; simp
theorem split_lines : ∀ (ls : List (List UInt8)) (L : List (List UInt8)), (∀ l ∈ ls, ∀ b ∈ l, b ≠ 10) -> (linesT ls).foldl splitF (L, []) = (L ++ ls, [])
 | [], L, _ => by simp [linesT]
 | l :: ls, L, h => by
   have e : linesT (l :: ls) = l ++ (10 :: linesT ls) := by simp [linesT]
   rw [e, List.foldl_append, split_line l L [] (h l (by simp)), List.foldl_cons]; have e2 : splitF (L, [] ++ l) 10 = (L ++ [l], []) := if_pos rfl; rw [e2, split_lines ls (L ++ [l]) fun x hx => h x (by simp [hx])]; simp
abbrev Quad := Nat × Nat × Nat × Nat
def quadL (q : Quad) : List Nat := [q.1, q.2.1, q.2.2.1, q.2.2.2]
def quadC (R C : Nat) (q : Quad) : Int × Int := (atF R C q.1 q.2.1, atF R C q.2.2.1 q.2.2.2)
def SmallQ (q : Quad) : Prop := ∀ n ∈ quadL q, n <= 99999
theorem cart_form {R C : Nat} {l r : List UInt8} {v : Int × Int} (h : cartP R C l = (r, some v)) : ∃ q : Quad, SmallQ q ∧ l = sep (quadL q) ++ 10 :: r ∧ v = quadC R C q := by
 unfold cartP at h; obtain ⟨a, l1, h1, h⟩ := andP_some h; obtain ⟨l2, h2, h⟩ := okP_some h; obtain ⟨b, l3, h3, h⟩ := andP_some h; obtain ⟨l4, h4, h⟩ := okP_some h; obtain ⟨c, l5, h5, h⟩ := andP_some h; obtain ⟨l6, h6, h⟩ := okP_some h; obtain ⟨d, l7, h7, h⟩ := andP_some h; obtain ⟨l8, h8, h⟩ := okP_some h; cases h; have n1 := number_form h1; have n3 := number_form h3; have n5 := number_form h5; have n7 := number_form h7; refine ⟨(a, b, c, d), ?_, ?_, rfl⟩
 . intro n hn; simp only [quadL, List.mem_cons, List.not_mem_nil, or_false] at hn; rcases hn with rfl | rfl | rfl | rfl
   . exact n1.2
   . exact n3.2
   . exact n5.2
   . exact n7.2
 . rw [n1.1, take_form h2, n3.1, take_form h4, n5.1, take_form h6, n7.1, take_form h8]; simp [quadL, sep]
theorem carts_quads (R C : Nat) : ∀ (f : Nat) (l : List UInt8) (acc : List (Int × Int)) {r : List UInt8} {acc' : List (Int × Int)}, l.length < f -> cartsP R C f l acc = (r, some acc') ->
 acc' ≠ [] ∧ ∃ qs : List Quad, (∀ q ∈ qs, SmallQ q) ∧ l = linesT (qs.map fun q => sep (quadL q)) ∧ acc' = acc ++ qs.map (quadC R C)
 | 0, _, _, _, _, hf, _ => by omega
 | f + 1, l, acc, r, acc', hf, h => by
   have h' : (if acc ≠ [] ∧ l = [] then (l, some acc) else andP (cartP R C l) fun c l1 => cartsP R C f l1 (acc ++ [c])) = (r, some acc') := h; by_cases hd : acc ≠ [] ∧ l = []
   . rw [if_pos hd] at h'; cases h'
     exact ⟨hd.1, [], by simp, by rw [hd.2]; rfl, by simp⟩
   . rw [if_neg hd] at h'; obtain ⟨v, l1, h1, h2⟩ := andP_some h'; obtain ⟨q, e0, e1, e2⟩ := cart_form h1; have hlen := cart_less h1; obtain ⟨hne, qs, g0, g1, g2⟩ := carts_quads R C f l1 _ (by omega) h2; refine ⟨hne, q :: qs, ?_, ?_, ?_⟩
     . intro x hx; rcases List.mem_cons.1 hx with rfl | hx
       . exact e0
       . exact g0 x hx
     . rw [e1, g1]; simp [linesT]
     . rw [g2, e2]; simp
theorem rows_read {l r cs : List UInt8} {n C : Nat} (h : rowsP l = (r, some (cs, n, C))) : ∃ rows : List (List UInt8), rows ≠ [] ∧ 1 <= C ∧ (∀ row ∈ rows, RowC C row) ∧ l = linesT rows ++ r ∧ cs = rows.flatten ∧ n = rows.length := by
 unfold rowsP at h; obtain ⟨c1, _, c3, _⟩ := cellsP_form l.length l; by_cases hn : (cellsP l.length l).1 = []
 . rw [if_pos hn] at h; cases h
 . rw [if_neg hn] at h; have hpos : 0 < (cellsP l.length l).1.length := List.length_pos_iff.2 hn; obtain ⟨l1, h1, h⟩ := okP_some h; obtain ⟨a, l2, h2, h⟩ := andP_some h; obtain ⟨cs', n'⟩ := a; cases h; obtain ⟨rows, g1, g2, g3, g4⟩ := rows_form _ _ _ _ _ h2; refine ⟨(cellsP l.length l).1 :: rows, by simp, hpos, ?_, ?_, ?_, ?_⟩
   . intro row hrow; rcases List.mem_cons.1 hrow with rfl | hrow
     . exact ⟨rfl, c3⟩
     . exact g2 row hrow
   . have e : linesT ((cellsP l.length l).1 :: rows) = (cellsP l.length l).1 ++ 10 :: rowsT rows := by simp [linesT, rowsT]
     rw [e, List.append_assoc, List.cons_append, <- g1, <- take_form h1, <- c1]
   . rw [g3]; simp
   . rw [g4]; simp; omega
theorem text_form {l r : List UInt8} {t : Told} (h : readT l = (r, some t)) : ∃ (rows : List (List UInt8)) (qs : List Quad), t.U <= 99999 ∧ rows ≠ [] ∧ 1 <= t.C ∧ (∀ row ∈ rows, RowC t.C row) ∧ qs ≠ [] ∧ (∀ q ∈ qs, SmallQ q) ∧
 l = linesT ((headB ++ decDigits t.U) :: (rows ++ qs.map fun q => sep (quadL q))) ∧ t.R = rows.length ∧ t.cs = rows.flatten ∧ t.carts = qs.map (quadC t.R t.C) := by
 unfold readT at h; obtain ⟨u, l1, h1, h⟩ := andP_some h; obtain ⟨q, l2, h2, h⟩ := andP_some h; obtain ⟨cs, l3, h3, h⟩ := andP_some h; cases h; obtain ⟨c, n, C⟩ := q; obtain ⟨rows, g1, g2, g3, g4, g5, g6⟩ := rows_read h2; obtain ⟨hne, qs, k1, k2, k3⟩ := carts_quads n C _ _ _ (Nat.lt_succ_self _) h3; unfold budgetP at h1; obtain ⟨m1, m2, h1⟩ := okP_some h1; obtain ⟨u', m3, m4, h1⟩ := andP_some h1; obtain ⟨m5, m6, h1⟩ := okP_some h1; cases h1; have hu := number_form m4; refine ⟨rows, qs, hu.2, g1, g2, g3, ?_, k1, ?_, g6, g5, by rw [k3]; rfl⟩
 . rintro rfl; exact hne (by rw [k3]; rfl)
 . rw [takes_form m2, hu.1, take_form m6, g4, k2]; simp [linesT]
end TX
end
end Go.Proofs.YtnkgpinadgacgaaGreatDoor
