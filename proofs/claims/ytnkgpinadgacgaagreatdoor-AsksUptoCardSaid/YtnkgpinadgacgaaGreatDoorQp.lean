/- Ui. -/
import Derived.Test.YtnkgpinadgacgaaGreatDoorQo
import Derived.Test.YtnkgpinadgacgaaGreatDoorQj
set_option maxRecDepth 1000000
set_option maxHeartbeats 1000000
namespace Go.Proofs.YtnkgpinadgacgaaGreatDoor
section
open Go.RowKit Go.Shelf Go.Deep M
theorem ls_no10 {U C : Nat} {rows : List (List UInt8)} {qs : List TX.Quad} (hr : ∀ row ∈ rows, TX.RowC C row) : ∀ l ∈ (TX.headB ++ Lib.decDigits U) :: (rows ++ qs.map fun q => TX.sep (TX.quadL q)), ∀ b ∈ l, b ≠ 10 := by
 intro l hl b hb; rcases List.mem_cons.1 hl with rfl | hl
 . rcases List.mem_append.1 hb with hb | hb
   . simp only [TX.headB, List.mem_cons, List.not_mem_nil, or_false] at hb; rcases hb with rfl | rfl | rfl | rfl | rfl <;> decide
   . exact (TX.dig_not10 ((TX.dec_digs U).1 b hb)).1
 . rcases List.mem_append.1 hl with hl | hl
   . exact TX.cell_not10 ((hr l hl).2 b hb)
   . obtain ⟨q, _, rfl⟩ := List.mem_map.1 hl; rcases TX.sep_bytes _ b hb with rfl | hb
     . decide
     . exact (TX.dig_not10 hb).1
theorem line_at {L : List ByteArray} {ls : List (List UInt8)} (h : L.map (·.data.toList) = ls) : L.length = ls.length ∧ ∀ j, j < L.length -> (L.getD j ⟨#[]⟩).data.toList = ls.getD j [] := by
 subst h; refine ⟨by rw [List.length_map], fun j hj => ?_⟩; rw [zg, zg, List.getElem?_map, List.getElem?_eq_getElem hj]; rfl
theorem strs_open {w : World} {base n : Nat} {v : Value} {L : List ByteArray} (h : w.ownsRow base 9 1 v n (strs L)) (hn : 0 < n) (hl : L.length = n) : ∃ g cap, v = .slice (some ⟨g, 0, none⟩) n cap ∧ base <= g ∧ g < w.heap.size ∧ n <= cap ∧ ∀ j, j < n -> w.cell? ⟨g, j, none⟩ = some (.string (L.getD j ⟨#[]⟩)) := by
 rcases h.2 with ⟨_, h0⟩ | ⟨g, cap, cur, hv, hg, hh, hc, _⟩
 . omega
 . subst hv; have hlt := own_lt h; refine ⟨g, cap, rfl, hg, hlt.2, hc, fun j hj => ?_⟩; rw [own_cell h hj]; unfold strs; rw [List.getElem?_map, List.getElem?_eq_getElem (by omega), zg, List.getElem?_eq_getElem (by omega)]; rfl
def cqL (R C : Nat) (qs : List TX.Quad) (m : Nat) : List (Int × Int) := (qs.take m).map (TX.quadC R C)
def RIn (U C R : Nat) (rows : List (List UInt8)) (qs : List TX.Quad) (w2 wr : World) (j : Nat) : Prop :=
 ∃ v, Box wr w2.heap.size #[.int .i64 ((min j rows.length : Nat) : Int), .int .i64 ((if j = 0 then 0 else C : Nat) : Int), .string ⟨(rows.take j).flatten.toArray⟩, v, .int .i64 U] ∧
  wr.ownsRow (w2.heap.size + 1) 75 2 v (j - rows.length) (cartCells (frL (cqL R C qs (j - rows.length))) (ttL (cqL R C qs (j - rows.length))) (j - rows.length)) ∧ Below w2.heap.size w2 wr
theorem bytes_push (A : List UInt8) (F : ByteArray) : (⟨A.toArray⟩ : ByteArray) ++ F = ⟨(A ++ F.data.toList).toArray⟩ := by
 apply ByteArray.ext
 rw [ByteArray.data_append]; apply Array.ext'
 simp
theorem take_flat {rows : List (List UInt8)} {j : Nat} (h : j < rows.length) : (rows.take (j + 1)).flatten = (rows.take j).flatten ++ rows[j] ∧ ((rows.take j).flatten ++ rows[j]).length <= rows.flatten.length := by
 have e : (rows.take (j + 1)).flatten = (rows.take j).flatten ++ rows[j] := by
  rw [List.take_succ_eq_append_getElem h, List.flatten_append]; simp
 refine ⟨e, ?_⟩; rw [<- e]; have h2 : rows.flatten = (rows.take (j + 1)).flatten ++ (rows.drop (j + 1)).flatten := by rw [<- List.flatten_append, List.take_append_drop]
 rw [h2, List.length_append]; omega
theorem box_drew {w : World} {b : Nat} {v : Array Value} (h : Box w b v) : Box w.drew b v := ⟨h.c, h.fz, h.lt⟩
theorem sep4_len {q : TX.Quad} (h : TX.SmallQ q) : (TX.sep (TX.quadL q)).length <= 23 := by
 have h1 := TX.dec_len5 (h q.1 (by simp [TX.quadL])); have h2 := TX.dec_len5 (h q.2.1 (by simp [TX.quadL])); have h3 := TX.dec_len5 (h q.2.2.1 (by simp [TX.quadL])); have h4 := TX.dec_len5 (h q.2.2.2 (by simp [TX.quadL])); simp only [TX.quadL, TX.sep, List.length_append, List.length_cons]; omega
theorem sep4_first {q : TX.Quad} {F : ByteArray} (h : F.data.toList = TX.sep (TX.quadL q)) : ∃ h0 : 0 < F.size, TX.isDig F[0] = true := by
 have hne : 0 < (Lib.decDigits q.1).length := by
  rw [Lib.decDigits_length]; exact Lib.nDigits_pos _
 have hd := (TX.dec_digs q.1).1; have hl := congrArg List.length h; rw [Array.length_toList] at hl; have e : TX.sep (TX.quadL q) = Lib.decDigits q.1 ++ 32 :: TX.sep [q.2.1, q.2.2.1, q.2.2.2] := rfl; have h0 : 0 < F.size := by
  rw [e, List.length_append] at hl; show 0 < F.data.size; omega
 refine ⟨h0, ?_⟩; have h1 : F[0] = F.data.toList[0]'(by rw [Array.length_toList]; exact h0) := rfl; rw [h1]; have h2 : F.data.toList[0]'(by rw [Array.length_toList]; exact h0) = (Lib.decDigits q.1)[0] := by
  have : F.data.toList[0]? = (Lib.decDigits q.1)[0]? := by rw [h, e, List.getElem?_append_left hne]
  rw [List.getElem?_eq_getElem (by rw [Array.length_toList]; exact h0), List.getElem?_eq_getElem hne] at this; exact Option.some.inj this
 rw [h2]; exact hd _ (List.getElem_mem hne)
theorem cell_two_new0 (w : World) (x y : Value) (t : TypeId) : ∀ j u, [x, y][j]? = some u -> (w.alloc (.cells #[x, y] t)).cell? ((⟨w.heap.size, 0, none⟩ : Addr).add j) = some u := by
 intro j u h; match j, h with
 | 0, h => simp at h; subst h; simp [Addr.add]
 | 1, h => simp at h; subst h; simp [Addr.add]
 | j + 2, h => simp at h
theorem own_lt' {w : World} {base n sz : Nat} {e : TypeId} {g cap : Nat} {xs : List Value} (h : w.ownsRow base e sz (.slice (some ⟨g, 0, none⟩) n cap) n xs) : base <= g ∧ g < w.heap.size := h.lt g rfl
theorem own_cap' {w : World} {base n sz : Nat} {e : TypeId} {g cap : Nat} {xs : List Value} (h : w.ownsRow base e sz (.slice (some ⟨g, 0, none⟩) n cap) n xs) : n <= cap := by
 rcases h.2 with ⟨h0, _⟩ | ⟨g', cap', cur, hv, _, _, hn, _⟩
 . cases h0
 . cases hv; exact hn
theorem wpList_pushC {w0 : World} {ops : Array Oper} {rest : List Oper} {o : Oper} {a : Act} {Q : Exit -> Act -> World -> Prop} (hgd : o.guard = none) (s x : Operand)
 (ho : o.op = .call { callee := .builtin .append, args := #[s, x], argTypes := #[32, 32] })
 (base n : Nat) (v : Value) (F : List Value) (p q : Int) (hs : a.eval s = v) (hown : w0.ownsRow base 75 2 v n F) (hbase : base <= w0.heap.size) (c : Nat)
 (hx : a.eval x = .slice (some ⟨w0.heap.size, 0, none⟩) 1 c) (hF : n <= 100000000)
 (h : ∀ g cap w', w'.ownsRow base 75 2 (.slice (some ⟨g, 0, none⟩) (n + 1) cap) (n + 1) (F ++ [.int .i64 p, .int .i64 q]) -> Below base w0 w' -> wpList Tryz.prog ops Q rest (a.put o.dst (.slice (some ⟨g, 0, none⟩) (n + 1) cap)) w') :
 wpList Tryz.prog ops Q (o :: rest) a (w0.alloc (.cells #[.int .i64 p, .int .i64 q] 75)) := by
 obtain ⟨i0, hi0, hi1, hi2, hi3⟩ := info_parts Tryz.infoCartT; have hown1 := own_later hown ((Below.refl _ w0).alloc zl (.cells #[.int .i64 p, .int .i64 q] 75)); refine wpList_append_lies _ hgd s x _ ho base 75 i0 _ 2 16 Tryz.underlying32 hi0 hi1 hi2 hi3 rfl (by omega) v n F hs hown1 _ 1 c [.int .i64 p, .int .i64 q] hx rfl (cell_two_new0 w0 _ _ _) (two_oneCell _ _) (by omega) (by unfold maxLen; omega) (by omega) (by simp; omega) (w0.heap.size + 1) (by simp) ?_; intro g cap w' ho9 hg9 _ _
 exact h g cap w' ho9 (((Below.refl base w0).alloc hbase _).grown hg9 (by simp; omega) (fun k hk => (hown1.lt k hk).1))
theorem xread_any (s : ByteArray) (w : World) (hs : s.size <= 2000000) :
 Calls Tryz.prog 12 #[.string s] w fun e w' => Below w.heap.size w w' ∧
  ((∃ (t : TX.Told) (g cap : Nat), TX.readT s.data.toList = ([], some t) ∧ (chkT t).1 = 0 ∧ e = .returned (.tuple #[yardV t g cap, .int .i64 0, .int .i64 0]) ∧ CartsIn w' g 0 t.carts.length (frL t.carts) (ttL t.carts) ∧ w.heap.size <= g ∧ t.carts.length <= cap ∧ t.carts.length <= s.size) ∨
   (∃ t : TX.Told, TX.readT s.data.toList = ([], some t) ∧ (chkT t).1 ≠ 0 ∧ e = .returned (.tuple #[yard0, .int .i64 (chkT t).1, .int .i64 (chkT t).2])) ∨
   ((TX.readT s.data.toList).2 = none ∧ e = .returned (.tuple #[yard0, .int .i64 11, .int .i64 (placeI s)]))) := by
 have hsl : s.data.toList.length = s.size := by rw [Array.length_toList]; rfl
 obtain ⟨l, o, hro⟩ : ∃ l o, TX.readT s.data.toList = (l, o) := ⟨_, _, rfl⟩
 have hpl := place_read s; rw [hro] at hpl; go_enter Tryz.func12, Tryz.ntmps12; have Z1 : Hid (Box (w.alloc (.cells #[.int .i64 0, .int .i64 0, .string ⟨#[]⟩, .slice none 0 0, .int .i64 0] 34)) w.heap.size #[.int .i64 0, .int .i64 0, .string ⟨#[]⟩, .slice none 0 0, .int .i64 0]) := box_new _ _; have O1 : Hid (Only (fun x => w.heap.size <= x) w (w.alloc (.cells #[.int .i64 0, .int .i64 0, .string ⟨#[]⟩, .slice none 0 0, .int .i64 0] 34))) := (Only.refl _ w).alloc _
 have hz1 : (w.alloc (.cells #[.int .i64 0, .int .i64 0, .string ⟨#[]⟩, .slice none 0 0, .int .i64 0] 34)).heap.size = w.heap.size + 1 := by simp
 have HB : Hid (∀ (o : Nat) (v : Value) (u : World), Only (fun x => w.heap.size <= x) w u -> Only (fun x => w.heap.size <= x) w (u.setCell ⟨w.heap.size, o, none⟩ v)) := fun o v u h => Only.setCell (S := fun x => w.heap.size <= x) h (p := ⟨w.heap.size, o, none⟩) (fun _ => zl) v
 have HRO := zx hro; clear hro; go_wp2_with fail; refine (place_any s _ hs).mono ?_; rintro e w1 ⟨rfl, hb1⟩; generalize (w.alloc (.cells #[.int .i64 0, .int .i64 0, .string ⟨#[]⟩, .slice none 0 0, .int .i64 0] 34)) = w0 at *; have Z2 := zx (Z1.out.belowB hb1 (by omega)); have O2 : Hid (Only (fun x => w.heap.size <= x) w w1) := O1.out.trans (Only.of_below (S := fun _ => False) hb1) (fun _ _ h => h.elim); have hz2 : w0.heap.size <= w1.heap.size := hb1.size; clear hb1; cases o with
 | none =>
   have hpos : 0 <= placeI s := by rw [hpl]; show (0 : Int) <= ((s.size - l.length : Nat) : Int); omega
   have hle : placeI s <= 2000000 := by rw [hpl]; show ((s.size - l.length : Nat) : Int) <= _; omega
   obtain ⟨p, hp⟩ : ∃ p, p = placeI s := ⟨_, rfl⟩
   rw [<- hp] at hpos hle ⊢; have HP := zx hp; clear hp hpl; have e1 : decide (0 <= p) = true := by simp; omega
   have fz := Z2.out.fz; have z0 := Z2.out.c 0; have z1 := Z2.out.c 1; have z2 := Z2.out.c 2; have z3 := Z2.out.c 3; have z4 := Z2.out.c 4; simp only [zA, zB, zC] at z0 z1 z2 z3 z4; have hlt : w.heap.size < w1.heap.size := Z2.out.lt; go_wp2
   refine bodyPost_ret (results_cell_tmp3 Tryz.results12 _ _ _ (b := w.heap.size) (o := 0) rfl (load_yard ((((((Z2.out).set (i := 0) (x := .int .i64 0) (by simp) (v' := #[.int .i64 0, .int .i64 0, .string ⟨#[]⟩, .slice none 0 0, .int .i64 0]) rfl).set (i := 1) (x := .int .i64 0) (by simp) (v' := #[.int .i64 0, .int .i64 0, .string ⟨#[]⟩, .slice none 0 0, .int .i64 0]) rfl).set (i := 2) (x := .string ⟨#[]⟩) (by simp) (v' := #[.int .i64 0, .int .i64 0, .string ⟨#[]⟩, .slice none 0 0, .int .i64 0]) rfl).set (i := 3) (x := .slice none 0 0) (by simp) (v' := #[.int .i64 0, .int .i64 0, .string ⟨#[]⟩, .slice none 0 0, .int .i64 0]) rfl).set (i := 4) (x := .int .i64 0) (by simp) (v' := #[.int .i64 0, .int .i64 0, .string ⟨#[]⟩, .slice none 0 0, .int .i64 0]) rfl))) rfl ⟨?_, .inr (.inr ⟨by rw [HRO.out], by rw [<- HP.out]; rfl⟩)⟩
   exact (HB.out _ _ _ (HB.out _ _ _ (HB.out _ _ _ (HB.out _ _ _ (HB.out _ _ _ O2.out))))).below zl (fun _ h => h)
 | some t =>
   have hp : placeI s = -1 := hpl; rw [hp]; clear hpl hp; obtain ⟨rows, qs, f1, f2, f3, f4, f5, f6, f7, f8, f9, f10⟩ := TX.text_form HRO.out; have hno := ls_no10 (U := t.U) (qs := qs) f4; have hls := lines_of f7 hno; obtain ⟨hln, hat⟩ := line_at hls; obtain ⟨LL, hLL⟩ : ∃ LL, LL = (linesB s s.size).1 := ⟨_, rfl⟩
   have LA : Hid (Calls Tryz.prog 27 #[.string s] w1 fun e w' => ∃ v, e = .returned v ∧ w'.ownsRow w1.heap.size 9 1 v LL.length (strs LL) ∧ Below w1.heap.size w1 w') := zx (by rw [hLL]; exact lines_any s w1 hs); rw [<- hLL] at hln hat; have hLLn : LL.length <= s.size := by rw [hLL]; exact (linesB_le s s.size).1
   have hflat : rows.flatten.length <= s.size := by rw [<- f9, <- hsl]; exact (readT_bound HRO.out).1
   have hCb : t.C <= 2000000 := by
    have h1 := (readT_bound HRO.out).2; have h2 : 0 < rows.length := List.length_pos_iff.2 f2; have h3 : t.C <= t.R * t.C := Nat.le_mul_of_pos_left _ (by omega); omega
   clear hls hLL; rw [List.length_cons, List.length_append, List.length_map] at hln; have HAT := zx hat; have HLN := zx hln; have F1 := zx f1; have F4 := zx f4; have F6 := zx f6; have F7 := zx f7; have F8 := zx f8; have F9 := zx f9; have F10 := zx f10; have hnl : 0 < LL.length := by omega
   clear hat hln f1 f4 f6 f7 f8 f9 f10 hno; go_wp2_with fail; refine LA.out.mono ?_; rintro e w2 ⟨v, rfl, hown, hb2⟩; obtain ⟨gl, cl, rfl, hg1, hg2, hcl, hcell⟩ := strs_open hown hnl rfl; have CL := zx hcell; have B2 := zx hb2; have OW := zx hown; clear hown hb2 hcell; obtain ⟨S0, hS0⟩ : ∃ S0, S0 = LL.getD 0 ⟨#[]⟩ := ⟨_, rfl⟩
   have hS0l : S0.data.toList = TX.headB ++ Lib.decDigits t.U := by
    rw [hS0, HAT.out 0 hnl]; rfl
   have hS0n : S0.size = 5 + (Lib.decDigits t.U).length := by
    have h := congrArg List.length hS0l; rw [Array.length_toList, List.length_append] at h; exact h
   have hdl := TX.dec_len5 F1.out; have hS5 : (S0.extract 5 S0.size).data.toList = TX.sep [t.U] := by
    rw [ext_list, List.take_of_length_le (by rw [Array.length_toList]; exact zl), hS0l]; rfl
   obtain ⟨n1, n2, n3⟩ := nums_line hS5 (by simp) (fun n hn => by rw [List.mem_singleton.1 hn]; exact F1.out); have hS5n : (S0.extract 5 S0.size).size <= 2000000 := by rw [ByteArray.size_extract]; omega
   have NU : Hid (∀ u, Calls Tryz.prog 28 #[.string (S0.extract 5 S0.size)] u fun e w' => ∃ g cap, e = .returned (.slice (some ⟨g, 0, none⟩) 1 cap) ∧ w'.ownsRow u.heap.size 3 1 (.slice (some ⟨g, 0, none⟩) 1 cap) 1 [.int .i64 (t.U : Int)] ∧ Below u.heap.size u w') := zx fun u => by
    have h := numbers_any (S0.extract 5 S0.size) u hS5n n3 n2; rw [n1] at h; exact h
   have c0 : ∀ o, (w2.alloc o).cell? ⟨gl, 0, none⟩ = some (.string S0) := fun o => by
    rw [zj ((Below.refl _ w2).alloc zl o) (CL.out 0 hnl), hS0]
   have YA : Hid (Box (w2.alloc (.cells #[.int .i64 0, .int .i64 0, .string ⟨#[]⟩, .slice none 0 0, .int .i64 0] 34)) w2.heap.size #[.int .i64 0, .int .i64 0, .string ⟨#[]⟩, .slice none 0 0, .int .i64 0]) := box_new _ _; have ZA : Hid (∀ o, Box (w2.alloc o) w.heap.size #[.int .i64 0, .int .i64 0, .string ⟨#[]⟩, .slice none 0 0, .int .i64 0]) := fun o => box_alloc (Z2.out.belowB B2.out Z2.out.lt) o
   have hzA : ∀ o, (w2.alloc o).heap.size = w2.heap.size + 1 := fun o => by simp
   have hS0a : 5 <= S0.size := by omega
   have hS0b : S0.size <= 10 := by omega
   clear n1 n2 n3 hS5 hS0l hS0n hS0; go_wp2_with fail; refine (NU.out _).mono ?_; rintro e w3 ⟨gn, cn, rfl, hown3, hb3⟩; have hn0 : w3.cell? ⟨gn, 0, none⟩ = some (.int .i64 (t.U : Int)) := by rw [own_cell hown3 (by omega)]; rfl
   have hcn := own_cap hown3; have BW3 : Hid (Below w2.heap.size w2 w3) := zx (((Below.refl _ w2).alloc zl _).trans (hb3.mono (by simp))); have Y3 := zx (YA.out.belowB hb3 (by simp)); have y4 := Y3.out.c 4; have fy := Y3.out.fz; have hlY := Y3.out.lt; simp only [zA, zB, zC] at y4; have R4 : Hid (RIn t.U t.C t.R rows qs w2 (w3.setCell ⟨w2.heap.size, 4, none⟩ (.int .i64 (t.U : Int))) 0) := by
    refine ⟨.slice none 0 0, ?_, ?_, BW3.out.setCell (p := ⟨w2.heap.size, 4, none⟩) zl _⟩
    . exact Y3.out.set (i := 4) (by simp) (by simp)
    . rw [Nat.zero_sub]; exact ⟨rfl, .inl ⟨rfl, rfl⟩⟩
   clear hown3 hb3 c0; go_wp2; generalize (w3.setCell ⟨w2.heap.size, 4, none⟩ (.int .i64 (t.U : Int))) = w4 at *; go_loopw [8, 9, 10, 11] (fun _ si _ _ wr => ∃ j : Nat, j + 1 <= LL.length ∧ si = .int .i64 ((j : Int) + 1) ∧ RIn t.U t.C t.R rows qs w2 wr j) (fun _ si _ _ _ => LL.length - (intOf si).toNat)
   case atStart => exact ⟨0, hnl, by rfl, R4.out⟩
   case round =>
    obtain ⟨j, hj, rfl, hR⟩ := hrel; obtain ⟨v, hbox, hown, hbel⟩ := hR; have HBX := zx hbox; have HOW := zx hown; have HBL := zx hbel; by_cases hlt : j + 1 < LL.length
    . have e1 : decide ((j : Int) + 1 < (LL.length : Int)) = true := by simp; omega
      obtain ⟨F, hF⟩ : ∃ F, Hid (F = LL.getD (j + 1) ⟨#[]⟩) := ⟨_, zx rfl⟩
      have hcj : wr.cell? ⟨gl, j + 1, none⟩ = some (.string F) := by
       rw [hbel.cell (p := ⟨gl, j + 1, none⟩) hg2, CL.out (j + 1) hlt, hF.out]
      have hFl : Hid (F.data.toList = (rows ++ qs.map fun q => TX.sep (TX.quadL q)).getD j []) := zx (by rw [hF.out, HAT.out (j + 1) hlt]; rfl); by_cases hrow : j < rows.length
      . have hFr : F.data.toList = rows[j] := by
         rw [hFl.out, zg, List.getElem?_append_left hrow, List.getElem?_eq_getElem hrow]; rfl
        obtain ⟨hrl, hrc⟩ := F4.out rows[j] (List.getElem_mem hrow); have hFn : F.size = t.C := by rw [<- hrl, <- hFr, Array.length_toList]; rfl
        have hF0 : 0 < F.size := by omega
        have hF0c : TX.isCell F[0] = true := hrc _ (by rw [<- hFr]; exact List.getElem_mem (l := F.data.toList) (by rw [Array.length_toList]; exact hF0)); have hb := (xcell_iff F[0]).1 hF0c; have hb' : ((((F[0].toNat : Nat) : Int) == 46) = true) ∨ ((((F[0].toNat : Nat) : Int) == 46) = false ∧ (((F[0].toNat : Nat) : Int) == 35) = true) := by
         rcases hb with h | h
         . exact .inl (byte_eq (d := 46) h)
         . exact .inr ⟨byte_ne (d := 46) (fun h' => absurd (h'.symm.trans h) (by decide)), byte_eq (d := 35) h⟩
        obtain ⟨tf1, tf2⟩ := take_flat hrow; obtain ⟨A, hA⟩ : ∃ A : ByteArray, Hid (A = ⟨(rows.take j).flatten.toArray⟩) := ⟨_, zx rfl⟩
        rw [<- hA.out] at hbox; have hAF : A.size + F.size <= 2000000 := by
         have h1 : A.size = (rows.take j).flatten.length := by rw [hA.out]; simp [ByteArray.size]
         rw [List.length_append, hrl] at tf2; rw [h1, hFn]; omega
        have hmin : min j rows.length = j := by omega
        rw [hmin] at hbox; have b0 := hbox.c 0; have b1 := hbox.c 1; have b2 := hbox.c 2; have fz := hbox.fz; simp only [zA, zB, zC] at b0 b1 b2; have HB2 := zx hbox; have hylt := hbox.lt; have HFN := zx hFn; have HMIN := zx hmin; have HTF := zx tf1; have HFR := zx hFr; have hgY : gl ≠ w2.heap.size := by omega
        have hgr : gl < wr.heap.size := by omega
        clear hbox hown hbel hFn hmin tf1 tf2 hFr hb hrl hrc hF0c; rcases hb' with e2 | ⟨e2, e3⟩
        all_goals
         go_wp2; go_region
         go_wp2; go_roundw; case rel =>
          refine ⟨j + 1, by omega, by go_num, v, ?_, ?_, (((HBL.out.setCell (p := ⟨w2.heap.size, 0, none⟩) zl _).setCell (p := ⟨w2.heap.size, 1, none⟩) zl _).setCell (p := ⟨w2.heap.size, 2, none⟩) zl _).drew⟩
          . have hm : min (j + 1) rows.length = j + 1 := by omega
            have hAF2 : A ++ F = ⟨(rows.take (j + 1)).flatten.toArray⟩ := by rw [hA.out, bytes_push, HFR.out, <- HTF.out]
            rw [hm, if_neg (Nat.succ_ne_zero j), <- hAF2, <- HFN.out, Int.natCast_add]; exact box_drew (((HB2.out.set (i := 0) (by simp) rfl).set (i := 1) (by simp) rfl).set (i := 2) (by simp) rfl)
          . have hz : j + 1 - rows.length = j - rows.length := by omega
            rw [hz]; exact ownsRow_setCell_below (ownsRow_setCell_below (ownsRow_setCell_below HOW.out (a := ⟨w2.heap.size, 0, none⟩) (Nat.lt_succ_self _) _) (a := ⟨w2.heap.size, 1, none⟩) (Nat.lt_succ_self _) _) (a := ⟨w2.heap.size, 2, none⟩) (Nat.lt_succ_self _) _
         case measure => simp [intOf]; omega
      . obtain ⟨m, hm⟩ : ∃ m, Hid (m = j - rows.length) := ⟨_, zx rfl⟩
        have hmq : m < qs.length := by have := hm.out; have := HLN.out; omega
        have hQ := F6.out qs[m] (List.getElem_mem hmq); have hFs : F.data.toList = TX.sep (TX.quadL qs[m]) := by
         rw [hFl.out, zg, List.getElem?_append_right (by omega), <- hm.out, List.getElem?_map, List.getElem?_eq_getElem hmq]; rfl
        obtain ⟨hF0, hFd⟩ := sep4_first hFs; obtain ⟨n1, n2, n3⟩ := nums_line hFs (by simp [TX.quadL]) hQ; have hFn : F.size <= 23 := by
         have h1 := sep4_len hQ; have h2 := congrArg List.length hFs; rw [Array.length_toList] at h2; show F.data.size <= 23; omega
        obtain ⟨q1, q2, q3, q4, hqq⟩ : ∃ q1 q2 q3 q4, qs[m] = (q1, q2, q3, q4) := ⟨_, _, _, _, rfl⟩
        rw [hqq] at n1 hQ; have hb1 : q1 <= 99999 := hQ q1 (by simp [TX.quadL]); have hb2 : q2 <= 99999 := hQ q2 (by simp [TX.quadL]); have hb3 : q3 <= 99999 := hQ q3 (by simp [TX.quadL]); have hb4 : q4 <= 99999 := hQ q4 (by simp [TX.quadL]); have NU2 : Hid (∀ u, Calls Tryz.prog 28 #[.string F] u fun e w' => ∃ g cap, e = .returned (.slice (some ⟨g, 0, none⟩) 4 cap) ∧ w'.ownsRow u.heap.size 3 1 (.slice (some ⟨g, 0, none⟩) 4 cap) 4 [.int .i64 q1, .int .i64 q2, .int .i64 q3, .int .i64 q4] ∧ Below u.heap.size u w') := zx fun u => by
         have h := numbers_any F u (by omega) n3 n2; rw [n1] at h; exact h
        have e2 : (((F[0].toNat : Nat) : Int) == 46) = false := byte_ne (d := 46) (fun h => by rw [h] at hFd; revert hFd; decide); have e3 : (((F[0].toNat : Nat) : Int) == 35) = false := byte_ne (d := 35) (fun h => by rw [h] at hFd; revert hFd; decide); have hgr : gl < wr.heap.size := by have := hbel.size; omega
        have HQQ := zx hqq; have hylt := hbox.lt; have hj0 : ¬ j = 0 := by
         have : 0 < rows.length := List.length_pos_iff.2 f2; omega
        have hbox2 : Box wr w2.heap.size #[.int .i64 (t.R : Int), .int .i64 (t.C : Int), .string ⟨(rows.take j).flatten.toArray⟩, v, .int .i64 (t.U : Int)] := by
         have h := hbox; rw [show min j rows.length = rows.length by omega, if_neg hj0, <- F8.out] at h; exact h
        obtain ⟨av, cv, rfl⟩ : ∃ av cv, v = .slice av m cv := by
         rw [hm.out]; rcases hown.2 with ⟨h1, h2⟩ | ⟨g, cap, cur, hv, _⟩
         . exact ⟨none, 0, by rw [h1, h2]⟩
         . exact ⟨_, cap, hv⟩
        obtain ⟨A, hA⟩ : ∃ A : ByteArray, Hid (A = ⟨(rows.take j).flatten.toArray⟩) := ⟨_, zx rfl⟩
        rw [<- hA.out] at hbox2; have HB2 := zx hbox2; clear hbox hown hbel hFs hFd n1 n2 n3 hQ hqq hbox2 hj0; go_wp2_with fail; refine (NU2.out _).mono ?_; rintro e w5 ⟨gq, cq, rfl, hown5, hb5⟩; have hgq := own_lt hown5; have hcq := own_cap hown5; have N0 : Hid (w5.cell? ⟨gq, 0, none⟩ = some (.int .i64 q1) ∧ w5.cell? ⟨gq, 1, none⟩ = some (.int .i64 q2) ∧ w5.cell? ⟨gq, 2, none⟩ = some (.int .i64 q3) ∧ w5.cell? ⟨gq, 3, none⟩ = some (.int .i64 q4)) := by
         refine zx ⟨?_, ?_, ?_, ?_⟩ <;> (rw [own_cell hown5 (by omega)]; rfl)
        have B5 : Hid (Below wr.heap.size wr w5) := zx hb5; have Y5 := zx (HB2.out.belowB hb5 hylt); have hy5 : w2.heap.size < w5.heap.size := Y5.out.lt; have XC : Hid (∀ (a b : Nat) (u : World), a <= 99999 -> b <= 99999 -> Calls Tryz.prog 29 #[.agg #[.int .i64 (t.R : Int), .int .i64 (t.C : Int), .string A, .slice av m cv, .int .i64 (t.U : Int)], .int .i64 a, .int .i64 b] u fun e w' => e = .returned (.int .i64 (TX.atF t.R t.C a b)) ∧ Below u.heap.size u w') := zx fun a b u ha hb => xcell_any t.R t.C a b _ _ _ u (by omega) (by omega) hCb
        have SALL : Hid (∀ u : World, Below w5.heap.size w5 u -> (fun u : World => u.cell? ⟨w2.heap.size, 0, none⟩ = some (.int .i64 (t.R : Int)) ∧ u.cell? ⟨w2.heap.size, 1, none⟩ = some (.int .i64 (t.C : Int)) ∧ u.cell? ⟨w2.heap.size, 2, none⟩ = some (.string A) ∧ u.cell? ⟨w2.heap.size, 3, none⟩ = some (.slice av m cv) ∧ u.cell? ⟨w2.heap.size, 4, none⟩ = some (.int .i64 (t.U : Int)) ∧
         u.cell? ⟨gq, 0, none⟩ = some (.int .i64 q1) ∧ u.cell? ⟨gq, 1, none⟩ = some (.int .i64 q2) ∧ u.cell? ⟨gq, 2, none⟩ = some (.int .i64 q3) ∧ u.cell? ⟨gq, 3, none⟩ = some (.int .i64 q4)) u) := zx fun u hu =>
         ⟨(hu.cell (p := ⟨w2.heap.size, 0, none⟩) hy5).trans (Y5.out.c 0), (hu.cell (p := ⟨w2.heap.size, 1, none⟩) hy5).trans (Y5.out.c 1), (hu.cell (p := ⟨w2.heap.size, 2, none⟩) hy5).trans (Y5.out.c 2), (hu.cell (p := ⟨w2.heap.size, 3, none⟩) hy5).trans (Y5.out.c 3), (hu.cell (p := ⟨w2.heap.size, 4, none⟩) hy5).trans (Y5.out.c 4),
           (hu.cell (p := ⟨gq, 0, none⟩) hgq.2).trans N0.out.1, (hu.cell (p := ⟨gq, 1, none⟩) hgq.2).trans N0.out.2.1, (hu.cell (p := ⟨gq, 2, none⟩) hgq.2).trans N0.out.2.2.1, (hu.cell (p := ⟨gq, 3, none⟩) hgq.2).trans N0.out.2.2.2⟩
        clear hown5 hb5; go_upto_region 16 with fail; have HS := SALL.out w5.drew ((Below.refl _ w5).drew); refine wp_region_any (by kernel_rfl) ?_; change wpAny _ _ _ _ _ _ _ (World.drew _); refine LM.T 1 (.slice (some ⟨gq, 0, none⟩) 4 cq) rfl ?_; refine LM.T 2 (.pointer (some ⟨gq, 0, none⟩)) rfl ?_; refine LM.T 4 (.slice (some ⟨gq, 0, none⟩) 4 cq) rfl ?_; refine LM.T 5 (.pointer (some ⟨gq, 1, none⟩)) rfl ?_
        refine LM.any_of_L (late := LM.lateOf [7, 8]) (S := (fun u : World => u.cell? ⟨w2.heap.size, 0, none⟩ = some (.int .i64 (t.R : Int)) ∧ u.cell? ⟨w2.heap.size, 1, none⟩ = some (.int .i64 (t.C : Int)) ∧ u.cell? ⟨w2.heap.size, 2, none⟩ = some (.string A) ∧ u.cell? ⟨w2.heap.size, 3, none⟩ = some (.slice av m cv) ∧ u.cell? ⟨w2.heap.size, 4, none⟩ = some (.int .i64 (t.U : Int)) ∧ u.cell? ⟨gq, 0, none⟩ = some (.int .i64 q1) ∧ u.cell? ⟨gq, 1, none⟩ = some (.int .i64 q2) ∧ u.cell? ⟨gq, 2, none⟩ = some (.int .i64 q3) ∧ u.cell? ⟨gq, 3, none⟩ = some (.int .i64 q4))) _ _ _ _ ?_
        refine LM.TL 0 (.agg #[.int .i64 (t.R : Int), .int .i64 (t.C : Int), .string A, .slice av m cv, .int .i64 (t.U : Int)]) rfl (Or.inl ⟨by rfl, fun u hu => by have a0 := hu.1; have a1 := hu.2.1; have a2 := hu.2.2.1; have a3 := hu.2.2.2.1; have a4 := hu.2.2.2.2.1; clear hu; go_simp⟩) HS ?_; refine LM.TL 3 (.int .i64 q1) rfl (Or.inl ⟨by rfl, fun u hu => by have a5 := hu.2.2.2.2.2.1; have a6 := hu.2.2.2.2.2.2.1; have a7 := hu.2.2.2.2.2.2.2.1; have a8 := hu.2.2.2.2.2.2.2.2; clear hu; go_simp⟩) HS ?_
        refine LM.TL 6 (.int .i64 q2) rfl (Or.inl ⟨by rfl, fun u hu => by have a5 := hu.2.2.2.2.2.1; have a6 := hu.2.2.2.2.2.2.1; have a7 := hu.2.2.2.2.2.2.2.1; have a8 := hu.2.2.2.2.2.2.2.2; clear hu; go_simp⟩) HS ?_; refine LM.L_rest (by kernel_rfl) ?_; refine LM.any_one (i := 7) rfl (by kernel_rfl) rfl (fun K hK => ?_); go_simp; refine (XC.out q1 q2 _ hb1 hb2).mono ?_; rintro e w6 ⟨rfl, hbw6⟩; refine hK _ _ ?_; clear hK K; refine LM.T 8 (.int .i64 (TX.atF t.R t.C q1 q2)) rfl ?_; refine wpAny_done (by kernel_rfl) ?_ _
        have B6 : Hid (Below w5.heap.size w5 w6) := zx (((Below.refl _ w5).drew).trans hbw6); have hz6 : w5.heap.size <= w6.heap.size := B6.out.size; clear hbw6 HS; go_upto_region 17 with fail; have HS := SALL.out w6.drew (B6.out.drew); refine wp_region_any (by kernel_rfl) ?_; change wpAny _ _ _ _ _ _ _ (World.drew _); refine LM.T 1 (.slice (some ⟨gq, 0, none⟩) 4 cq) rfl ?_; refine LM.T 2 (.pointer (some ⟨gq, 2, none⟩)) rfl ?_; refine LM.T 4 (.slice (some ⟨gq, 0, none⟩) 4 cq) rfl ?_; refine LM.T 5 (.pointer (some ⟨gq, 3, none⟩)) rfl ?_
        refine LM.any_of_L (late := LM.lateOf [7, 8]) (S := (fun u : World => u.cell? ⟨w2.heap.size, 0, none⟩ = some (.int .i64 (t.R : Int)) ∧ u.cell? ⟨w2.heap.size, 1, none⟩ = some (.int .i64 (t.C : Int)) ∧ u.cell? ⟨w2.heap.size, 2, none⟩ = some (.string A) ∧ u.cell? ⟨w2.heap.size, 3, none⟩ = some (.slice av m cv) ∧ u.cell? ⟨w2.heap.size, 4, none⟩ = some (.int .i64 (t.U : Int)) ∧ u.cell? ⟨gq, 0, none⟩ = some (.int .i64 q1) ∧ u.cell? ⟨gq, 1, none⟩ = some (.int .i64 q2) ∧ u.cell? ⟨gq, 2, none⟩ = some (.int .i64 q3) ∧ u.cell? ⟨gq, 3, none⟩ = some (.int .i64 q4))) _ _ _ _ ?_
        refine LM.TL 0 (.agg #[.int .i64 (t.R : Int), .int .i64 (t.C : Int), .string A, .slice av m cv, .int .i64 (t.U : Int)]) rfl (Or.inl ⟨by rfl, fun u hu => by have a0 := hu.1; have a1 := hu.2.1; have a2 := hu.2.2.1; have a3 := hu.2.2.2.1; have a4 := hu.2.2.2.2.1; clear hu; go_simp⟩) HS ?_; refine LM.TL 3 (.int .i64 q3) rfl (Or.inl ⟨by rfl, fun u hu => by have a5 := hu.2.2.2.2.2.1; have a6 := hu.2.2.2.2.2.2.1; have a7 := hu.2.2.2.2.2.2.2.1; have a8 := hu.2.2.2.2.2.2.2.2; clear hu; go_simp⟩) HS ?_
        refine LM.TL 6 (.int .i64 q4) rfl (Or.inl ⟨by rfl, fun u hu => by have a5 := hu.2.2.2.2.2.1; have a6 := hu.2.2.2.2.2.2.1; have a7 := hu.2.2.2.2.2.2.2.1; have a8 := hu.2.2.2.2.2.2.2.2; clear hu; go_simp⟩) HS ?_; refine LM.L_rest (by kernel_rfl) ?_; refine LM.any_one (i := 7) rfl (by kernel_rfl) rfl (fun K hK => ?_); go_simp; refine (XC.out q3 q4 _ hb3 hb4).mono ?_; rintro e w7 ⟨rfl, hbw7⟩; refine hK _ _ ?_; clear hK K; refine LM.T 8 (.int .i64 (TX.atF t.R t.C q3 q4)) rfl ?_; refine wpAny_done (by kernel_rfl) ?_ _
        have B7 : Hid (Below w5.heap.size w5 w7) := zx (B6.out.drew.trans (hbw7.mono (by exact hz6))); clear hbw7 HS; have hz7 : w5.heap.size <= w7.heap.size := B7.out.size; have hzr : wr.heap.size <= w5.heap.size := B5.out.size; have hm1 : m <= 100000000 := by have := HLN.out; omega
        obtain ⟨z1, hz1'⟩ : ∃ z, Hid (z = TX.atF t.R t.C q1 q2) := ⟨_, zx rfl⟩
        obtain ⟨z2, hz2'⟩ : ∃ z, Hid (z = TX.atF t.R t.C q3 q4) := ⟨_, zx rfl⟩
        rw [<- hz1'.out, <- hz2'.out]; have Y7 := zx (Y5.out.belowB B7.out hy5); have y73 := Y7.out.c 3; simp only [zA, zB, zC] at y73; have OW7 : Hid (w7.ownsRow (w2.heap.size + 1) 75 2 (.slice av m cv) m (cartCells (frL (cqL t.R t.C qs m)) (ttL (cqL t.R t.C qs m)) m)) := by
         have h := HOW.out; rw [<- hm.out] at h; exact zx (own_later (own_later h B5.out) B7.out)
        have BB7 : Hid (Below w2.heap.size w2 w7) := zx ((HBL.out.trans (B5.out.mono (by omega))).trans (B7.out.mono (by omega)))
        go_wp2_with (at_builtin; go_must (refine wpList_pushC rfl _ _ rfl (w2.heap.size + 1) m (.slice av m cv) _ z1 z2 rfl OW7.out (by omega) _ rfl hm1 ?_; intro g9 c9 w9 ho9 hb9; have Y9 : Hid (Box w9 w2.heap.size #[.int .i64 (t.R : Int), .int .i64 (t.C : Int), .string A, .slice av m cv, .int .i64 (t.U : Int)]) := zx (Y7.out.belowB hb9 (Nat.lt_succ_self _)); have y93 := Y9.out.c 3; have f9 := Y9.out.fz; simp only [zA, zB, zC] at y93; have HO9 := zx ho9; have HB9 := zx hb9; clear ho9 hb9))
        go_roundw; case rel =>
         have hm' := hm.out; have hzm : j + 1 - rows.length = m + 1 := by omega
         have hql : m <= qs.length := by omega
         have hcq1 : cqL t.R t.C qs (m + 1) = cqL t.R t.C qs m ++ [(z1, z2)] := by
          unfold cqL; rw [List.take_succ_eq_append_getElem hmq, List.map_append, HQQ.out, hz1'.out, hz2'.out]; rfl
         have hcl1 : (cqL t.R t.C qs m).length = m := by
          unfold cqL; rw [List.length_map, List.length_take]; omega
         have hsn := cartCells_snoc (cqL t.R t.C qs m) (z1, z2); rw [hcl1] at hsn; have htk : rows.take (j + 1) = rows.take j := by rw [List.take_of_length_le (by omega), List.take_of_length_le (by omega)]
         refine ⟨j + 1, by omega, by go_num, .slice (some ⟨g9, 0, none⟩) (m + 1) c9, ?_, ?_, ((BB7.out.trans (HB9.out.mono (Nat.le_succ _))).setCell (p := ⟨w2.heap.size, 3, none⟩) zl _)⟩
         . rw [show min (j + 1) rows.length = rows.length by omega, if_neg (Nat.succ_ne_zero j), htk, <- F8.out, <- hA.out]; exact Y9.out.set (i := 3) (by simp) rfl
         . rw [hzm, hcq1, hsn]; exact ownsRow_setCell_below HO9.out (a := ⟨w2.heap.size, 3, none⟩) (Nat.lt_succ_self _) _
        case measure => simp [intOf]; omega
    . have e1 : decide ((j : Int) + 1 < (LL.length : Int)) = false := by simp; omega
      have hln' := HLN.out; have hjm : j - rows.length = qs.length := by omega
      have hqp : 0 < qs.length := List.length_pos_iff.2 f5; have hcqa : cqL t.R t.C qs qs.length = t.carts := by unfold cqL; rw [List.take_length, F10.out]
      have hcn : t.carts.length = qs.length := by rw [F10.out, List.length_map]
      have hcs : (⟨(rows.take j).flatten.toArray⟩ : ByteArray) = ⟨t.cs.toArray⟩ := by rw [List.take_of_length_le (by omega), F9.out]
      rw [hjm, hcqa, <- hcn] at hown; obtain ⟨av, cv, rfl⟩ : ∃ av cv, v = .slice av t.carts.length cv := by
       rcases hown.2 with ⟨h1, h2⟩ | ⟨g, cap, cur, hv, _⟩
       . omega
       . exact ⟨_, cap, hv⟩
      obtain ⟨g, rfl, hci⟩ := own_carts hown (by omega); have hgl := own_lt' hown; have hcap := own_cap' hown; rw [show min j rows.length = rows.length by omega, if_neg (show ¬ j = 0 by omega), hcs, <- F8.out] at hbox; obtain ⟨Fs, hFs⟩ : ∃ F : ByteArray, Hid (F = ⟨t.cs.toArray⟩) := ⟨_, zx rfl⟩
      rw [<- hFs.out] at hbox; have Y2 := zx hbox; have CI := zx hci; have hcsz : Fs.size <= maxLen := by
       rw [hFs.out]; show t.cs.toArray.size <= maxLen; rw [List.size_toArray, F9.out]; unfold maxLen; omega
      have hn : t.carts.length <= maxLen := by unfold maxLen; omega
      have hbw : Below w2.heap.size w2 wr := hbel; have Zr : Hid (Box wr w.heap.size #[.int .i64 0, .int .i64 0, .string ⟨#[]⟩, .slice none 0 0, .int .i64 0]) := zx ((Z2.out.belowB B2.out Z2.out.lt).belowB hbw (by have := B2.out.size; have := Z2.out.lt; omega)); have Or : Hid (Only (fun x => w.heap.size <= x) w wr) := zx ((O2.out.trans (Only.of_below (S := fun _ => False) B2.out) (fun _ _ h => h.elim)).trans (Only.of_below (S := fun _ => False) hbw) (fun _ _ h => h.elim)); have y0 := hbox.c 0; have y1 := hbox.c 1; have y2 := hbox.c 2; have y3 := hbox.c 3; have y4 := hbox.c 4
      simp only [zA, zB, zC] at y0 y1 y2 y3 y4; have hylt := hbox.lt; have hzs := B2.out.size; have hzl := Z2.out.lt; have hal : t.carts.length <= s.size := by omega
      clear hbox hown hbel hci hcqa hcs hln' hcn hjm; go_wp2_with fail; refine (rcheck_any _ _ _ Fs (some ⟨g, 0, none⟩) t.carts.length cv (frL t.carts) (ttL t.carts) _ hcsz hn (fun _ => ⟨g, 0, rfl, CI.out⟩)).mono ?_; rintro e w8 ⟨rfl, hb8⟩; have hch : checkM (t.R : Int) (t.C : Int) Fs t.carts.length (frL t.carts) (ttL t.carts) (t.U : Int) = chkT t := by unfold chkT; rw [hFs.out]
      rw [hch]; have Z8 := zx (Zr.out.belowB hb8 Zr.out.lt); have O8 : Hid (Only (fun x => w.heap.size <= x) w w8) := zx (Or.out.trans (Only.of_below (S := fun _ => False) hb8) (fun _ _ h => h.elim)); have Y8 := zx (Y2.out.belowB hb8 Y2.out.lt); have C8 := zx (CI.out.below hb8); clear y0 y1 y2 y3 y4; have fz := Z8.out.fz; have z0 := Z8.out.c 0; have z1 := Z8.out.c 1; have z2 := Z8.out.c 2; have z3 := Z8.out.c 3; have z4 := Z8.out.c 4; have y0 := Y8.out.c 0; have y1 := Y8.out.c 1; have y2 := Y8.out.c 2; have y3 := Y8.out.c 3; have y4 := Y8.out.c 4
      simp only [zA, zB, zC] at z0 z1 z2 z3 z4 y0 y1 y2 y3 y4; have hgw : w.heap.size < g := by omega
      clear hb8 hch; obtain ⟨c1, hc1⟩ : ∃ c, c = (chkT t).1 := ⟨_, rfl⟩
      obtain ⟨c2, hc2⟩ : ∃ c, c = (chkT t).2 := ⟨_, rfl⟩
      rw [<- hc1, <- hc2]; have HC1 := zx hc1; have HC2 := zx hc2; have hl0 : l = [] := (TX.write_read HRO.out).1; have HF : Hid (TX.readT s.data.toList = ([], some t)) := zx (by rw [HRO.out, hl0]); clear hc1 hc2 hl0; by_cases hz : c1 = 0
      . have e0 : (c1 != 0) = false := by simp [hz]
        have HZ := zx hz; clear hz; have hcar : Hid (∀ (o : Nat) (v : Value) (u : World), CartsIn u g 0 t.carts.length (frL t.carts) (ttL t.carts) -> CartsIn (u.setCell ⟨w.heap.size, o, none⟩ v) g 0 t.carts.length (frL t.carts) (ttL t.carts)) := fun o v u h => carts_set h (by omega)
        go_wp2
        refine bodyPost_ret (results_cell_tmp3 Tryz.results12 _ _ _ (b := w.heap.size) (o := 0) rfl (load_yard ((((((((((Z8.out).set (i := 0) (x := .int .i64 (t.R : Int)) (by simp) (v' := #[.int .i64 (t.R : Int), .int .i64 0, .string ⟨#[]⟩, .slice none 0 0, .int .i64 0]) rfl)).set (i := 1) (x := .int .i64 (t.C : Int)) (by simp) (v' := #[.int .i64 (t.R : Int), .int .i64 (t.C : Int), .string ⟨#[]⟩, .slice none 0 0, .int .i64 0]) rfl)).set (i := 2) (x := .string Fs) (by simp) (v' := #[.int .i64 (t.R : Int), .int .i64 (t.C : Int), .string Fs, .slice none 0 0, .int .i64 0]) rfl)).set (i := 3) (x := .slice (some ⟨g, 0, none⟩) t.carts.length cv) (by simp) (v' := #[.int .i64 (t.R : Int), .int .i64 (t.C : Int), .string Fs, .slice (some ⟨g, 0, none⟩) t.carts.length cv, .int .i64 0]) rfl)).set (i := 4) (x := .int .i64 (t.U : Int)) (by simp) (v' := #[.int .i64 (t.R : Int), .int .i64 (t.C : Int), .string Fs, .slice (some ⟨g, 0, none⟩) t.carts.length cv, .int .i64 (t.U : Int)]) rfl))) rfl ⟨?_, .inl ⟨t, g, cv, HF.out, by rw [<- HC1.out]; exact HZ.out, by unfold yardV; rw [<- hFs.out]; rfl, hcar.out _ _ _ (hcar.out _ _ _ (hcar.out _ _ _ (hcar.out _ _ _ (hcar.out _ _ _ C8.out)))), by omega, hcap, hal⟩⟩
        exact (HB.out _ _ _ (HB.out _ _ _ (HB.out _ _ _ (HB.out _ _ _ (HB.out _ _ _ O8.out))))).below zl (fun _ h => h)
      . have e0 : (c1 != 0) = true := by simp [hz]
        have HZ := zx hz; clear hz; go_wp2
        refine bodyPost_ret (results_cell_tmp3 Tryz.results12 _ _ _ (b := w.heap.size) (o := 0) rfl (load_yard ((((((((((Z8.out).set (i := 0) (x := .int .i64 0) (by simp) (v' := #[.int .i64 0, .int .i64 0, .string ⟨#[]⟩, .slice none 0 0, .int .i64 0]) rfl)).set (i := 1) (x := .int .i64 0) (by simp) (v' := #[.int .i64 0, .int .i64 0, .string ⟨#[]⟩, .slice none 0 0, .int .i64 0]) rfl)).set (i := 2) (x := .string ⟨#[]⟩) (by simp) (v' := #[.int .i64 0, .int .i64 0, .string ⟨#[]⟩, .slice none 0 0, .int .i64 0]) rfl)).set (i := 3) (x := .slice none 0 0) (by simp) (v' := #[.int .i64 0, .int .i64 0, .string ⟨#[]⟩, .slice none 0 0, .int .i64 0]) rfl)).set (i := 4) (x := .int .i64 0) (by simp) (v' := #[.int .i64 0, .int .i64 0, .string ⟨#[]⟩, .slice none 0 0, .int .i64 0]) rfl))) rfl ⟨?_, .inr (.inl ⟨t, HF.out, by rw [<- HC1.out]; exact HZ.out, by rw [<- HC1.out, <- HC2.out]; rfl⟩)⟩
        exact (HB.out _ _ _ (HB.out _ _ _ (HB.out _ _ _ (HB.out _ _ _ (HB.out _ _ _ O8.out))))).below zl (fun _ h => h)
end
end Go.Proofs.YtnkgpinadgacgaaGreatDoor
