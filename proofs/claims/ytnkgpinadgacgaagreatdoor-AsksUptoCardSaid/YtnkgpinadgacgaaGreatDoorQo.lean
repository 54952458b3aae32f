/- Uh. -/
import Derived.Test.YtnkgpinadgacgaaGreatDoorQn
set_option maxRecDepth 1000000
namespace Go.Proofs.YtnkgpinadgacgaaGreatDoor
section
open Go.RowKit Go.Deep M
theorem ext_list (s : ByteArray) (a b : Nat) : (s.extract a b).data.toList = (s.data.toList.take b).drop a := by
 rw [ByteArray.data_extract, Array.toList_extract, List.drop_take]
theorem nums_line {s : ByteArray} {ns : List Nat} (h : s.data.toList = TX.sep ns) (hne : ns ≠ []) (hb : ∀ n ∈ ns, n <= 99999) :
 numsB s s.size = ns ∧ (∀ k, k <= s.size -> ∀ n ∈ numsB s k, n <= 1000000) ∧ (∀ i (h : i < s.size), s[i] = 32 ∨ TX.isDig s[i] = true) := by
 refine ⟨?_, fun k _ n hn => ?_, fun i hi => ?_⟩
 . show (s.data.toList.take s.size).foldl TX.numF' ([] ++ [0]) = ns; rw [List.take_of_length_le (by rw [Array.length_toList]; exact zl), h, TX.sep_fold ns [] hne]; rfl
 . have hn' : n ∈ (s.data.toList.take k).foldl TX.numF' ([] ++ [0]) := hn; rw [h] at hn'; rcases TX.sep_prefix (M := 99999) ns [] k hb n hn' with h' | h'
   . cases h'
   . omega
 . refine TX.sep_bytes ns _ ?_; rw [<- h]; exact List.getElem_mem (l := s.data.toList) (by rw [Array.length_toList]; exact hi)
theorem lines_split (s : ByteArray) : ∀ k, k <= s.size -> (s.data.toList.take k).foldl TX.splitF ([], []) = ((linesB s k).1.map (·.data.toList), (s.data.toList.take k).drop (linesB s k).2)
 | 0, _ => rfl
 | k + 1, hk => by
   have hlt : k < s.size := hk; have ih := lines_split s k (by omega); have h' : k < s.data.toList.length := by rw [Array.length_toList]; exact hk
   have hat := (linesB_le s k).2; have hget : s.data.toList[k] = s[k] := rfl; rw [List.take_succ_eq_append_getElem h', List.foldl_append, ih, hget]; show TX.splitF _ s[k] = _; by_cases h10 : s[k] = 10
   . rw [linesB_nl hlt h10]; have e : TX.splitF ((linesB s k).1.map (·.data.toList), (s.data.toList.take k).drop (linesB s k).2) s[k] = ((linesB s k).1.map (·.data.toList) ++ [(s.data.toList.take k).drop (linesB s k).2], []) := if_pos h10; rw [e, List.map_append, List.map_singleton, ext_list]; congr 1; rw [List.drop_eq_nil_of_le]; rw [List.length_append, List.length_take]; simp
     omega
   . rw [linesB_no hlt h10]; have e : TX.splitF ((linesB s k).1.map (·.data.toList), (s.data.toList.take k).drop (linesB s k).2) s[k] = ((linesB s k).1.map (·.data.toList), (s.data.toList.take k).drop (linesB s k).2 ++ [s[k]]) := if_neg h10; rw [e]; congr 1; rw [List.drop_append_of_le_length]; rw [List.length_take]; omega
theorem lines_of {s : ByteArray} {ls : List (List UInt8)} (h : s.data.toList = TX.linesT ls) (hl : ∀ l ∈ ls, ∀ b ∈ l, b ≠ 10) : (linesB s s.size).1.map (·.data.toList) = ls := by
 have h1 := lines_split s s.size zl; rw [List.take_of_length_le (by rw [Array.length_toList]; exact zl)] at h1; have h2 := TX.split_lines ls [] hl; rw [<- h, h1] at h2; exact congrArg Prod.fst h2
end
end Go.Proofs.YtnkgpinadgacgaaGreatDoor
