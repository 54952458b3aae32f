/- Walks of sameFaults and bothFaults: two answers of Judge: are they the same; do they share no room? -/
import Derived.Test.YtnkgpinadgacgaaDoorCa
import Derived.Deep.QuietTactic
import Derived.BigQuiet
namespace Go.Proofs.YtnkgpinadgacgaaDoor
open Go.RowKit M

set_option maxRecDepth 100000 in
set_option maxHeartbeats 1000000 in
theorem sameFaults_any (v1 v2 : Value) (F : List FaultM) (w : World) (hF : F.length ≤ 100000000) (h1 : FaultsAt w v1 F) (h2 : FaultsAt w v2 F) :
    Calls Tryd.prog 33 #[v1, v2] w fun e w' => e = .returned (.bool true) ∧ Below w.heap.size w w' := by
  rcases h1 with ⟨e1, rfl⟩ | ⟨g1, cap1, rfl, _, c1⟩
  · rcases h2 with ⟨e2, rfl⟩ | ⟨g2, cap2, rfl, _, c2⟩
    · go_enter Tryd.func33, Tryd.ntmps33
      go_wp2
      go_loop [5] (fun s => s = .int .i64 0) (fun s => 0)
      case atStart => rfl
      case round =>
        subst hrel
        go_wp2
        go_ret
        exact ⟨rfl, Below.refl _ _⟩
    · subst e1
      have hl : ([] : List FaultM).length = 0 := rfl
      rw [hl]
      go_enter Tryd.func33, Tryd.ntmps33
      go_wp2
      go_loop [5] (fun s => s = .int .i64 0) (fun s => 0)
      case atStart => rfl
      case round =>
        subst hrel
        go_wp2
        go_ret
        exact ⟨rfl, Below.refl _ _⟩
  · rcases h2 with ⟨e2, rfl⟩ | ⟨g2, cap2, rfl, _, c2⟩
    · subst e2
      have hl : ([] : List FaultM).length = 0 := rfl
      rw [hl]
      go_enter Tryd.func33, Tryd.ntmps33
      go_wp2
      go_loop [5] (fun s => s = .int .i64 0) (fun s => 0)
      case atStart => rfl
      case round =>
        subst hrel
        go_wp2
        go_ret
        exact ⟨rfl, Below.refl _ _⟩
    · have C1 := Hid.mk c1
      have C2 := Hid.mk c2
      clear c1 c2
      obtain ⟨n, hn⟩ : ∃ n, n = F.length := ⟨_, rfl⟩
      rw [← hn]
      have HN := Hid.mk hn
      rw [← hn] at hF
      clear hn
      go_enter Tryd.func33, Tryd.ntmps33
      go_wp2
      go_loopw [5] (fun s wr => ∃ k : Nat, k ≤ n ∧ s = .int .i64 k ∧ Below w.heap.size w wr) (fun s _ => n - (intOf s).toNat)
      case atStart => exact ⟨0, Nat.zero_le _, rfl, Below.refl _ _⟩
      case round =>
        obtain ⟨k, hk, rfl, hbr⟩ := hrel
        have HBR := Hid.mk hbr
        by_cases hlt : k < n
        · obtain ⟨a1, a2, a3, a4⟩ := C1.out k (by rw [← HN.out]; exact hlt)
          obtain ⟨b1, b2, b3, b4⟩ := C2.out k (by rw [← HN.out]; exact hlt)
          have a1 := cell_later hbr a1
          have a2 := cell_later hbr a2
          have a3 := cell_later hbr a3
          have a4 := cell_later hbr a4
          have b1 := cell_later hbr b1
          have b2 := cell_later hbr b2
          have b3 := cell_later hbr b3
          have b4 := cell_later hbr b4
          obtain ⟨f, hf⟩ : ∃ f, f = F[k]'(by rw [← HN.out]; exact hlt) := ⟨_, rfl⟩
          rw [← hf] at a1 a2 a3 a4 b1 b2 b3 b4
          obtain ⟨fl, fc, fo, fa⟩ := f
          dsimp only at a1 a2 a3 a4 b1 b2 b3 b4
          clear hf hbr
          go_wp2_with fail
          go_quiet (fail)
          go_wp2
          go_roundw
          case rel => exact ⟨k + 1, by omega, by go_num, below_drewN HBR.out _⟩
          case measure => simp [intOf]; omega
        · clear hbr
          go_wp2
          go_ret
          exact ⟨rfl, HBR.out⟩

/-- A store into a list that the call owns. -/
theorem own_set {w : World} {base n g cap i : Nat} {e : TypeId} {size : Nat} {xs : List Value} {v : Value} (h : w.ownsRow base e size (.slice (some ⟨g, 0, none⟩) n cap) n xs) : (w.setCell ⟨g, i, none⟩ v).ownsRow base e size (.slice (some ⟨g, 0, none⟩) n cap) n (xs.set i v) := by
  rcases h.2 with ⟨h0, _⟩ | ⟨g', cap', cur, hv', hg, hh, hn, hc, hs, ht⟩
  · cases h0
  · cases hv'
    refine ⟨by rw [List.length_set]; exact h.1, .inr ⟨g, cap, cur.setIfInBounds i v, rfl, hg, ?_, hn, hc, by rw [Array.size_setIfInBounds]; exact hs, ?_⟩⟩
    · simp [World.setCell, Array.getElem?_modify, hh]
    · rw [Array.toList_setIfInBounds, List.take_set, ht]

end Go.Proofs.YtnkgpinadgacgaaDoor
