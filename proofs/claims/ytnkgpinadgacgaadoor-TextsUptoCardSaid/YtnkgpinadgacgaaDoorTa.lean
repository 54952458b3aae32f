/- Yards as texts, as plain functions over lists of bytes: what Write writes and what Read reads; each undoes the other. Nothing of the program. -/
import Derived.Lib.ItoaNum
namespace Go.Proofs.YtnkgpinadgacgaaDoor
namespace TX
open Go.Lib

def isDig (b : UInt8) : Bool := decide (48 ≤ b.toNat) && decide (b.toNat ≤ 57)
def isCell (b : UInt8) : Bool := decide (b.toNat = 46) || decide (b.toNat = 35)

/-- No digit stands first. -/
def NoDig (l : List UInt8) : Prop := ∀ b r, l = b :: r → isDig b = false

def more : Nat → Nat → List UInt8 → List UInt8 × Nat
  | 0, n, l => (l, n)
  | _ + 1, n, [] => ([], n)
  | k + 1, n, b :: r => if isDig b then more k (10 * n + (b.toNat - 48)) r else (b :: r, n)

def number : List UInt8 → List UInt8 × Option Nat
  | [] => ([], none)
  | b :: r => if isDig b then (if b.toNat = 48 then (r, some 0) else ((more 4 (b.toNat - 48) r).1, some (more 4 (b.toNat - 48) r).2)) else (b :: r, none)

theorem number_cons (b : UInt8) (r : List UInt8) : number (b :: r) = if isDig b then (if b.toNat = 48 then (r, some 0) else ((more 4 (b.toNat - 48) r).1, some (more 4 (b.toNat - 48) r).2)) else (b :: r, none) := rfl

def take (c : UInt8) : List UInt8 → List UInt8 × Bool
  | [] => ([], false)
  | b :: r => if b = c then (r, true) else (b :: r, false)

def takes : List UInt8 → List UInt8 → List UInt8 × Bool
  | [], l => (l, true)
  | c :: cs, l => if (take c l).2 then takes cs (take c l).1 else ((take c l).1, false)

def stepD (n : Nat) (b : UInt8) : Nat := 10 * n + (b.toNat - 48)

theorem isDig_of {d : Nat} (h : d < 10) : isDig (UInt8.ofNat (48 + d)) = true ∧ (UInt8.ofNat (48 + d)).toNat = 48 + d := by
  have e : (UInt8.ofNat (48 + d)).toNat = 48 + d := by rw [UInt8.toNat_ofNat']; omega
  refine ⟨?_, e⟩
  unfold isDig
  rw [e]
  simp
  omega

theorem isDig_lo {b : UInt8} (h : isDig b = true) : 48 ≤ b.toNat ∧ b.toNat ≤ 57 := by
  unfold isDig at h
  simpa using h

theorem ofNat_back {b : UInt8} (h : isDig b = true) : UInt8.ofNat (48 + (b.toNat - 48)) = b := by
  have := isDig_lo h
  rw [show 48 + (b.toNat - 48) = b.toNat by omega]
  exact UInt8.ofNat_toNat

theorem dec_snoc {n d : Nat} (hn : 1 ≤ n) (hd : d < 10) : decDigits (10 * n + d) = decDigits n ++ [UInt8.ofNat (48 + d)] := by
  rw [decDigits, dif_neg (by omega), show (10 * n + d) / 10 = n by omega, show (10 * n + d) % 10 = d by omega]

theorem dec_fold : ∀ (ds : List UInt8) (n : Nat), 1 ≤ n → (∀ b ∈ ds, isDig b = true) → decDigits (ds.foldl stepD n) = decDigits n ++ ds
  | [], n, _, _ => by simp
  | b :: ds, n, hn, hd => by
    have hb := hd b (by simp)
    have h1 := isDig_lo hb
    rw [List.foldl_cons, dec_fold ds _ (by unfold stepD; omega) (fun x hx => hd x (by simp [hx]))]
    unfold stepD
    rw [dec_snoc hn (by omega), ofNat_back hb]
    simp

theorem fold_ge : ∀ (ds : List UInt8) (n : Nat), n ≤ ds.foldl stepD n
  | [], n => Nat.le_refl n
  | b :: ds, n => Nat.le_trans (by unfold stepD; omega) (fold_ge ds (stepD n b))

/-- A number's digits: the first is no 0, the others make it. -/
theorem dec_parts (n : Nat) (hn : 1 ≤ n) : ∃ (d : Nat) (ds : List UInt8), 1 ≤ d ∧ d ≤ 9 ∧ decDigits n = UInt8.ofNat (48 + d) :: ds ∧ (∀ b ∈ ds, isDig b = true) ∧ ds.foldl stepD d = n := by
  induction n using Nat.strongRecOn with
  | _ n ih =>
    by_cases h : n < 10
    · exact ⟨n, [], hn, by omega, by rw [decDigits, dif_pos h], by simp, rfl⟩
    · obtain ⟨d, ds, h1, h2, h3, h4, h5⟩ := ih (n / 10) (by omega) (by omega)
      have hm := isDig_of (d := n % 10) (by omega)
      refine ⟨d, ds ++ [UInt8.ofNat (48 + n % 10)], h1, h2, ?_, ?_, ?_⟩
      · rw [decDigits, dif_neg h, h3]; rfl
      · intro b hb
        rcases List.mem_append.1 hb with hb | hb
        · exact h4 b hb
        · rw [List.mem_singleton.1 hb]; exact hm.1
      · rw [List.foldl_append, h5]
        show stepD (n / 10) _ = n
        unfold stepD
        rw [hm.2]
        omega

theorem more_run : ∀ (k : Nat) (ds : List UInt8) (n : Nat) (r : List UInt8), ds.length ≤ k → (∀ b ∈ ds, isDig b = true) → NoDig r → more k n (ds ++ r) = (r, ds.foldl stepD n)
  | 0, ds, n, r, hk, _, _ => by
    obtain rfl : ds = [] := List.length_eq_zero_iff.1 (by omega)
    rfl
  | k + 1, [], n, r, _, _, hr => by
    cases r with
    | nil => rfl
    | cons b t =>
      have h := hr b t rfl
      show more (k + 1) n (b :: t) = _
      unfold more
      rw [if_neg (by rw [h]; decide)]
      rfl
  | k + 1, b :: ds, n, r, hk, hd, hr => by
    show more (k + 1) n (b :: (ds ++ r)) = _
    unfold more
    rw [if_pos (hd b (by simp))]
    exact more_run k ds _ r (by simpa using hk) (fun x hx => hd x (by simp [hx])) hr

theorem more_form : ∀ (k n : Nat) (l : List UInt8), ∃ ds, l = ds ++ (more k n l).1 ∧ ds.length ≤ k ∧ (∀ b ∈ ds, isDig b = true) ∧ (more k n l).2 = ds.foldl stepD n ∧ (ds.length < k → NoDig (more k n l).1)
  | 0, n, l => ⟨[], rfl, Nat.le_refl _, by simp, rfl, fun h => absurd h (Nat.lt_irrefl _)⟩
  | k + 1, n, [] => ⟨[], rfl, Nat.zero_le _, by simp, rfl, fun _ b r h => by cases h⟩
  | k + 1, n, b :: r => by
    by_cases hb : isDig b = true
    · obtain ⟨ds, h1, h2, h3, h4, h5⟩ := more_form k (10 * n + (b.toNat - 48)) r
      have e : more (k + 1) n (b :: r) = more k (10 * n + (b.toNat - 48)) r := by
        show (if isDig b then _ else _) = _
        rw [if_pos hb]
      rw [e]
      refine ⟨b :: ds, by rw [List.cons_append, ← h1], by simpa using h2, ?_, h4, fun h => h5 (by simpa using h)⟩
      intro x hx
      rcases List.mem_cons.1 hx with rfl | hx
      · exact hb
      · exact h3 x hx
    · have e : more (k + 1) n (b :: r) = (b :: r, n) := by
        show (if isDig b then _ else _) = _
        rw [if_neg hb]
      rw [e]
      exact ⟨[], rfl, Nat.zero_le _, by simp, rfl, fun _ x t h => by cases h; simpa using hb⟩

theorem dec_len5 {n : Nat} (h : n ≤ 99999) : (decDigits n).length ≤ 5 := by
  rw [decDigits_length]
  rcases Nat.lt_or_ge (nDigits n) 6 with h6 | h6
  · omega
  · exfalso
    have h1 : ∀ (k m : Nat), k + 1 ≤ nDigits m → 1 ≤ k → 10 ^ k ≤ m := by
      intro k
      induction k with
      | zero => intro m _ h; omega
      | succ k ih =>
        intro m hm _
        by_cases hs : m < 10
        · rw [nDigits_small hs] at hm; omega
        · rw [nDigits_big hs] at hm
          by_cases hk : k = 0
          · subst hk; simp; omega
          · have := ih (m / 10) (by omega) (by omega)
            rw [Nat.pow_succ]
            omega
    have := h1 5 n (by omega) (by omega)
    omega

theorem number_dec (n : Nat) (h : n ≤ 99999) (r : List UInt8) (hr : NoDig r) : number (decDigits n ++ r) = (r, some n) := by
  by_cases hn : n = 0
  · subst hn
    rw [decDigits_one (by omega)]
    rfl
  · obtain ⟨d, ds, h1, h2, h3, h4, h5⟩ := dec_parts n (by omega)
    have hl := dec_len5 h
    rw [h3] at hl ⊢
    obtain ⟨e1, e2⟩ := isDig_of (d := d) (by omega)
    show number (UInt8.ofNat (48 + d) :: (ds ++ r)) = _
    rw [number_cons, if_pos e1, if_neg (by rw [e2]; omega), e2, more_run 4 ds _ r (by simpa using hl) h4 hr, show 48 + d - 48 = d by omega, h5]

theorem number_form {l r : List UInt8} {n : Nat} (h : number l = (r, some n)) : l = decDigits n ++ r ∧ n ≤ 99999 := by
  cases l with
  | nil => cases h
  | cons b t =>
    rw [number_cons] at h
    by_cases hb : isDig b = true
    · rw [if_pos hb] at h
      by_cases h0 : b.toNat = 48
      · rw [if_pos h0] at h
        cases h
        refine ⟨?_, by omega⟩
        rw [decDigits_one (by omega)]
        have := ofNat_back hb
        rw [h0] at this
        rw [← this]
        rfl
      · rw [if_neg h0] at h
        obtain ⟨ds, h1, h2, h3, h4, _⟩ := more_form 4 (b.toNat - 48) t
        simp only [Prod.mk.injEq, Option.some.injEq] at h
        rw [h.1] at h1
        rw [h.2] at h4
        have hlo := isDig_lo hb
        have hd := dec_fold ds (b.toNat - 48) (by omega) h3
        rw [← h4, decDigits_one (show b.toNat - 48 < 10 by omega), ofNat_back hb] at hd
        refine ⟨by rw [hd, h1]; rfl, ?_⟩
        have hb5 : ∀ (ds : List UInt8) (m : Nat), (∀ b ∈ ds, isDig b = true) → ds.foldl stepD m ≤ (m + 1) * 10 ^ ds.length - 1 := by
          intro ds
          induction ds with
          | nil => intro m _; simp
          | cons x xs ih =>
            intro m hx
            have hxl := isDig_lo (hx x (by simp))
            refine Nat.le_trans (ih (stepD m x) (fun y hy => hx y (by simp [hy]))) ?_
            have hle : stepD m x + 1 ≤ 10 * (m + 1) := by unfold stepD; omega
            have := Nat.mul_le_mul_right (10 ^ xs.length) hle
            rw [List.length_cons, Nat.pow_succ]
            have e : (m + 1) * (10 ^ xs.length * 10) = 10 * (m + 1) * 10 ^ xs.length := by
              rw [Nat.mul_comm (10 ^ xs.length) 10, ← Nat.mul_assoc, Nat.mul_comm (m + 1) 10]
            omega
        have h6 := hb5 ds (b.toNat - 48) h3
        rw [← h4] at h6
        have h7 : 10 ^ ds.length ≤ 10 ^ 4 := Nat.pow_le_pow_right (by omega) h2
        have h8 : (b.toNat - 48 + 1) * 10 ^ ds.length ≤ 10 * 10 ^ 4 := Nat.mul_le_mul (by omega) h7
        omega
    · rw [if_neg hb] at h
      cases h

end TX
end Go.Proofs.YtnkgpinadgacgaaDoor
