/- Plain facts on yards: what a free cell is, the first fault of Cells, the error of a cart, what Check tells. No program is named here. -/
namespace Go.Proofs.YtaldfpoolajoiaaDoor.M

/-- The least number below n at which p holds; n, if there is none. -/
def firstOf (p : Nat → Bool) : Nat → Nat
  | 0 => 0
  | n + 1 => if firstOf p n < n then firstOf p n else if p n then n else n + 1

theorem firstOf_le (p : Nat → Bool) (n : Nat) : firstOf p n ≤ n := by
  induction n with
  | zero => simp [firstOf]
  | succ n ih => simp only [firstOf]; split <;> (try split) <;> omega

theorem firstOf_miss {p : Nat → Bool} {n : Nat} (h : ∀ j, j < n → p j = false) : firstOf p n = n := by
  induction n with
  | zero => rfl
  | succ n ih =>
    have := ih (fun j hj => h j (by omega))
    simp only [firstOf, this, h n (by omega)]
    simp

theorem firstOf_hit {p : Nat → Bool} {k : Nat} (hk : p k = true) (h : ∀ j, j < k → p j = false) : ∀ n, k < n → firstOf p n = k
  | n + 1, hn => by
    by_cases e : k = n
    · subst e
      simp only [firstOf, firstOf_miss h, hk]
      simp
    · have := firstOf_hit hk h n (by omega)
      simp only [firstOf, this]
      rw [if_pos (by omega)]

/-- A free cell. -/
def freeB (cs : ByteArray) (c : Int) : Bool := if h : 0 ≤ c ∧ c < cs.size then ((cs[c.toNat]'(by omega)).toNat : Int) == 46 else false

theorem freeB_in {cs : ByteArray} {c : Int} (h0 : 0 ≤ c) (h1 : c < cs.size) : freeB cs c = (((cs[c.toNat]'(by omega)).toNat : Int) == 46) := by
  unfold freeB; rw [dif_pos ⟨h0, h1⟩]

theorem freeB_out {cs : ByteArray} {c : Int} (h : ¬ (0 ≤ c ∧ c < cs.size)) : freeB cs c = false := by
  unfold freeB; rw [dif_neg h]

/-- A byte that no cell may be. -/
def badB (cs : ByteArray) (j : Nat) : Bool := if h : j < cs.size then !((((cs[j]).toNat : Int) == 46) || (((cs[j]).toNat : Int) == 35)) else false

theorem badB_in {cs : ByteArray} {j : Nat} (h : j < cs.size) : badB cs j = !((((cs[j]).toNat : Int) == 46) || (((cs[j]).toNat : Int) == 35)) := by
  unfold badB; rw [dif_pos h]

/-- The place of the fault of Cells; -1, if there is none. -/
def cellsM (ro co : Int) (cs : ByteArray) : Int :=
  if (cs.size : Int) ≠ ro * co then cs.size else if firstOf (badB cs) cs.size < cs.size then firstOf (badB cs) cs.size else -1

/-- Is a cart's From, or its To, that of a cart ahead? -/
def twiceB (fr to : Nat → Int) (i : Nat) (j : Nat) : Bool := fr j == fr i || to j == to i

/-- The error of a cart. -/
def cartM (cs : ByteArray) (fr to : Nat → Int) (i : Nat) : Int :=
  if freeB cs (fr i) && freeB cs (to i) then (if firstOf (twiceB fr to i) i < i then 5 else 0) else 4

def sideB (n : Int) : Bool := decide (1 ≤ n) && decide (n ≤ 6)

/-- What Check tells. -/
def checkM (ro co : Int) (cs : ByteArray) (n : Nat) (fr to : Nat → Int) (bu : Int) : Int × Int :=
  if (sideB ro && sideB co) = false then (1, 0)
  else if 0 ≤ cellsM ro co cs then (2, cellsM ro co cs)
  else if n < 1 ∨ 4 < n then (3, 0)
  else if firstOf (fun i => !(cartM cs fr to i == 0)) n < n then (cartM cs fr to (firstOf (fun i => !(cartM cs fr to i == 0)) n), firstOf (fun i => !(cartM cs fr to i == 0)) n)
  else if bu < 1 ∨ 20000 < bu then (6, 0) else (0, 0)

end Go.Proofs.YtaldfpoolajoiaaDoor.M
