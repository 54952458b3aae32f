/- A yard as a text, as plain functions: the whole text written, and read; each undoes the other. Nothing of the program. -/
import Derived.Test.YtnkgpinadgacgaaDoorTa
namespace Go.Proofs.YtnkgpinadgacgaaDoor
namespace TX
open Go.Lib

def headB : List UInt8 := [121, 97, 114, 100, 32]

def sep : List Nat → List UInt8
  | [] => []
  | [n] => decDigits n
  | n :: m :: r => decDigits n ++ 32 :: sep (m :: r)

/-- A line of numbers. -/
def lineT (ns : List Nat) : List UInt8 := sep ns ++ [10]

/-- The rows' lines. -/
def rowsT (rows : List (List UInt8)) : List UInt8 := rows.flatMap (· ++ [10])

/-- A list of cells, cut into rows. -/
def chunk (C R : Nat) (cs : List UInt8) : List (List UInt8) := (List.range R).map fun r => (cs.drop (r * C)).take C

/-- A cart's line. -/
def cartT (C : Nat) (c : Int × Int) : List UInt8 := lineT [c.1.toNat / C, c.1.toNat % C, c.2.toNat / C, c.2.toNat % C]

def cartsT (C : Nat) (cs : List (Int × Int)) : List UInt8 := cs.flatMap (cartT C)

def writeT (R C : Nat) (cs : List UInt8) (carts : List (Int × Int)) (U : Nat) : List UInt8 := headB ++ (lineT [U] ++ (rowsT (chunk C R cs) ++ cartsT C carts))

/-! ### Reading -/

def andP {α β : Type} (p : List UInt8 × Option α) (f : α → List UInt8 → List UInt8 × Option β) : List UInt8 × Option β :=
  match p.2 with
  | none => (p.1, none)
  | some a => f a p.1

def okP {α : Type} (p : List UInt8 × Bool) (f : List UInt8 → List UInt8 × Option α) : List UInt8 × Option α := if p.2 then f p.1 else (p.1, none)

def budgetP (l : List UInt8) : List UInt8 × Option Nat := okP (takes headB l) fun l1 => andP (number l1) fun n l2 => okP (take 10 l2) fun l3 => (l3, some n)

def cellsP : Nat → List UInt8 → List UInt8 × List UInt8
  | 0, l => ([], l)
  | _ + 1, [] => ([], [])
  | k + 1, b :: r => if isCell b then (b :: (cellsP k r).1, (cellsP k r).2) else ([], b :: r)

/-- A cell stands first. -/
def beforeCell : List UInt8 → Bool
  | [] => false
  | b :: _ => isCell b

def moreRows (C : Nat) : Nat → List UInt8 → List UInt8 → Nat → List UInt8 × Option (List UInt8 × Nat)
  | 0, l, acc, n => (l, some (acc, n))
  | f + 1, l, acc, n => if beforeCell l then (if (cellsP C l).1.length < C then ((cellsP C l).2, none) else okP (take 10 (cellsP C l).2) fun l1 => moreRows C f l1 (acc ++ (cellsP C l).1) (n + 1)) else (l, some (acc, n))

/-- The rows: the cells, how many rows, how many columns. -/
def rowsP (l : List UInt8) : List UInt8 × Option (List UInt8 × Nat × Nat) :=
  if (cellsP l.length l).1 = [] then ((cellsP l.length l).2, none) else
    okP (take 10 (cellsP l.length l).2) fun l1 => andP (moreRows (cellsP l.length l).1.length (l1.length + 1) l1 (cellsP l.length l).1 1) fun a l2 => (l2, some (a.1, a.2, (cellsP l.length l).1.length))

def atF (R C a b : Nat) : Int := if a < R ∧ b < C then ((a * C + b : Nat) : Int) else -1

def cartP (R C : Nat) (l : List UInt8) : List UInt8 × Option (Int × Int) :=
  andP (number l) fun a l => okP (take 32 l) fun l => andP (number l) fun b l => okP (take 32 l) fun l => andP (number l) fun c l => okP (take 32 l) fun l => andP (number l) fun d l => okP (take 10 l) fun l => (l, some (atF R C a b, atF R C c d))

def cartsP (R C : Nat) : Nat → List UInt8 → List (Int × Int) → List UInt8 × Option (List (Int × Int))
  | 0, l, acc => (l, some acc)
  | f + 1, l, acc => if acc ≠ [] ∧ l = [] then (l, some acc) else andP (cartP R C l) fun c l1 => cartsP R C f l1 (acc ++ [c])

/-- What a text tells: rows, columns, cells, carts, budget. -/
structure Told where
  R : Nat
  C : Nat
  cs : List UInt8
  carts : List (Int × Int)
  U : Nat

def readT (l : List UInt8) : List UInt8 × Option Told :=
  andP (budgetP l) fun u l1 => andP (rowsP l1) fun q l2 => andP (cartsP q.2.1 q.2.2 (l2.length + 1) l2 []) fun cs l3 => (l3, some ⟨q.2.1, q.2.2, q.1, cs, u⟩)

/-! ### The ways through -/

theorem andP_some {α β : Type} {p : List UInt8 × Option α} {f : α → List UInt8 → List UInt8 × Option β} {r : List UInt8} {b : β} (h : andP p f = (r, some b)) : ∃ a l, p = (l, some a) ∧ f a l = (r, some b) := by
  obtain ⟨l, o⟩ := p
  cases o with
  | none => cases h
  | some a => exact ⟨a, l, rfl, h⟩

theorem okP_some {α : Type} {p : List UInt8 × Bool} {f : List UInt8 → List UInt8 × Option α} {r : List UInt8} {b : α} (h : okP p f = (r, some b)) : ∃ l, p = (l, true) ∧ f l = (r, some b) := by
  obtain ⟨l, o⟩ := p
  cases o with
  | false => cases h
  | true => exact ⟨l, rfl, h⟩

theorem andP_mk {α β : Type} (l : List UInt8) (a : α) (f : α → List UInt8 → List UInt8 × Option β) : andP (l, some a) f = f a l := rfl
theorem okP_mk {α : Type} (l : List UInt8) (f : List UInt8 → List UInt8 × Option α) : okP (l, true) f = f l := rfl

theorem take_yes (c : UInt8) (r : List UInt8) : take c (c :: r) = (r, true) := by
  show (if c = c then _ else _) = _
  rw [if_pos rfl]

theorem take_form {c : UInt8} {l r : List UInt8} (h : take c l = (r, true)) : l = c :: r := by
  cases l with
  | nil => cases h
  | cons b t =>
    have h' : (if b = c then (t, true) else (b :: t, false)) = (r, true) := h
    by_cases hb : b = c
    · rw [if_pos hb] at h'
      cases h'
      rw [hb]
    · rw [if_neg hb] at h'
      cases h'

theorem takes_yes : ∀ (cs l : List UInt8), takes cs (cs ++ l) = (l, true)
  | [], l => rfl
  | c :: cs, l => by
    show (if (take c (c :: (cs ++ l))).2 then takes cs (take c (c :: (cs ++ l))).1 else _) = _
    rw [take_yes, if_pos rfl]
    exact takes_yes cs l

theorem takes_form : ∀ {cs l r : List UInt8}, takes cs l = (r, true) → l = cs ++ r
  | [], l, r, h => by cases h; rfl
  | c :: cs, l, r, h => by
    have h' : (if (take c l).2 then takes cs (take c l).1 else ((take c l).1, false)) = (r, true) := h
    by_cases ht : (take c l).2 = true
    · rw [if_pos ht] at h'
      have h1 : take c l = ((take c l).1, true) := Prod.ext rfl ht
      have h2 := takes_form h'
      rw [take_form h1, h2]
      rfl
    · rw [if_neg ht] at h'
      cases h'

theorem noDig_cons {b : UInt8} {r : List UInt8} (h : isDig b = false) : NoDig (b :: r) := fun x t e => by cases e; exact h

theorem cellsP_run : ∀ (k : Nat) (ds r : List UInt8), ds.length ≤ k → (∀ b ∈ ds, isCell b = true) → (ds.length = k ∨ beforeCell r = false) → cellsP k (ds ++ r) = (ds, r)
  | 0, ds, r, hk, _, _ => by
    obtain rfl : ds = [] := List.length_eq_zero_iff.1 (by omega)
    rfl
  | k + 1, [], r, _, _, hr => by
    cases r with
    | nil => rfl
    | cons b t =>
      have h : isCell b = false := by
        rcases hr with hr | hr
        · simp at hr
        · exact hr
      show (if isCell b then _ else _) = _
      rw [if_neg (by rw [h]; decide)]
  | k + 1, b :: ds, r, hk, hd, hr => by
    show (if isCell b then (b :: (cellsP k (ds ++ r)).1, (cellsP k (ds ++ r)).2) else _) = _
    rw [if_pos (hd b (by simp)), cellsP_run k ds r (by simpa using hk) (fun x hx => hd x (by simp [hx])) (by simpa using hr)]

theorem cellsP_form : ∀ (k : Nat) (l : List UInt8), l = (cellsP k l).1 ++ (cellsP k l).2 ∧ (cellsP k l).1.length ≤ k ∧ (∀ b ∈ (cellsP k l).1, isCell b = true) ∧ ((cellsP k l).1.length < k → beforeCell (cellsP k l).2 = false)
  | 0, l => ⟨rfl, Nat.le_refl _, by simp [cellsP], fun h => absurd h (Nat.lt_irrefl _)⟩
  | k + 1, [] => ⟨rfl, Nat.zero_le _, by simp [cellsP], fun _ => rfl⟩
  | k + 1, b :: r => by
    by_cases hb : isCell b = true
    · have e : cellsP (k + 1) (b :: r) = (b :: (cellsP k r).1, (cellsP k r).2) := by
        show (if isCell b then _ else _) = _
        rw [if_pos hb]
      obtain ⟨h1, h2, h3, h4⟩ := cellsP_form k r
      rw [e]
      refine ⟨by rw [List.cons_append, ← h1], by simpa using h2, fun x hx => ?_, fun h => h4 (by simpa using h)⟩
      rcases List.mem_cons.1 hx with rfl | hx
      · exact hb
      · exact h3 x hx
    · have e : cellsP (k + 1) (b :: r) = ([], b :: r) := by
        show (if isCell b then _ else _) = _
        rw [if_neg hb]
      rw [e]
      exact ⟨rfl, Nat.zero_le _, by simp, fun _ => by simpa [beforeCell] using hb⟩

/-- A row of a yard. -/
def RowC (C : Nat) (row : List UInt8) : Prop := row.length = C ∧ ∀ b ∈ row, isCell b = true

theorem rowsT_cons (row : List UInt8) (rows : List (List UInt8)) : rowsT (row :: rows) = row ++ 10 :: rowsT rows := by
  simp [rowsT]

theorem before_row {C : Nat} {row t : List UInt8} (hC : 1 ≤ C) (h : RowC C row) : beforeCell (row ++ t) = true := by
  obtain ⟨h1, h2⟩ := h
  cases row with
  | nil => simp at h1; omega
  | cons b r => exact h2 b (by simp)

theorem rows_run (C : Nat) (hC : 1 ≤ C) : ∀ (rows : List (List UInt8)) (f : Nat) (tail acc : List UInt8) (n : Nat), rows.length ≤ f → (∀ row ∈ rows, RowC C row) → beforeCell tail = false →
    moreRows C f (rowsT rows ++ tail) acc n = (tail, some (acc ++ rows.flatten, n + rows.length))
  | [], f, tail, acc, n, _, _, ht => by
    cases f with
    | zero => simp [moreRows, rowsT]
    | succ f =>
      show (if beforeCell tail then _ else _) = _
      rw [if_neg (by rw [ht]; decide)]
      simp [rowsT]
  | row :: rows, 0, tail, acc, n, hf, _, _ => by simp at hf
  | row :: rows, f + 1, tail, acc, n, hf, hr, ht => by
    have h1 := hr row (by simp)
    have e : rowsT (row :: rows) ++ tail = row ++ (10 :: (rowsT rows ++ tail)) := by rw [rowsT_cons]; simp
    rw [e]
    show (if beforeCell (row ++ _) then (if (cellsP C (row ++ _)).1.length < C then _ else okP (take 10 (cellsP C (row ++ _)).2) fun l1 => moreRows C f l1 (acc ++ (cellsP C (row ++ _)).1) (n + 1)) else _) = _
    rw [if_pos (before_row hC h1), cellsP_run C row _ (by rw [h1.1]; omega) h1.2 (.inl h1.1), if_neg (by show ¬ row.length < C; rw [h1.1]; omega)]
    show okP (take 10 (10 :: (rowsT rows ++ tail))) _ = _
    rw [take_yes]
    show moreRows C f (rowsT rows ++ tail) (acc ++ row) (n + 1) = _
    rw [rows_run C hC rows f tail (acc ++ row) (n + 1) (by simpa using hf) (fun x hx => hr x (by simp [hx])) ht]
    simp
    try omega

theorem rows_form (C : Nat) : ∀ (f : Nat) (l acc : List UInt8) (n : Nat) {r cs : List UInt8} {n' : Nat}, moreRows C f l acc n = (r, some (cs, n')) →
    ∃ rows, l = rowsT rows ++ r ∧ (∀ row ∈ rows, RowC C row) ∧ cs = acc ++ rows.flatten ∧ n' = n + rows.length
  | 0, l, acc, n, r, cs, n', h => by
    cases h
    exact ⟨[], rfl, by simp, by simp, rfl⟩
  | f + 1, l, acc, n, r, cs, n', h => by
    have h' : (if beforeCell l then (if (cellsP C l).1.length < C then ((cellsP C l).2, none) else okP (take 10 (cellsP C l).2) fun l1 => moreRows C f l1 (acc ++ (cellsP C l).1) (n + 1)) else (l, some (acc, n))) = (r, some (cs, n')) := h
    by_cases hb : beforeCell l = true
    · rw [if_pos hb] at h'
      obtain ⟨c1, c2, c3, _⟩ := cellsP_form C l
      by_cases hl : (cellsP C l).1.length < C
      · rw [if_pos hl] at h'
        cases h'
      · rw [if_neg hl] at h'
        obtain ⟨l1, ht, h2⟩ := okP_some h'
        obtain ⟨rows, e1, e2, e3, e4⟩ := rows_form C f l1 _ _ h2
        have h3 := take_form ht
        refine ⟨(cellsP C l).1 :: rows, ?_, ?_, ?_, ?_⟩
        · rw [rowsT_cons, List.append_assoc, List.cons_append, ← e1, ← h3, ← c1]
        · intro row hrow
          rcases List.mem_cons.1 hrow with rfl | hrow
          · exact ⟨by omega, c3⟩
          · exact e2 row hrow
        · rw [e3]; simp
        · rw [e4]; simp; omega
    · rw [if_neg hb] at h'
      cases h'
      exact ⟨[], rfl, by simp, by simp, rfl⟩

theorem line4_run {R C a b c d : Nat} (ha : a ≤ 99999) (hb : b ≤ 99999) (hc : c ≤ 99999) (hd : d ≤ 99999) (r : List UInt8) : cartP R C (lineT [a, b, c, d] ++ r) = (r, some (atF R C a b, atF R C c d)) := by
  have e : lineT [a, b, c, d] ++ r = decDigits a ++ 32 :: (decDigits b ++ 32 :: (decDigits c ++ 32 :: (decDigits d ++ 10 :: r))) := by simp [lineT, sep]
  have n32 : ∀ t, NoDig (32 :: t) := fun t => noDig_cons (by decide)
  have n10 : ∀ t, NoDig (10 :: t) := fun t => noDig_cons (by decide)
  unfold cartP
  rw [e, number_dec a ha _ (n32 _), andP_mk, take_yes, okP_mk, number_dec b hb _ (n32 _), andP_mk, take_yes, okP_mk, number_dec c hc _ (n32 _), andP_mk, take_yes, okP_mk, number_dec d hd _ (n10 _), andP_mk, take_yes, okP_mk]

theorem line4_form {R C : Nat} {l r : List UInt8} {v : Int × Int} (h : cartP R C l = (r, some v)) : ∃ a b c d, l = lineT [a, b, c, d] ++ r ∧ v = (atF R C a b, atF R C c d) := by
  unfold cartP at h
  obtain ⟨a, l1, h1, h⟩ := andP_some h
  obtain ⟨l2, h2, h⟩ := okP_some h
  obtain ⟨b, l3, h3, h⟩ := andP_some h
  obtain ⟨l4, h4, h⟩ := okP_some h
  obtain ⟨c, l5, h5, h⟩ := andP_some h
  obtain ⟨l6, h6, h⟩ := okP_some h
  obtain ⟨d, l7, h7, h⟩ := andP_some h
  obtain ⟨l8, h8, h⟩ := okP_some h
  cases h
  refine ⟨a, b, c, d, ?_, rfl⟩
  rw [(number_form h1).1, take_form h2, (number_form h3).1, take_form h4, (number_form h5).1, take_form h6, (number_form h7).1, take_form h8]
  simp [lineT, sep]

theorem at_back {R C : Nat} {x : Nat} (hC : 1 ≤ C) (hx : x < R * C) : atF R C (x / C) (x % C) = (x : Int) := by
  unfold atF
  rw [if_pos ⟨Nat.div_lt_of_lt_mul (by rw [Nat.mul_comm]; exact hx), Nat.mod_lt _ hC⟩, Nat.mul_comm, Nat.div_add_mod]

theorem at_form {R C a b : Nat} (h : 0 ≤ atF R C a b) : (atF R C a b).toNat / C = a ∧ (atF R C a b).toNat % C = b ∧ (atF R C a b).toNat < R * C := by
  unfold atF at h ⊢
  by_cases hq : a < R ∧ b < C
  · rw [if_pos hq]
    obtain ⟨ha, hb⟩ := hq
    have e : (((a * C + b : Nat) : Int)).toNat = a * C + b := Int.toNat_natCast _
    rw [e]
    refine ⟨?_, ?_, ?_⟩
    · rw [Nat.mul_comm, Nat.mul_add_div (by omega), Nat.div_eq_of_lt hb, Nat.add_zero]
    · rw [Nat.mul_comm, Nat.mul_add_mod, Nat.mod_eq_of_lt hb]
    · have := Nat.mul_le_mul_right C (show a + 1 ≤ R from ha)
      rw [Nat.succ_mul] at this
      omega
  · rw [if_neg hq] at h
    omega

theorem cartT_pos (C : Nat) (c : Int × Int) : 1 ≤ (cartT C c).length := by simp [cartT, lineT]

theorem carts_run (R C : Nat) (hC : 1 ≤ C) (h36 : R * C ≤ 99999) : ∀ (cs : List (Int × Int)) (f : Nat) (acc : List (Int × Int)), cs.length < f → (acc ≠ [] ∨ cs ≠ []) → (∀ c ∈ cs, 0 ≤ c.1 ∧ c.1 < ((R * C : Nat) : Int) ∧ 0 ≤ c.2 ∧ c.2 < ((R * C : Nat) : Int)) →
    cartsP R C f (cartsT C cs) acc = ([], some (acc ++ cs))
  | _, 0, _, hf, _, _ => by omega
  | [], f + 1, acc, _, hne, _ => by
    show (if acc ≠ [] ∧ ([] : List UInt8) = [] then _ else _) = _
    rw [if_pos ⟨hne.resolve_right (fun h => h rfl), rfl⟩]
    simp
    rfl
  | c :: cs, f + 1, acc, hf, _, hc => by
    obtain ⟨x, y⟩ := c
    obtain ⟨h1, h2, h3, h4⟩ := hc (x, y) (by simp)
    obtain ⟨a, rfl⟩ := Int.eq_ofNat_of_zero_le h1
    obtain ⟨b, rfl⟩ := Int.eq_ofNat_of_zero_le h3
    have ha : a < R * C := Int.ofNat_lt.1 h2
    have hb : b < R * C := Int.ofNat_lt.1 h4
    have e : cartsT C (((a : Int), (b : Int)) :: cs) = lineT [a / C, a % C, b / C, b % C] ++ cartsT C cs := by simp [cartsT, cartT]
    rw [e]
    have hd : ∀ x, x < R * C → x / C ≤ 99999 ∧ x % C ≤ 99999 := fun x hx => ⟨Nat.le_trans (Nat.div_le_self x C) (by omega), Nat.le_trans (Nat.mod_le x C) (by omega)⟩
    show (if acc ≠ [] ∧ (lineT [a / C, a % C, b / C, b % C] ++ cartsT C cs) = [] then _ else andP (cartP R C (lineT [a / C, a % C, b / C, b % C] ++ cartsT C cs)) fun c l1 => cartsP R C f l1 (acc ++ [c])) = _
    rw [if_neg (by rintro ⟨_, h⟩; simp [lineT] at h), line4_run (hd a ha).1 (hd a ha).2 (hd b hb).1 (hd b hb).2, at_back hC ha, at_back hC hb]
    show cartsP R C f (cartsT C cs) (acc ++ [((a : Int), (b : Int))]) = _
    rw [carts_run R C hC h36 cs f _ (by simpa using hf) (.inl (by simp)) (fun x hx => hc x (by simp [hx]))]
    simp

theorem carts_form (R C : Nat) : ∀ (f : Nat) (l : List UInt8) (acc : List (Int × Int)) {r : List UInt8} {acc' : List (Int × Int)}, l.length < f → cartsP R C f l acc = (r, some acc') →
    r = [] ∧ acc' ≠ [] ∧ ∃ cs, acc' = acc ++ cs ∧ (∀ c ∈ cs, c.1 < ((R * C : Nat) : Int) ∧ c.2 < ((R * C : Nat) : Int)) ∧ ((∀ c ∈ cs, 0 ≤ c.1 ∧ 0 ≤ c.2) → l = cartsT C cs)
  | 0, _, _, _, _, hf, _ => by omega
  | f + 1, l, acc, r, acc', hf, h => by
    have h' : (if acc ≠ [] ∧ l = [] then (l, some acc) else andP (cartP R C l) fun c l1 => cartsP R C f l1 (acc ++ [c])) = (r, some acc') := h
    by_cases hd : acc ≠ [] ∧ l = []
    · rw [if_pos hd] at h'
      cases h'
      exact ⟨hd.2, hd.1, [], by simp, by simp, fun _ => hd.2⟩
    · rw [if_neg hd] at h'
      obtain ⟨v, l1, h1, h2⟩ := andP_some h'
      obtain ⟨a, b, c, d, e1, e2⟩ := line4_form h1
      have hlen : l1.length < f := by
        have : 1 ≤ (lineT [a, b, c, d]).length := by simp [lineT]
        rw [e1, List.length_append] at hf
        omega
      obtain ⟨hr, hne, cs, e3, e4, e5⟩ := carts_form R C f l1 _ hlen h2
      have hat : ∀ x y, atF R C x y < ((R * C : Nat) : Int) ∨ atF R C x y < 0 := fun x y => by
        by_cases h0 : 0 ≤ atF R C x y
        · have := (at_form h0).2.2
          left
          omega
        · right; omega
      refine ⟨hr, hne, v :: cs, by rw [e3]; simp, ?_, ?_⟩
      · intro x hx
        rcases List.mem_cons.1 hx with rfl | hx
        · have n0 : (0 : Int) ≤ ((R * C : Nat) : Int) := by omega
          rw [e2]
          exact ⟨(hat a b).elim id (fun h => by omega), (hat c d).elim id (fun h => by omega)⟩
        · exact e4 x hx
      · intro hall
        have hv := hall v (by simp)
        rw [e2] at hv
        obtain ⟨p1, p2, _⟩ := at_form hv.1
        obtain ⟨p3, p4, _⟩ := at_form hv.2
        rw [e1, e5 (fun x hx => hall x (by simp [hx]))]
        show _ = cartT C v ++ cartsT C cs
        rw [e2]
        show _ = lineT [_, _, _, _] ++ _
        rw [p1, p2, p3, p4]

theorem chunk_flatten (C : Nat) : ∀ (R : Nat) (cs : List UInt8), cs.length = R * C → (chunk C R cs).flatten = cs
  | 0, cs, h => by
    obtain rfl : cs = [] := List.length_eq_zero_iff.1 (by omega)
    rfl
  | R + 1, cs, h => by
    have e : chunk C (R + 1) cs = cs.take C :: chunk C R (cs.drop C) := by
      unfold chunk
      rw [List.range_succ_eq_map, List.map_cons, List.map_map]
      simp only [Nat.zero_mul, List.drop_zero]
      congr 1
      refine List.map_congr_left fun r _ => ?_
      show (cs.drop ((r + 1) * C)).take C = _
      rw [List.drop_drop, Nat.succ_mul, Nat.add_comm]
    rw [e, List.flatten_cons, chunk_flatten C R (cs.drop C) (by rw [List.length_drop, h, Nat.succ_mul]; omega), List.take_append_drop]

theorem chunk_of (C : Nat) : ∀ (rows : List (List UInt8)), (∀ row ∈ rows, row.length = C) → chunk C rows.length rows.flatten = rows
  | [], _ => rfl
  | row :: rows, h => by
    have h1 := h row (by simp)
    have e : chunk C (row :: rows).length (row :: rows).flatten = row :: chunk C rows.length rows.flatten := by
      unfold chunk
      rw [List.length_cons, List.range_succ_eq_map, List.map_cons, List.map_map, List.flatten_cons]
      congr 1
      · simp only [Nat.zero_mul, List.drop_zero]
        rw [← h1]
        exact List.take_left
      · refine List.map_congr_left fun r _ => ?_
        show ((row ++ rows.flatten).drop ((r + 1) * C)).take C = _
        rw [Nat.succ_mul, Nat.add_comm, ← List.drop_drop, show (row ++ rows.flatten).drop C = rows.flatten by rw [← h1]; exact List.drop_left]
    rw [e, chunk_of C rows fun x hx => h x (by simp [hx])]

theorem chunk_rows {C R : Nat} {cs : List UInt8} (h : cs.length = R * C) (hc : ∀ b ∈ cs, isCell b = true) : ∀ row ∈ chunk C R cs, RowC C row := by
  intro row hr
  obtain ⟨r, hr1, rfl⟩ := List.mem_map.1 hr
  have hlt := List.mem_range.1 hr1
  have hle := Nat.mul_le_mul_right C (show r + 1 ≤ R from hlt)
  rw [Nat.succ_mul] at hle
  refine ⟨?_, fun b hb => hc b (List.mem_of_mem_drop (List.mem_of_mem_take hb))⟩
  rw [List.length_take, List.length_drop, h]
  omega

theorem chunk_length (C R : Nat) (cs : List UInt8) : (chunk C R cs).length = R := by simp [chunk]

theorem before_carts (C : Nat) (cs : List (Int × Int)) : beforeCell (cartsT C cs) = false := by
  cases cs with
  | nil => rfl
  | cons c cs =>
    have h : ∀ (n : Nat) (t : List UInt8), beforeCell (decDigits n ++ t) = false := by
      intro n t
      have hb : ∀ d, d < 10 → isCell (UInt8.ofNat (48 + d)) = false := by
        intro d hd
        unfold isCell
        rw [(isDig_of hd).2]
        simp
        omega
      by_cases hn : n = 0
      · subst hn
        rw [decDigits_one (by omega)]
        exact hb 0 (by omega)
      · obtain ⟨d, ds, _, h2, h3, _⟩ := dec_parts n (by omega)
        rw [h3]
        exact hb d (by omega)
    have e : cartsT C (c :: cs) = decDigits (c.1.toNat / C) ++ (32 :: (sep [c.1.toNat % C, c.2.toNat / C, c.2.toNat % C] ++ [10]) ++ cartsT C cs) := by simp [cartsT, cartT, lineT, sep]
    rw [e]
    exact h _ _

/-- WHAT IS WRITTEN IS READ AGAIN. -/
theorem read_write {R C U : Nat} {cs : List UInt8} {carts : List (Int × Int)} (hR : 1 ≤ R) (hC : 1 ≤ C) (h36 : R * C ≤ 99999) (hU : U ≤ 99999) (hl : cs.length = R * C) (hc : ∀ b ∈ cs, isCell b = true) (hne : carts ≠ [])
    (hin : ∀ c ∈ carts, 0 ≤ c.1 ∧ c.1 < ((R * C : Nat) : Int) ∧ 0 ≤ c.2 ∧ c.2 < ((R * C : Nat) : Int)) : readT (writeT R C cs carts U) = ([], some ⟨R, C, cs, carts, U⟩) := by
  unfold readT writeT budgetP
  rw [takes_yes, okP_mk]
  have e1 : lineT [U] ++ (rowsT (chunk C R cs) ++ cartsT C carts) = decDigits U ++ 10 :: (rowsT (chunk C R cs) ++ cartsT C carts) := by simp [lineT, sep]
  rw [e1, number_dec U hU _ (noDig_cons (by decide)), andP_mk, take_yes, okP_mk, andP_mk]
  have hrows := chunk_rows hl hc
  have hlen := chunk_length C R cs
  have hflat := chunk_flatten C R cs hl
  cases hch : chunk C R cs with
  | nil => rw [hch] at hlen; simp at hlen; omega
  | cons row rows =>
    rw [hch] at hrows hlen hflat
    have h1 := hrows row (by simp)
    have e2 : rowsT (row :: rows) ++ cartsT C carts = row ++ 10 :: (rowsT rows ++ cartsT C carts) := by rw [rowsT_cons]; simp
    have e3 : cellsP (rowsT (row :: rows) ++ cartsT C carts).length (rowsT (row :: rows) ++ cartsT C carts) = (row, 10 :: (rowsT rows ++ cartsT C carts)) := by
      rw [e2]
      exact cellsP_run _ row _ (by rw [List.length_append]; omega) h1.2 (.inr rfl)
    have h2 : rowsP (rowsT (row :: rows) ++ cartsT C carts) = (cartsT C carts, some (cs, R, C)) := by
      unfold rowsP
      rw [e3, if_neg (by show ¬ row = []; rintro rfl; have := h1.1; simp at this; omega), take_yes, okP_mk]
      have hRl : ∀ (l : List (List UInt8)), l.length ≤ (rowsT l).length := by
        intro l
        induction l with
        | nil => exact Nat.le_refl _
        | cons x xs ih => rw [rowsT_cons]; simp; omega
      rw [h1.1, rows_run C hC rows _ _ row 1 (by have := hRl rows; rw [List.length_append]; omega) (fun x hx => hrows x (by simp [hx])) (before_carts C carts), andP_mk]
      rw [List.flatten_cons] at hflat
      rw [hflat]
      have : 1 + rows.length = R := by simp at hlen; omega
      rw [this]
    rw [h2, andP_mk]
    have hCl : ∀ (l : List (Int × Int)), l.length ≤ (cartsT C l).length := by
      intro l
      induction l with
      | nil => exact Nat.le_refl _
      | cons x xs ih =>
        have e : cartsT C (x :: xs) = cartT C x ++ cartsT C xs := rfl
        have := cartT_pos C x
        rw [e, List.length_append, List.length_cons]
        omega
    rw [carts_run R C hC h36 carts _ [] (by have := hCl carts; omega) (.inr hne) hin, andP_mk]
    rfl

/-- WHAT IS READ, WITH CARTS IN THE YARD, IS WRITTEN AS IT WAS. -/
theorem write_read {l r : List UInt8} {t : Told} (h : readT l = (r, some t)) : r = [] ∧ 1 ≤ t.R ∧ 1 ≤ t.C ∧ t.cs.length = t.R * t.C ∧ (∀ b ∈ t.cs, isCell b = true) ∧ t.carts ≠ [] ∧ t.U ≤ 99999 ∧
    ((∀ c ∈ t.carts, 0 ≤ c.1 ∧ 0 ≤ c.2) → l = writeT t.R t.C t.cs t.carts t.U) := by
  unfold readT at h
  obtain ⟨u, l1, h1, h⟩ := andP_some h
  obtain ⟨q, l2, h2, h⟩ := andP_some h
  obtain ⟨cs, l3, h3, h⟩ := andP_some h
  cases h
  unfold budgetP at h1
  obtain ⟨k1, b1, h1⟩ := okP_some h1
  obtain ⟨n, k2, b2, h1⟩ := andP_some h1
  obtain ⟨k3, b3, h1⟩ := okP_some h1
  cases h1
  unfold rowsP at h2
  obtain ⟨c1, c2, c3, _⟩ := cellsP_form l1.length l1
  by_cases he : (cellsP l1.length l1).1 = []
  · rw [if_pos he] at h2
    cases h2
  · rw [if_neg he] at h2
    obtain ⟨m1, d1, h2⟩ := okP_some h2
    obtain ⟨a, m2, d2, h2⟩ := andP_some h2
    obtain ⟨acs, an⟩ := a
    cases h2
    obtain ⟨rows, f1, f2, f3, f4⟩ := rows_form _ _ _ _ _ d2
    obtain ⟨g1, g2, cs', g3, g4, g5⟩ := carts_form _ _ _ _ _ (Nat.lt_succ_self _) h3
    have g3' : cs = cs' := by simpa using g3
    subst g3'
    generalize hrow : (cellsP l1.length l1).1 = row at *
    have hrl : 1 ≤ row.length := by
      cases row with
      | nil => exact absurd rfl he
      | cons _ _ => simp
    have hall : ∀ x ∈ row :: rows, RowC row.length x := by
      intro x hx
      rcases List.mem_cons.1 hx with rfl | hx
      · exact ⟨rfl, c3⟩
      · exact f2 x hx
    have hcs : acs = (row :: rows).flatten := by rw [f3]; rfl
    have hn : an = (row :: rows).length := by rw [f4]; simp; omega
    have hch := chunk_of row.length (row :: rows) (fun x hx => (hall x hx).1)
    refine ⟨g1, by show 1 ≤ an; rw [hn]; simp, hrl, ?_, ?_, g2, (number_form b2).2, fun hpos => ?_⟩
    · show acs.length = an * row.length
      have hsum : ∀ (l : List (List UInt8)), (∀ x ∈ l, RowC row.length x) → l.flatten.length = l.length * row.length := by
        intro l
        induction l with
        | nil => intro _; simp
        | cons x xs ih =>
          intro hx
          rw [List.flatten_cons, List.length_append, ih (fun y hy => hx y (by simp [hy])), (hx x (by simp)).1, List.length_cons, Nat.succ_mul]
          omega
      rw [hcs, hn]
      exact hsum _ hall
    · intro b hb
      have hb' : b ∈ (row :: rows).flatten := by rw [← hcs]; exact hb
      obtain ⟨x, hx, hbx⟩ := List.mem_flatten.1 hb'
      exact (hall x hx).2 b hbx
    · show l = writeT an row.length acs cs u
      have hl2 := g5 hpos
      unfold writeT
      rw [hcs, hn, hch, rowsT_cons, takes_form b1, (number_form b2).1, take_form b3, c1, take_form d1, f1, ← hl2]
      simp [lineT, sep]

end TX
end Go.Proofs.YtnkgpinadgacgaaDoor
