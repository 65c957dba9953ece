/-
  Tasks that wait for none that is left are taken away, round by round (plain functions; nothing of the program).
-/
namespace Go.Proofs.YtoabakgmjcnodaaDoor

/-- May task a be taken away, as far as the first k tasks say? -/
def freeTo (W : Nat → Nat → Bool) (G : Nat → Bool) (a : Nat) : Nat → Bool
  | 0 => !G a
  | k + 1 => freeTo W G a k && (!W a k || G k)
/-- The tasks gone over, up to number j. -/
def passTo (W : Nat → Nat → Bool) (n : Nat) (st : (Nat → Bool) × Int) : Nat → (Nat → Bool) × Int
  | 0 => st
  | j + 1 => if freeTo W (passTo W n st j).1 j n = true then (fun i => if i = j then true else (passTo W n st j).1 i, (passTo W n st j).2 - 1) else passTo W n st j
/-- So many rounds. -/
def rounds (W : Nat → Nat → Bool) (n : Nat) : Nat → (Nat → Bool) × Int
  | 0 => (fun _ => false, n)
  | r + 1 => passTo W n (rounds W n r) n
def ringB (W : Nat → Nat → Bool) (n : Nat) : Bool := decide (0 < (rounds W n (n + 1)).2)

theorem freeTo_no {W : Nat → Nat → Bool} {G : Nat → Bool} {a k : Nat} (h : freeTo W G a k = false) : ∀ m, k ≤ m → freeTo W G a m = false := by
  intro m hm
  induction m with
  | zero => have : k = 0 := by omega
            subst this; exact h
  | succ m ih =>
    by_cases e : k = m + 1
    · subst e; exact h
    · simp [freeTo, ih (by omega)]
theorem passTo_bd (W : Nat → Nat → Bool) (n : Nat) (st : (Nat → Bool) × Int) (j : Nat) : st.2 - j ≤ (passTo W n st j).2 ∧ (passTo W n st j).2 ≤ st.2 := by
  induction j with
  | zero => simp [passTo]
  | succ j ih =>
    simp only [passTo]
    split
    · simp only; omega
    · omega
theorem rounds_bd (W : Nat → Nat → Bool) (n r : Nat) : (n : Int) - (r * n : Nat) ≤ (rounds W n r).2 ∧ (rounds W n r).2 ≤ n := by
  induction r with
  | zero => simp [rounds]
  | succ r ih =>
    have := passTo_bd W n (rounds W n r) n
    simp only [rounds, Nat.add_mul, Nat.one_mul]; omega
end Go.Proofs.YtoabakgmjcnodaaDoor
