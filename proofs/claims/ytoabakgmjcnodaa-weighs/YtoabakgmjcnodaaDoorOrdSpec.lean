/-
  Tasks are put in order: each behind those that it waits for (plain functions; nothing of the program).
-/
import Derived.Test.YtoabakgmjcnodaaDoorRingSpec
namespace Go.Proofs.YtoabakgmjcnodaaDoor

def ordStep (ls : List (List Nat)) (o : List Nat) (j : Nat) : List Nat := if o.contains j = false ∧ (ls.getD j []).all (fun x => o.contains x) = true then o ++ [j] else o
def ordPass (ls : List (List Nat)) (o : List Nat) : Nat → List Nat
  | 0 => o
  | j + 1 => ordStep ls (ordPass ls o j) j
def ordIter (ls : List (List Nat)) (n : Nat) : Nat → List Nat
  | 0 => []
  | r + 1 => ordPass ls (ordIter ls n r) n

/-- How many of the first n are. -/
def cnt (f : Nat → Bool) : Nat → Nat
  | 0 => 0
  | k + 1 => cnt f k + (if f k = true then 1 else 0)
theorem cnt_le (f : Nat → Bool) (n : Nat) : cnt f n ≤ n := by
  induction n with
  | zero => exact Nat.le_refl _
  | succ n ih => simp only [cnt]; split <;> omega
theorem cnt_upd {f g : Nat → Bool} {j : Nat} (h : ∀ i, i ≠ j → g i = f i) (hf : f j = false) (hg : g j = true) (n : Nat) : cnt g n = cnt f n + (if j < n then 1 else 0) := by
  induction n with
  | zero => rfl
  | succ n ih =>
    simp only [cnt, ih]
    by_cases e : n = j
    · subst e; simp [hf, hg]
    · rw [h n e]
      by_cases h1 : j < n
      · rw [if_pos h1, if_pos (show j < n + 1 by omega)]; omega
      · rw [if_neg h1, if_neg (show ¬ j < n + 1 by omega)]; omega
theorem has_snoc (o : List Nat) (j i : Nat) : (o ++ [j]).contains i = (o.contains i || decide (i = j)) := by
  rw [Bool.eq_iff_iff]; simp
theorem cnt_snoc {o : List Nat} {j n : Nat} (hj : j < n) (h : o.contains j = false) : cnt (fun i => (o ++ [j]).contains i) n = cnt (fun i => o.contains i) n + 1 := by
  rw [cnt_upd (f := fun i => o.contains i) (j := j) (fun i hi => by simp only [has_snoc, hi, decide_false, Bool.or_false]) h (by simp only [has_snoc, decide_true, Bool.or_true]) n, if_pos hj]
theorem ordStep_len {ls : List (List Nat)} {o : List Nat} {j n : Nat} (hj : j < n) (h : o.length = cnt (fun i => o.contains i) n) : (ordStep ls o j).length = cnt (fun i => (ordStep ls o j).contains i) n := by
  unfold ordStep
  split
  · rename_i hc; rw [cnt_snoc hj hc.1, List.length_append, h]; rfl
  · exact h
theorem ordPass_len {ls : List (List Nat)} {o : List Nat} {n : Nat} (h : o.length = cnt (fun i => o.contains i) n) : ∀ j, j ≤ n → (ordPass ls o j).length = cnt (fun i => (ordPass ls o j).contains i) n
  | 0, _ => h
  | j + 1, hj => ordStep_len (by omega) (ordPass_len h j (by omega))
theorem ordIter_len (ls : List (List Nat)) (n : Nat) : ∀ r, (ordIter ls n r).length = cnt (fun i => (ordIter ls n r).contains i) n
  | 0 => by
    have : ∀ m, cnt (fun i => ([] : List Nat).contains i) m = 0 := by
      intro m; induction m with
      | zero => rfl
      | succ m ih => simp only [cnt, ih]; simp
    exact (this n).symm
  | r + 1 => ordPass_len (ordIter_len ls n r) n (Nat.le_refl _)
theorem ordStep_ge (ls : List (List Nat)) (o : List Nat) (j : Nat) : o.length ≤ (ordStep ls o j).length := by
  unfold ordStep; split
  · rw [List.length_append]; omega
  · exact Nat.le_refl _
theorem ordPass_ge (ls : List (List Nat)) (o : List Nat) : ∀ j, o.length ≤ (ordPass ls o j).length
  | 0 => Nat.le_refl _
  | j + 1 => Nat.le_trans (ordPass_ge ls o j) (ordStep_ge ls _ j)
theorem ordPass_lt {ls : List (List Nat)} {o : List Nat} {n : Nat} (h : ∀ x ∈ o, x < n) : ∀ j, j ≤ n → ∀ x ∈ ordPass ls o j, x < n
  | 0, _ => h
  | j + 1, hj => by
    intro x hx
    simp only [ordPass, ordStep] at hx
    split at hx
    · rw [List.mem_append] at hx
      rcases hx with hx | hx
      · exact ordPass_lt h j (by omega) x hx
      · simp at hx; omega
    · exact ordPass_lt h j (by omega) x hx
theorem ordIter_lt (ls : List (List Nat)) (n : Nat) : ∀ r, ∀ x ∈ ordIter ls n r, x < n
  | 0 => fun x hx => by simp [ordIter] at hx
  | r + 1 => ordPass_lt (ordIter_lt ls n r) n (Nat.le_refl _)
/-- A pass either grows or leaves all as it was. -/
theorem ordPass_same {ls : List (List Nat)} {o : List Nat} : ∀ j, (ordPass ls o j).length = o.length → ordPass ls o j = o
  | 0, _ => rfl
  | j + 1, h => by
    simp only [ordPass, ordStep] at h ⊢
    have h1 := ordPass_ge ls o j
    split at h
    · rw [List.length_append] at h; simp at h; omega
    · rename_i hc; rw [if_neg hc]; exact ordPass_same j h
/-- Behind a round that adds nothing all stays. -/
theorem ordIter_stay {ls : List (List Nat)} {n r : Nat} (h : ordIter ls n (r + 1) = ordIter ls n r) : ∀ k, ordIter ls n (r + k) = ordIter ls n r
  | 0 => rfl
  | k + 1 => by
    show ordPass ls (ordIter ls n (r + k)) n = _
    rw [ordIter_stay h k]; exact h
/-- So many rounds at least add one each, or all stays. -/
theorem ordIter_grow (ls : List (List Nat)) (n : Nat) : ∀ r, r ≤ (ordIter ls n r).length ∨ ordIter ls n (r + 1) = ordIter ls n r
  | 0 => .inl (Nat.zero_le _)
  | r + 1 => by
    rcases ordIter_grow ls n r with h | h
    · by_cases e : (ordIter ls n (r + 1)).length = (ordIter ls n r).length
      · right
        have h1 : ordIter ls n (r + 1) = ordIter ls n r := ordPass_same n e
        have h2 := ordIter_stay h1 2
        rw [show r + 1 + 1 = r + 2 by omega, h2, h1]
      · left
        have := ordPass_ge ls (ordIter ls n r) n
        have h3 : (ordIter ls n (r + 1)).length = (ordPass ls (ordIter ls n r) n).length := rfl
        omega
    · right
      have h2 := ordIter_stay h 2
      rw [show r + 1 + 1 = r + 2 by omega, h2, h]
/-- Where it stands still it has come to where n + 1 rounds lead. -/
theorem ordIter_fix {ls : List (List Nat)} {n r : Nat} (h : ordPass ls (ordIter ls n r) n = ordIter ls n r) : ordIter ls n r = ordIter ls n (n + 1) := by
  have h0 : ordIter ls n (r + 1) = ordIter ls n r := h
  have hfin : ordIter ls n (n + 1 + 1) = ordIter ls n (n + 1) := by
    rcases ordIter_grow ls n (n + 1) with h1 | h1
    · have h2 := ordIter_len ls n (n + 1)
      have h3 := cnt_le (fun i => (ordIter ls n (n + 1)).contains i) n
      omega
    · exact h1
  by_cases hr : r ≤ n + 1
  · have := ordIter_stay h0 (n + 1 - r)
    rw [show r + (n + 1 - r) = n + 1 by omega] at this
    exact this.symm
  · have := ordIter_stay hfin (r - (n + 1))
    rw [show n + 1 + (r - (n + 1)) = r by omega] at this
    exact this
end Go.Proofs.YtoabakgmjcnodaaDoor
