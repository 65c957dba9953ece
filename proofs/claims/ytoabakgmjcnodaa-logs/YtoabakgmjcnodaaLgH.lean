/-
  The last record of each fingerprint, in order (plain functions; nothing of the program).
-/
import Derived.Test.YtoabakgmjcnodaaLgE
namespace Go.Proofs.Ytoabakgmjcnodaa

def prt (r : Rc) : Nat × Nat := (r.p0, r.p1)
def rc0 : Rc := ⟨0, 0, []⟩
/-- Does it come behind the last one? -/
def upB (last : Option (Nat × Nat)) (r : Rc) : Bool := match last with
  | none => true
  | some x => belowB x (prt r)
/-- Among the first k: the least one that comes behind the last; of several the last. -/
def bestTo (l : List Rc) (last : Option (Nat × Nat)) : Nat → Option Nat
  | 0 => none
  | k + 1 => match bestTo l last k with
    | none => if upB last (l.getD k rc0) = true then some k else none
    | some b => if upB last (l.getD k rc0) = true ∧ (belowB (prt (l.getD k rc0)) (prt (l.getD b rc0)) = true ∨ prt (l.getD k rc0) = prt (l.getD b rc0)) then some k else some b
def compL (l : List Rc) : Nat → Option (Nat × Nat) → List UInt8
  | 0, _ => []
  | f + 1, last => match bestTo l last l.length with
    | none => []
    | some b => toldL (l.getD b rc0) ++ compL l f (some (prt (l.getD b rc0)))

theorem belowB_iff (a b : Nat × Nat) : belowB a b = true ↔ a.1 < b.1 ∨ (a.1 = b.1 ∧ a.2 < b.2) := by simp [belowB]
theorem best_up {l : List Rc} {last : Option (Nat × Nat)} : ∀ {k b : Nat}, bestTo l last k = some b → b < k ∧ upB last (l.getD b rc0) = true
  | 0, b, h => by simp [bestTo] at h
  | k + 1, b, h => by
    simp only [bestTo] at h
    split at h
    · split at h
      · rename_i hu; injection h with h; subst h; exact ⟨by omega, hu⟩
      · cases h
    · rename_i b1 hb1
      split at h
      · rename_i hu; injection h with h; subst h; exact ⟨by omega, hu.1⟩
      · injection h with h; subst h
        have := best_up hb1
        exact ⟨by omega, this.2⟩
/-- How many come behind the last one. -/
def cntUp (l : List Rc) (last : Option (Nat × Nat)) : Nat := (l.filter (upB last)).length
theorem filter_lt {α : Type} {p q : α → Bool} (hpq : ∀ x, p x = true → q x = true) {x : α} : ∀ {l : List α}, x ∈ l → q x = true → p x = false → (l.filter p).length < (l.filter q).length
  | [], h, _, _ => by cases h
  | y :: l, h, hq, hp => by
    have hle : ∀ l : List α, (l.filter p).length ≤ (l.filter q).length := by
      intro l
      induction l with
      | nil => simp
      | cons z l ih =>
        by_cases hz : p z = true
        · simp [hz, hpq z hz]; exact ih
        · by_cases hz2 : q z = true
          · simp [hz, hz2]; omega
          · simp [hz, hz2]; exact ih
    rw [List.mem_cons] at h
    rcases h with rfl | h
    · simp [hq, hp]
      exact Nat.lt_succ_of_le (hle l)
    · have ih := filter_lt hpq h hq hp
      by_cases hz : p y = true
      · simp [hz, hpq y hz]; exact ih
      · by_cases hz2 : q y = true
        · simp [hz, hz2]; omega
        · simp [hz, hz2]; exact ih
theorem cnt_less {l : List Rc} {last : Option (Nat × Nat)} {b : Nat} (h : bestTo l last l.length = some b) : cntUp l (some (prt (l.getD b rc0))) < cntUp l last := by
  obtain ⟨hb, hu⟩ := best_up h
  have e : l.getD b rc0 = l[b] := by simp [hb]
  rw [e] at hu ⊢
  refine filter_lt (x := l[b]) (fun r hr => ?_) (List.getElem_mem hb) hu ?_
  · cases last with
    | none => rfl
    | some x =>
      simp only [upB, belowB_iff] at hr hu ⊢
      omega
  · simp only [upB]
    rw [Bool.eq_false_iff, Ne, belowB_iff]
    omega
theorem cnt_le_len (l : List Rc) (last : Option (Nat × Nat)) : cntUp l last ≤ l.length := List.length_filter_le _ _
theorem told_len (r : Rc) : (toldL r).length = 22 + 16 * r.outs.length := by
  simp only [toldL, bodyL, List.length_append, wideL_len, outsL_len, List.length_singleton]; omega
theorem comp_len (l : List Rc) (h2 : ∀ r ∈ l, r.outs.length ≤ 2) : ∀ (f : Nat) (last : Option (Nat × Nat)), (compL l f last).length ≤ 54 * f
  | 0, _ => by simp [compL]
  | f + 1, last => by
    simp only [compL]
    split
    · simp
    · rename_i b hb
      have hbl := (best_up hb).1
      have e : l.getD b rc0 = l[b] := by simp [hbl]
      have := comp_len l h2 f (some (prt (l.getD b rc0)))
      have h3 := h2 _ (List.getElem_mem hbl)
      rw [List.length_append, told_len]
      rw [e] at this ⊢
      omega
/-- How many bytes the records take that are so. -/
def totL (p : Rc → Bool) : List Rc → Nat
  | [] => 0
  | r :: l => (if p r = true then (toldL r).length else 0) + totL p l
theorem tot_le {p q : Rc → Bool} (hpq : ∀ x, p x = true → q x = true) : ∀ l : List Rc, totL p l ≤ totL q l
  | [] => Nat.le_refl _
  | r :: l => by
    have ih := tot_le hpq l
    simp only [totL]
    by_cases hr : p r = true
    · rw [if_pos hr, if_pos (hpq r hr)]; omega
    · rw [if_neg hr]; omega
theorem tot_lt {p q : Rc → Bool} (hpq : ∀ x, p x = true → q x = true) {x : Rc} (hq : q x = true) (hp : p x = false) : ∀ {l : List Rc}, x ∈ l → totL p l + (toldL x).length ≤ totL q l
  | [], h => by cases h
  | r :: l, h => by
    simp only [totL]
    rw [List.mem_cons] at h
    rcases h with rfl | h
    · have := tot_le hpq l
      rw [if_pos hq, if_neg (by rw [hp]; decide)]; omega
    · have ih := tot_lt hpq hq hp h
      by_cases hr : p r = true
      · rw [if_pos hr, if_pos (hpq r hr)]; omega
      · rw [if_neg hr]; omega
/-- What is left takes no more bytes than all. -/
theorem comp_tot (l : List Rc) : ∀ (f : Nat) (last : Option (Nat × Nat)), (compL l f last).length ≤ totL (upB last) l
  | 0, _ => by simp [compL]
  | f + 1, last => by
    simp only [compL]
    split
    · simp
    · rename_i b hb
      obtain ⟨hbl, hu⟩ := best_up hb
      have e : l.getD b rc0 = l[b] := by simp [hbl]
      have ih := comp_tot l f (some (prt (l.getD b rc0)))
      rw [e] at ih hu ⊢
      have := tot_lt (p := upB (some (prt l[b]))) (q := upB last) (fun r hr => by
        cases last with
        | none => rfl
        | some x =>
          simp only [upB, belowB_iff] at hr hu ⊢
          omega) hu (by
        simp only [upB]
        rw [Bool.eq_false_iff, Ne, belowB_iff]
        omega) (List.getElem_mem hbl)
      rw [List.length_append]
      omega
theorem recL_told {t : List UInt8} {r : Rc} {n : Nat} (h : recL t = some (r, n)) : (toldL r).length = n := by
  unfold recL at h
  split at h
  · split at h
    · injection h with h
      injection h with h1 h2
      subst h1 h2
      rw [told_len]
      simp [rcOf]
    · cases h
  · cases h
theorem recs_tot : ∀ (f : Nat) (t : List UInt8), totL (fun _ => true) (recsL t f).1 ≤ t.length
  | 0, t => by simp [recsL, totL]
  | f + 1, t => by
    rw [recsL]
    split
    · simp [totL]
    · rename_i r n h
      have ih := recs_tot f (t.drop n)
      have h1 := recL_told h
      have h2 := (recL_size h).2.2.1
      rw [List.length_drop] at ih
      simp only [totL, if_true, h1]
      omega
/-- Compact makes no log longer. -/
theorem comp_tight (f : Nat) (t : List UInt8) (g : Nat) (last : Option (Nat × Nat)) : (compL (recsL t f).1 g last).length ≤ t.length :=
  Nat.le_trans (comp_tot _ g last) (Nat.le_trans (tot_le (fun _ _ => rfl) _) (recs_tot f t))
theorem flat_take {α : Type} (F : α → List UInt8) (k : Nat) (ts : List α) : ((ts.take k).flatMap F).length ≤ (ts.flatMap F).length := by
  have h : ts.flatMap F = (ts.take k).flatMap F ++ (ts.drop k).flatMap F := by rw [← List.flatMap_append, List.take_append_drop]
  rw [h, List.length_append]; omega
end Go.Proofs.Ytoabakgmjcnodaa
