/-
  Cutting a text at a byte: the pieces of the reference and those of the library's Split are the same (plain lists).
-/
import Derived.Test.YtoabakgmjcnodaaDoorRefLine
import Derived.Lib.SplitLaws
namespace Go.Proofs.YtoabakgmjcnodaaDoor
open Go.Lib

def splitL (c : UInt8) : List UInt8 → List (List UInt8)
  | [] => [[]]
  | x :: r => if x = c then [] :: splitL c r else match splitL c r with
    | [] => [[x]]
    | h :: t => (x :: h) :: t

theorem splitL_ne (c : UInt8) (l : List UInt8) : splitL c l ≠ [] := by
  cases l with
  | nil => simp [splitL]
  | cons x r =>
    simp only [splitL]
    split
    · simp
    · split <;> simp

theorem splitK_eq (c : UInt8) (l : List UInt8) : splitK [c] 0 (count l [c]) l = splitL c l := by
  induction l with
  | nil => rw [count_one]; rfl
  | cons x r ih =>
    by_cases h : x = c
    · subst h
      have hi : index (x :: r) [x] = 0 := by rw [index]; simp [List.isPrefixOf]
      rw [count_cons_eq, Nat.add_comm 1, splitK, hi]
      simp only [splitL, if_true]
      rw [if_neg (by decide)]
      simp [ih]
    · have hix : index (x :: r) [c] = if index r [c] == -1 then -1 else index r [c] + 1 := by
        have hp : ([c] : List UInt8).isPrefixOf (x :: r) = false := by simp [List.isPrefixOf, Ne.symm h]
        rw [index, hp]; simp
      rw [count_cons_ne x c r h]
      simp only [splitL, h, if_false]
      rw [← ih]
      cases hk : count r [c] with
      | zero => simp [splitK]
      | succ k =>
        by_cases hm : index r [c] = -1
        · rw [splitK, splitK, hix, if_pos (beq_iff_eq.2 hm)]
          simp [hm]
        · have hge := index_ge r [c]
          obtain ⟨j, hj⟩ : ∃ j : Nat, index r [c] = j := ⟨(index r [c]).toNat, by omega⟩
          have h1 : ¬ (index r [c] == -1) = true := fun e => hm (beq_iff_eq.1 e)
          rw [splitK, splitK, hix, if_neg h1, if_neg h1, hj]
          rw [if_neg (by rw [beq_iff_eq]; omega)]
          have e1 : ((j : Int) + 1).toNat = j + 1 := by omega
          have e2 : ((j : Int)).toNat = j := by omega
          simp only [e1, e2, Nat.add_zero, List.take_succ_cons, List.length_cons, List.length_nil, List.drop_succ_cons]

/-- One byte after the other. -/
def scanL (c : UInt8) (acc : List (List UInt8)) (cur : List UInt8) : List UInt8 → List (List UInt8)
  | [] => acc ++ [cur]
  | x :: r => if x = c then scanL c (acc ++ [cur]) [] r else scanL c acc (cur ++ [x]) r
theorem scanL_eq (c : UInt8) (l : List UInt8) : ∀ (acc : List (List UInt8)) (cur : List UInt8), scanL c acc cur l = acc ++ (match splitL c l with | [] => [cur] | h :: t => (cur ++ h) :: t) := by
  induction l with
  | nil => intro acc cur; simp [scanL, splitL]
  | cons x r ih =>
    intro acc cur
    by_cases h : x = c
    · subst h
      simp only [scanL, splitL, if_true, ih]
      cases hs : splitL x r with
      | nil => exact absurd hs (splitL_ne x r)
      | cons a t => simp
    · simp only [scanL, splitL, h, if_false, ih]
      cases hs : splitL c r with
      | nil => exact absurd hs (splitL_ne c r)
      | cons a t => simp

theorem pcs_scan (s : ByteArray) (c : UInt8) (k : Nat) (hk : k ≤ s.size) :
    scanL c ((pcs s c k).1.map (·.data.toList)) ((s.data.toList.take k).drop (pcs s c k).2) (s.data.toList.drop k) = scanL c [] [] s.data.toList := by
  induction k with
  | zero => simp [pcs]
  | succ k ih =>
    have ih := ih (by omega)
    have hl : k < s.data.toList.length := by simp; omega
    rw [List.drop_eq_getElem_cons hl] at ih
    have hle := (pcs_le s c k).2
    have htk : s.data.toList.take (k + 1) = s.data.toList.take k ++ [s.data.toList[k]] := List.take_succ_eq_append_getElem hl
    by_cases h : s.data.toList[k] = c
    · rw [pcs_cut (.inr (by rw [List.getElem?_eq_getElem hl, h]))]
      rw [← ih, scanL, if_pos h]
      have e : (s.extract (pcs s c k).2 k).data.toList = (s.data.toList.take k).drop (pcs s c k).2 := by
        rw [extract_data, List.drop_take]
      have e0 : (s.data.toList.take (k + 1)).drop (k + 1) = [] := List.drop_eq_nil_of_le (List.length_take_le _ _)
      simp only [List.map_append, List.map_cons, List.map_nil, e, e0]
    · rw [pcs_on (by
        rintro (h1 | h1)
        · omega
        · rw [List.getElem?_eq_getElem hl] at h1; injection h1 with h1; exact h h1)]
      rw [← ih, scanL, if_neg h, htk, List.drop_append_of_le_length (by simp; omega)]

theorem pcs_eq (s : ByteArray) (c : UInt8) : (pcs s c (s.size + 1)).1.map (·.data.toList) = splitL c s.data.toList := by
  have h := pcs_scan s c s.size (Nat.le_refl _)
  have e1 : s.data.toList.drop s.size = [] := List.drop_eq_nil_of_le (by simp)
  rw [e1, scanL_eq c s.data.toList] at h
  rw [pcs_cut (.inl rfl)]
  simp only [scanL] at h
  have e2 : (s.extract (pcs s c s.size).2 s.size).data.toList = (s.data.toList.take s.size).drop (pcs s c s.size).2 := by rw [extract_data, List.drop_take]
  rw [List.map_append, List.map_cons, List.map_nil, e2, h]
  cases hs : splitL c s.data.toList with
  | nil => exact absurd hs (splitL_ne c _)
  | cons a t => simp

theorem bytes_map_inj : ∀ (a b : List ByteArray), a.map (·.data.toList) = b.map (·.data.toList) → a = b
  | [], [], _ => rfl
  | [], y :: b, h => by simp at h
  | x :: a, [], h => by simp at h
  | x :: a, y :: b, h => by
    simp only [List.map_cons, List.cons.injEq] at h
    rw [bytes_map_inj a b h.2, WideShapes.bytes_inj h.1]

/-- The library's pieces are the reference's. -/
theorem split_pcs (s : ByteArray) (c : UInt8) : splitB ⟨#[c]⟩ 0 (countB s ⟨#[c]⟩) s = (pcs s c (s.size + 1)).1 := by
  apply bytes_map_inj
  rw [splitB_data, pcs_eq]
  exact splitK_eq c s.data.toList
theorem split_len (s : ByteArray) (c : UInt8) : countB s ⟨#[c]⟩ + 1 = (pcs s c (s.size + 1)).1.length := by
  rw [← split_pcs, splitB_all ⟨#[c]⟩ (Nat.le_refl 1) 0 _ s rfl]
end Go.Proofs.YtoabakgmjcnodaaDoor
