import Derived.Test.YtoabakgmjcnodaaLgB0
namespace Go.Proofs.Ytoabakgmjcnodaa
open Go.ChangeShapes Go.WideShapes Go.ChangeAt Go.RowKit

/-- Does a digest come ahead of another one? -/
def belowB (a b : Nat × Nat) : Bool := decide (a.1 < b.1) || (decide (a.1 = b.1) && decide (a.2 < b.2))
/-- What the bytes of a record of k outputs say. -/
def rcOf (t : List UInt8) (k : Nat) : Rc := ⟨numL ((t.drop 2).take 8), numL ((t.drop 10).take 8), (List.range k).map fun j => (numL ((t.drop (18 + 16 * j)).take 8), numL ((t.drop (26 + 16 * j)).take 8))⟩
/-- The record that some bytes begin with, and its size. -/
def recL (t : List UInt8) : Option (Rc × Nat) := match t with
  | c :: d :: _ => if c = 82 ∧ (d = 1 ∨ d = 2) ∧ 22 + 16 * d.toNat ≤ t.length ∧ t.take (22 + 16 * d.toNat) = toldL (rcOf t d.toNat) then some (rcOf t d.toNat, 22 + 16 * d.toNat) else none
  | _ => none
theorem num8 (t : List UInt8) (j : Nat) : U64 (numL ((t.drop j).take 8)) := by
  have h := numL_lt ((t.drop j).take 8)
  have h2 : ((t.drop j).take 8).length ≤ 8 := List.length_take_le _ _
  have h3 : 256 ^ ((t.drop j).take 8).length ≤ 256 ^ 8 := Nat.pow_le_pow_right (by omega) h2
  unfold U64
  exact Nat.lt_of_lt_of_le h h3
theorem drop_at {s : ByteArray} {i : Nat} (h : i + 1 < s.size) : s.data.toList.drop i = s[i] :: s[i + 1] :: s.data.toList.drop (i + 2) := by
  rw [List.drop_eq_getElem_cons (by simp; omega), List.drop_eq_getElem_cons (by simp; omega)]; rfl
theorem recL_short {s : ByteArray} {i : Nat} (h : s.size < i + 2) : recL (s.data.toList.drop i) = none := by
  have hl : (s.data.toList.drop i).length ≤ 1 := by rw [List.length_drop]; simp; omega
  match hm : s.data.toList.drop i, hl with
  | [], _ => rfl
  | [_], _ => rfl
theorem recL_at {s : ByteArray} {i : Nat} (h : i + 1 < s.size) : recL (s.data.toList.drop i) =
    if s[i] = 82 ∧ (s[i + 1] = 1 ∨ s[i + 1] = 2) ∧ 22 + 16 * s[i + 1].toNat ≤ (s.data.toList.drop i).length ∧ (s.data.toList.drop i).take (22 + 16 * s[i + 1].toNat) = toldL (rcOf (s.data.toList.drop i) s[i + 1].toNat)
      then some (rcOf (s.data.toList.drop i) s[i + 1].toNat, 22 + 16 * s[i + 1].toNat) else none := by
  conv => lhs; rw [drop_at h]
  unfold recL
  simp only
  rw [← drop_at h]

theorem ret_bool' {a b : Bool} (h : a = b) : Ending.returned (.bool a) = .returned (.bool b) := by rw [h]
set_option maxHeartbeats 1000000 in
theorem ref_below (a b : Nat × Nat) (w : World) (h1 : U64 a.1) (h2 : U64 a.2) (h3 : U64 b.1) (h4 : U64 b.2) :
    Calls Try.prog 15 #[.agg #[.int .u64 (a.1 : Nat), .int .u64 (a.2 : Nat)], .agg #[.int .u64 (b.1 : Nat), .int .u64 (b.2 : Nat)]] w fun e w' => e = .returned (.bool (belowB a b)) ∧ Below w.heap.size w w' := by
  obtain ⟨a0, a1⟩ := a
  obtain ⟨b0, b1⟩ := b
  simp only at h1 h2 h3 h4 ⊢
  unfold U64 at h1 h2 h3 h4
  have hb := ((Below.refl w.heap.size w).alloc (Nat.le_refl _) (.cells #[.int .u64 (a0 : Nat), .int .u64 (a1 : Nat)] 24)).alloc (by simp) (.cells #[.int .u64 (b0 : Nat), .int .u64 (b1 : Nat)] 24)
  rcases (show a0 < b0 ∨ a0 = b0 ∨ b0 < a0 by omega) with h | h | h
  · have HE : Hid (belowB (a0, a1) (b0, b1) = true) := by simp [Hid, belowB, h]
    have t1 : ((a0 : Int) < (b0 : Int)) := by omega
    go_enter Try.func15, Try.ntmps15
    go_wp2
    go_ret
    exact ⟨ret_bool' HE.out.symm, hb⟩
  · subst h
    have t1 : ((a0 : Int) == (a0 : Int)) = true := by simp
    by_cases h5 : a1 < b1
    · have HE : Hid (belowB (a0, a1) (a0, b1) = true) := by simp [Hid, belowB, h5]
      have t2 : ((a1 : Int) < (b1 : Int)) := by omega
      go_enter Try.func15, Try.ntmps15
      go_wp2
      go_ret
      exact ⟨ret_bool' HE.out.symm, hb⟩
    · have HE : Hid (belowB (a0, a1) (a0, b1) = false) := by simp [Hid, belowB]; omega
      have t2 : ¬ ((a1 : Int) < (b1 : Int)) := by omega
      go_enter Try.func15, Try.ntmps15
      go_wp2
      go_ret
      exact ⟨ret_bool' HE.out.symm, hb⟩
  · have HE : Hid (belowB (a0, a1) (b0, b1) = false) := by simp [Hid, belowB]; omega
    have t1 : ¬ ((a0 : Int) < (b0 : Int)) := by omega
    have t2 : ((a0 : Int) == (b0 : Int)) = false := by rw [beq_eq_false_iff_ne]; omega
    go_enter Try.func15, Try.ntmps15
    go_wp2
    go_ret
    exact ⟨ret_bool' HE.out.symm, hb⟩
end Go.Proofs.Ytoabakgmjcnodaa
