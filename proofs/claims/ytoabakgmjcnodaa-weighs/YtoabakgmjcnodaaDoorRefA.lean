import Derived.Test.YtoabakgmjcnodaaDoorRows
import Derived.WalkKit
import Derived.WalkLawsBesides
import Derived.ProofKit
import Derived.OpenShut
namespace Go.Proofs.YtoabakgmjcnodaaDoor
open Go.ChangeShapes Go.WideShapes Go.ChangeAt Go.RowKit

/-- May the byte stand in a name? -/
def okByte (c : UInt8) : Bool := (97 ≤ c && c ≤ 122) || (48 ≤ c && c ≤ 57) || c == 46 || c == 95
/-- Is it a name? -/
def nameB (l : List UInt8) : Bool := !l.isEmpty && decide (l.length ≤ 16) && l.all okByte

theorem okByte_yes (c : UInt8) (h : (97 ≤ (c.toNat : Int) ∧ (c.toNat : Int) ≤ 122) ∨ (48 ≤ (c.toNat : Int) ∧ (c.toNat : Int) ≤ 57) ∨ (c.toNat : Int) = 46 ∨ (c.toNat : Int) = 95) : okByte c = true := by
  have e1 : (c == 46) = decide ((c.toNat : Int) = 46) := by rw [Bool.eq_iff_iff]; simp [← UInt8.toNat_inj]; omega
  have e2 : (c == 95) = decide ((c.toNat : Int) = 95) := by rw [Bool.eq_iff_iff]; simp [← UInt8.toNat_inj]; omega
  simp [okByte, e1, e2, UInt8.le_iff_toNat_le]; omega
theorem okByte_no (c : UInt8) (h : ¬ ((97 ≤ (c.toNat : Int) ∧ (c.toNat : Int) ≤ 122) ∨ (48 ≤ (c.toNat : Int) ∧ (c.toNat : Int) ≤ 57) ∨ (c.toNat : Int) = 46 ∨ (c.toNat : Int) = 95)) : okByte c = false := by
  have e1 : (c == 46) = decide ((c.toNat : Int) = 46) := by rw [Bool.eq_iff_iff]; simp [← UInt8.toNat_inj]; omega
  have e2 : (c == 95) = decide ((c.toNat : Int) = 95) := by rw [Bool.eq_iff_iff]; simp [← UInt8.toNat_inj]; omega
  rw [Bool.eq_false_iff]; intro h'; apply h; simp [okByte, e1, e2, UInt8.le_iff_toNat_le] at h'; omega

/-- The first k bytes may stand in a name. -/
def okTo (s : ByteArray) (k : Nat) : Prop := (s.data.toList.take k).all okByte = true

theorem okTo_zero (s : ByteArray) : okTo s 0 := by simp [okTo]
theorem okTo_succ (s : ByteArray) (k : Nat) (h : k < s.size) (h0 : okTo s k) (h1 : okByte s[k] = true) : okTo s (k + 1) := by
  have e : s.data.toList.take (k + 1) = s.data.toList.take k ++ [s[k]] := by
    rw [List.take_succ_eq_append_getElem (by simpa using h)]; rfl
  unfold okTo at *; rw [e, List.all_append, h0]; simp [h1]

theorem name_short (s : ByteArray) (h : s.size = 0) : nameB s.data.toList = false := by
  have : s.data.toList = [] := List.eq_nil_of_length_eq_zero (by simpa using h)
  rw [this]; rfl
theorem name_long (s : ByteArray) (h : 16 < s.size) : nameB s.data.toList = false := by
  have : s.data.toList.length = s.size := by simp
  simp [nameB]; omega
theorem name_mid (s : ByteArray) (h : s.size ≠ 0) (h' : s.size ≤ 16) : nameB s.data.toList = s.data.toList.all okByte := by
  have e : s.data.toList.length = s.size := by simp
  have : s.data.toList ≠ [] := by intro e'; rw [e'] at e; simp at e; omega
  have e2 : s.data.toList.isEmpty = false := by simpa using this
  have e3 : decide (s.data.toList.length ≤ 16) = true := by rw [e]; simpa using h'
  simp only [nameB, e2, e3, Bool.not_false, Bool.true_and]
theorem name_end (s : ByteArray) (k : Nat) (h : s.size ≠ 0) (h' : s.size ≤ 16) (hk : ¬ k < s.size) (ho : okTo s k) : nameB s.data.toList = true := by
  rw [name_mid s h h']
  have e : s.data.toList.take k = s.data.toList := List.take_of_length_le (by simp; omega)
  unfold okTo at ho; rwa [e] at ho
theorem name_hit (s : ByteArray) (k : Nat) (h : k < s.size) (h' : s.size ≤ 16) (hf : okByte s[k] = false) : nameB s.data.toList = false := by
  rw [name_mid s (by omega) h', List.all_eq_false]
  exact ⟨s[k], by have : s[k] = s.data.toList[k]'(by simpa using h) := rfl
                  rw [this]; exact List.getElem_mem _, by simp [hf]⟩
theorem ret_bool {a b : Bool} (h : a = b) : Ending.returned (.bool a) = .returned (.bool b) := by rw [h]
theorem ret_int {k : IntKind} {a b : Int} (h : a = b) : Ending.returned (.int k a) = .returned (.int k b) := by rw [h]
theorem toList_isEmpty (s : ByteArray) : s.toList.isEmpty = decide (s.size = 0) := by
  rw [ByteArray.toList_eq, Bool.eq_iff_iff, List.isEmpty_iff]
  have e : s.data.toList.length = s.size := by simp
  rw [decide_eq_true_iff, ← e, List.length_eq_zero_iff]

set_option maxHeartbeats 1000000 in
theorem ref_Name (s : ByteArray) (w : World) (hs : s.size ≤ maxLen) :
    Calls Tryd.prog 44 #[.string s] w fun e w' => e = .returned (.bool (nameB s.data.toList)) ∧ w' = w := by
  unfold maxLen at hs
  by_cases h0 : s.size = 0
  · rw [name_short s h0]
    have e : s.toList.isEmpty = true := by rw [toList_isEmpty]; simpa using h0
    clear h0
    go_enter Tryd.func44, Tryd.ntmps44
    go_wp2
    all_goals (go_ret; exact ⟨rfl, rfl⟩)
  · have e : s.toList.isEmpty = false := by rw [toList_isEmpty]; simpa using h0
    by_cases h1 : 16 < s.size
    · rw [name_long s h1]
      go_enter Tryd.func44, Tryd.ntmps44
      go_wp2
      all_goals (go_ret; exact ⟨rfl, rfl⟩)
    · generalize hN : nameB s.data.toList = N
      have HN : Hid (nameB s.data.toList = N) := hN
      clear hN
      go_enter Tryd.func44, Tryd.ntmps44
      go_wp2
      go_loop [2, 3, 4, 5] (fun _ i _ _ => ∃ k : Nat, k ≤ s.size ∧ i = .int .i64 k ∧ okTo s k) (fun _ i _ _ => s.size - (intOf i).toNat)
      case atStart => exact ⟨0, Nat.zero_le _, rfl, okTo_zero s⟩
      case round =>
        obtain ⟨k, hk, rfl, ha⟩ := hrel
        by_cases hlt : k < s.size
        · rcases (show (((s[k].toNat : Int) ≤ 45) ∨ (s[k].toNat : Int) = 47 ∨ (58 ≤ (s[k].toNat : Int) ∧ (s[k].toNat : Int) ≤ 94) ∨ (s[k].toNat : Int) = 96 ∨ 123 ≤ (s[k].toNat : Int)) ∨
            ((s[k].toNat : Int) = 46 ∨ (48 ≤ (s[k].toNat : Int) ∧ (s[k].toNat : Int) ≤ 57) ∨ (s[k].toNat : Int) = 95 ∨ (97 ≤ (s[k].toNat : Int) ∧ (s[k].toNat : Int) ≤ 122)) by omega) with hno | hyes
          · have HO : Hid (nameB s.data.toList = false) := name_hit s k hlt (by omega) (okByte_no _ (by omega))
            rcases hno with c | c | c | c | c
            all_goals
              go_wp2
              all_goals first
                | (go_ret; exact ⟨ret_bool (by rw [← HN.out, HO.out]), rfl⟩)
                | (exfalso; rename_i h; simp at h; omega)
          · have HO : Hid (okByte s[k] = true) := okByte_yes _ (by omega)
            rcases hyes with c | c | c | c
            all_goals
              go_wp2
              all_goals (try (exfalso; rename_i h; simp at h; omega))
              all_goals
                go_round
                case rel => exact ⟨k + 1, by omega, by go_num, okTo_succ s k hlt ha HO.out⟩
                case measure => simp [intOf]; omega
        · have HF : Hid (nameB s.data.toList = true) := name_end s k h0 (by omega) hlt ha
          go_wp2
          go_ret
          exact ⟨ret_bool (by rw [← HN.out, HF.out]), rfl⟩

/-- The number of a word that is a digit 1 to 9; 0: it is none. -/
def digN (l : List UInt8) : Nat := match l with
  | [c] => if 49 ≤ c ∧ c ≤ 57 then c.toNat - 48 else 0
  | _ => 0


theorem digN_iff (l : List UInt8) (j : Nat) (h1 : 1 ≤ j) (h9 : j ≤ 9) : digN l = j ↔ l = [UInt8.ofNat (48 + j)] := by
  constructor
  · intro h
    unfold digN at h
    split at h
    · rename_i c
      split at h
      · rename_i hc
        have : c.toNat = 48 + j := by rw [UInt8.le_iff_toNat_le, UInt8.le_iff_toNat_le] at hc; simp at hc; omega
        rw [← this]; simp
      · omega
    · omega
  · rintro rfl
    have e : (UInt8.ofNat (48 + j)).toNat = 48 + j := by simp; omega
    have hc : 49 ≤ UInt8.ofNat (48 + j) ∧ UInt8.ofNat (48 + j) ≤ 57 := by
      rw [UInt8.le_iff_toNat_le, UInt8.le_iff_toNat_le, e]; simp; omega
    show (if 49 ≤ UInt8.ofNat (48 + j) ∧ UInt8.ofNat (48 + j) ≤ 57 then (UInt8.ofNat (48 + j)).toNat - 48 else 0) = j
    rw [if_pos hc, e]; omega
theorem digN_le (l : List UInt8) : digN l ≤ 9 := by
  unfold digN
  split
  · split
    · rename_i c hc; rw [UInt8.le_iff_toNat_le, UInt8.le_iff_toNat_le] at hc; simp at hc; omega
    · omega
  · omega
theorem num_hit (s X : ByteArray) (j : Nat) (h1 : 1 ≤ j) (h9 : j ≤ 9) (hX : X.toList = [UInt8.ofNat (48 + j)]) (h : (s.toList == X.toList) = true) : digN s.data.toList = j := by
  rw [digN_iff _ _ h1 h9, ← hX, ← ByteArray.toList_eq]; simpa using h
theorem num_miss (s X : ByteArray) (j : Nat) (h1 : 1 ≤ j) (h9 : j ≤ 9) (hX : X.toList = [UInt8.ofNat (48 + j)]) (h : (s.toList == X.toList) = false) : digN s.data.toList ≠ j := by
  rw [Ne, digN_iff _ _ h1 h9, ← hX, ← ByteArray.toList_eq]; simpa using h
/-- It is none of the numbers below k. -/
def noDig (s : ByteArray) (k : Nat) : Prop := ∀ j, 1 ≤ j → j < k → digN s.data.toList ≠ j
theorem noDig_succ (s : ByteArray) (k : Nat) (h : noDig s k) (h' : digN s.data.toList ≠ k) : noDig s (k + 1) := by
  intro j h1 h2
  by_cases e : j = k
  · rw [e]; exact h'
  · exact h j h1 (by omega)
theorem noDig_end (s : ByteArray) (h : noDig s 10) : digN s.data.toList = 0 := by
  have := digN_le s.data.toList
  by_cases e : digN s.data.toList = 0
  · exact e
  · exact absurd rfl (h _ (by omega) (by omega))

set_option maxRecDepth 10000 in
set_option maxHeartbeats 1000000 in
theorem ref_number (s : ByteArray) (w : World) :
    Calls Tryd.prog 45 #[.string s] w fun e w' => e = .returned (.int .i64 (digN s.data.toList)) ∧ w' = w := by
  generalize hN : digN s.data.toList = N
  have HN : Hid (digN s.data.toList = N) := hN
  clear hN
  go_enter Tryd.func45, Tryd.ntmps45
  go_wp2
  go_loop [2, 3] (fun _ i => ∃ k : Nat, 1 ≤ k ∧ k ≤ 10 ∧ i = .int .i64 k ∧ noDig s k) (fun _ i => 10 - (intOf i).toNat)
  case atStart => exact ⟨1, by omega, by omega, rfl, fun j h1 h2 => by omega⟩
  case round =>
    obtain ⟨k, hk, hk', rfl, hno⟩ := hrel
    by_cases hlt : k ≤ 9
    · rcases (show k = 1 ∨ k = 2 ∨ k = 3 ∨ k = 4 ∨ k = 5 ∨ k = 6 ∨ k = 7 ∨ k = 8 ∨ k = 9 by omega) with rfl | rfl | rfl | rfl | rfl | rfl | rfl | rfl | rfl
      all_goals
        go_wp2
        · rename_i h _
          go_ret
          exact ⟨ret_int (by rw [← HN.out, num_hit s _ _ hk hlt (by decide +kernel) h]; rfl), rfl⟩
        · rename_i h
          go_round
          case rel => refine ⟨_, ?_, ?_, ?_, noDig_succ s _ hno (num_miss s _ _ hk hlt (by decide +kernel) h)⟩ <;> first | omega | rfl
          case measure => simp [intOf]
    · have hk10 : k = 10 := by omega
      subst hk10
      go_wp2
      go_ret
      exact ⟨ret_int (by rw [← HN.out, noDig_end s hno]; rfl), rfl⟩
end Go.Proofs.YtoabakgmjcnodaaDoor
