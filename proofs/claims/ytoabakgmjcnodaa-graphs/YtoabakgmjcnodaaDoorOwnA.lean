import Derived.Test.YtoabakgmjcnodaaDoorRefA
import Derived.Test.YtoabakgmjcnodaaDoorRefC
import Derived.Test.YtoabakgmjcnodaaDoorRefLine
import Derived.Test.YtoabakgmjcnodaaDoorShelf
namespace Go.Proofs.YtoabakgmjcnodaaDoor
open Go.ChangeShapes Go.WideShapes Go.ChangeAt Go.RowKit

set_option maxHeartbeats 1000000 in
theorem own_isNameByte (c : UInt8) (w : World) :
    Calls Tryd.prog 70 #[.int .u8 c.toNat] w fun e w' => e = .returned (.bool (okByte c)) ∧ w' = w := by
  have hc : (c.toNat : Int) ≤ 255 := by have := c.toNat_lt; omega
  obtain ⟨ob, hob⟩ : ∃ ob, okByte c = ob := ⟨_, rfl⟩
  rw [hob]
  rcases (show (((c.toNat : Int) ≤ 45) ∨ (c.toNat : Int) = 47 ∨ (58 ≤ (c.toNat : Int) ∧ (c.toNat : Int) ≤ 94) ∨ (c.toNat : Int) = 96 ∨ 123 ≤ (c.toNat : Int)) ∨
      ((c.toNat : Int) = 46 ∨ (48 ≤ (c.toNat : Int) ∧ (c.toNat : Int) ≤ 57) ∨ (c.toNat : Int) = 95 ∨ (97 ≤ (c.toNat : Int) ∧ (c.toNat : Int) ≤ 122)) by omega) with hno | hyes
  · have h0 : ob = false := by rw [← hob]; exact okByte_no _ (by omega)
    subst h0
    clear hob
    generalize (c.toNat : Int) = x at *
    have b1 : (x == 46) = false := by rw [beq_eq_false_iff_ne]; omega
    have b2 : (x == 95) = false := by rw [beq_eq_false_iff_ne]; omega
    rcases hno with h | h | h | h | h
    all_goals
      go_enter Tryd.func70, Tryd.ntmps70
      go_wp2
      all_goals (go_ret; exact ⟨ret_bool (by first | rfl | (simp; omega)), rfl⟩)
  · have h0 : ob = true := by rw [← hob]; exact okByte_yes _ (by omega)
    subst h0
    clear hob
    generalize (c.toNat : Int) = x at *
    rcases hyes with h | h | h | h
    all_goals
      go_enter Tryd.func70, Tryd.ntmps70
      go_wp2
      all_goals (go_ret; exact ⟨ret_bool (by first | rfl | (simp; omega)), rfl⟩)

set_option maxHeartbeats 1000000 in
theorem own_IsName (s : ByteArray) (w : World) (hs : s.size ≤ maxLen) :
    Calls Tryd.prog 54 #[.string s] w fun e w' => e = .returned (.bool (nameB s.data.toList)) ∧ w' = w := by
  unfold maxLen at hs
  by_cases h0 : s.size = 0
  · rw [name_short s h0]
    have e1 : (s.size : Int) < 1 := by omega
    clear h0
    go_enter Tryd.func54, Tryd.ntmps54
    go_wp2
    all_goals (go_ret; exact ⟨rfl, rfl⟩)
  · by_cases h1 : 16 < s.size
    · rw [name_long s h1]
      go_enter Tryd.func54, Tryd.ntmps54
      go_wp2
      all_goals (go_ret; exact ⟨rfl, rfl⟩)
    · have d1 : decide ((s.size : Int) < 1) = false := by simp; omega
      have d2 : decide ((16 : Int) < (s.size : Int)) = false := by simp; omega
      generalize hN : nameB s.data.toList = N
      have HN : Hid (nameB s.data.toList = N) := hN
      clear hN
      go_enter Tryd.func54, Tryd.ntmps54
      go_wp2
      go_loop [2, 3, 14] (fun _ _ i => ∃ k : Nat, k ≤ s.size ∧ i = .int .i64 k ∧ okTo s k) (fun _ _ i => s.size - (intOf i).toNat)
      case atStart => exact ⟨0, Nat.zero_le _, rfl, okTo_zero s⟩
      case round =>
        obtain ⟨k, hk, rfl, ha⟩ := hrel
        by_cases hlt : k < s.size
        · obtain ⟨ob, hob⟩ : ∃ ob, okByte s[k] = ob := ⟨_, rfl⟩
          have HOB : Hid (okByte s[k] = ob) := hob
          cases ob
          · have HO : Hid (nameB s.data.toList = false) := name_hit s k hlt (by omega) hob
            clear hob
            go_wp2_with (go_at_call 70; refine (own_isNameByte s[k] _).mono ?_; rintro e w1 ⟨rfl, hw⟩; rw [HOB.out]; subst hw)
            go_ret
            exact ⟨ret_bool (by rw [← HN.out, HO.out]), rfl⟩
          · clear hob
            go_wp2_with (go_at_call 70; refine (own_isNameByte s[k] _).mono ?_; rintro e w1 ⟨rfl, hw⟩; rw [HOB.out]; subst hw)
            go_round
            case rel => exact ⟨k + 1, by omega, by go_num, okTo_succ s k hlt ha HOB.out⟩
            case measure => simp [intOf]; omega
        · have HF : Hid (nameB s.data.toList = true) := name_end s k h0 (by omega) hlt ha
          go_wp2
          go_ret
          exact ⟨ret_bool (by rw [← HN.out, HF.out]), rfl⟩

theorem digN_one (s : ByteArray) (h : s.size = 1) : digN s.data.toList = if 49 ≤ (s[0].toNat : Int) ∧ (s[0].toNat : Int) ≤ 57 then s[0].toNat - 48 else 0 := by
  have e : s.data.toList = [s[0]] := by
    apply List.ext_getElem
    · simp; exact h
    · intro i h1 h2
      have : i = 0 := by simp at h2; omega
      subst this; rfl
  rw [e]
  show (if (49 : UInt8) ≤ s[0] ∧ s[0] ≤ (57 : UInt8) then s[0].toNat - 48 else 0) = _
  by_cases hc : (49 : UInt8) ≤ s[0] ∧ s[0] ≤ (57 : UInt8)
  · rw [if_pos hc, if_pos (by rw [UInt8.le_iff_toNat_le, UInt8.le_iff_toNat_le] at hc; simp at hc; omega)]
  · rw [if_neg hc, if_neg (by intro h'; apply hc; rw [UInt8.le_iff_toNat_le, UInt8.le_iff_toNat_le]; simp; omega)]
theorem digN_other (s : ByteArray) (h : s.size ≠ 1) : digN s.data.toList = 0 := by
  have e : s.data.toList.length = s.size := by simp
  unfold digN
  split
  · rename_i c hc; rw [hc] at e; simp at e; omega
  · rfl

set_option maxHeartbeats 1000000 in
theorem own_readDigit (s : ByteArray) (w : World) (_hs : s.size ≤ maxLen) :
    Calls Tryd.prog 55 #[.string s] w fun e w' => e = .returned (.tuple #[.int .i64 (digN s.data.toList), .bool (decide (digN s.data.toList ≠ 0))]) ∧ w' = w := by
  unfold maxLen at _hs
  by_cases h1 : s.size = 1
  · have e1 : ((s.size : Int) != 1) = false := by rw [h1]; rfl
    have hp : 0 < s.size := by omega
    have hd := digN_one s h1
    obtain ⟨d, hdd⟩ : ∃ d, digN s.data.toList = d := ⟨_, rfl⟩
    rw [hdd] at hd ⊢
    by_cases hc : 49 ≤ (s[0].toNat : Int) ∧ (s[0].toNat : Int) ≤ 57
    · rw [if_pos hc] at hd
      have hd1 : decide (d ≠ 0) = true := by simp; omega
      have hd2 : (d : Int) = (s[0].toNat : Int) - 48 := by omega
      rw [hd1, hd2]
      obtain ⟨hc1, hc2⟩ := hc
      clear hd hdd hd1 hd2 h1
      go_enter Tryd.func55, Tryd.ntmps55
      go_wp2
      go_ret2
      exact ⟨by simp, rfl⟩
    · rw [if_neg hc] at hd
      subst hd
      clear hdd h1
      by_cases h49 : (s[0].toNat : Int) < 49
      · go_enter Tryd.func55, Tryd.ntmps55
        go_wp2
        all_goals (go_ret2; exact ⟨rfl, rfl⟩)
      · have h57 : (57 : Int) < (s[0].toNat : Int) := by omega
        clear hc
        go_enter Tryd.func55, Tryd.ntmps55
        go_wp2
        all_goals (go_ret2; exact ⟨rfl, rfl⟩)
  · have e1 : ((s.size : Int) != 1) = true := by rw [bne_iff_ne]; omega
    rw [digN_other s h1]
    clear h1
    go_enter Tryd.func55, Tryd.ntmps55
    go_wp2
    all_goals (go_ret2; exact ⟨rfl, rfl⟩)

theorem isNote_at (s : ByteArray) (h : 0 < s.size) : isNote s = ((s[0].toNat : Int) == 35) := by
  have h2 : s.data.toList.head? = some s[0] := by
    rw [List.head?_eq_getElem?, List.getElem?_eq_getElem (by simpa using h)]; rfl
  have h0 : ¬ s.size = 0 := by omega
  rw [isNote, h2]
  simp only [h0, decide_false, Bool.false_or]
  rw [Bool.eq_iff_iff]; simp [← UInt8.toNat_inj]; omega
theorem own_saysNothing (s : ByteArray) (w : World) :
    Calls Tryd.prog 37 #[.string s] w fun e w' => e = .returned (.bool (isNote s)) ∧ w' = w := by
  by_cases h0 : s.size = 0
  · have he : s.toList.isEmpty = true := by rw [toList_isEmpty]; simpa using h0
    have hn : isNote s = true := by simp [isNote, h0]
    rw [hn]
    clear h0 hn
    go_enter Tryd.func37, Tryd.ntmps37
    go_wp2
    go_ret
    exact ⟨rfl, rfl⟩
  · have he : s.toList.isEmpty = false := by rw [toList_isEmpty]; simpa using h0
    have hp : 0 < s.size := by omega
    rw [isNote_at s hp]
    clear h0
    go_enter Tryd.func37, Tryd.ntmps37
    go_wp2
    go_ret
    exact ⟨rfl, rfl⟩
end Go.Proofs.YtoabakgmjcnodaaDoor
