import Derived.Test.YtoabakgmjcnodaaDoorRefPlan
namespace Go.Proofs.YtoabakgmjcnodaaDoor
open Go.ChangeShapes Go.WideShapes Go.ChangeAt Go.RowKit

/-- May the action have so many outputs and inputs? -/
def wantsB (act : ByteArray) (no ni : Nat) : Bool :=
  if act.toList == [99, 97, 116] then no == 1 && decide (ni ≤ 4)
  else if act.toList == [99, 111, 117, 110, 116] then no == 1 && decide (1 ≤ ni) && decide (ni ≤ 4)
  else if act.toList == [114, 101, 118] || act.toList == [103, 97, 116, 101] then no == 1 && ni == 1
  else if act.toList == [104, 97, 108, 102] then no == 2 && ni == 1
  else false

set_option maxRecDepth 10000 in
set_option maxHeartbeats 2000000 in
theorem ref_wants (aO aI : Option Addr) (cO cI no ni : Nat) (act : ByteArray) (c j p : Int) (w : World) (_h1 : no ≤ 4000) (h2 : ni ≤ 4000) :
    Calls Tryd.prog 64 #[.agg #[.slice aO no cO, .string act, .slice aI ni cI, .int .i64 c, .int .i64 j, .int .i64 p]] w fun e w' => e = .returned (.bool (wantsB act no ni)) ∧
      w' = w.alloc (.cells #[.slice aO no cO, .string act, .slice aI ni cI, .int .i64 c, .int .i64 j, .int .i64 p] 97) := by
  have o1 : ((no : Int) == 1) = (no == 1) := by rw [Bool.eq_iff_iff]; simp; omega
  have o2 : ((no : Int) == 2) = (no == 2) := by rw [Bool.eq_iff_iff]; simp; omega
  have i1 : ((ni : Int) == 1) = (ni == 1) := by rw [Bool.eq_iff_iff]; simp; omega
  cases ea : (act.toList == [99, 97, 116])
  · cases eb : (act.toList == [99, 111, 117, 110, 116])
    · cases ec : (act.toList == [114, 101, 118])
      · cases ed : (act.toList == [103, 97, 116, 101])
        · cases ee : (act.toList == [104, 97, 108, 102])
          · skip
            have HW : Hid (wantsB act no ni = false) := by simp [Hid, wantsB, *]
            go_enter Tryd.func64, Tryd.ntmps64
            go_wp2
            go_ret
            exact ⟨ret_bool HW.out.symm, rfl⟩
          · cases b1 : (no == 2)
            · skip
              have HW : Hid (wantsB act no ni = false) := by simp [Hid, wantsB, *]
              go_enter Tryd.func64, Tryd.ntmps64
              go_wp2
              go_ret
              exact ⟨ret_bool HW.out.symm, rfl⟩
            · cases b2 : (ni == 1)
              · skip
                have HW : Hid (wantsB act no ni = false) := by simp [Hid, wantsB, *]
                go_enter Tryd.func64, Tryd.ntmps64
                go_wp2
                go_ret
                exact ⟨ret_bool HW.out.symm, rfl⟩
              · skip
                have HW : Hid (wantsB act no ni = true) := by simp [Hid, wantsB, *]
                go_enter Tryd.func64, Tryd.ntmps64
                go_wp2
                go_ret
                exact ⟨ret_bool HW.out.symm, rfl⟩
        · cases b1 : (no == 1)
          · skip
            have HW : Hid (wantsB act no ni = false) := by simp [Hid, wantsB, *]
            go_enter Tryd.func64, Tryd.ntmps64
            go_wp2
            go_ret
            exact ⟨ret_bool HW.out.symm, rfl⟩
          · cases b2 : (ni == 1)
            · skip
              have HW : Hid (wantsB act no ni = false) := by simp [Hid, wantsB, *]
              go_enter Tryd.func64, Tryd.ntmps64
              go_wp2
              go_ret
              exact ⟨ret_bool HW.out.symm, rfl⟩
            · skip
              have HW : Hid (wantsB act no ni = true) := by simp [Hid, wantsB, *]
              go_enter Tryd.func64, Tryd.ntmps64
              go_wp2
              go_ret
              exact ⟨ret_bool HW.out.symm, rfl⟩
      · cases b1 : (no == 1)
        · skip
          have HW : Hid (wantsB act no ni = false) := by simp [Hid, wantsB, *]
          go_enter Tryd.func64, Tryd.ntmps64
          go_wp2
          go_ret
          exact ⟨ret_bool HW.out.symm, rfl⟩
        · cases b2 : (ni == 1)
          · skip
            have HW : Hid (wantsB act no ni = false) := by simp [Hid, wantsB, *]
            go_enter Tryd.func64, Tryd.ntmps64
            go_wp2
            go_ret
            exact ⟨ret_bool HW.out.symm, rfl⟩
          · skip
            have HW : Hid (wantsB act no ni = true) := by simp [Hid, wantsB, *]
            go_enter Tryd.func64, Tryd.ntmps64
            go_wp2
            go_ret
            exact ⟨ret_bool HW.out.symm, rfl⟩
    · cases b1 : (no == 1)
      · skip
        have HW : Hid (wantsB act no ni = false) := by simp [Hid, wantsB, *]
        go_enter Tryd.func64, Tryd.ntmps64
        go_wp2
        go_ret
        exact ⟨ret_bool HW.out.symm, rfl⟩
      · by_cases n1 : 1 ≤ ni
        · by_cases n4 : ni ≤ 4
          · have d4 : decide ((ni : Int) ≤ 4) = true := by simp; omega
            have HW : Hid (wantsB act no ni = true) := by simp [Hid, wantsB, *]
            go_enter Tryd.func64, Tryd.ntmps64
            go_wp2
            go_ret
            exact ⟨ret_bool HW.out.symm, rfl⟩
          · have d4 : decide ((ni : Int) ≤ 4) = false := by simp; omega
            have HW : Hid (wantsB act no ni = false) := by simp [Hid, wantsB, *]
            go_enter Tryd.func64, Tryd.ntmps64
            go_wp2
            go_ret
            exact ⟨ret_bool HW.out.symm, rfl⟩
        · skip
          have HW : Hid (wantsB act no ni = false) := by simp [Hid, wantsB, *]
          go_enter Tryd.func64, Tryd.ntmps64
          go_wp2
          go_ret
          exact ⟨ret_bool HW.out.symm, rfl⟩
  · cases b1 : (no == 1)
    · skip
      have HW : Hid (wantsB act no ni = false) := by simp [Hid, wantsB, *]
      go_enter Tryd.func64, Tryd.ntmps64
      go_wp2
      go_ret
      exact ⟨ret_bool HW.out.symm, rfl⟩
    · by_cases n4 : ni ≤ 4
      · have d4 : decide ((ni : Int) ≤ 4) = true := by simp; omega
        have HW : Hid (wantsB act no ni = true) := by simp [Hid, wantsB, *]
        go_enter Tryd.func64, Tryd.ntmps64
        go_wp2
        go_ret
        exact ⟨ret_bool HW.out.symm, rfl⟩
      · have d4 : decide ((ni : Int) ≤ 4) = false := by simp; omega
        have HW : Hid (wantsB act no ni = false) := by simp [Hid, wantsB, *]
        go_enter Tryd.func64, Tryd.ntmps64
        go_wp2
        go_ret
        exact ⟨ret_bool HW.out.symm, rfl⟩
end Go.Proofs.YtoabakgmjcnodaaDoor
