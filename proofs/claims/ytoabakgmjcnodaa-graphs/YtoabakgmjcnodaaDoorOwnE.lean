import Derived.Test.YtoabakgmjcnodaaDoorOwnD
import Derived.Laws.Rows
namespace Go.Proofs.YtoabakgmjcnodaaDoor
open Go.ChangeShapes Go.WideShapes Go.ChangeAt Go.RowKit

/-- The table of the actions, as it lies in memory. -/
def shapesC : Array Value := #[.string ⟨#[99, 97, 116]⟩, .int .i64 1, .int .i64 0, .int .i64 4, .string ⟨#[114, 101, 118]⟩, .int .i64 1, .int .i64 1, .int .i64 1,
  .string ⟨#[104, 97, 108, 102]⟩, .int .i64 2, .int .i64 1, .int .i64 1, .string ⟨#[99, 111, 117, 110, 116]⟩, .int .i64 1, .int .i64 1, .int .i64 4, .string ⟨#[103, 97, 116, 101]⟩, .int .i64 1, .int .i64 1, .int .i64 1]
/-- The two package variables that are read. -/
structure Vars (w : World) : Prop where
  shapes : ∃ t fr, w.heap[0]? = some (.cells shapesC t fr)
  maxLen : ∃ m : Int, w.cell? ⟨1, 0, none⟩ = some (.int .i64 m)
theorem Vars.below {w w1 : World} {B : Nat} (h : Vars w) (hb : Below B w w1) (hB : 2 ≤ B) : Vars w1 := by
  obtain ⟨⟨t, fr, h1⟩, ⟨m, h2⟩⟩ := h
  exact ⟨⟨t, fr, (hb.block 0 (by omega)).trans h1⟩, ⟨m, (hb.cell (p := ⟨1, 0, none⟩) (by show 1 < B; omega)).trans h2⟩⟩
theorem Vars.two {w : World} (h : Vars w) : 2 ≤ w.heap.size := by
  obtain ⟨_, ⟨m, h2⟩⟩ := h
  have := block_lt_of_cell h2
  simp at this; omega

theorem ix0 (w : World) : (Instr.index 120 (.agg shapesC) (.int .i64 0)).run Tryd.prog w = .ok (.agg #[.string ⟨#[99, 97, 116]⟩, .int .i64 1, .int .i64 0, .int .i64 4]) w := by kernel_rfl
theorem ix1 (w : World) : (Instr.index 120 (.agg shapesC) (.int .i64 1)).run Tryd.prog w = .ok (.agg #[.string ⟨#[114, 101, 118]⟩, .int .i64 1, .int .i64 1, .int .i64 1]) w := by kernel_rfl
theorem ix2 (w : World) : (Instr.index 120 (.agg shapesC) (.int .i64 2)).run Tryd.prog w = .ok (.agg #[.string ⟨#[104, 97, 108, 102]⟩, .int .i64 2, .int .i64 1, .int .i64 1]) w := by kernel_rfl
theorem ix3 (w : World) : (Instr.index 120 (.agg shapesC) (.int .i64 3)).run Tryd.prog w = .ok (.agg #[.string ⟨#[99, 111, 117, 110, 116]⟩, .int .i64 1, .int .i64 1, .int .i64 4]) w := by kernel_rfl
theorem ix4 (w : World) : (Instr.index 120 (.agg shapesC) (.int .i64 4)).run Tryd.prog w = .ok (.agg #[.string ⟨#[103, 97, 116, 101]⟩, .int .i64 1, .int .i64 1, .int .i64 1]) w := by kernel_rfl

def actNames : List (List UInt8) := [[99, 97, 116], [114, 101, 118], [104, 97, 108, 102], [99, 111, 117, 110, 116], [103, 97, 116, 101]]
/-- It is none of the first k actions. -/
def notAct (act : ByteArray) (k : Nat) : Prop := ∀ i l, i < k → actNames[i]? = some l → act.toList ≠ l
theorem notAct_zero (act : ByteArray) : notAct act 0 := fun i l h => by omega
theorem notAct_succ {act : ByteArray} {k : Nat} {l : List UInt8} (h : notAct act k) (hl : actNames[k]? = some l) (h1 : act.toList ≠ l) : notAct act (k + 1) := by
  intro i l' hi hl'
  by_cases e : i = k
  · subst e; rw [hl] at hl'; injection hl' with hl'; rw [← hl']; exact h1
  · exact h i l' (by omega) hl'
theorem wants_none (act : ByteArray) (no ni : Nat) (h : notAct act 5) : wantsB act no ni = false := by
  have h0 := h 0 _ (by omega) rfl
  have h1 := h 1 _ (by omega) rfl
  have h2 := h 2 _ (by omega) rfl
  have h3 := h 3 _ (by omega) rfl
  have h4 := h 4 _ (by omega) rfl
  simp [wantsB, h0, h1, h2, h3, h4]
def fits (o f m no ni : Nat) : Bool := decide (no = o) && decide (f ≤ ni) && decide (ni ≤ m)
theorem wants_act (act : ByteArray) (no ni o f m : Nat) (l : List UInt8) (ha : act.toList = l) (h : (l, o, f, m) ∈ [([99, 97, 116], 1, 0, 4), ([114, 101, 118], 1, 1, 1), ([104, 97, 108, 102], 2, 1, 1), ([99, 111, 117, 110, 116], 1, 1, 4), (([103, 97, 116, 101] : List UInt8), 1, 1, 1)]) :
    wantsB act no ni = fits o f m no ni := by
  simp only [List.mem_cons, Prod.mk.injEq, List.not_mem_nil, or_false] at h
  rcases h with ⟨rfl, rfl, rfl, rfl⟩ | ⟨rfl, rfl, rfl, rfl⟩ | ⟨rfl, rfl, rfl, rfl⟩ | ⟨rfl, rfl, rfl, rfl⟩ | ⟨rfl, rfl, rfl, rfl⟩
  all_goals
    rw [Bool.eq_iff_iff]
    simp [wantsB, fits, ha]
    try omega

set_option maxRecDepth 10000 in
set_option maxHeartbeats 4000000 in
theorem own_fitsAction (aO aI : Option Addr) (cO cI no ni : Nat) (act pool : ByteArray) (c j : Int) (w : World) (_h1 : no ≤ 4000) (h2 : ni ≤ 4000) (hV : Vars w) :
    Calls Tryd.prog 61 #[.agg #[.slice aO no cO, .slice aI ni cI, .string act, .int .i64 c, .int .i64 j, .string pool]] w fun e w' => e = .returned (.bool (wantsB act no ni)) ∧ Below w.heap.size w w' := by
  obtain ⟨X, hX⟩ : ∃ X, wantsB act no ni = X := ⟨_, rfl⟩
  rw [hX]
  have HX : Hid (wantsB act no ni = X) := hX
  clear hX
  have hsh := (hV.below ((Below.refl w.heap.size w).alloc (Nat.le_refl _) (.cells #[.slice aO no cO, .slice aI ni cI, .string act, .int .i64 c, .int .i64 j, .string pool] 80)) hV.two).shapes
  obtain ⟨tt, fr, hg1⟩ := hsh
  have HG : Hid ((w.alloc (.cells #[.slice aO no cO, .slice aI ni cI, .string act, .int .i64 c, .int .i64 j, .string pool] 80)).heap[0]? = some (.cells shapesC tt fr)) := hg1
  clear hg1
  have k0 := ix0
  have k1 := ix1
  have k2 := ix2
  have k3 := ix3
  have k4 := ix4
  go_enter Tryd.func61, Tryd.ntmps61
  go_wp2_with (refine wpList_load_row rfl 120 _ rfl 0 rfl tt shapesC fr _ HG.out Tryd.underlying120 rfl (by kernel_rfl) ?_)
  go_loopw [2, 4, 5, 7] (fun _ _ _ i wr => ∃ k : Nat, k ≤ 5 ∧ i = .int .i64 k ∧ notAct act k ∧ wr.heap[w.heap.size]? = some (.cells #[.slice aO no cO, .slice aI ni cI, .string act, .int .i64 c, .int .i64 j, .string pool] 80 (0, 0)) ∧ Below w.heap.size w wr) (fun _ _ _ i _ => 5 - (intOf i).toNat)
  case atStart => exact ⟨0, by omega, rfl, notAct_zero act, heap_alloc_new _ _, (Below.refl _ _).alloc (Nat.le_refl _) _⟩
  case round =>
    obtain ⟨k, hk, rfl, hno, hblk, hbel⟩ := hrel
    obtain ⟨c0, c1, c2, c3, c4, c5, cf⟩ := six hblk
    have hsz := blk_lt hblk
    by_cases hlt : k < 5
    · rcases (show k = 0 ∨ k = 1 ∨ k = 2 ∨ k = 3 ∨ k = 4 by omega) with rfl | rfl | rfl | rfl | rfl
      · skip
        by_cases ha : act.toList = [99, 97, 116]
        · have hb : (([99, 97, 116] : List UInt8) == act.toList) = true := by rw [ha]; simp
          have HE : Hid (X = fits 1 0 4 no ni) := by rw [← HX.out]; exact wants_act act no ni 1 0 4 [99, 97, 116] ha (by simp)
          clear ha
          by_cases q1 : no = 1
          · have z1 : ((no : Int) == 1) = true := by rw [q1]; rfl
            have q2 : 0 ≤ ni := Nat.zero_le _
            have z2 : decide ((0 : Int) ≤ (ni : Int)) = true := by simp <;> omega
            by_cases q3 : ni ≤ 4
            · have z3 : decide ((ni : Int) ≤ 4) = true := by simp <;> omega
              have HF : Hid (X = true) := by rw [HE.out]; simp [Hid, fits, q1, q2, q3]
              go_wp2
              go_ret
              exact ⟨ret_bool HF.out.symm, hbel.alloc (by omega) _⟩
            · have z3 : decide ((ni : Int) ≤ 4) = false := by simp <;> omega
              have HF : Hid (X = false) := by rw [HE.out]; simp [Hid, fits, q1, q2, q3]
              go_wp2
              go_ret
              exact ⟨ret_bool HF.out.symm, hbel.alloc (by omega) _⟩
          · have z1 : ((no : Int) == 1) = false := by rw [beq_eq_false_iff_ne]; omega
            have HF : Hid (X = false) := by rw [HE.out]; simp [Hid, fits, q1]
            go_wp2
            go_ret
            exact ⟨ret_bool HF.out.symm, hbel.alloc (by omega) _⟩
        · have hb : (([99, 97, 116] : List UInt8) == act.toList) = false := by rw [beq_eq_false_iff_ne]; exact fun e => ha e.symm
          have HN := notAct_succ hno rfl ha
          go_wp2
          go_roundw
          case rel => refine ⟨_, ?_, ?_, HN, (Below.heap_alloc _ _ _ hsz).trans hblk, hbel.alloc (by omega) _⟩ <;> first | omega | rfl
          case measure => simp [intOf]
      · skip
        by_cases ha : act.toList = [114, 101, 118]
        · have hb : (([114, 101, 118] : List UInt8) == act.toList) = true := by rw [ha]; simp
          have HE : Hid (X = fits 1 1 1 no ni) := by rw [← HX.out]; exact wants_act act no ni 1 1 1 [114, 101, 118] ha (by simp)
          clear ha
          by_cases q1 : no = 1
          · have z1 : ((no : Int) == 1) = true := by rw [q1]; rfl
            by_cases q2 : 1 ≤ ni
            · have z2 : decide ((1 : Int) ≤ (ni : Int)) = true := by simp <;> omega
              by_cases q3 : ni ≤ 1
              · have z3 : decide ((ni : Int) ≤ 1) = true := by simp <;> omega
                have HF : Hid (X = true) := by rw [HE.out]; simp [Hid, fits, q1, q2, q3]
                go_wp2
                go_ret
                exact ⟨ret_bool HF.out.symm, hbel.alloc (by omega) _⟩
              · have z3 : decide ((ni : Int) ≤ 1) = false := by simp <;> omega
                have HF : Hid (X = false) := by rw [HE.out]; simp [Hid, fits, q1, q2, q3]
                go_wp2
                go_ret
                exact ⟨ret_bool HF.out.symm, hbel.alloc (by omega) _⟩
            · have z2 : decide ((1 : Int) ≤ (ni : Int)) = false := by simp <;> omega
              have HF : Hid (X = false) := by rw [HE.out]; simp [Hid, fits, q1, q2]
              go_wp2
              go_ret
              exact ⟨ret_bool HF.out.symm, hbel.alloc (by omega) _⟩
          · have z1 : ((no : Int) == 1) = false := by rw [beq_eq_false_iff_ne]; omega
            have HF : Hid (X = false) := by rw [HE.out]; simp [Hid, fits, q1]
            go_wp2
            go_ret
            exact ⟨ret_bool HF.out.symm, hbel.alloc (by omega) _⟩
        · have hb : (([114, 101, 118] : List UInt8) == act.toList) = false := by rw [beq_eq_false_iff_ne]; exact fun e => ha e.symm
          have HN := notAct_succ hno rfl ha
          go_wp2
          go_roundw
          case rel => refine ⟨_, ?_, ?_, HN, (Below.heap_alloc _ _ _ hsz).trans hblk, hbel.alloc (by omega) _⟩ <;> first | omega | rfl
          case measure => simp [intOf]
      · skip
        by_cases ha : act.toList = [104, 97, 108, 102]
        · have hb : (([104, 97, 108, 102] : List UInt8) == act.toList) = true := by rw [ha]; simp
          have HE : Hid (X = fits 2 1 1 no ni) := by rw [← HX.out]; exact wants_act act no ni 2 1 1 [104, 97, 108, 102] ha (by simp)
          clear ha
          by_cases q1 : no = 2
          · have z1 : ((no : Int) == 2) = true := by rw [q1]; rfl
            by_cases q2 : 1 ≤ ni
            · have z2 : decide ((1 : Int) ≤ (ni : Int)) = true := by simp <;> omega
              by_cases q3 : ni ≤ 1
              · have z3 : decide ((ni : Int) ≤ 1) = true := by simp <;> omega
                have HF : Hid (X = true) := by rw [HE.out]; simp [Hid, fits, q1, q2, q3]
                go_wp2
                go_ret
                exact ⟨ret_bool HF.out.symm, hbel.alloc (by omega) _⟩
              · have z3 : decide ((ni : Int) ≤ 1) = false := by simp <;> omega
                have HF : Hid (X = false) := by rw [HE.out]; simp [Hid, fits, q1, q2, q3]
                go_wp2
                go_ret
                exact ⟨ret_bool HF.out.symm, hbel.alloc (by omega) _⟩
            · have z2 : decide ((1 : Int) ≤ (ni : Int)) = false := by simp <;> omega
              have HF : Hid (X = false) := by rw [HE.out]; simp [Hid, fits, q1, q2]
              go_wp2
              go_ret
              exact ⟨ret_bool HF.out.symm, hbel.alloc (by omega) _⟩
          · have z1 : ((no : Int) == 2) = false := by rw [beq_eq_false_iff_ne]; omega
            have HF : Hid (X = false) := by rw [HE.out]; simp [Hid, fits, q1]
            go_wp2
            go_ret
            exact ⟨ret_bool HF.out.symm, hbel.alloc (by omega) _⟩
        · have hb : (([104, 97, 108, 102] : List UInt8) == act.toList) = false := by rw [beq_eq_false_iff_ne]; exact fun e => ha e.symm
          have HN := notAct_succ hno rfl ha
          go_wp2
          go_roundw
          case rel => refine ⟨_, ?_, ?_, HN, (Below.heap_alloc _ _ _ hsz).trans hblk, hbel.alloc (by omega) _⟩ <;> first | omega | rfl
          case measure => simp [intOf]
      · skip
        by_cases ha : act.toList = [99, 111, 117, 110, 116]
        · have hb : (([99, 111, 117, 110, 116] : List UInt8) == act.toList) = true := by rw [ha]; simp
          have HE : Hid (X = fits 1 1 4 no ni) := by rw [← HX.out]; exact wants_act act no ni 1 1 4 [99, 111, 117, 110, 116] ha (by simp)
          clear ha
          by_cases q1 : no = 1
          · have z1 : ((no : Int) == 1) = true := by rw [q1]; rfl
            by_cases q2 : 1 ≤ ni
            · have z2 : decide ((1 : Int) ≤ (ni : Int)) = true := by simp <;> omega
              by_cases q3 : ni ≤ 4
              · have z3 : decide ((ni : Int) ≤ 4) = true := by simp <;> omega
                have HF : Hid (X = true) := by rw [HE.out]; simp [Hid, fits, q1, q2, q3]
                go_wp2
                go_ret
                exact ⟨ret_bool HF.out.symm, hbel.alloc (by omega) _⟩
              · have z3 : decide ((ni : Int) ≤ 4) = false := by simp <;> omega
                have HF : Hid (X = false) := by rw [HE.out]; simp [Hid, fits, q1, q2, q3]
                go_wp2
                go_ret
                exact ⟨ret_bool HF.out.symm, hbel.alloc (by omega) _⟩
            · have z2 : decide ((1 : Int) ≤ (ni : Int)) = false := by simp <;> omega
              have HF : Hid (X = false) := by rw [HE.out]; simp [Hid, fits, q1, q2]
              go_wp2
              go_ret
              exact ⟨ret_bool HF.out.symm, hbel.alloc (by omega) _⟩
          · have z1 : ((no : Int) == 1) = false := by rw [beq_eq_false_iff_ne]; omega
            have HF : Hid (X = false) := by rw [HE.out]; simp [Hid, fits, q1]
            go_wp2
            go_ret
            exact ⟨ret_bool HF.out.symm, hbel.alloc (by omega) _⟩
        · have hb : (([99, 111, 117, 110, 116] : List UInt8) == act.toList) = false := by rw [beq_eq_false_iff_ne]; exact fun e => ha e.symm
          have HN := notAct_succ hno rfl ha
          go_wp2
          go_roundw
          case rel => refine ⟨_, ?_, ?_, HN, (Below.heap_alloc _ _ _ hsz).trans hblk, hbel.alloc (by omega) _⟩ <;> first | omega | rfl
          case measure => simp [intOf]
      · skip
        by_cases ha : act.toList = [103, 97, 116, 101]
        · have hb : (([103, 97, 116, 101] : List UInt8) == act.toList) = true := by rw [ha]; simp
          have HE : Hid (X = fits 1 1 1 no ni) := by rw [← HX.out]; exact wants_act act no ni 1 1 1 [103, 97, 116, 101] ha (by simp)
          clear ha
          by_cases q1 : no = 1
          · have z1 : ((no : Int) == 1) = true := by rw [q1]; rfl
            by_cases q2 : 1 ≤ ni
            · have z2 : decide ((1 : Int) ≤ (ni : Int)) = true := by simp <;> omega
              by_cases q3 : ni ≤ 1
              · have z3 : decide ((ni : Int) ≤ 1) = true := by simp <;> omega
                have HF : Hid (X = true) := by rw [HE.out]; simp [Hid, fits, q1, q2, q3]
                go_wp2
                go_ret
                exact ⟨ret_bool HF.out.symm, hbel.alloc (by omega) _⟩
              · have z3 : decide ((ni : Int) ≤ 1) = false := by simp <;> omega
                have HF : Hid (X = false) := by rw [HE.out]; simp [Hid, fits, q1, q2, q3]
                go_wp2
                go_ret
                exact ⟨ret_bool HF.out.symm, hbel.alloc (by omega) _⟩
            · have z2 : decide ((1 : Int) ≤ (ni : Int)) = false := by simp <;> omega
              have HF : Hid (X = false) := by rw [HE.out]; simp [Hid, fits, q1, q2]
              go_wp2
              go_ret
              exact ⟨ret_bool HF.out.symm, hbel.alloc (by omega) _⟩
          · have z1 : ((no : Int) == 1) = false := by rw [beq_eq_false_iff_ne]; omega
            have HF : Hid (X = false) := by rw [HE.out]; simp [Hid, fits, q1]
            go_wp2
            go_ret
            exact ⟨ret_bool HF.out.symm, hbel.alloc (by omega) _⟩
        · have hb : (([103, 97, 116, 101] : List UInt8) == act.toList) = false := by rw [beq_eq_false_iff_ne]; exact fun e => ha e.symm
          have HN := notAct_succ hno rfl ha
          go_wp2
          go_roundw
          case rel => refine ⟨_, ?_, ?_, HN, (Below.heap_alloc _ _ _ hsz).trans hblk, hbel.alloc (by omega) _⟩ <;> first | omega | rfl
          case measure => simp [intOf]
    · have hk5 : k = 5 := by omega
      subst hk5
      have HE : Hid (X = false) := by rw [← HX.out]; exact wants_none act no ni hno
      go_wp2
      go_ret
      exact ⟨ret_bool HE.out.symm, hbel⟩
end Go.Proofs.YtoabakgmjcnodaaDoor
