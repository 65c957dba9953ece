import Derived.Test.YtoabakgmjcnodaaDoorRefPlan
import Derived.Deep.QuietTactic
import Derived.BigQuiet
import Derived.Test.YtoabakgmjcnodaaDoorRefWants
import Derived.Deep.RegionHeld3
import Derived.Deep.RegionLaw
import Derived.Deep.AppendLies
namespace Go.Proofs.YtoabakgmjcnodaaDoor
open Go.ChangeShapes Go.WideShapes Go.ChangeAt Go.RowKit

/-- Which of n things the number c speaks of. -/
def pickZ (c n : Int) : Int := (if c < 0 then -(c + 1) else c) % n
theorem pickZ_bd (c : Int) {n : Int} (h : 0 < n) : 0 ≤ pickZ c n ∧ pickZ c n < n := by
  unfold pickZ
  exact ⟨Int.emod_nonneg _ (by omega), Int.emod_lt_of_pos _ h⟩

set_option maxHeartbeats 1000000 in
theorem kp_pick (c n : Int) (w : World) (hc : -9223372036854775808 ≤ c ∧ c ≤ 9223372036854775807) (hn : 1 ≤ n ∧ n ≤ 1000000) :
    Calls Tryd.prog 33 #[.int .i64 c, .int .i64 n] w fun e w' => e = .returned (.int .i64 (pickZ c n)) ∧ w' = w := by
  obtain ⟨hc1, hc2⟩ := hc
  obtain ⟨hn1, hn2⟩ := hn
  by_cases h : c < 0
  · have HE : Hid (pickZ c n = Int.tmod (-(c + 1)) n) := by unfold pickZ; rw [if_pos h]; exact (Int.tmod_eq_emod_of_nonneg (by omega)).symm
    go_enter Tryd.func33, Tryd.ntmps33
    go_wp2
    all_goals go_ret
    all_goals exact ⟨ret_int (by rw [HE.out, Int.neg_tmod]), rfl⟩
  · have HE : Hid (pickZ c n = c % n) := by unfold pickZ; rw [if_neg h]; rfl
    go_enter Tryd.func33, Tryd.ntmps33
    go_wp2
    all_goals go_ret
    all_goals exact ⟨ret_int (by rw [HE.out]), rfl⟩

def digs : ByteArray := ⟨#[48, 49, 50, 51, 52, 53, 54, 55, 56, 57]⟩
def bs (l : List UInt8) : ByteArray := ⟨l.toArray⟩
def numB (c : UInt8) (n : Nat) : ByteArray := bs [c, UInt8.ofNat (48 + n / 10), UInt8.ofNat (48 + n % 10)]
theorem digs_ext {n : Nat} (h : n ≤ 9) : digs.extract n (n + 1) = bs [UInt8.ofNat (48 + n)] := by
  rcases (show n = 0 ∨ n = 1 ∨ n = 2 ∨ n = 3 ∨ n = 4 ∨ n = 5 ∨ n = 6 ∨ n = 7 ∨ n = 8 ∨ n = 9 by omega) with rfl | rfl | rfl | rfl | rfl | rfl | rfl | rfl | rfl | rfl <;> decide +kernel
theorem ba_ext {a b : ByteArray} (h : a.data.toList = b.data.toList) : a = b := by
  cases a; cases b; simp at h; subst h; rfl
theorem numB_eq {c : UInt8} {n : Nat} (h : n < 100) : (bs [c] ++ digs.extract (n / 10) (n / 10 + 1)) ++ digs.extract (n % 10) (n % 10 + 1) = numB c n := by
  rw [digs_ext (by omega), digs_ext (by omega)]
  apply ba_ext
  simp [bs, numB]

set_option maxHeartbeats 4000000 in
theorem kp_numbered (c : UInt8) (n : Nat) (w : World) (hn : n < 12) :
    Calls Tryd.prog 19 #[.string ⟨#[c]⟩, .int .i64 n] w fun e w' => e = .returned (.string (numB c n)) ∧ ∃ q, w' = w.drewN q := by
  rcases (show n = 0 ∨ n = 1 ∨ n = 2 ∨ n = 3 ∨ n = 4 ∨ n = 5 ∨ n = 6 ∨ n = 7 ∨ n = 8 ∨ n = 9 ∨ n = 10 ∨ n = 11 by omega) with rfl | rfl | rfl | rfl | rfl | rfl | rfl | rfl | rfl | rfl | rfl | rfl
  · have HE : Hid (numB c 0 = ((⟨#[c]⟩ : ByteArray) ++ digs.extract (0 / 10) (0 / 10 + 1)) ++ digs.extract (0 % 10) (0 % 10 + 1)) := (numB_eq (n := 0) (by omega)).symm
    go_enter Tryd.func19, Tryd.ntmps19
    go_wp2_with fail
    go_quiet (fail)
    go_wp2
    all_goals go_ret
    all_goals exact ⟨by rw [HE.out]; rfl, _, rfl⟩
  · have HE : Hid (numB c 1 = ((⟨#[c]⟩ : ByteArray) ++ digs.extract (1 / 10) (1 / 10 + 1)) ++ digs.extract (1 % 10) (1 % 10 + 1)) := (numB_eq (n := 1) (by omega)).symm
    go_enter Tryd.func19, Tryd.ntmps19
    go_wp2_with fail
    go_quiet (fail)
    go_wp2
    all_goals go_ret
    all_goals exact ⟨by rw [HE.out]; rfl, _, rfl⟩
  · have HE : Hid (numB c 2 = ((⟨#[c]⟩ : ByteArray) ++ digs.extract (2 / 10) (2 / 10 + 1)) ++ digs.extract (2 % 10) (2 % 10 + 1)) := (numB_eq (n := 2) (by omega)).symm
    go_enter Tryd.func19, Tryd.ntmps19
    go_wp2_with fail
    go_quiet (fail)
    go_wp2
    all_goals go_ret
    all_goals exact ⟨by rw [HE.out]; rfl, _, rfl⟩
  · have HE : Hid (numB c 3 = ((⟨#[c]⟩ : ByteArray) ++ digs.extract (3 / 10) (3 / 10 + 1)) ++ digs.extract (3 % 10) (3 % 10 + 1)) := (numB_eq (n := 3) (by omega)).symm
    go_enter Tryd.func19, Tryd.ntmps19
    go_wp2_with fail
    go_quiet (fail)
    go_wp2
    all_goals go_ret
    all_goals exact ⟨by rw [HE.out]; rfl, _, rfl⟩
  · have HE : Hid (numB c 4 = ((⟨#[c]⟩ : ByteArray) ++ digs.extract (4 / 10) (4 / 10 + 1)) ++ digs.extract (4 % 10) (4 % 10 + 1)) := (numB_eq (n := 4) (by omega)).symm
    go_enter Tryd.func19, Tryd.ntmps19
    go_wp2_with fail
    go_quiet (fail)
    go_wp2
    all_goals go_ret
    all_goals exact ⟨by rw [HE.out]; rfl, _, rfl⟩
  · have HE : Hid (numB c 5 = ((⟨#[c]⟩ : ByteArray) ++ digs.extract (5 / 10) (5 / 10 + 1)) ++ digs.extract (5 % 10) (5 % 10 + 1)) := (numB_eq (n := 5) (by omega)).symm
    go_enter Tryd.func19, Tryd.ntmps19
    go_wp2_with fail
    go_quiet (fail)
    go_wp2
    all_goals go_ret
    all_goals exact ⟨by rw [HE.out]; rfl, _, rfl⟩
  · have HE : Hid (numB c 6 = ((⟨#[c]⟩ : ByteArray) ++ digs.extract (6 / 10) (6 / 10 + 1)) ++ digs.extract (6 % 10) (6 % 10 + 1)) := (numB_eq (n := 6) (by omega)).symm
    go_enter Tryd.func19, Tryd.ntmps19
    go_wp2_with fail
    go_quiet (fail)
    go_wp2
    all_goals go_ret
    all_goals exact ⟨by rw [HE.out]; rfl, _, rfl⟩
  · have HE : Hid (numB c 7 = ((⟨#[c]⟩ : ByteArray) ++ digs.extract (7 / 10) (7 / 10 + 1)) ++ digs.extract (7 % 10) (7 % 10 + 1)) := (numB_eq (n := 7) (by omega)).symm
    go_enter Tryd.func19, Tryd.ntmps19
    go_wp2_with fail
    go_quiet (fail)
    go_wp2
    all_goals go_ret
    all_goals exact ⟨by rw [HE.out]; rfl, _, rfl⟩
  · have HE : Hid (numB c 8 = ((⟨#[c]⟩ : ByteArray) ++ digs.extract (8 / 10) (8 / 10 + 1)) ++ digs.extract (8 % 10) (8 % 10 + 1)) := (numB_eq (n := 8) (by omega)).symm
    go_enter Tryd.func19, Tryd.ntmps19
    go_wp2_with fail
    go_quiet (fail)
    go_wp2
    all_goals go_ret
    all_goals exact ⟨by rw [HE.out]; rfl, _, rfl⟩
  · have HE : Hid (numB c 9 = ((⟨#[c]⟩ : ByteArray) ++ digs.extract (9 / 10) (9 / 10 + 1)) ++ digs.extract (9 % 10) (9 % 10 + 1)) := (numB_eq (n := 9) (by omega)).symm
    go_enter Tryd.func19, Tryd.ntmps19
    go_wp2_with fail
    go_quiet (fail)
    go_wp2
    all_goals go_ret
    all_goals exact ⟨by rw [HE.out]; rfl, _, rfl⟩
  · have HE : Hid (numB c 10 = ((⟨#[c]⟩ : ByteArray) ++ digs.extract (10 / 10) (10 / 10 + 1)) ++ digs.extract (10 % 10) (10 % 10 + 1)) := (numB_eq (n := 10) (by omega)).symm
    go_enter Tryd.func19, Tryd.ntmps19
    go_wp2_with fail
    go_quiet (fail)
    go_wp2
    all_goals go_ret
    all_goals exact ⟨by rw [HE.out]; rfl, _, rfl⟩
  · have HE : Hid (numB c 11 = ((⟨#[c]⟩ : ByteArray) ++ digs.extract (11 / 10) (11 / 10 + 1)) ++ digs.extract (11 % 10) (11 % 10 + 1)) := (numB_eq (n := 11) (by omega)).symm
    go_enter Tryd.func19, Tryd.ntmps19
    go_wp2_with fail
    go_quiet (fail)
    go_wp2
    all_goals go_ret
    all_goals exact ⟨by rw [HE.out]; rfl, _, rfl⟩

theorem strs_at' {w : World} {a : Option Addr} {n c : Nat} {ss : List ByteArray} (h : Strs w (.slice a n c) ss) {k : Nat} (hk : k < ss.length) : ∃ b off, a = some ⟨b, off, none⟩ ∧ w.cell? ⟨b, off + k, none⟩ = some (.string ss[k]) := by
  obtain ⟨a1, c1, e, _, h⟩ := h
  injection e with e1 e2 e3
  subst e1
  rcases h with h | ⟨b, off, h1, hc⟩
  · rw [h] at hk; simp at hk
  · exact ⟨b, off, h1, hc k hk⟩
/-- Words with a blank ahead of each. -/
def wordsK (l : List ByteArray) : ByteArray := l.foldl (fun s x => s ++ ⟨#[32]⟩ ++ x) ⟨#[]⟩
theorem wordsK_take {l : List ByteArray} {k : Nat} (h : k < l.length) : wordsK (l.take (k + 1)) = wordsK (l.take k) ++ ⟨#[32]⟩ ++ l[k] := by
  unfold wordsK
  rw [List.take_succ_eq_append_getElem h, List.foldl_append]; rfl
theorem wordsK_size (l : List ByteArray) {m : Nat} (h : ∀ x ∈ l, x.size ≤ m) : ∀ k, (wordsK (l.take k)).size ≤ k * (m + 1)
  | 0 => by simp [wordsK, ByteArray.size]
  | k + 1 => by
    have ih := wordsK_size l h k
    by_cases hk : k < l.length
    · rw [wordsK_take hk, ByteArray.size_append, ByteArray.size_append]
      have := h _ (List.getElem_mem hk)
      have e : (⟨#[32]⟩ : ByteArray).size = 1 := rfl
      rw [Nat.add_mul]; omega
    · rw [List.take_of_length_le (by omega)]
      rw [List.take_of_length_le (by omega)] at ih
      rw [Nat.add_mul]; omega

set_option maxHeartbeats 1000000 in
theorem kp_words (v : Value) (ss : List ByteArray) (w : World) (hv : Strs w v ss) (hn : ss.length ≤ 1000) (hm : ∀ x ∈ ss, x.size ≤ 16) :
    Calls Tryd.prog 22 #[v] w fun e w' => e = .returned (.string (wordsK ss)) ∧ w' = w := by
  obtain ⟨a, c, rfl, _, _⟩ := id hv
  go_enter Tryd.func22, Tryd.ntmps22
  go_wp2
  go_loop [3, 4] (fun s i => ∃ k : Nat, k ≤ ss.length ∧ i = .int .i64 k ∧ s = .string (wordsK (ss.take k))) (fun _ i => ss.length - (intOf i).toNat)
  case atStart => exact ⟨0, Nat.zero_le _, rfl, rfl⟩
  case round =>
    obtain ⟨k, hk, rfl, rfl⟩ := hrel
    have hz := wordsK_size ss hm k
    by_cases hlt : k < ss.length
    · obtain ⟨b, off, hx, hc⟩ := strs_at' hv hlt
      subst hx
      have hxm := hm _ (List.getElem_mem hlt)
      have HN : Hid (wordsK (ss.take (k + 1)) = wordsK (ss.take k) ++ ⟨#[32]⟩ ++ ss[k]) := wordsK_take hlt
      generalize ss[k] = x at *
      go_wp2
      go_round
      case rel => exact ⟨k + 1, by omega, by go_num, by rw [HN.out]⟩
      case measure => simp [intOf]; omega
    · have HN : Hid (ss.take k = ss) := List.take_of_length_le (by omega)
      go_wp2
      go_ret
      exact ⟨by rw [HN.out]; rfl, rfl⟩

def hasB (ss : List ByteArray) (s : ByteArray) : Bool := ss.any fun x => x.toList == s.toList
set_option maxHeartbeats 1000000 in
theorem kp_in (v : Value) (ss : List ByteArray) (s : ByteArray) (w : World) (hv : Strs w v ss) (hn : ss.length ≤ 1000) :
    Calls Tryd.prog 35 #[v, .string s] w fun e w' => e = .returned (.bool (hasB ss s)) ∧ w' = w := by
  obtain ⟨a, c, rfl, _, _⟩ := id hv
  go_enter Tryd.func35, Tryd.ntmps35
  go_wp2
  go_loop [4, 5] (fun _ i => ∃ k : Nat, k ≤ ss.length ∧ i = .int .i64 k ∧ notIn ss s k) (fun _ i => ss.length - (intOf i).toNat)
  case atStart => exact ⟨0, Nat.zero_le _, rfl, fun i x hi => by omega⟩
  case round =>
    obtain ⟨k, hk, rfl, hno⟩ := hrel
    by_cases hlt : k < ss.length
    · obtain ⟨b, off, hx, hc⟩ := strs_at' hv hlt
      subst hx
      have HN1 : Hid ((ss[k].toList == s.toList) = false → notIn ss s (k + 1)) := fun h => notIn_succ hlt hno h
      have HN2 : Hid ((ss[k].toList == s.toList) = true → hasB ss s = true) := fun h => by unfold hasB; rw [List.any_eq_true]; exact ⟨_, List.getElem_mem hlt, h⟩
      generalize ss[k] = x at *
      go_wp2
      · rename_i h _
        go_ret
        exact ⟨ret_bool (HN2.out h).symm, rfl⟩
      · rename_i h
        go_round
        case rel => exact ⟨k + 1, by omega, by go_num, HN1.out h⟩
        case measure => simp [intOf]; omega
    · have HN : Hid (hasB ss s = false) := by
        unfold hasB; rw [Hid, List.any_eq_false]
        intro x hx
        obtain ⟨i, hi, rfl⟩ := List.mem_iff_getElem.1 hx
        rw [hno i _ (by omega) (List.getElem?_eq_getElem hi)]; simp
      go_wp2
      go_ret
      exact ⟨ret_bool HN.out.symm, rfl⟩

structure KT where
  act : ByteArray
  outs : List ByteArray
  ins : List ByteArray
  cost : Nat
  jobs : Nat
  pool : Nat

def actCat : ByteArray := ⟨#[99, 97, 116]⟩
def actRev : ByteArray := ⟨#[114, 101, 118]⟩
def actHalf : ByteArray := ⟨#[104, 97, 108, 102]⟩
def actCount : ByteArray := ⟨#[99, 111, 117, 110, 116]⟩
def actGate : ByteArray := ⟨#[103, 97, 116, 101]⟩
def acts5 : List ByteArray := [actCat, actRev, actHalf, actCount, actGate]

/-- What add makes of a raw task for line k. -/
structure TW (t : KT) (k : Nat) (paths : List ByteArray) : Prop where
  act : t.act ∈ acts5
  outs : t.outs = if t.act.toList == [104, 97, 108, 102] then [numB 116 k, numB 117 k] else [numB 116 k]
  ins : ∀ x ∈ t.ins, x ∈ paths
  some : 1 ≤ t.ins.length ∧ t.ins.length ≤ 4
  one : (t.act.toList == [99, 97, 116]) = false → (t.act.toList == [99, 111, 117, 110, 116]) = false → t.ins.length = 1
  cost : 1 ≤ t.cost ∧ t.cost ≤ 9
  jobs : 1 ≤ t.jobs ∧ t.jobs ≤ 9
  pool : t.pool ≤ 3

theorem TW.wants {t : KT} {k : Nat} {paths : List ByteArray} (h : TW t k paths) : wantsB t.act t.outs.length t.ins.length = true ∧ nameB t.act.data.toList = true ∧ t.act.size ≤ 5 := by
  have ho := h.outs
  have hs := h.some
  have h1 := h.one
  have ha := h.act
  obtain ⟨act, outs, ins, c, j, p⟩ := t
  simp only at ho hs h1 ha ⊢
  unfold acts5 at ha
  simp only [List.mem_cons, List.not_mem_nil, or_false] at ha
  rcases ha with rfl | rfl | rfl | rfl | rfl
  · have e1 : (actCat.toList == [104, 97, 108, 102]) = false := by decide +kernel
    have e2 : (actCat.toList == [99, 97, 116]) = true := by decide +kernel
    rw [e1] at ho
    subst ho
    refine ⟨?_, by decide +kernel, by decide +kernel⟩
    simp [wantsB, e2, hs.2]
  · have e1 : (actRev.toList == [104, 97, 108, 102]) = false := by decide +kernel
    have e2 : (actRev.toList == [99, 97, 116]) = false := by decide +kernel
    have e3 : (actRev.toList == [99, 111, 117, 110, 116]) = false := by decide +kernel
    have e4 : (actRev.toList == [114, 101, 118]) = true := by decide +kernel
    rw [e1] at ho
    subst ho
    refine ⟨?_, by decide +kernel, by decide +kernel⟩
    simp [wantsB, e2, e3, e4, h1 e2 e3]
  · have e1 : (actHalf.toList == [104, 97, 108, 102]) = true := by decide +kernel
    have e2 : (actHalf.toList == [99, 97, 116]) = false := by decide +kernel
    have e3 : (actHalf.toList == [99, 111, 117, 110, 116]) = false := by decide +kernel
    have e4 : (actHalf.toList == [114, 101, 118]) = false := by decide +kernel
    have e5 : (actHalf.toList == [103, 97, 116, 101]) = false := by decide +kernel
    rw [e1] at ho
    subst ho
    refine ⟨?_, by decide +kernel, by decide +kernel⟩
    simp [wantsB, e1, e2, e3, e4, e5, h1 e2 e3]
  · have e1 : (actCount.toList == [104, 97, 108, 102]) = false := by decide +kernel
    have e2 : (actCount.toList == [99, 97, 116]) = false := by decide +kernel
    have e3 : (actCount.toList == [99, 111, 117, 110, 116]) = true := by decide +kernel
    rw [e1] at ho
    subst ho
    refine ⟨?_, by decide +kernel, by decide +kernel⟩
    simp [wantsB, e2, e3, hs.1, hs.2]
  · have e1 : (actGate.toList == [104, 97, 108, 102]) = false := by decide +kernel
    have e2 : (actGate.toList == [99, 97, 116]) = false := by decide +kernel
    have e3 : (actGate.toList == [99, 111, 117, 110, 116]) = false := by decide +kernel
    have e4 : (actGate.toList == [114, 101, 118]) = false := by decide +kernel
    have e5 : (actGate.toList == [103, 97, 116, 101]) = true := by decide +kernel
    rw [e1] at ho
    subst ho
    refine ⟨?_, by decide +kernel, by decide +kernel⟩
    simp [wantsB, e2, e3, e4, e5, h1 e2 e3]

/-- The type of the row's elements. -/
def kty : Nat → TypeId
  | 0 => 9
  | 1 => 36
  | 2 => 36
  | _ => 3
def up {α : Type} (f : Nat → α) (j : Nat) (x : α) : Nat → α := fun i => if i = j then x else f i
theorem up_same {α : Type} (f : Nat → α) (j : Nat) (x : α) : up f j x j = x := by simp [up]
theorem up_other {α : Type} {f : Nat → α} {i j : Nat} {x : α} (h : i ≠ j) : up f j x i = f i := by simp [up, h]

/-- Seven rows lie in w, their struct in block pb; M: what may be written. -/
structure KR (w : World) (pb : Nat) (M : Nat → Prop) (v : Nat → Value) (xs : Nat → List Value) : Prop where
  blk : w.heap[pb]? = some (.cells #[v 0, v 1, v 2, v 3, v 4, v 5, v 6] 39 (0, 0))
  own : ∀ j, j < 7 → w.ownsRow (pb + 1) (kty j) 1 (v j) (xs j).length (xs j)
  mine : ∀ j, j < 7 → ∀ k, (v j).ownBlock = some k → M k
  apart : ∀ i j, i < 7 → j < 7 → i ≠ j → ∀ k, (v i).ownBlock = some k → (v j).ownBlock ≠ some k
  top : M pb
  old : ∀ k, M k → k < w.heap.size
  few : ∀ j, j < 7 → (xs j).length ≤ 12

theorem KR.cell {w : World} {pb : Nat} {M : Nat → Prop} {v : Nat → Value} {xs : Nat → List Value} (R : KR w pb M v xs) (j : Nat) (hj : j < 7) : w.cell? ⟨pb, j, none⟩ = some (v j) ∧ w.frozen? ⟨pb, j, none⟩ = false := by
  refine ⟨?_, by simp [World.frozen?, R.blk]⟩
  rcases (show j = 0 ∨ j = 1 ∨ j = 2 ∨ j = 3 ∨ j = 4 ∨ j = 5 ∨ j = 6 by omega) with rfl | rfl | rfl | rfl | rfl | rfl | rfl
  all_goals (rw [cell_of_row w pb _ _ 39 (0, 0) R.blk]; rfl)
theorem KR.shape {w : World} {pb : Nat} {M : Nat → Prop} {v : Nat → Value} {xs : Nat → List Value} (R : KR w pb M v xs) (j : Nat) (hj : j < 7) : ∃ a c, v j = .slice a (xs j).length c := by
  rcases (R.own j hj).2 with ⟨e, h0⟩ | ⟨g, cap, cur, e, _⟩
  · rw [h0]; exact ⟨_, _, e⟩
  · exact ⟨_, _, e⟩
theorem KR.ready {w : World} {pb : Nat} {M : Nat → Prop} {v : Nat → Value} {xs : Nat → List Value} (R : KR w pb M v xs) (j : Nat) (hj : j < 7) {x : List Value} {n : Nat} (hx : xs j = x) (hn : x.length = n) :
    ∃ a c, v j = .slice a n c ∧ w.ownsRow (pb + 1) (kty j) 1 (.slice a n c) n x ∧ w.cell? ⟨pb, j, none⟩ = some (.slice a n c) ∧ w.frozen? ⟨pb, j, none⟩ = false := by
  subst hx hn
  obtain ⟨a, c, h⟩ := R.shape j hj
  have h1 := R.own j hj
  have h2 := R.cell j hj
  rw [h] at h1 h2
  exact ⟨a, c, h, h1, h2⟩
theorem KR.block {w w1 : World} {pb : Nat} {M : Nat → Prop} {v : Nat → Value} {xs : Nat → List Value} (R : KR w pb M v xs) (hb : ∀ k, k < w.heap.size → M k → w1.heap[k]? = w.heap[k]?) (hs : w.heap.size ≤ w1.heap.size) : KR w1 pb M v xs := by
  refine ⟨(hb pb (blk_lt R.blk) R.top).trans R.blk, fun j hj => ?_, R.mine, R.apart, R.top, fun k hk => Nat.lt_of_lt_of_le (R.old k hk) hs, R.few⟩
  refine ⟨(R.own j hj).1, ?_⟩
  rcases (R.own j hj).2 with hn | ⟨g, cap, cur, e, hB, hgg, rest⟩
  · exact .inl hn
  · refine .inr ⟨g, cap, cur, e, hB, ?_, rest⟩
    rw [hb g (blk_lt hgg) (R.mine j hj g (by rw [e]; rfl))]; exact hgg
theorem KR.same {w w1 : World} {pb : Nat} {M : Nat → Prop} {v : Nat → Value} {xs : Nat → List Value} (R : KR w pb M v xs) (h : Below w.heap.size w w1) : KR w1 pb M v xs :=
  R.block (fun k hk _ => h.block k hk) h.size

/-- Behind an append at the row j. -/
theorem KR.app {w Wb w1 : World} {pb : Nat} {M : Nat → Prop} {v : Nat → Value} {xs : Nat → List Value} (R : KR w pb M v xs) {j gg cap n : Nat} {u : Value} (hj : j < 7) (hn : n = (xs j).length) (h12 : n < 12) (hWb : Below w.heap.size w Wb)
    (hown : w1.ownsRow (pb + 1) (kty j) 1 (.slice (some ⟨gg, 0, none⟩) (n + 1) cap) (n + 1) (xs j ++ [u]))
    (hg : Wb.grownBy w1 (v j).ownBlock) (hat : (v j).ownBlock = some gg ∨ w.heap.size ≤ gg) :
    ∃ M1, KR (w1.setCell ⟨pb, j, none⟩ (.slice (some ⟨gg, 0, none⟩) (n + 1) cap)) pb M1 (up v j (.slice (some ⟨gg, 0, none⟩) (n + 1) cap)) (up xs j (xs j ++ [u])) ∧
      Same M w (w1.setCell ⟨pb, j, none⟩ (.slice (some ⟨gg, 0, none⟩) (n + 1) cap)) ∧ ∀ k, M1 k → M k ∨ w.heap.size ≤ k := by
  have hpl := blk_lt R.blk
  have hbs := hWb.size
  have hgs := hg.size
  have hlow : ∀ i, i < 7 → ∀ k, (v i).ownBlock = some k → pb + 1 ≤ k ∧ k < w.heap.size := fun i hi k hk => (R.own i hi).lt k hk
  have hS : Same (fun k => k = pb ∨ (v j).ownBlock = some k) w (w1.setCell ⟨pb, j, none⟩ (.slice (some ⟨gg, 0, none⟩) (n + 1) cap)) :=
    ((⟨hWb.os, hWb.tape, hWb.output, hWb.size, fun k hk _ => hWb.block k hk⟩ : Same _ w Wb).grown hg (fun k hk _ => .inr hk)).setCell (fun _ => .inl rfl) _
  have hM : ∀ k, (k = pb ∨ (v j).ownBlock = some k) → M k := fun k h => h.elim (fun e => e ▸ R.top) (R.mine j hj k)
  have hb1 : w1.heap[pb]? = w.heap[pb]? := (hg.block pb (by omega) (fun e => by have := (hlow j hj pb e.symm).1; omega)).trans (hWb.block pb hpl)
  have hgl : gg < w1.heap.size := (hown.lt gg rfl).2
  refine ⟨fun k => M k ∨ k = gg, ⟨?_, ?_, ?_, ?_, .inl R.top, ?_, ?_⟩, hS.mono (fun k _ h => hM k h), ?_⟩
  · have hb2 := hb1.trans R.blk
    rcases (show j = 0 ∨ j = 1 ∨ j = 2 ∨ j = 3 ∨ j = 4 ∨ j = 5 ∨ j = 6 by omega) with rfl | rfl | rfl | rfl | rfl | rfl | rfl
    all_goals exact blk_set hb2 rfl
  · intro i hi
    by_cases e : i = j
    · subst e
      rw [up_same, up_same]
      have : (xs i ++ [u]).length = n + 1 := by rw [List.length_append, hn]; rfl
      rw [this]
      exact ownsRow_setCell_below hown (by simp) _
    · rw [up_other e, up_other e]
      exact hS.owns (R.own i hi) (fun k hk h => h.elim (fun e1 => by have := (hlow i hi k hk).1; omega) (fun e1 => R.apart i j hi hj e k hk e1))
  · intro i hi k hk
    by_cases e : i = j
    · subst e; rw [up_same] at hk; right; simpa [Value.ownBlock] using hk.symm
    · rw [up_other e] at hk; exact .inl (R.mine i hi k hk)
  · have key : ∀ i, i < 7 → i ≠ j → (v i).ownBlock ≠ some gg := by
      intro i hi e h
      rcases hat with h1 | h1
      · exact R.apart i j hi hj e gg h h1
      · have := (hlow i hi gg h).2; omega
    intro a b ha hb hab k hka hkb
    by_cases ea : a = j
    · subst ea
      rw [up_same] at hka
      have : k = gg := by simpa [Value.ownBlock] using hka.symm
      rw [up_other (fun e => hab e.symm), this] at hkb
      exact key b hb (fun e => hab e.symm) hkb
    · rw [up_other ea] at hka
      by_cases eb : b = j
      · subst eb
        rw [up_same] at hkb
        have : k = gg := by simpa [Value.ownBlock] using hkb.symm
        rw [this] at hka
        exact key a ha ea hka
      · rw [up_other eb] at hkb
        exact R.apart a b ha hb hab k hka hkb
  · intro k hk
    rcases hk with h | h
    · have := R.old k h; simp; omega
    · rw [h]; simpa using hgl
  · intro i hi
    by_cases e : i = j
    · subst e; rw [up_same, List.length_append, ← hn]; simp; omega
    · rw [up_other e]; exact R.few i hi
  · intro k hk
    rcases hk with h | h
    · exact .inl h
    · rcases hat with e | e
      · exact .inl (R.mine j hj k (by rw [e, h]))
      · right; omega
theorem KR.drop {M M1 : Nat → Prop} {w w1 : World} (hS : Same M w w1) (hM : ∀ k, M1 k → M k ∨ w.heap.size ≤ k) {k : Nat} (h : ¬ M k ∧ k < w.heap.size) : ¬ M1 k ∧ k < w1.heap.size ∧ w1.heap[k]? = w.heap[k]? :=
  ⟨fun h1 => (hM k h1).elim h.1 (fun h2 => by have := h.2; omega), Nat.lt_of_lt_of_le h.2 hS.size, hS.block k h.2 h.1⟩

/-- What else lies there while a task is added: a box, two lists of words. -/
structure AS (w W : World) (pb : Nat) (M0 M : Nat → Prop) (v : Nat → Value) (xs : Nat → List Value) (wb : Nat) (raw : Obj) (vO : Value) (outs : List ByteArray) (vI : Value) (ins : List ByteArray) : Prop where
  R : KR W pb M v xs
  box : W.heap[wb]? = some raw
  nb : ¬ M wb
  sO : Strs W vO outs
  sI : Strs W vI ins
  aO : ∀ q, vO.ownBlock = some q → ¬ M q ∧ q < W.heap.size
  aI : ∀ q, vI.ownBlock = some q → ¬ M q ∧ q < W.heap.size
  same : Same M0 w W
  sub : ∀ k, M k → M0 k ∨ w.heap.size ≤ k
theorem AS.app {w W Wb w1 : World} {pb : Nat} {M0 M : Nat → Prop} {v : Nat → Value} {xs : Nat → List Value} {wb : Nat} {raw : Obj} {vO : Value} {outs : List ByteArray} {vI : Value} {ins : List ByteArray}
    (A : AS w W pb M0 M v xs wb raw vO outs vI ins) {j gg cap n : Nat} {u : Value} (hj : j < 7) (hn : n = (xs j).length) (h12 : n < 12) (hWb : Below W.heap.size W Wb)
    (hown : w1.ownsRow (pb + 1) (kty j) 1 (.slice (some ⟨gg, 0, none⟩) (n + 1) cap) (n + 1) (xs j ++ [u]))
    (hg : Wb.grownBy w1 (v j).ownBlock) (hat : (v j).ownBlock = some gg ∨ W.heap.size ≤ gg) :
    ∃ M1, AS w (w1.setCell ⟨pb, j, none⟩ (.slice (some ⟨gg, 0, none⟩) (n + 1) cap)) pb M0 M1 (up v j (.slice (some ⟨gg, 0, none⟩) (n + 1) cap)) (up xs j (xs j ++ [u])) wb raw vO outs vI ins := by
  obtain ⟨M1, R1, hS, hM⟩ := A.R.app hj hn h12 hWb hown hg hat
  have hd := KR.drop hS hM (k := wb) ⟨A.nb, blk_lt A.box⟩
  have hs0 := A.same.size
  refine ⟨M1, R1, hd.2.2.trans A.box, hd.1, A.sO.same hS (fun q hq => (A.aO q hq).1), A.sI.same hS (fun q hq => (A.aI q hq).1), fun q hq => ?_, fun q hq => ?_, ?_, ?_⟩
  · have := KR.drop hS hM (A.aO q hq); exact ⟨this.1, this.2.1⟩
  · have := KR.drop hS hM (A.aI q hq); exact ⟨this.1, this.2.1⟩
  · refine ⟨hS.os.trans A.same.os, hS.tape.trans A.same.tape, hS.output.trans A.same.output, Nat.le_trans hs0 hS.size, fun k hk hn => ?_⟩
    exact (hS.block k (by omega) (fun h => (A.sub k h).elim hn (fun h => by omega))).trans (A.same.block k hk hn)
  · intro k hk
    rcases hM k hk with h | h
    · exact A.sub k h
    · right; omega
end Go.Proofs.YtoabakgmjcnodaaDoor
