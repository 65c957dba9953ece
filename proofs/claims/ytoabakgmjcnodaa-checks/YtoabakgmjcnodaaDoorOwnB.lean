import Derived.Test.YtoabakgmjcnodaaDoorOwnA
import Derived.Test.YtoabakgmjcnodaaDoorSplit
namespace Go.Proofs.YtoabakgmjcnodaaDoor
open Go.ChangeShapes Go.WideShapes Go.ChangeAt Go.RowKit

theorem own_splitWords (s : ByteArray) (m : Int) (w : World) (hs : s.size ≤ 2000) (hm : w.cell? ⟨1, 0, none⟩ = some (.int .i64 m)) :
    Calls Tryd.prog 38 #[.string s] w fun e w' => e = .returned (.slice (some ⟨w.heap.size, 0, none⟩) (wordsOf s).length (wordsOf s).length) ∧ w' = w.alloc (.cells ((wordsOf s).map Value.string).toArray 9) := by
  have h := Tryd.strings_Split s ⟨#[32]⟩ m w (by omega) hm (Nat.le_refl 1)
  rw [split_pcs, split_len] at h
  have H : Hid (Calls Tryd.prog 25 #[.string s, .string ⟨#[32]⟩] w fun e w' => e = .returned (.slice (some ⟨w.heap.size, 0, none⟩) (wordsOf s).length (wordsOf s).length) ∧ w' = w.alloc (.cells ((wordsOf s).map Value.string).toArray 9)) := h
  clear h
  generalize wordsOf s = L at *
  go_enter Tryd.func38, Tryd.ntmps38
  go_wp2_with fail
  refine H.out.mono ?_
  rintro e w1 ⟨rfl, hw⟩
  subst hw
  go_wp2
  go_ret
  exact ⟨rfl, rfl⟩

theorem strs_words {w : World} (L : List ByteArray) : Strs (w.alloc (.cells (L.map Value.string).toArray 9)) (.slice (some ⟨w.heap.size, 0, none⟩) L.length L.length) L := by
  refine ⟨_, _, rfl, Nat.le_refl _, .inr ⟨w.heap.size, 0, rfl, fun i hi => ?_⟩⟩
  rw [cell_of_row _ w.heap.size _ _ 9 (0, 0) (heap_alloc_new w _)]
  simp [hi]

/-- Are there names alone, and one at least? -/
def namesB (ss : List ByteArray) : Bool := ss.all (fun x => nameB x.data.toList) && !ss.isEmpty
def namesTo (ss : List ByteArray) (k : Nat) : Prop := ∀ i x, i < k → ss[i]? = some x → nameB x.data.toList = true
theorem namesTo_succ {ss : List ByteArray} {k : Nat} (hk : k < ss.length) (h : namesTo ss k) (h1 : nameB ss[k].data.toList = true) : namesTo ss (k + 1) := by
  intro i x hi hx
  by_cases e : i = k
  · subst e; rw [List.getElem?_eq_getElem hk] at hx; injection hx with hx; rw [← hx]; exact h1
  · exact h i x (by omega) hx
theorem names_hit {ss : List ByteArray} {k : Nat} (hk : k < ss.length) (h1 : nameB ss[k].data.toList = false) : namesB ss = false := by
  have : ss.all (fun x => nameB x.data.toList) = false := by
    rw [List.all_eq_false]; exact ⟨ss[k], List.getElem_mem hk, by simp [h1]⟩
  simp [namesB, this]
theorem names_end {ss : List ByteArray} (h : namesTo ss ss.length) : namesB ss = decide (0 < ss.length) := by
  have : ss.all (fun x => nameB x.data.toList) = true := by
    rw [List.all_eq_true]
    intro x hx
    obtain ⟨i, hi, rfl⟩ := List.mem_iff_getElem.1 hx
    exact h i _ hi (List.getElem?_eq_getElem hi)
  rw [namesB, this]
  cases ss <;> simp

set_option maxHeartbeats 1000000 in
theorem own_areNames (v : Value) (ss : List ByteArray) (w : World) (hv : Strs w v ss) (hn : ss.length ≤ 4000) (hsz : ∀ s ∈ ss, s.size ≤ maxLen) :
    Calls Tryd.prog 59 #[v] w fun e w' => e = .returned (.bool (namesB ss)) ∧ w' = w := by
  have hv0 := hv
  obtain ⟨a, c, rfl, _, _⟩ := hv0
  obtain ⟨N, hN⟩ : ∃ N, namesB ss = N := ⟨_, rfl⟩
  rw [hN]
  have HN : Hid (namesB ss = N) := hN
  clear hN
  go_enter Tryd.func59, Tryd.ntmps59
  go_wp2
  go_loop [2, 4, 7] (fun _ _ i => ∃ k : Nat, k ≤ ss.length ∧ i = .int .i64 k ∧ namesTo ss k) (fun _ _ i => ss.length - (intOf i).toNat)
  case atStart => exact ⟨0, Nat.zero_le _, rfl, fun i x hi => by omega⟩
  case round =>
    obtain ⟨k, hk, rfl, ha⟩ := hrel
    by_cases hlt : k < ss.length
    · obtain ⟨b, off, hx, hc⟩ := strs_at hv hlt
      subst hx
      have hxs := hsz _ (List.getElem_mem hlt)
      obtain ⟨x, hx⟩ : ∃ x, ss[k] = x := ⟨_, rfl⟩
      have HX : Hid (ss[k] = x) := hx
      rw [hx] at hc hxs
      clear hx
      obtain ⟨nb, hnb⟩ : ∃ nb, nameB x.data.toList = nb := ⟨_, rfl⟩
      have HNB : Hid (nameB x.data.toList = nb) := hnb
      clear hnb
      cases nb
      · go_wp2_with (go_at_call 54; refine (own_IsName x _ hxs).mono ?_; rintro e w1 ⟨rfl, hw⟩; rw [HNB.out]; subst hw)
        go_ret
        exact ⟨ret_bool (by rw [← HN.out, names_hit hlt (by rw [HX.out]; exact HNB.out)]), rfl⟩
      · go_wp2_with (go_at_call 54; refine (own_IsName x _ hxs).mono ?_; rintro e w1 ⟨rfl, hw⟩; rw [HNB.out]; subst hw)
        go_round
        case rel => exact ⟨k + 1, by omega, by go_num, namesTo_succ hlt ha (by rw [HX.out]; exact HNB.out)⟩
        case measure => simp [intOf]; omega
    · have HF : Hid (N = decide (0 < ss.length)) := by rw [← HN.out]; exact names_end (by rw [show ss.length = k by omega]; exact ha)
      go_wp2
      go_ret
      exact ⟨ret_bool (by rw [HF.out]), rfl⟩

/-- A digit is read into a place once. -/
theorem own_readOnce (tb o : Nat) (c : Nat) (x : ByteArray) (w : World) (hx : x.size ≤ maxLen) (hc : w.cell? ⟨tb, o, none⟩ = some (.int .i64 c)) (hf : w.frozen? ⟨tb, o, none⟩ = false) (_hc9 : c ≤ 9) :
    Calls Tryd.prog 80 #[.pointer (some ⟨tb, o, none⟩), .string x] w fun e w' =>
      e = .returned (.bool (decide (digN x.data.toList ≠ 0 ∧ c = 0))) ∧ w' = if digN x.data.toList ≠ 0 ∧ c = 0 then w.setCell ⟨tb, o, none⟩ (.int .i64 (digN x.data.toList)) else w := by
  obtain ⟨d, hd⟩ : ∃ d, digN x.data.toList = d := ⟨_, rfl⟩
  rw [hd]
  have HD : Hid (digN x.data.toList = d) := hd
  clear hd
  by_cases h0 : d = 0
  · have e1 : decide (d ≠ 0) = false := by simp [h0]
    have e2 : ¬ (d ≠ 0 ∧ c = 0) := by simp [h0]
    rw [if_neg e2, decide_eq_false e2]
    clear h0 e2
    go_enter Tryd.func80, Tryd.ntmps80
    go_wp2_with (go_at_call 55; refine (own_readDigit x _ hx).mono ?_; rintro e w1 ⟨rfl, hw⟩; rw [HD.out, e1]; subst hw)
    go_ret
    exact ⟨rfl, rfl⟩
  · have e1 : decide (d ≠ 0) = true := by simp [h0]
    by_cases hc0 : c = 0
    · have e2 : d ≠ 0 ∧ c = 0 := ⟨h0, hc0⟩
      have e3 : ((c : Int) != 0) = false := by rw [hc0]; rfl
      rw [if_pos e2, decide_eq_true e2]
      clear h0 e2 hc0
      go_enter Tryd.func80, Tryd.ntmps80
      go_wp2_with (go_at_call 55; refine (own_readDigit x _ hx).mono ?_; rintro e w1 ⟨rfl, hw⟩; rw [HD.out, e1]; subst hw)
      go_ret
      exact ⟨rfl, rfl⟩
    · have e2 : ¬ (d ≠ 0 ∧ c = 0) := fun h => hc0 h.2
      have e3 : ((c : Int) != 0) = true := by rw [bne_iff_ne]; omega
      rw [if_neg e2, decide_eq_false e2]
      clear h0 e2 hc0
      go_enter Tryd.func80, Tryd.ntmps80
      go_wp2_with (go_at_call 55; refine (own_readDigit x _ hx).mono ?_; rintro e w1 ⟨rfl, hw⟩; rw [HD.out, e1]; subst hw)
      go_ret
      exact ⟨rfl, rfl⟩
end Go.Proofs.YtoabakgmjcnodaaDoor
