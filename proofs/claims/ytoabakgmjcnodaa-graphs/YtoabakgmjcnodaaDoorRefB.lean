import Derived.Test.YtoabakgmjcnodaaDoorRefA
import Derived.LoopTactic
namespace Go.Proofs.YtoabakgmjcnodaaDoor
open Go.ChangeShapes Go.WideShapes Go.ChangeAt Go.RowKit

/-- The value is a slice of these strings. -/
def Strs (w : World) (v : Value) (ss : List ByteArray) : Prop :=
  ∃ a c, v = .slice a ss.length c ∧ ss.length ≤ c ∧ (ss = [] ∨ ∃ b off, a = some ⟨b, off, none⟩ ∧ ∀ i (h : i < ss.length), w.cell? ⟨b, off + i, none⟩ = some (.string ss[i]))

/-- Where the word stands; -1: nowhere. -/
def placeI (ss : List ByteArray) (s : ByteArray) : Int := match ss.findIdx? (fun x => x.toList == s.toList) with
  | some i => i
  | none => -1

/-- It is none of the first k. -/
def notIn (ss : List ByteArray) (s : ByteArray) (k : Nat) : Prop := ∀ i x, i < k → ss[i]? = some x → (x.toList == s.toList) = false

theorem notIn_succ {ss : List ByteArray} {s : ByteArray} {k : Nat} (hk : k < ss.length) (h : notIn ss s k) (h' : (ss[k].toList == s.toList) = false) : notIn ss s (k + 1) := by
  intro i x hi hx
  by_cases e : i = k
  · subst e; rw [List.getElem?_eq_getElem hk] at hx; injection hx with hx; rw [← hx]; exact h'
  · exact h i x (by omega) hx
theorem place_hit {ss : List ByteArray} {s : ByteArray} {k : Nat} (hk : k < ss.length) (h : notIn ss s k) (h' : (ss[k].toList == s.toList) = true) : placeI ss s = k := by
  unfold placeI
  have : ss.findIdx? (fun x => x.toList == s.toList) = some k := by
    rw [List.findIdx?_eq_some_iff_getElem]
    refine ⟨hk, h', fun j hj => ?_⟩
    have := h j _ hj (List.getElem?_eq_getElem (show j < ss.length by omega))
    simpa using this
  rw [this]
theorem place_miss {ss : List ByteArray} {s : ByteArray} (h : notIn ss s ss.length) : placeI ss s = -1 := by
  unfold placeI
  have : ss.findIdx? (fun x => x.toList == s.toList) = none := by
    rw [List.findIdx?_eq_none_iff]
    intro x hx
    obtain ⟨i, hi, rfl⟩ := List.mem_iff_getElem.1 hx
    exact h i _ hi (List.getElem?_eq_getElem hi)
  rw [this]

set_option maxHeartbeats 400000 in
theorem ref_place (v : Value) (ss : List ByteArray) (s : ByteArray) (w : World) (hv : Strs w v ss) (hn : ss.length ≤ maxLen) :
    Calls Tryd.prog 46 #[v, .string s] w fun e w' => e = .returned (.int .i64 (placeI ss s)) ∧ w' = w := by
  obtain ⟨a, c, rfl, _, hv⟩ := hv
  unfold maxLen at hn
  generalize hP : placeI ss s = P
  have HP : Hid (placeI ss s = P) := hP
  clear hP
  rcases hv with rfl | ⟨b, off, rfl, hcell⟩
  · have hz : Hid (placeI [] s = -1) := place_miss (fun i x hi => by simp at hi)
    go_enter Tryd.func46, Tryd.ntmps46
    go_wp2
    refine wp_loop_rounds 1 ?_
    rw [rounds_succ]
    go_wp2
    go_ret
    exact ⟨ret_int (by rw [← HP.out, hz.out]), rfl⟩
  · go_enter Tryd.func46, Tryd.ntmps46
    go_wp2
    go_loop [4, 5] (fun _ i => ∃ k : Nat, k ≤ ss.length ∧ i = .int .i64 k ∧ notIn ss s k) (fun _ i => ss.length - (intOf i).toNat)
    case atStart => exact ⟨0, Nat.zero_le _, rfl, fun i x hi => by omega⟩
    case round =>
      obtain ⟨k, hk, rfl, hno⟩ := hrel
      by_cases hlt : k < ss.length
      · have hc := hcell k hlt
        go_wp2
        · rename_i h _
          go_ret
          exact ⟨ret_int (by rw [← HP.out, place_hit hlt hno h]), rfl⟩
        · rename_i h
          go_round
          case rel => exact ⟨k + 1, by omega, by go_num, notIn_succ hlt hno h⟩
          case measure => simp [intOf]; omega
      · go_wp2
        go_ret
        exact ⟨ret_int (by rw [← HP.out, place_miss (by rw [show ss.length = k by omega]; exact hno)]), rfl⟩
end Go.Proofs.YtoabakgmjcnodaaDoor
