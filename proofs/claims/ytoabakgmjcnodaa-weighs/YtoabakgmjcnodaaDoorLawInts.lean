import Derived.Test.YtoabakgmjcnodaaDoorOwnK
namespace Go.Proofs.YtoabakgmjcnodaaDoor
open Go.ChangeShapes Go.WideShapes Go.ChangeAt Go.RowKit

set_option maxHeartbeats 1000000 in
/-- Two lists that are the same. -/
theorem law_sameInts (v v1 : Value) (l : List Nat) (w : World) (hv : Ints w v l) (hv1 : Ints w v1 l) (hn : l.length ≤ 4000) :
    Calls Tryd.prog 18 #[v, v1] w fun e w' => e = .returned (.bool true) ∧ Below w.heap.size w w' := by
  obtain ⟨a, c, rfl, _, _⟩ := id hv
  obtain ⟨a1, c1, rfl, _, _⟩ := id hv1
  have hll : ((l.length : Int) != l.length) = false := by simp
  go_enter Tryd.func18, Tryd.ntmps18
  go_wp2
  go_loopw [4, 5] (fun _ i wr => ∃ k : Nat, k ≤ l.length ∧ i = .int .i64 k ∧ Below w.heap.size w wr) (fun _ i _ => l.length - (intOf i).toNat)
  case atStart => exact ⟨0, Nat.zero_le _, rfl, Below.refl _ _⟩
  case round =>
    obtain ⟨k, hk, rfl, hbel⟩ := hrel
    by_cases hlt : k < l.length
    · obtain ⟨b, off, hx, hc⟩ := ints_at (hv.below hbel) hlt
      obtain ⟨b1, off1, hx1, hc1⟩ := ints_at (hv1.below hbel) hlt
      subst hx hx1
      obtain ⟨x, hx⟩ : ∃ x, l[k] = x := ⟨_, rfl⟩
      rw [hx] at hc hc1
      clear hx
      have hxx : ((x : Int) != x) = false := by simp
      go_wp2_with fail
      go_region
      all_goals
        go_wp2
        go_roundw
        case rel => exact ⟨k + 1, by omega, by go_num, hbel.drew⟩
        case measure => simp [intOf]; omega
    · go_wp2
      go_ret
      exact ⟨ret_bool rfl, hbel⟩
end Go.Proofs.YtoabakgmjcnodaaDoor
