import Derived.Test.YtoabakgmjcnodaaDoorOwnL
namespace Go.Proofs.YtoabakgmjcnodaaDoor
open Go.ChangeShapes Go.WideShapes Go.ChangeAt Go.RowKit

set_option maxHeartbeats 1000000 in
theorem own_hasRing (ab : Nat) (ls : List (List Nat)) (w : World) (hw : Wts w ab ls) (hn : ls.length ≤ 24) (hll : ∀ l ∈ ls, l.length ≤ 4000 ∧ ∀ x ∈ l, x < ls.length) :
    Calls Tryd.prog 28 #[.slice (some ⟨ab, 0, none⟩) ls.length ls.length] w fun e w' => e = .returned (.bool (decide ((ordIter ls ls.length (ls.length + 1)).length < ls.length))) ∧ Below w.heap.size w w' := by
  have HIO : Hid (Calls Tryd.prog 34 #[.slice (some ⟨ab, 0, none⟩) ls.length ls.length] w fun e w' => ∃ v, e = .returned v ∧ w'.ownsRow w.heap.size 3 1 v (ordIter ls ls.length (ls.length + 1)).length ((ordIter ls ls.length (ls.length + 1)).map fun (n : Nat) => Value.int .i64 (n : Int)) ∧ Below w.heap.size w w') := own_inOrder ab ls w hw hn hll
  obtain ⟨X, hX⟩ : ∃ X, decide ((ordIter ls ls.length (ls.length + 1)).length < ls.length) = X := ⟨_, rfl⟩
  rw [hX]
  have HX : Hid (decide ((ordIter ls ls.length (ls.length + 1)).length < ls.length) = X) := hX
  generalize ordIter ls ls.length (ls.length + 1) = o at *
  clear hX hw hll
  go_enter Tryd.func28, Tryd.ntmps28
  go_wp2_with fail
  refine HIO.out.mono ?_
  rintro e w1 ⟨v, rfl, hown, hbel⟩
  obtain ⟨a, c, rfl⟩ := owns_shape hown
  go_wp2
  go_ret
  exact ⟨ret_bool HX.out, hbel⟩
end Go.Proofs.YtoabakgmjcnodaaDoor
