import Derived.Test.YtoabakgmjcnodaaDoorOwnP
import Derived.Test.YtoabakgmjcnodaaDoorPureC
namespace Go.Proofs.YtoabakgmjcnodaaDoor
open Go.ChangeShapes Go.WideShapes Go.ChangeAt Go.RowKit

set_option maxHeartbeats 1000000 in
theorem law_Checks (s : ByteArray) (w : World) (hV : Vars w) (hs : s.size ≤ maxLen) :
    Calls Tryd.prog 3 #[.string s] w fun e w' => e = .returned (.bool true) ∧ Below w.heap.size w w' := by
  have HO : Hid (Calls Tryd.prog 6 #[.string s] w fun e w' => e = .returned (.tuple #[.int .i64 (refRead s).2.1, .int .i64 (refRead s).2.2]) ∧ Below w.heap.size w w') := by
    have h := own_Check s w hV hs
    rwa [(read_same s).1] at h
  have HR : Hid (∀ w, Calls Tryd.prog 7 #[.string s] w fun e w' => e = .returned (.tuple #[.int .i64 (refRead s).2.1, .int .i64 (refRead s).2.2]) ∧ Below w.heap.size w w') := fun w => ref_Check s w hs
  obtain ⟨n, hn⟩ : ∃ n, (refRead s).2.1 = n := ⟨_, rfl⟩
  obtain ⟨er, her⟩ : ∃ er, (refRead s).2.2 = er := ⟨_, rfl⟩
  rw [hn, her] at HO HR
  clear hn her

  have h1 : ((n : Int) == n) = true := by simp
  have h2 : ((er : Int) == er) = true := by simp
  go_enter Tryd.func3, Tryd.ntmps3
  go_wp2_with fail
  refine HO.out.mono ?_
  rintro e w1 ⟨rfl, hb1⟩
  go_wp2_with fail
  refine (HR.out w1).mono ?_
  rintro e w2 ⟨rfl, hb2⟩
  go_wp2_with fail
  refine (law_num er _).mono ?_
  rintro e w3 ⟨rfl, hw⟩
  subst hw
  go_wp2
  go_ret
  exact ⟨ret_bool rfl, hb1.trans (hb2.mono hb1.size)⟩
end Go.Proofs.YtoabakgmjcnodaaDoor
