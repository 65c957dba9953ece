import Derived.Test.YtoabakgmjcnodaaLkO
import Derived.Test.YtoabakgmjcnodaaLgF
namespace Go.Proofs.Ytoabakgmjcnodaa
open Go.ChangeShapes Go.WideShapes Go.ChangeAt Go.RowKit

set_option maxHeartbeats 1000000 in
theorem mill_Recover (s : ByteArray) (w : World) (hs : s.size ≤ 140737488351232) :
    Calls Try.prog 11 #[.string s] w fun e w' => ∃ v, e = .returned (.tuple #[v, .int .i64 ((recsL s.data.toList (s.size + 1)).2 : Nat)]) ∧ Rs w' v (recsL s.data.toList (s.size + 1)).1 ∧ Below w.heap.size w w' := by
  have H : Hid (Calls Try.prog 17 #[.string s] w fun e w' => ∃ v cs, e = .returned (.tuple #[v, .int .i64 ((recsL s.data.toList (s.size + 1)).2 : Nat)]) ∧ RsAt w' w.heap.size v cs (recsL s.data.toList (s.size + 1)).1 ∧ Below w.heap.size w w') := own_Read s w hs
  generalize (recsL s.data.toList (s.size + 1)).2 = np at *
  generalize (recsL s.data.toList (s.size + 1)).1 = l at *
  go_enter Try.func11, Try.ntmps11
  go_wp2_with fail
  refine H.out.mono ?_
  rintro e w1 ⟨v, cs, rfl, hR, hb⟩
  have hRs := hR.rs
  clear hR H
  obtain ⟨a, c, rfl, -⟩ := id hRs
  have HR : Hid (Rs w1 (.slice a l.length c) l) := hRs
  clear hRs
  go_wp2
  go_ret2
  exact ⟨_, rfl, HR.out, hb⟩
set_option maxHeartbeats 1000000 in
theorem mill_Compact (s : ByteArray) (w : World) (hs : s.size ≤ 140737488351232) :
    Calls Try.prog 8 #[.string s] w fun e w' => e = .returned (.string (bsL (compL (recsL s.data.toList (s.size + 1)).1 ((recsL s.data.toList (s.size + 1)).1.length + 1) none))) ∧ Below w.heap.size w w' := by
  have H : Hid (Calls Try.prog 14 #[.string s] w fun e w' => e = .returned (.string (bsL (compL (recsL s.data.toList (s.size + 1)).1 ((recsL s.data.toList (s.size + 1)).1.length + 1) none))) ∧ Below w.heap.size w w') := own_Compact s w hs
  generalize bsL (compL (recsL s.data.toList (s.size + 1)).1 ((recsL s.data.toList (s.size + 1)).1.length + 1) none) = B at *
  go_enter Try.func8, Try.ntmps8
  go_wp2_with fail
  refine H.out.mono ?_
  rintro e w1 ⟨rfl, hb⟩
  go_wp2
  go_ret
  exact ⟨rfl, hb⟩
set_option maxHeartbeats 1000000 in
theorem law_recovers (s : ByteArray) (w : World) (hs : s.size ≤ 140737488351232) :
    Calls Try.prog 7 #[.string s] w fun e w' => ∃ a n c, e = .returned (.tuple #[.slice a n c, .bool true]) ∧ Below w.heap.size w w' := by
  have H1 : Hid (∀ w, Calls Try.prog 11 #[.string s] w fun e w' => ∃ v, e = .returned (.tuple #[v, .int .i64 ((recsL s.data.toList (s.size + 1)).2 : Nat)]) ∧ Rs w' v (recsL s.data.toList (s.size + 1)).1 ∧ Below w.heap.size w w') := fun w => mill_Recover s w (by omega)
  have H2 : Hid (∀ w, Calls Try.prog 12 #[.string s] w fun e w' => ∃ v cs, e = .returned (.tuple #[v, .int .i64 ((recsL s.data.toList (s.size + 1)).2 : Nat)]) ∧ RsAt w' w.heap.size v cs (recsL s.data.toList (s.size + 1)).1 ∧ Below w.heap.size w w') := fun w => ref_Recover s w (by omega)
  obtain ⟨hl2, hlen⟩ := recs_all (s.size + 1) s.data.toList
  generalize (recsL s.data.toList (s.size + 1)).2 = np at *
  generalize (recsL s.data.toList (s.size + 1)).1 = l at *
  have hln : l.length ≤ 3703618114507 := by simp at hlen; omega
  have HL2 : Hid (∀ r ∈ l, r.outs.length ≤ 255) := fun r hr => by have := (hl2 r hr).1; omega
  have hnn : ((np : Int) == np) = true := by simp
  clear hl2 hlen
  go_enter Try.func7, Try.ntmps7
  go_wp2_with fail
  refine (H1.out _).mono ?_
  rintro e w1 ⟨v, rfl, hR1, hb1⟩
  obtain ⟨a, c, rfl, -⟩ := id hR1
  have HR1 : Hid (Rs w1 (.slice a l.length c) l) := hR1
  clear hR1
  have hb1s := hb1.size
  go_wp2_with fail
  refine (H2.out _).mono ?_
  rintro e w2 ⟨v2, cs2, rfl, hR2, hb2⟩
  have hR3 := hR2.rs
  obtain ⟨a2, c2, rfl, -⟩ := id hR3
  have HR3 : Hid (Rs w2 (.slice a2 l.length c2) l) := hR3
  have HR2 : Hid (Rs w2 (.slice a l.length c) l) := HR1.out.below hb2
  clear hR2 hR3
  have hb12 := hb1.trans (hb2.mono hb1s)
  have HSR : Hid (Calls Try.prog 13 #[.slice a l.length c, .slice a2 l.length c2] w2 fun e w' => e = .returned (.bool true) ∧ Below w2.heap.size w2 w') := law_sameRecords _ _ l w2 HR2.out HR3.out (by omega) HL2.out
  go_wp2_with fail
  refine HSR.out.mono ?_
  rintro e w3 ⟨rfl, hb3⟩
  have hbb := hb12.trans (hb3.mono hb12.size)
  go_wp2
  go_ret2
  exact ⟨_, _, _, rfl, hbb⟩
/-- What the document's Compact answers, as a premise. -/
def RefCompact : Prop := ∀ (s : ByteArray) (w : World), s.size ≤ 140737488351232 → Calls Try.prog 9 #[.string s] w fun e w' => e = .returned (.string (bsL (compL (recsL s.data.toList (s.size + 1)).1 ((recsL s.data.toList (s.size + 1)).1.length + 1) none))) ∧ Below w.heap.size w w'
set_option maxHeartbeats 1000000 in
theorem law_Logs (hRC : RefCompact) (s : ByteArray) (w : World) (hs : s.size ≤ 140737488351232) :
    Calls Try.prog 4 #[.string s] w fun e w' => e = .returned (.bool true) ∧ Below w.heap.size w w' := by
  have H1 : Hid (∀ w, Calls Try.prog 7 #[.string s] w fun e w' => ∃ a n c, e = .returned (.tuple #[.slice a n c, .bool true]) ∧ Below w.heap.size w w') := fun w => law_recovers s w (by omega)
  have H2 : Hid (∀ w, Calls Try.prog 8 #[.string s] w fun e w' => e = .returned (.string (bsL (compL (recsL s.data.toList (s.size + 1)).1 ((recsL s.data.toList (s.size + 1)).1.length + 1) none))) ∧ Below w.heap.size w w') := fun w => mill_Compact s w (by omega)
  have H3 : Hid (∀ w, Calls Try.prog 9 #[.string s] w fun e w' => e = .returned (.string (bsL (compL (recsL s.data.toList (s.size + 1)).1 ((recsL s.data.toList (s.size + 1)).1.length + 1) none))) ∧ Below w.heap.size w w') := fun w => hRC s w (by omega)
  have hBs : (bsL (compL (recsL s.data.toList (s.size + 1)).1 ((recsL s.data.toList (s.size + 1)).1.length + 1) none)).size ≤ 140737488351232 := by
    have := comp_tight (s.size + 1) s.data.toList ((recsL s.data.toList (s.size + 1)).1.length + 1) none
    rw [bsL_size]
    simp at this
    omega
  generalize bsL (compL (recsL s.data.toList (s.size + 1)).1 ((recsL s.data.toList (s.size + 1)).1.length + 1) none) = B at *
  have H4 : Hid (∀ w, Calls Try.prog 7 #[.string B] w fun e w' => ∃ a n c, e = .returned (.tuple #[.slice a n c, .bool true]) ∧ Below w.heap.size w w') := fun w => law_recovers B w hBs
  have hBB : (B.toList == B.toList) = true := by simp
  clear hRC
  go_enter Try.func4, Try.ntmps4
  go_wp2_with fail
  refine (H1.out _).mono ?_
  rintro e w1 ⟨a1, n1, c1, rfl, hb1⟩
  go_wp2_with fail
  refine (H2.out _).mono ?_
  rintro e w2 ⟨rfl, hb2⟩
  have hb12 := hb1.trans (hb2.mono hb1.size)
  go_wp2_with fail
  refine (H3.out _).mono ?_
  rintro e w3 ⟨rfl, hb3⟩
  have hb13 := hb12.trans (hb3.mono hb12.size)
  go_wp2_with fail
  refine (H4.out _).mono ?_
  rintro e w4 ⟨a4, n4, c4, rfl, hb4⟩
  have hb14 := hb13.trans (hb4.mono hb13.size)
  go_wp2
  go_ret
  exact ⟨rfl, hb14⟩
end Go.Proofs.Ytoabakgmjcnodaa
