import Derived.Test.YtoabakgmjcnodaaLkA
import Derived.Test.YtoabakgmjcnodaaLgD0
import Derived.Deep.RegionWith
import Derived.Deep.DeepCutAuto
namespace Go.Proofs.Ytoabakgmjcnodaa
open Go.ChangeShapes Go.WideShapes Go.ChangeAt Go.RowKit

theorem str_from (s : ByteArray) (i : Nat) (hi : i ≤ s.size) (_hs : s.size ≤ 140737488351232) (w : World) : Sem.run Try.prog (Instr.slice 9 (.string s) (some (.int .i64 (i : Int))) none none) w = .ok (.string (s.extract i s.size)) w := by
  have h1 : (i : Int) ≤ (s.size : Int) := by omega
  go_simp
theorem str_to (s : ByteArray) (i : Nat) (hi : i ≤ s.size) (_hs : s.size ≤ 140737488351232) (w : World) : Sem.run Try.prog (Instr.slice 9 (.string s) none (some (.int .i64 (i : Int))) none) w = .ok (.string (s.extract 0 i)) w := by
  have h1 : (i : Int) ≤ (s.size : Int) := by omega
  go_simp
theorem ext_list (s : ByteArray) (a b : Nat) : (s.extract a b).data.toList = (s.data.toList.drop a).take (b - a) := by
  rw [ByteArray.data_extract, Array.toList_extract, List.extract_eq_take_drop]

set_option maxRecDepth 10000 in
set_option maxHeartbeats 2000000 in
theorem own_digestAt (s : ByteArray) (k : Nat) (w : World) (hs : s.size ≤ 140737488351232) (hk : 18 + 16 * k ≤ s.size) :
    Calls Try.prog 40 #[.string s, .int .i64 k] w fun e w' => e = .returned (.agg #[.int .u64 (numL ((s.data.toList.drop (2 + 16 * k)).take 8) : Nat), .int .u64 (numL ((s.data.toList.drop (10 + 16 * k)).take 8) : Nat)]) ∧ Below w.heap.size w w' := by
  have c1 : ∀ w, Calls Try.prog 39 #[.string (s.extract (2 + 16 * k) (10 + 16 * k))] w fun e w' => e = .returned (.int .u64 (numL ((s.data.toList.drop (2 + 16 * k)).take 8) : Nat)) ∧ w' = w := by
    intro w
    have h := own_readNumber (s.extract (2 + 16 * k) (10 + 16 * k)) w (by rw [ByteArray.size_extract]; omega)
    rw [ext_list, show 10 + 16 * k - (2 + 16 * k) = 8 by omega] at h
    exact h
  have c2 : ∀ w, Calls Try.prog 39 #[.string (s.extract (10 + 16 * k) (18 + 16 * k))] w fun e w' => e = .returned (.int .u64 (numL ((s.data.toList.drop (10 + 16 * k)).take 8) : Nat)) ∧ w' = w := by
    intro w
    have h := own_readNumber (s.extract (10 + 16 * k) (18 + 16 * k)) w (by rw [ByteArray.size_extract]; omega)
    rw [ext_list, show 18 + 16 * k - (10 + 16 * k) = 8 by omega] at h
    exact h
  have HC1 : Hid (∀ w, Calls Try.prog 39 #[.string (s.extract (2 + 16 * k) (10 + 16 * k))] w fun e w' => e = .returned (.int .u64 (numL ((s.data.toList.drop (2 + 16 * k)).take 8) : Nat)) ∧ w' = w) := c1
  have HC2 : Hid (∀ w, Calls Try.prog 39 #[.string (s.extract (10 + 16 * k) (18 + 16 * k))] w fun e w' => e = .returned (.int .u64 (numL ((s.data.toList.drop (10 + 16 * k)).take 8) : Nat)) ∧ w' = w) := c2
  clear c1 c2
  have s1 : ∀ w, Sem.run Try.prog (Instr.slice 9 (.string s) (some (.int .i64 (2 + 16 * (k : Int)))) (some (.int .i64 (2 + 16 * (k : Int) + 8))) none) w = .ok (.string (s.extract (2 + 16 * k) (10 + 16 * k))) w := by
    intro w
    have h := str_slice s (2 + 16 * k) (10 + 16 * k) (by omega) (by omega) hs w
    have e1 : ((2 + 16 * k : Nat) : Int) = 2 + 16 * (k : Int) := by omega
    have e2 : ((10 + 16 * k : Nat) : Int) = 2 + 16 * (k : Int) + 8 := by omega
    rw [e1, e2] at h
    exact h
  have s2 : ∀ w, Sem.run Try.prog (Instr.slice 9 (.string s) (some (.int .i64 (2 + 16 * (k : Int) + 8))) (some (.int .i64 (2 + 16 * (k : Int) + 16))) none) w = .ok (.string (s.extract (10 + 16 * k) (18 + 16 * k))) w := by
    intro w
    have h := str_slice s (10 + 16 * k) (18 + 16 * k) (by omega) (by omega) hs w
    have e1 : ((10 + 16 * k : Nat) : Int) = 2 + 16 * (k : Int) + 8 := by omega
    have e2 : ((18 + 16 * k : Nat) : Int) = 2 + 16 * (k : Int) + 16 := by omega
    rw [e1, e2] at h
    exact h
  generalize numL ((s.data.toList.drop (2 + 16 * k)).take 8) = x0 at *
  generalize numL ((s.data.toList.drop (10 + 16 * k)).take 8) = x1 at *
  generalize s.extract (2 + 16 * k) (10 + 16 * k) = S1 at *
  generalize s.extract (10 + 16 * k) (18 + 16 * k) = S2 at *
  go_enter Try.func40, Try.ntmps40
  go_upto_region 3 with fail
  go_region_with (first
    | (go_at_call_of 39 (Value.string S1); refine (HC1.out _).mono ?_; rintro e wA ⟨rfl, rfl⟩)
    | (go_at_call_of 39 (Value.string S2); refine (HC2.out _).mono ?_; rintro e wB ⟨rfl, rfl⟩))
  all_goals (try go_wp2_with fail)
  all_goals exact bodyPost_ret (v := .agg #[.int .u64 (x0 : Nat), .int .u64 (x1 : Nat)]) (by simp [results, Try.results40, go_sem]) rfl ⟨rfl, ((Below.refl _ _).alloc (Nat.le_refl _) _).drew⟩
end Go.Proofs.Ytoabakgmjcnodaa
