import Derived.Test.YtoabakgmjcnodaaRows
import Derived.Test.YtoabakgmjcnodaaDigPlain
import Derived.WalkKit
import Derived.WalkLawsBesides
import Derived.ProofKit
import Derived.OpenShut
import Derived.ChangeKeysEq
namespace Go.Proofs.Ytoabakgmjcnodaa
open Go.ChangeShapes Go.WideShapes Go.ChangeAt Go.RowKit

/-- A digest as a value. -/
def digV (l : List UInt8) : Value := .agg #[.int .u64 (dig l).1, .int .u64 (dig l).2]

set_option maxHeartbeats 400000 in
theorem ref_sum (s : ByteArray) (w : World) (hs : s.size ≤ maxLen) :
    Calls Try.prog 6 #[.string s] w fun e w' => e = .returned (digV s.data.toList) ∧ Below w.heap.size w w' := by
  unfold maxLen at hs
  go_enter Try.func6, Try.ntmps6
  go_wp2
  go_loop [3, 4, 5] (fun a b i => ∃ k : Nat, k ≤ s.size ∧ i = .int .i64 k ∧ a = .int .u64 (dig (s.data.toList.take k)).1 ∧ b = .int .u64 (dig (s.data.toList.take k)).2) (fun _ _ i => s.size - (intOf i).toNat)
  case atStart => exact ⟨0, Nat.zero_le _, rfl, by rw [List.take_zero, dig_nil], by rw [List.take_zero, dig_nil]⟩
  case round =>
    obtain ⟨k, hk, rfl, rfl, rfl⟩ := hrel
    by_cases hlt : k < s.size
    · go_wp2
      go_round
      case rel =>
        have hd := digStep_ref (dig (s.data.toList.take k)) s[k]
        exact ⟨k + 1, by omega, by go_num, int_eq (by rw [dig_take s k hlt]; exact hd.1.symm), int_eq (by rw [dig_take s k hlt]; exact hd.2.symm)⟩
      case measure => simp [intOf]; omega
    · have hk' : k = s.size := by omega
      have e : s.data.toList.take k = s.data.toList := List.take_of_length_le (by simp; omega)
      rw [e]
      clear e hk'
      go_wp2
      exact bodyPost_ret (v := digV s.data.toList) (by simp [results, Try.results6, digV, go_sem]) rfl ⟨rfl, (Below.refl _ _).alloc (Nat.le_refl _) _⟩

set_option maxHeartbeats 400000 in
theorem digest_sum (s : ByteArray) (w : World) (hs : s.size ≤ maxLen) :
    Calls Try.prog 10 #[.string s] w fun e w' => e = .returned (digV s.data.toList) ∧ Below w.heap.size w w' := by
  unfold maxLen at hs
  go_enter Try.func10, Try.ntmps10
  go_wp2
  go_loop [3, 4, 9] (fun a b i => ∃ k : Nat, k ≤ s.size ∧ i = .int .i64 k ∧ a = .int .u64 (dig (s.data.toList.take k)).1 ∧ b = .int .u64 (dig (s.data.toList.take k)).2) (fun _ _ i => s.size - (intOf i).toNat)
  case atStart => exact ⟨0, Nat.zero_le _, rfl, by rw [List.take_zero, dig_nil], by rw [List.take_zero, dig_nil]⟩
  case round =>
    obtain ⟨k, hk, rfl, rfl, rfl⟩ := hrel
    by_cases hlt : k < s.size
    · go_wp2
      go_round
      case rel =>
        have hd := digStep_own (dig (s.data.toList.take k)) s[k]
        exact ⟨k + 1, by omega, by go_num, int_eq (by rw [dig_take s k hlt]; exact hd.1.symm), int_eq (by rw [dig_take s k hlt]; exact hd.2.symm)⟩
      case measure => simp [intOf]; omega
    · have hk' : k = s.size := by omega
      have e : s.data.toList.take k = s.data.toList := List.take_of_length_le (by simp; omega)
      rw [e]
      clear e hk'
      go_wp2
      exact bodyPost_ret (v := digV s.data.toList) (by simp [results, Try.results10, digV, go_sem]) rfl ⟨rfl, (Below.refl _ _).alloc (Nat.le_refl _) _⟩

theorem bcell {W w1 : World} (hb : Below W.heap.size W w1) : (∀ b o, b < W.heap.size → w1.cell? ⟨b, o, none⟩ = W.cell? ⟨b, o, none⟩) ∧ (∀ b o, b < W.heap.size → w1.frozen? ⟨b, o, none⟩ = W.frozen? ⟨b, o, none⟩) :=
  ⟨fun b o h => hb.cell (p := ⟨b, o, none⟩) h, fun b o h => hb.frozen (p := ⟨b, o, none⟩) h⟩

set_option maxHeartbeats 400000 in
theorem mill_sum (s : ByteArray) (w : World) (hs : s.size ≤ maxLen) :
    Calls Try.prog 5 #[.string s] w fun e w' => e = .returned (digV s.data.toList) ∧ Below w.heap.size w w' := by
  go_enter Try.func5, Try.ntmps5
  go_wp2_with fail
  refine (digest_sum _ _ hs).mono ?_
  rintro e w1 ⟨rfl, hb⟩
  obtain ⟨hc, hf⟩ := bcell hb
  have hz : w.heap.size < w1.heap.size := by have := hb.size; simp at this; omega
  unfold digV
  go_wp2
  exact bodyPost_ret (v := digV s.data.toList) (by simp [results, Try.results5, digV, go_sem, hc]) rfl
    ⟨rfl, ((((Below.refl _ _).alloc (Nat.le_refl _) _).trans (hb.mono (by simp))).setCell (by simp) _).setCell (by simp) _⟩

theorem plain22 : Try.prog.plainKey 22 = true := by kernel_rfl
theorem cells22 : Try.prog.cellsOf 22 = 1 := by kernel_rfl
theorem guard24 : Try.prog.eqGuardType Try.prog.depth 24 = false := by kernel_rfl

/-- Two digests, held against each other. -/
theorem run_eq_dig (w : World) (a b a' b' : Int) :
    (Op.equalIn 10000 24 (.agg #[.int .u64 a, .int .u64 b]) (.agg #[.int .u64 a', .int .u64 b'])).run Try.prog w = .ok (a == a' && b == b') w := by
  obtain ⟨i, hi⟩ := info_of_underlying Try.underlying22
  rw [run_equalIn_array w 9999 _ _ Try.underlying24 hi, cells22]
  simp only [List.range, List.range.loop, Op.eqItems]
  have p0 := fun (x y : Int) => run_part_plain (P := Try.prog) w plain22 (xs := #[.int .u64 x, .int .u64 y]) (off := 0 * 1) rfl
  have p1 := fun (x y : Int) => run_part_plain (P := Try.prog) w plain22 (xs := #[.int .u64 x, .int .u64 y]) (off := 1 * 1) rfl
  have e0 : ∀ x y : Int, (Op.equalIn 9999 22 (.int .u64 x) (.int .u64 y)).run Try.prog w = .ok (x == y) w := fun x y => run_equalIn_int w 9998 22 .u64 .u64 x y Try.underlying22
  simp only [Sem.run_bind, p0, Result.andThen_ok]
  by_cases h : a = a'
  · by_cases h' : b = b'
    · simp [h, h', p1, e0]
    · simp [h, h', p1, e0]
  · simp [h, e0]

set_option maxHeartbeats 400000 in
theorem law_sums (s : ByteArray) (w : World) (hs : s.size ≤ maxLen) :
    Calls Try.prog 3 #[.string s] w fun e w' => e = .returned (.bool true) ∧ Below w.heap.size w w' := by
  go_enter Try.func3, Try.ntmps3
  go_wp2_with fail
  refine (mill_sum _ _ hs).mono ?_
  rintro e w1 ⟨rfl, hb⟩
  obtain ⟨hc, hf⟩ := bcell hb
  unfold digV
  go_wp2_with fail
  refine (ref_sum _ _ hs).mono ?_
  rintro e w2 ⟨rfl, hb2⟩
  obtain ⟨hc2, hf2⟩ := bcell hb2
  have hz2 : w1.heap.size < w2.heap.size := by have := hb2.size; simp at this; omega
  unfold digV
  have he := run_eq_dig
  have hg := guard24
  go_wp2
  go_ret
  exact ⟨by simp, (hb.trans ((((Below.refl _ _).alloc (Nat.le_refl _) _).trans (hb2.mono (by simp))).mono hb.size)).alloc (by have := hb.size; omega) _⟩
end Go.Proofs.Ytoabakgmjcnodaa
