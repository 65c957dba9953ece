import Derived.Test.YtoabakgmjcnodaaLgJ
namespace Go.Proofs.Ytoabakgmjcnodaa
open Go.ChangeShapes Go.WideShapes Go.ChangeAt Go.RowKit

theorem or_byte (a c : Nat) (ha : a < 72057594037927936) (hc : c < 256) : bits BinOp.or IntKind.u64 ((a : Int) * 256) (c : Int) = ((256 * a + c : Nat) : Int) := by
  rw [show (a : Int) * 256 = ((256 * a : Nat) : Int) by omega]
  have e1 : (BitVec.ofInt 64 ((256 * a : Nat) : Int)).toNat = 256 * a := by
    rw [BitVec.toNat_ofInt]; omega
  have e2 : (BitVec.ofInt 64 (c : Int)).toNat = c := by
    rw [BitVec.toNat_ofInt]; omega
  have e3 : 256 * a ||| c = 256 * a + c := by
    have := Nat.shiftLeft_add_eq_or_of_lt (a := a) (b := c) (i := 8) (by omega)
    rw [Nat.shiftLeft_eq] at this
    rw [show 256 * a = a * 2 ^ 8 by omega]
    exact this.symm
  show IntKind.u64.wrap ((BitVec.ofInt 64 ((256 * a : Nat) : Int) ||| BitVec.ofInt 64 (c : Int)).toNat : Int) = _
  rw [BitVec.toNat_or, e1, e2, e3, IntKind.wrap_u64]
  omega

set_option maxHeartbeats 1000000 in
theorem own_readNumber (s : ByteArray) (w : World) (hs : s.size ≤ 8) :
    Calls Try.prog 39 #[.string s] w fun e w' => e = .returned (.int .u64 (numL s.data.toList : Nat)) ∧ w' = w := by
  go_enter Try.func39, Try.ntmps39
  go_wp2
  go_loop [3, 7] (fun v k => ∃ j : Nat, j ≤ s.size ∧ k = .int .i64 (j : Int) ∧ v = .int .u64 (numL (s.data.toList.take j) : Nat)) (fun _ k => s.size - (intOf k).toNat)
  case atStart => exact ⟨0, Nat.zero_le _, rfl, rfl⟩
  case round =>
    obtain ⟨j, hj, rfl, rfl⟩ := hrel
    by_cases hlt : j < s.size
    · have HNX : Hid (numL (s.data.toList.take (j + 1)) = 256 * numL (s.data.toList.take j) + s[j].toNat) := by
        rw [Hid, take_snoc s j hlt, numL_snoc]
      have hb := numL_lt (s.data.toList.take j)
      have hlen : (s.data.toList.take j).length = j := by rw [List.length_take]; simp; omega
      rw [hlen] at hb
      have hpow : 256 ^ j ≤ 256 ^ 7 := Nat.pow_le_pow_right (by omega) (by omega)
      have hb2 : numL (s.data.toList.take j) < 72057594037927936 := Nat.lt_of_lt_of_le hb hpow
      clear hb hpow hlen
      generalize numL (s.data.toList.take j) = v at *
      have hc := s[j].toNat_lt
      have HOR : Hid (bits BinOp.or IntKind.u64 ((v : Int) * 256) (s[j].toNat : Int) = ((256 * v + s[j].toNat : Nat) : Int)) := or_byte v s[j].toNat hb2 (by omega)
      go_wp2
      go_round
      case rel => exact ⟨j + 1, by omega, by go_num, by rw [HNX.out]; exact int_eq HOR.out⟩
      case measure => simp [intOf]; omega
    · have HJ : Hid (s.data.toList.take j = s.data.toList) := List.take_of_length_le (by simp; omega)
      go_wp2
      go_ret
      exact ⟨by rw [HJ.out]; rfl, rfl⟩

theorem run_index0 (a b : Int) (w : World) : Sem.run Try.prog (Instr.index 24 (.agg #[.int .u64 a, .int .u64 b]) (.int .i64 0)) w = .ok (.int .u64 a) w := by
  have hz : ∀ w, (Go.sizeOf 22).run Try.prog w = .ok 1 w := fun w => by go_simp
  simp [Instr.index, run_underlying Try.underlying24, asIntOf, hz, go_sem]
set_option maxRecDepth 10000 in
set_option maxHeartbeats 1000000 in
theorem own_seal (s : ByteArray) (w : World) (hs : s.size ≤ maxLen) :
    Calls Try.prog 37 #[.string s] w fun e w' => e = .returned (.int .u32 (sealL s.data.toList : Nat)) ∧ Below w.heap.size w w' := by
  obtain ⟨g0, g1, hd, hg0, hg1⟩ := dig_nat s.data.toList
  have HS : Hid (((sealL s.data.toList : Nat) : Int) = (g0 : Int) / 4294967296) := by unfold sealL; rw [Hid, hd]; simp only; omega
  have HSM : Hid (Calls Try.prog 10 #[.string s] w fun e w' => e = .returned (.agg #[.int .u64 (g0 : Nat), .int .u64 (g1 : Nat)]) ∧ Below w.heap.size w w') := by
    have h := digest_sum s w hs
    unfold digV at h
    rw [hd] at h
    exact h
  rw [HS.out]
  clear hd
  go_enter Try.func37, Try.ntmps37
  go_wp2_with fail
  refine HSM.out.mono ?_
  rintro e w1 ⟨rfl, hb1⟩
  have hix := run_index0
  go_wp2
  go_ret
  exact ⟨by go_num, hb1⟩

/-- What outsOf answers. -/
def outsOfL : List UInt8 → Nat
  | c :: d :: _ => if c = 82 ∧ d.toNat ≤ 2 then d.toNat else 0
  | _ => 0
set_option maxHeartbeats 1000000 in
theorem own_outsOf (s : ByteArray) (w : World) (hs : s.size ≤ 140737488351232) :
    Calls Try.prog 38 #[.string s] w fun e w' => e = .returned (.int .i64 (outsOfL s.data.toList : Nat)) ∧ w' = w := by
  by_cases h2 : s.size < 2
  · have HE : Hid (outsOfL s.data.toList = 0) := by
      rw [Hid]
      have hl : s.data.toList.length ≤ 1 := by simp; omega
      match hm : s.data.toList, hl with
      | [], _ => rfl
      | [_], _ => rfl
    go_enter Try.func38, Try.ntmps38
    go_wp2
    go_ret
    exact ⟨by rw [HE.out]; rfl, rfl⟩
  · have hd := drop_at (s := s) (i := 0) (by omega)
    rw [List.drop_zero] at hd
    have HE : Hid (outsOfL s.data.toList = if s[0] = 82 ∧ s[1].toNat ≤ 2 then s[1].toNat else 0) := by rw [Hid, hd]; rfl
    have hc0 := s[0].toNat_lt
    have hc1 := s[1].toNat_lt
    have h82 : s[0] = 82 ↔ s[0].toNat = 82 := ⟨fun h => by rw [h]; rfl, fun h => UInt8.toNat_inj.1 h⟩
    have HX : Hid (s[0] = 82 ↔ s[0].toNat = 82) := h82
    clear hd h82
    by_cases a : s[0].toNat = 82
    · have a1 : ((s[0].toNat : Int) != 82) = false := by simp [a]
      by_cases b : s[1].toNat ≤ 2
      · have b1 : ¬ (2 < (s[1].toNat : Int)) := by omega
        have HV : Hid (outsOfL s.data.toList = s[1].toNat) := by rw [Hid, HE.out, if_pos ⟨HX.out.2 a, b⟩]
        go_enter Try.func38, Try.ntmps38
        go_wp2
        go_ret
        exact ⟨by rw [HV.out]; go_num, rfl⟩
      · have b1 : (2 < (s[1].toNat : Int)) := by omega
        have HV : Hid (outsOfL s.data.toList = 0) := by rw [Hid, HE.out, if_neg (fun h => b h.2)]
        go_enter Try.func38, Try.ntmps38
        go_wp2
        go_ret
        exact ⟨by rw [HV.out]; rfl, rfl⟩
    · have a1 : ((s[0].toNat : Int) != 82) = true := by simp; omega
      have HV : Hid (outsOfL s.data.toList = 0) := by rw [Hid, HE.out, if_neg (fun h => a (HX.out.1 h.1))]
      go_enter Try.func38, Try.ntmps38
      go_wp2
      go_ret
      exact ⟨by rw [HV.out]; rfl, rfl⟩
end Go.Proofs.Ytoabakgmjcnodaa
