import Derived.Test.YtoabakgmjcnodaaLkF
namespace Go.Proofs.Ytoabakgmjcnodaa
open Go.ChangeShapes Go.WideShapes Go.ChangeAt Go.RowKit Go.Sort

theorem wideL_at (v : Nat) : ∀ (n j : Nat), j < n → (wideL v n)[j]? = some (UInt8.ofNat ((v / 256 ^ (n - 1 - j)) % 256))
  | 0, _, h => by omega
  | n + 1, 0, _ => by simp [wideL]
  | n + 1, j + 1, h => by
    rw [wideL, List.getElem?_cons_succ, wideL_at v n j (by omega)]
    congr 5
    omega
theorem shr_eq (n i : Nat) : (n : Int) / 2 ^ (8 * i) % 256 = ((UInt8.ofNat ((n / 256 ^ i) % 256)).toNat : Int) := by
  have e2 : (2 : Int) ^ (8 * i) = ((256 ^ i : Nat) : Int) := by
    have h : (256 : Nat) ^ i = 2 ^ (8 * i) := by rw [Nat.pow_mul]
    rw [h]
    simp
  rw [e2]
  have e3 : (UInt8.ofNat ((n / 256 ^ i) % 256)).toNat = (n / 256 ^ i) % 256 := by simp
  rw [e3]
  omega
theorem bc_snoc (l : List UInt8) (c : UInt8) : Lib.byteCells (l ++ [c]) = Lib.byteCells l ++ [.int .u8 (c.toNat : Int)] := by simp [Lib.byteCells]
set_option maxRecDepth 10000 in
set_option maxHeartbeats 2000000 in
theorem own_appendNumber (B : Nat) (v : Value) (xs : List Value) (n size : Nat) (w : World) (hv : w.ownsRow B 5 1 v xs.length xs) (_hn : U64 n) (hs : size ≤ 8) (hx : xs.length ≤ 1000) (hB : B ≤ w.heap.size) :
    Calls Try.prog 36 #[v, .int .u64 (n : Nat), .int .i64 (size : Nat)] w fun e w' => ∃ v', e = .returned v' ∧ w'.ownsRow B 5 1 v' (xs.length + size) (xs ++ Lib.byteCells (wideL n size)) ∧ Below B w w' := by
  obtain ⟨i0, hi, hz0, hz1, hz2⟩ := info_parts infoB
  go_enter Try.func36, Try.ntmps36
  go_wp2
  go_loopw [0, 7] (fun u i wr => ∃ j : Nat, j ≤ size ∧ i = .int .i64 ((size : Int) - 1 - j) ∧ wr.ownsRow B 5 1 u (xs.length + j) (xs ++ Lib.byteCells ((wideL n size).take j)) ∧ Below B w wr) (fun _ i _ => (intOf i + 1).toNat)
  case atStart => exact ⟨0, Nat.zero_le _, by simp, by simpa [Lib.byteCells] using hv, Below.refl _ _⟩
  case round =>
    obtain ⟨j, hj, rfl, hown, hb⟩ := hrel
    have hbs := hb.size
    by_cases hlt : j < size
    · obtain ⟨i, hij⟩ : ∃ i, size - 1 - j = i := ⟨_, rfl⟩
      have hi7 : i ≤ 7 := by omega
      have his : (size : Int) - 1 - (j + 1 : Nat) = (i : Int) - 1 := by omega
      have HIS : Hid ((size : Int) - 1 - (j + 1 : Nat) = (i : Int) - 1) := his
      clear his
      have hiI : ((size : Int) - 1 - j) = (i : Int) := by omega
      have HSH : Hid ((n : Int) / 2 ^ (8 * i) % 256 = ((UInt8.ofNat ((n / 256 ^ i) % 256)).toNat : Int)) := shr_eq n i
      have HNX : Hid ((wideL n size).take (j + 1) = (wideL n size).take j ++ [UInt8.ofNat ((n / 256 ^ i) % 256)]) := by
        have h := wideL_at n size j hlt
        rw [hij] at h
        obtain ⟨h1, h2⟩ := List.getElem?_eq_some_iff.1 h
        rw [Hid, List.take_succ_eq_append_getElem h1, h2]
      rw [hiI]
      clear hiI hij
      obtain ⟨ax, cx, hux⟩ := owns_shape' hown
      subst hux
      go_wp2_with (at_builtin; (refine wpList_append_own _ rfl _ _ 45 rfl B 5 i0 (.int .u8 0) 1 1 Try.underlying45 hi hz0 hz1 hz2 rfl (by decide) _ (xs.length + j) _ rfl (hown.alloc _) ⟨wr.heap.size, 0, none⟩ 1 1 [.int .u8 ((n : Int) / 2 ^ (8 * i) % 256)] rfl rfl (cell_one_new _ _ _) (by simp [Value.oneCell']) (by unfold maxLen; omega) (by omega) (by simp; omega) ?_))
      intro v' w2 hown' hgrow _
      have hb2 : Below B w w2 := (hb.alloc (by omega) _).grown hgrow (by simp; omega) (fun k hk => (hown.lt k hk).1)
      have HOW : Hid (w2.ownsRow B 5 1 v' (xs.length + (j + 1)) (xs ++ Lib.byteCells ((wideL n size).take (j + 1)))) := by
        rw [Hid, HNX.out, bc_snoc, ← HSH.out]
        exact hown'
      clear hown' hgrow hown
      go_wp2
      go_roundw
      case rel => exact ⟨j + 1, by omega, by rw [HIS.out], HOW.out, hb2⟩
      case measure => simp [intOf]
    · have HK : Hid (j = size) := by rw [Hid]; omega
      have hneg : ¬ (0 ≤ (size : Int) - 1 - j) := by omega
      go_wp2
      go_ret
      refine ⟨_, rfl, ?_, hb⟩
      have h := hown
      rw [HK.out, List.take_of_length_le (by rw [wideL_len]; omega)] at h
      exact h

theorem run_index1 (a b : Int) (w : World) : Sem.run Try.prog (Instr.index 24 (.agg #[.int .u64 a, .int .u64 b]) (.int .i64 1)) w = .ok (.int .u64 b) w := by
  have hz : ∀ w, (Go.sizeOf 22).run Try.prog w = .ok 1 w := fun w => by go_simp
  simp [Instr.index, run_underlying Try.underlying24, asIntOf, hz, go_sem]
def digL (d : Nat × Nat) : List UInt8 := wideL d.1 8 ++ wideL d.2 8
theorem bc_app (a b : List UInt8) : Lib.byteCells (a ++ b) = Lib.byteCells a ++ Lib.byteCells b := by simp [Lib.byteCells]
theorem bc_len (a : List UInt8) : (Lib.byteCells a).length = a.length := by simp [Lib.byteCells]
set_option maxRecDepth 10000 in
set_option maxHeartbeats 2000000 in
theorem own_appendDigest (B : Nat) (v : Value) (xs : List Value) (d : Nat × Nat) (w : World) (hv : w.ownsRow B 5 1 v xs.length xs) (h0 : U64 d.1) (h1 : U64 d.2) (hx : xs.length ≤ 900) (hB : B ≤ w.heap.size) :
    Calls Try.prog 35 #[v, .agg #[.int .u64 (d.1 : Nat), .int .u64 (d.2 : Nat)]] w fun e w' => ∃ v', e = .returned v' ∧ w'.ownsRow B 5 1 v' (xs.length + 16) (xs ++ Lib.byteCells (digL d)) ∧ Below B w w' := by
  obtain ⟨d0, d1⟩ := d
  simp only at h0 h1 ⊢
  unfold digL
  simp only
  have hi0 := run_index0
  have hi1 := run_index1
  obtain ⟨ax, cx, hux⟩ := owns_shape' hv
  subst hux
  have HV : Hid (w.ownsRow B 5 1 (.slice ax xs.length cx) xs.length xs) := hv
  clear hv
  go_enter Try.func35, Try.ntmps35
  go_wp2_with fail
  go_loopw [0, 6, 8] (fun u _ i wr => ∃ j : Nat, j ≤ 2 ∧ i = .int .i64 (j : Int) ∧ wr.ownsRow B 5 1 u (xs.length + 8 * j) (xs ++ Lib.byteCells ((wideL d0 8 ++ wideL d1 8).take (8 * j))) ∧ Below B w wr) (fun _ _ i _ => 2 - (intOf i).toNat)
  case atStart => exact ⟨0, Nat.zero_le _, rfl, by simpa [Lib.byteCells] using HV.out.alloc _, (Below.refl _ _).alloc hB _⟩
  case round =>
    obtain ⟨j, hj, rfl, hown, hb⟩ := hrel
    have hbs := hb.size
    obtain ⟨ay, cy, huy⟩ := owns_shape' hown
    subst huy
    have hT : ∀ j, j ≤ 2 → (xs ++ Lib.byteCells ((wideL d0 8 ++ wideL d1 8).take (8 * j))).length = xs.length + 8 * j := fun j hj => by
      rw [List.length_append, bc_len, List.length_take, List.length_append, wideL_len, wideL_len]; omega
    have HT : Hid (∀ j, j ≤ 2 → (xs ++ Lib.byteCells ((wideL d0 8 ++ wideL d1 8).take (8 * j))).length = xs.length + 8 * j) := hT
    clear hT
    rcases (show j = 0 ∨ j = 1 ∨ j = 2 by omega) with rfl | rfl | rfl
    · have HC := own_appendNumber B (.slice ay (xs.length + 8 * 0) cy) (xs ++ Lib.byteCells ((wideL d0 8 ++ wideL d1 8).take (8 * 0))) d0 8 wr (by rw [HT.out 0 (by omega)]; exact hown) h0 (by omega) (by rw [HT.out 0 (by omega)]; omega) (by omega)
      rw [HT.out 0 (by omega)] at HC
      have HCC : Hid (Calls Try.prog 36 #[.slice ay (xs.length + 8 * 0) cy, .int .u64 (d0 : Nat), .int .i64 (8 : Nat)] wr fun e w' => ∃ v', e = .returned v' ∧ w'.ownsRow B 5 1 v' (xs.length + 8 * 1) (xs ++ Lib.byteCells ((wideL d0 8 ++ wideL d1 8).take (8 * 1))) ∧ Below B wr w') := by
        refine HC.mono ?_
        rintro e w' ⟨v', rfl, h, hb⟩
        refine ⟨v', rfl, ?_, hb⟩
        have e1 : (wideL d0 8 ++ wideL d1 8).take (8 * 1) = wideL d0 8 := by rw [List.take_append_of_le_length (by simp [wideL_len])]; exact List.take_of_length_le (by simp [wideL_len])
        rw [e1]
        simpa [Lib.byteCells] using h
      clear HC hown
      go_wp2_with fail
      refine HCC.out.mono ?_
      rintro e w2 ⟨v', rfl, hown2, hb2⟩
      go_wp2
      go_roundw
      case rel => exact ⟨1, by omega, rfl, hown2, hb.trans hb2⟩
      case measure => simp [intOf]
    · have HC := own_appendNumber B (.slice ay (xs.length + 8 * 1) cy) (xs ++ Lib.byteCells ((wideL d0 8 ++ wideL d1 8).take (8 * 1))) d1 8 wr (by rw [HT.out 1 (by omega)]; exact hown) h1 (by omega) (by rw [HT.out 1 (by omega)]; omega) (by omega)
      rw [HT.out 1 (by omega)] at HC
      have HCC : Hid (Calls Try.prog 36 #[.slice ay (xs.length + 8 * 1) cy, .int .u64 (d1 : Nat), .int .i64 (8 : Nat)] wr fun e w' => ∃ v', e = .returned v' ∧ w'.ownsRow B 5 1 v' (xs.length + 8 * 2) (xs ++ Lib.byteCells ((wideL d0 8 ++ wideL d1 8).take (8 * 2))) ∧ Below B wr w') := by
        refine HC.mono ?_
        rintro e w' ⟨v', rfl, h, hb⟩
        refine ⟨v', rfl, ?_, hb⟩
        have e1 : (wideL d0 8 ++ wideL d1 8).take (8 * 1) = wideL d0 8 := by rw [List.take_append_of_le_length (by simp [wideL_len])]; exact List.take_of_length_le (by simp [wideL_len])
        have e2 : (wideL d0 8 ++ wideL d1 8).take (8 * 2) = wideL d0 8 ++ wideL d1 8 := List.take_of_length_le (by simp [wideL_len])
        rw [e1] at h
        rw [e2, bc_app, ← List.append_assoc]
        exact h
      clear HC hown
      go_wp2_with fail
      refine HCC.out.mono ?_
      rintro e w2 ⟨v', rfl, hown2, hb2⟩
      go_wp2
      go_roundw
      case rel => exact ⟨2, by omega, rfl, hown2, hb.trans hb2⟩
      case measure => simp [intOf]
    · have HO : Hid (wr.ownsRow B 5 1 (.slice ay (xs.length + 8 * 2) cy) (xs.length + 16) (xs ++ Lib.byteCells (wideL d0 8 ++ wideL d1 8))) := by
        have e2 : (wideL d0 8 ++ wideL d1 8).take (8 * 2) = wideL d0 8 ++ wideL d1 8 := List.take_of_length_le (by simp [wideL_len])
        rw [e2] at hown
        exact hown
      clear hown
      go_wp2
      go_ret
      exact ⟨_, rfl, HO.out, hb⟩
end Go.Proofs.Ytoabakgmjcnodaa
