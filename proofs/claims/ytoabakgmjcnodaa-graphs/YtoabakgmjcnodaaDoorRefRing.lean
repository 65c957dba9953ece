import Derived.Test.YtoabakgmjcnodaaDoorRefLine
import Derived.Test.YtoabakgmjcnodaaDoorRingSpec
import Derived.Deep.OwnRows
namespace Go.Proofs.YtoabakgmjcnodaaDoor
open Go.ChangeShapes Go.WideShapes Go.ChangeAt Go.RowKit

theorem Tryd.info4 : (Tryd.prog.info? 4).map (fun i => (i.zero, i.size, i.bytes)) = some (some (.bool false), 1, 1) := by kernel_rfl

/-- Does task a wait for task b? -/
def waitsM (l : List TS) (a b : Nat) : Bool := waitsL l (l.getD a ⟨[], ByteArray.empty, [], 0, 0, 0⟩).ins b

set_option maxRecDepth 10000 in
set_option maxHeartbeats 4000000 in
theorem ref_ring (w : World) (pb : Nat) (M : Nat → Prop) (S : PS) (vT vP vD : Value) (cT : List Value) (R : RPlan w pb M S vT vP vD cT) :
    Calls Tryd.prog 31 #[.pointer (some ⟨pb, 0, none⟩)] w fun e w' => e = .returned (.bool (ringB (waitsM S.tasks) S.tasks.length)) ∧ Below w.heap.size w w' := by
  obtain ⟨p0, p1, p2, pf⟩ := three R.blk
  have hfew := R.few.1
  obtain ⟨aT, qT, hvT⟩ := owns_shape R.tasks
  subst hvT
  obtain ⟨n, hn⟩ : ∃ n, S.tasks.length = n := ⟨_, rfl⟩
  have hpb := blk_lt R.blk
  have hmk := run_make_row' (P := Tryd.prog) 101 4 (.bool false) 1 Tryd.underlying101 Tryd.info4 rfl .i64 .i64 S.tasks.length (by omega) (by omega)
  rw [hn] at hmk p0 hfew ⊢
  have HN : Hid (S.tasks.length = n) := hn
  clear hn
  obtain ⟨X, hX⟩ : ∃ X, ringB (waitsM S.tasks) n = X := ⟨_, rfl⟩
  rw [hX]
  have HX : Hid (ringB (waitsM S.tasks) n = X) := hX
  clear hX
  go_enter Tryd.func31, Tryd.ntmps31
  go_wp2
  go_loopw [4, 5, 6, 7, 8, 9] (fun l r _ _ _ _ wr => ∃ k : Nat, k ≤ n + 1 ∧ r = .int .i64 k ∧ l = .int .i64 (rounds (waitsM S.tasks) n k).2 ∧
      wr.rowIs w.heap.size 4 n (fun i => .bool ((rounds (waitsM S.tasks) n k).1 i)) ∧ Below w.heap.size w wr)
    (fun _ r _ _ _ _ _ => n + 1 - (intOf r).toNat)
  case atStart => exact ⟨0, by omega, rfl, rfl, World.rowIs_made _ _ _ _, (Below.refl _ _).alloc (Nat.le_refl _) _⟩
  case round =>
    obtain ⟨k, hk, rfl, rfl, hrow, hbel⟩ := hrel
    have q0 := (hbel.cell (p := ⟨pb, 0, none⟩) hpb).trans p0
    have hbd := rounds_bd (waitsM S.tasks) n k
    by_cases hlt : k ≤ n
    · obtain ⟨st, hst⟩ : ∃ st, rounds (waitsM S.tasks) n k = st := ⟨_, rfl⟩
      rw [hst] at hrow hbd ⊢
      have HST : Hid (rounds (waitsM S.tasks) n k = st) := hst
      clear hst
      have hkn : k * n ≤ 24 * 24 := Nat.mul_le_mul (by omega) hfew
      generalize k * n = kn at *
      go_wp2
      go_loopw [4, 6, 7, 8, 9] (fun l a _ _ _ wm => ∃ j : Nat, j ≤ n ∧ a = .int .i64 j ∧ l = .int .i64 (passTo (waitsM S.tasks) n st j).2 ∧
          wm.rowIs w.heap.size 4 n (fun i => .bool ((passTo (waitsM S.tasks) n st j).1 i)) ∧ Below w.heap.size w wm)
        (fun _ a _ _ _ _ => n - (intOf a).toNat)
      case atStart => exact ⟨0, Nat.zero_le _, rfl, rfl, hrow, hbel⟩
      case round =>
        clear hrow hbel q0
        obtain ⟨j, hj, rfl, rfl, hrow, hbel⟩ := hrel
        have q0 := (hbel.cell (p := ⟨pb, 0, none⟩) hpb).trans p0
        have hbp := passTo_bd (waitsM S.tasks) n st j
        obtain ⟨G, lf, hG⟩ : ∃ G lf, passTo (waitsM S.tasks) n st j = (G, lf) := ⟨_, _, rfl⟩
        rw [hG] at hrow hbp ⊢
        simp only at hrow hbp
        have HG : Hid (passTo (waitsM S.tasks) n st j = (G, lf)) := hG
        clear hG
        by_cases hjn : j < n
        · have cj := hrow.cell hjn
          have fj := hrow.frozen j
          have R2 := R.same hbel
          have HJ : Hid (j < S.tasks.length) := by rw [HN.out]; exact hjn
          have HWC : Hid (∀ b : Nat, Calls Tryd.prog 49 #[.pointer (some ⟨pb, 0, none⟩), .int .i64 j, .int .i64 b] wr fun e w' => e = .returned (.bool (waitsM S.tasks j b)) ∧ w' = wr) := by
            intro b
            have h := ref_Waits j b wr pb M S _ vP vD cT R2 HJ.out
            have e : waitsM S.tasks j b = waitsL S.tasks (S.tasks[j]'HJ.out).ins b := by
              unfold waitsM; congr 2; simp [HJ.out]
            rw [e]; exact h
          clear R2
          go_wp2
          go_loop [7, 8, 9] (fun fr b _ => ∃ i : Nat, i ≤ n ∧ b = .int .i64 i ∧ fr = .bool (freeTo (waitsM S.tasks) G j i)) (fun _ b _ => n - (intOf b).toNat)
          case atStart => exact ⟨0, Nat.zero_le _, rfl, by simp [freeTo]⟩
          case round =>
            obtain ⟨i, hi, rfl, rfl⟩ := hrel
            cases hf : freeTo (waitsM S.tasks) G j i
            · have HF : Hid (freeTo (waitsM S.tasks) G j n = false) := freeTo_no hf n hi
              have HS : Hid (passTo (waitsM S.tasks) n st (j + 1) = (G, lf)) := by
                show passTo (waitsM S.tasks) n st (j + 1) = _
                simp only [passTo, HG.out, HF.out]; simp
              clear hf
              by_cases hin : i < n
              all_goals
                go_wp2
                go_roundw
                case rel => exact ⟨j + 1, by omega, by go_num, by rw [HS.out], by rw [HS.out]; exact hrow, hbel⟩
                case measure => simp [intOf]; omega
            · by_cases hin : i < n
              · have ci := hrow.cell hin
                have HF : Hid (freeTo (waitsM S.tasks) G j (i + 1) = (!waitsM S.tasks j i || G i)) := by
                  show freeTo (waitsM S.tasks) G j (i + 1) = _
                  simp [freeTo, hf]
                clear hf
                obtain ⟨wb, hwb⟩ : ∃ wb, waitsM S.tasks j i = wb := ⟨_, rfl⟩
                have HWB : Hid (waitsM S.tasks j i = wb) := hwb
                clear hwb
                cases wb
                all_goals
                  go_wp2_with (go_at_call 49; refine (HWC.out i).mono ?_; rintro e w1 ⟨rfl, hw⟩; rw [HWB.out]; subst hw)
                  go_round
                  case rel => exact ⟨i + 1, by omega, by go_num, by rw [HF.out, HWB.out]; simp⟩
                  case measure => simp [intOf]; omega
              · have hin' : i = n := by omega
                have HF : Hid (freeTo (waitsM S.tasks) G j n = true) := by rw [← hin']; exact hf
                have HS : Hid (passTo (waitsM S.tasks) n st (j + 1) = (fun i => if i = j then true else G i, lf - 1)) := by
                  show passTo (waitsM S.tasks) n st (j + 1) = _
                  simp only [passTo, HG.out, HF.out]; simp
                clear hf hin'
                go_wp2
                go_roundw
                case rel => exact ⟨j + 1, by omega, by go_num, by rw [HS.out], by rw [HS.out]; exact (hrow.set j (.bool true)).congr (fun i _ => by split <;> simp_all), hbel.setCell (Nat.le_refl _) _⟩
                case measure => simp [intOf]; omega
        · have hjn' : j = n := by omega
          have HS : Hid (rounds (waitsM S.tasks) n (k + 1) = (G, lf)) := by
            show passTo (waitsM S.tasks) n (rounds (waitsM S.tasks) n k) n = _
            rw [HST.out]; have h := HG.out; rwa [hjn'] at h
          clear hjn'
          go_wp2
          go_roundw
          case rel => exact ⟨k + 1, by omega, by go_num, by rw [HS.out], by rw [HS.out]; exact hrow, hbel⟩
          case measure => simp [intOf]; omega
    · have hk1 : k = n + 1 := by omega
      have HE : Hid (X = decide (0 < (rounds (waitsM S.tasks) n k).2)) := by rw [← HX.out, hk1]; rfl
      generalize (rounds (waitsM S.tasks) n k).2 = lf at *
      clear hk1
      go_wp2
      go_ret
      exact ⟨ret_bool HE.out.symm, hbel⟩
end Go.Proofs.YtoabakgmjcnodaaDoor
