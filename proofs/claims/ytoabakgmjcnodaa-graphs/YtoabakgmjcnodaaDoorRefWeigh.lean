import Derived.Test.YtoabakgmjcnodaaDoorRefRead
import Derived.Test.YtoabakgmjcnodaaDoorOwnK
import Derived.Test.YtoabakgmjcnodaaDoorWeighSpec
namespace Go.Proofs.YtoabakgmjcnodaaDoor
open Go.ChangeShapes Go.WideShapes Go.ChangeAt Go.RowKit

theorem most_le {W : Nat → Nat → Bool} {f : Nat → Nat} {a B : Nat} (h : ∀ b, f b ≤ B) : ∀ k, wMost W f a k ≤ B
  | 0 => Nat.zero_le _
  | k + 1 => by
    simp only [wMost]; split
    · exact h k
    · exact most_le h k
theorem pass_le {c : Nat → Nat} {W : Nat → Nat → Bool} {n B : Nat} {f : Nat → Nat} (hc : ∀ a, c a ≤ 9) (h : ∀ b, f b ≤ B) : ∀ j b, wPass c W n f j b ≤ B + 9 * j
  | 0, b => by simpa [wPass] using h b
  | j + 1, b => by
    have ih := pass_le (W := W) (n := n) hc h j
    simp only [wPass]
    by_cases e : b = j
    · subst e; rw [upd_same]
      have h1 := most_le (W := W) (a := b) ih n
      have h2 := hc b
      omega
    · rw [upd_other e]; have := ih b; omega
theorem rounds_le {c : Nat → Nat} {W : Nat → Nat → Bool} {n : Nat} (hc : ∀ a, c a ≤ 9) (hn : n ≤ 24) : ∀ r b, wRounds c W n r b ≤ 216 * r
  | 0, b => by simp [wRounds]
  | r + 1, b => by
    have := pass_le (W := W) (n := n) hc (rounds_le (W := W) hc hn r) n b
    show wPass c W n (wRounds c W n r) n b ≤ _
    omega

/-- What the tasks cost. -/
def costT (l : List TS) (a : Nat) : Nat := (l.getD a ⟨[], ByteArray.empty, [], 0, 0, 0⟩).cost

set_option maxRecDepth 10000 in
set_option maxHeartbeats 4000000 in
theorem ref_Weigh (w : World) (pb : Nat) (M : Nat → Prop) (S : PS) (vT vP vD : Value) (cT : List Value) (R : RPlan w pb M S vT vP vD cT) (hc9 : ∀ a, costT S.tasks a ≤ 9) :
    Calls Tryd.prog 32 #[.pointer (some ⟨pb, 0, none⟩)] w fun e w' => e = .returned (.slice (some ⟨w.heap.size, 0, none⟩) S.tasks.length S.tasks.length) ∧
      w'.rowIs w.heap.size 3 S.tasks.length (fun i => .int .i64 (wRounds (costT S.tasks) (waitsM S.tasks) S.tasks.length (S.tasks.length + 1) i)) ∧ Below w.heap.size w w' := by
  obtain ⟨p0, p1, p2, pf⟩ := three R.blk
  have hfew := R.few.1
  obtain ⟨aT, qT, hvT⟩ := owns_shape R.tasks
  subst hvT
  obtain ⟨n, hn⟩ : ∃ n, S.tasks.length = n := ⟨_, rfl⟩
  have hpb := blk_lt R.blk
  have hmk := run_make_row' (P := Tryd.prog) 29 3 (.int .i64 0) 8 Tryd.underlying29 Tryd.info3 rfl .i64 .i64 S.tasks.length (by omega) (by omega)
  rw [hn] at hmk p0 hfew ⊢
  have HN : Hid (S.tasks.length = n) := hn
  clear hn
  have HC9 : Hid (∀ a, costT S.tasks a ≤ 9) := hc9
  have HR : Hid (RPlan w pb M S (.slice aT S.tasks.length qT) vP vD cT) := R
  clear hc9 R
  obtain ⟨W, hW⟩ : ∃ W, waitsM S.tasks = W := ⟨_, rfl⟩
  obtain ⟨c, hc⟩ : ∃ c, costT S.tasks = c := ⟨_, rfl⟩
  have HW : Hid (waitsM S.tasks = W) := hW
  have HC : Hid (costT S.tasks = c) := hc
  rw [hW, hc]
  rw [hc] at HC9
  clear hW hc
  go_enter Tryd.func32, Tryd.ntmps32
  go_wp2
  go_loopw [4, 5, 6, 7, 8] (fun r _ _ _ _ wr => ∃ k : Nat, k ≤ n + 1 ∧ r = .int .i64 k ∧ wr.rowIs w.heap.size 3 n (fun i => .int .i64 (wRounds c W n k i)) ∧ Below w.heap.size w wr)
    (fun r _ _ _ _ _ => n + 1 - (intOf r).toNat)
  case atStart => exact ⟨0, by omega, rfl, World.rowIs_made _ _ _ _, (Below.refl _ _).alloc (Nat.le_refl _) _⟩
  case round =>
    obtain ⟨k, hk, rfl, hrow, hbel⟩ := hrel
    have q0 := (hbel.cell (p := ⟨pb, 0, none⟩) hpb).trans p0
    by_cases hlt : k ≤ n
    · have hbd : ∀ j b, j ≤ n → wPass c W n (wRounds c W n k) j b ≤ 6000 := fun j b hj => by
        have h1 := pass_le (W := W) (n := n) HC9.out (rounds_le (W := W) HC9.out hfew k) j b
        omega
      have HBD : Hid (∀ j b, j ≤ n → wPass c W n (wRounds c W n k) j b ≤ 6000) := hbd
      clear hbd
      obtain ⟨F, hF⟩ : ∃ F, wRounds c W n k = F := ⟨_, rfl⟩
      rw [hF] at hrow HBD
      have HF : Hid (wRounds c W n k = F) := hF
      clear hF
      go_wp2
      go_loopw [5, 6, 7, 8] (fun a _ _ _ wm => ∃ j : Nat, j ≤ n ∧ a = .int .i64 j ∧ wm.rowIs w.heap.size 3 n (fun i => .int .i64 (wPass c W n F j i)) ∧ Below w.heap.size w wm)
        (fun a _ _ _ _ => n - (intOf a).toNat)
      case atStart => exact ⟨0, Nat.zero_le _, rfl, hrow, hbel⟩
      case round =>
        clear hrow hbel q0
        obtain ⟨j, hj, rfl, hrow, hbel⟩ := hrel
        have q0 := (hbel.cell (p := ⟨pb, 0, none⟩) hpb).trans p0
        obtain ⟨G, hG⟩ : ∃ G, wPass c W n F j = G := ⟨_, rfl⟩
        rw [hG] at hrow
        have HG : Hid (wPass c W n F j = G) := hG
        clear hG
        by_cases hjn : j < n
        · have HGB : Hid (∀ b, G b ≤ 6000) := fun b => by rw [← HG.out]; exact HBD.out j b hj
          have R2 := HR.out.same hbel
          have HJ : Hid (j < S.tasks.length) := by rw [HN.out]; exact hjn
          have HWC : Hid (∀ b : Nat, b < n → Calls Tryd.prog 49 #[.pointer (some ⟨pb, 0, none⟩), .int .i64 b, .int .i64 j] wr fun e w' => e = .returned (.bool (W b j)) ∧ w' = wr) := by
            intro b hb
            have hbl : b < S.tasks.length := by rw [HN.out]; exact hb
            have h := ref_Waits b j wr pb M S _ vP vD cT R2 hbl
            have e : W b j = waitsL S.tasks (S.tasks[b]'hbl).ins j := by
              rw [← HW.out]; unfold waitsM; congr 2; simp [hbl]
            rw [e]; exact h
          obtain ⟨vO, vI, T⟩ := R2.each j HJ.out
          obtain ⟨g, qq, hvT, hcc⟩ := R2.cell T.c3
          injection hvT with hv1 hv2 hv3
          subst hv1
          have hcj : (S.tasks[j]'HJ.out).cost = c j := by rw [← HC.out]; unfold costT; congr 1; simp [HJ.out]
          rw [hcj] at hcc
          have hc9j := HC9.out j
          clear R2 T hcj hv3
          go_wp2
          go_loop [6, 7, 8] (fun mo b _ => ∃ i : Nat, i ≤ n ∧ b = .int .i64 i ∧ mo = .int .i64 (wMost W G j i)) (fun _ b _ => n - (intOf b).toNat)
          case atStart => exact ⟨0, Nat.zero_le _, rfl, rfl⟩
          case round =>
            obtain ⟨i, hi, rfl, rfl⟩ := hrel
            have hml := most_le (W := W) (a := j) HGB.out i
            obtain ⟨mo, hmo⟩ : ∃ mo, wMost W G j i = mo := ⟨_, rfl⟩
            rw [hmo] at hml ⊢
            have HM : Hid (wMost W G j i = mo) := hmo
            clear hmo
            by_cases hin : i < n
            · have ci := hrow.cell hin
              have hgi := HGB.out i
              obtain ⟨wb, hwb⟩ : ∃ wb, W i j = wb := ⟨_, rfl⟩
              have HWB : Hid (W i j = wb) := hwb
              clear hwb
              have HNX : Hid (wMost W G j (i + 1) = if wb = true ∧ mo < G i then G i else mo) := by
                show wMost W G j (i + 1) = _
                simp only [wMost, HWB.out, HM.out]
              cases wb
              · have HNY : Hid (wMost W G j (i + 1) = mo) := by rw [HNX.out]; simp [Hid]
                clear HNX
                go_wp2_with (go_at_call 49; refine (HWC.out i hin).mono ?_; rintro e w1 ⟨rfl, hw⟩; rw [HWB.out]; subst hw)
                go_round
                case rel => exact ⟨i + 1, by omega, by go_num, by rw [HNY.out]⟩
                case measure => simp [intOf]; omega
              · by_cases hgt : mo < G i
                · have HNY : Hid (wMost W G j (i + 1) = G i) := by rw [HNX.out]; simp [Hid, hgt]
                  have hgt' : (mo : Int) < (G i : Int) := by omega
                  clear HNX
                  go_wp2_with (go_at_call 49; refine (HWC.out i hin).mono ?_; rintro e w1 ⟨rfl, hw⟩; rw [HWB.out]; subst hw)
                  go_round
                  case rel => exact ⟨i + 1, by omega, by go_num, by rw [HNY.out]⟩
                  case measure => simp [intOf]; omega
                · have HNY : Hid (wMost W G j (i + 1) = mo) := by rw [HNX.out]; simp [Hid, hgt]
                  have hgt' : ¬ (mo : Int) < (G i : Int) := by omega
                  clear HNX
                  go_wp2_with (go_at_call 49; refine (HWC.out i hin).mono ?_; rintro e w1 ⟨rfl, hw⟩; rw [HWB.out]; subst hw)
                  go_round
                  case rel => exact ⟨i + 1, by omega, by go_num, by rw [HNY.out]⟩
                  case measure => simp [intOf]; omega
            · have HS : Hid (wPass c W n F (j + 1) = upd G j (c j + mo)) := by
                show wPass c W n F (j + 1) = _
                simp only [wPass, HG.out]
                rw [show n = i by omega, HM.out]
              have fj := hrow.frozen j
              have cj := hrow.cell hjn
              go_wp2
              go_roundw
              case rel =>
                refine ⟨j + 1, by omega, by go_num, ?_, hbel.setCell (Nat.le_refl _) _⟩
                rw [HS.out]
                refine (hrow.set j (.int .i64 ((c j : Int) + mo))).congr (fun q _ => ?_)
                by_cases e : q = j
                · subst e; rw [if_pos rfl, upd_same]; simp
                · rw [if_neg e, upd_other e]
              case measure => simp [intOf]; omega
        · have HS : Hid (wRounds c W n (k + 1) = G) := by
            show wPass c W n (wRounds c W n k) n = _
            rw [HF.out, ← HG.out, show j = n by omega]
          go_wp2
          go_roundw
          case rel => exact ⟨k + 1, by omega, by go_num, by rw [HS.out]; exact hrow, hbel⟩
          case measure => simp [intOf]; omega
    · have hk1 : k = n + 1 := by omega
      have HE : Hid (k = n + 1) := hk1
      clear hk1
      go_wp2
      go_ret
      exact ⟨rfl, by rw [HE.out] at hrow; exact hrow, hbel⟩
end Go.Proofs.YtoabakgmjcnodaaDoor
