import Derived.Test.YtoabakgmjcnodaaDoorKpTwo
import Derived.Test.YtoabakgmjcnodaaDoorGrOne
namespace Go.Proofs.YtoabakgmjcnodaaDoor
open Go.ChangeShapes Go.WideShapes Go.ChangeAt Go.RowKit

theorem gRun_le {c : Nat → Nat} {W : Nat → Nat → Bool} {n : Nat} (hc : ∀ a, c a ≤ 9) : ∀ (l : List Nat) b, gRun c W n l b ≤ 9 * l.length
  | [], b => by simp [gRun]
  | x :: l, b => by
    have ih := gRun_le (W := W) (n := n) hc l
    simp only [gRun]
    by_cases e : b = x
    · subst e; rw [upd_same]
      have h1 := most_le (W := W) (a := b) ih n
      have h2 := hc b
      simp only [List.length_cons]; omega
    · rw [upd_other e]; have := ih b; simp only [List.length_cons]; omega
theorem row_below {w w1 : World} {b n : Nat} {e : TypeId} {f : Nat → Value} (h : w.rowIs b e n f) (hb : Below w.heap.size w w1) : w1.rowIs b e n f := by
  obtain ⟨c, h1, h2, h3⟩ := h
  exact ⟨c, (hb.block _ (blk_lt h1)).trans h1, h2, h3⟩
theorem KPl.ord_at {w : World} {pb : Nat} {M : Nat → Prop} {v : Nat → Value} {K : List KT} {ord : List Nat} {cO cI : List Value} (P : KPl w pb M v K ord cO cI) {i : Nat} (hi : i < ord.length) :
    ∃ g c, w.cell? ⟨pb, 6, none⟩ = some (.slice (some ⟨g, 0, none⟩) ord.length c) ∧ w.cell? ⟨g, i, none⟩ = some (.int .i64 ((ord[i] : Nat) : Int)) := by
  obtain ⟨g, c, _, h1, h2, _⟩ := P.R.at (j := 6) (by omega) (i := i) (u := .int .i64 ((ord[i] : Nat) : Int)) (by simp [rowsOf, hi])
  refine ⟨g, c, ?_, h2⟩
  rw [h1]; simp [rowsOf]

set_option maxRecDepth 10000 in
set_option maxHeartbeats 4000000 in
theorem kp_weights {w : World} {pb : Nat} {M : Nat → Prop} {v : Nat → Value} {K : List KT} {ord : List Nat} {cO cI : List Value} (P : KPl w pb M v K ord cO cI) (hl : ∀ t ∈ K, t.outs.length ≤ 1000 ∧ t.ins.length ≤ 1000)
    (c : Nat → Nat) (W : Nat → Nat → Bool) (hW : ∀ a b (ha : a < K.length) (hb : b < K.length), W a b = kwB K[a].ins K[b].outs) (hc : ∀ a (ha : a < K.length), K[a].cost = c a) (hc9 : ∀ a, c a ≤ 9) (hord : ∀ x ∈ ord, x < K.length) :
    Calls Tryd.prog 14 #[.pointer (some ⟨pb, 0, none⟩)] w fun e w' => e = .returned (.slice (some ⟨w.heap.size, 0, none⟩) K.length K.length) ∧
      w'.rowIs w.heap.size 3 K.length (fun i => .int .i64 (gRun c W K.length ord i)) ∧ Below w.heap.size w w' := by
  have hfew := P.few
  obtain ⟨a0, q0, _, _, p0, _⟩ := P.R.ready 0 (by omega) rfl (P.len 0 (by omega))
  obtain ⟨a6, q6, _, _, p6, _⟩ := P.R.ready 6 (by omega) (n := ord.length) rfl (by simp [rowsOf])
  have hpb := blk_lt P.R.blk
  obtain ⟨n, hn⟩ : ∃ n, K.length = n := ⟨_, rfl⟩
  have hmk := run_make_row' (P := Tryd.prog) 29 3 (.int .i64 0) 8 Tryd.underlying29 Tryd.info3 rfl .i64 .i64 n (by omega) (by omega)
  have HO : Hid (∀ x ∈ ord, x < n) := by rw [Hid, ← hn]; exact hord
  rw [hn] at p0 hfew ⊢
  have HN : Hid (K.length = n) := hn
  have HP : Hid (KPl w pb M v K ord cO cI) := P
  have HC9 : Hid (∀ a, c a ≤ 9) := hc9
  have HWW : Hid (∀ a b (ha : a < K.length) (hb : b < K.length), W a b = kwB K[a].ins K[b].outs) := hW
  have HC : Hid (∀ a (ha : a < K.length), K[a].cost = c a) := hc
  have HLL : Hid (∀ t ∈ K, t.outs.length ≤ 1000 ∧ t.ins.length ≤ 1000) := hl
  clear hn P hc9 hW hc hl hord
  go_enter Tryd.func14, Tryd.ntmps14
  go_wp2
  go_loopw [4, 5, 6, 7, 8] (fun r _ _ _ _ wr => ∃ m : Nat, m ≤ ord.length ∧ r = .int .i64 ((m : Int) - 1) ∧ wr.rowIs w.heap.size 3 n (fun i => .int .i64 (gRun c W n (ord.drop m) i)) ∧ Below w.heap.size w wr)
    (fun r _ _ _ _ _ => (intOf r + 1).toNat)
  case atStart => exact ⟨ord.length, Nat.le_refl _, rfl, by rw [List.drop_length]; exact World.rowIs_made _ _ _ _, (Below.refl _ _).alloc (Nat.le_refl _) _⟩
  case round =>
    obtain ⟨m, hm, rfl, hrow, hbel⟩ := hrel
    by_cases hm0 : 0 < m
    · obtain ⟨k, rfl⟩ : ∃ k, m = k + 1 := ⟨m - 1, by omega⟩
      have hk : k < ord.length := by omega
      have hix : (((k + 1 : Nat) : Int) - 1) = (k : Int) := by omega
      rw [hix]
      obtain ⟨g6, d6, y6, x6⟩ := (HP.out.same hbel).ord_at hk
      have HAL : Hid (ord[k] < n) := HO.out _ (List.getElem_mem hk)
      have HDR : Hid (ord.drop k = ord[k] :: ord.drop (k + 1)) := List.drop_eq_getElem_cons hk
      generalize ord[k] = a at *
      have HBD : Hid (∀ b, gRun c W n (ord.drop (k + 1)) b ≤ 200) := fun b => by
        have h1 := gRun_le (W := W) (n := n) HC9.out (ord.drop (k + 1)) b
        rw [List.length_drop] at h1; omega
      obtain ⟨F, hF⟩ : ∃ F, gRun c W n (ord.drop (k + 1)) = F := ⟨_, rfl⟩
      rw [hF] at hrow HBD
      have HF : Hid (gRun c W n (ord.drop (k + 1)) = F) := hF
      have HNXT : Hid (gRun c W n (ord.drop k) = upd F a (c a + wMost W F a n)) := by rw [Hid, HDR.out, gRun, hF]
      clear hF
      have HY6 := y6
      go_wp2
      go_loopw [6, 7, 8] (fun mo b _ wm => ∃ i : Nat, i ≤ n ∧ b = .int .i64 i ∧ mo = .int .i64 (wMost W F a i) ∧ wm.rowIs w.heap.size 3 n (fun i => .int .i64 (F i)) ∧ Below w.heap.size w wm) (fun _ b _ _ => n - (intOf b).toNat)
      case atStart => exact ⟨0, Nat.zero_le _, rfl, rfl, hrow, hbel⟩
      case round =>
        clear hrow hbel y6 x6 HY6
        obtain ⟨i, hi, rfl, rfl, hrow, hbel⟩ := hrel
        have hml := most_le (W := W) (a := a) HBD.out i
        obtain ⟨mo, hmo⟩ : ∃ mo, wMost W F a i = mo := ⟨_, rfl⟩
        rw [hmo] at hml ⊢
        have HM : Hid (wMost W F a i = mo) := hmo
        clear hmo
        by_cases hin : i < n
        · have hgi := HBD.out i
          obtain ⟨wb, hwb⟩ : ∃ wb, W i a = wb := ⟨_, rfl⟩
          have HWB : Hid (W i a = wb) := hwb
          have HCW : Hid (Calls Tryd.prog 24 #[.pointer (some ⟨pb, 0, none⟩), .int .i64 i, .int .i64 a] wr fun e w' => e = .returned (.bool wb) ∧ Below wr.heap.size wr w') := by
            have h1 : i < K.length := by rw [HN.out]; exact hin
            have h2 : a < K.length := by rw [HN.out]; exact HAL.out
            have h := kp_waits (HP.out.same hbel) i a h1 h2 HLL.out
            rw [← HWW.out i a h1 h2, hwb] at h
            exact h
          clear hwb
          have HNX : Hid (wMost W F a (i + 1) = if wb = true ∧ mo < F i then F i else mo) := by
            show wMost W F a (i + 1) = _
            simp only [wMost, HWB.out, HM.out]
          go_wp2_with fail
          refine HCW.out.mono ?_
          rintro e w1 ⟨rfl, hb1⟩
          have hrow1 : w1.rowIs w.heap.size 3 n (fun i => .int .i64 (F i)) := row_below hrow hb1
          have hbel1 := hbel.trans (hb1.mono hbel.size)
          have ci := hrow1.cell hin
          clear hrow hbel hb1 HCW
          cases wb
          · have HNY : Hid (wMost W F a (i + 1) = mo) := by rw [HNX.out]; simp [Hid]
            clear HNX
            go_wp2
            go_roundw
            case rel => exact ⟨i + 1, by omega, by go_num, by rw [HNY.out], hrow1, hbel1⟩
            case measure => simp [intOf]; omega
          · by_cases hgt : mo < F i
            · have HNY : Hid (wMost W F a (i + 1) = F i) := by rw [HNX.out]; simp [Hid, hgt]
              have hgt' : (mo : Int) < (F i : Int) := by omega
              clear HNX
              go_wp2
              go_roundw
              case rel => exact ⟨i + 1, by omega, by go_num, by rw [HNY.out], hrow1, hbel1⟩
              case measure => simp [intOf]; omega
            · have HNY : Hid (wMost W F a (i + 1) = mo) := by rw [HNX.out]; simp [Hid, hgt]
              have hgt' : ¬ (mo : Int) < (F i : Int) := by omega
              clear HNX
              go_wp2
              go_roundw
              case rel => exact ⟨i + 1, by omega, by go_num, by rw [HNY.out], hrow1, hbel1⟩
              case measure => simp [intOf]; omega
        · have HS : Hid (gRun c W n (ord.drop k) = upd F a (c a + mo)) := by
            rw [HNXT.out, ← HM.out, show n = i by omega]; rfl
          have haK : a < K.length := by rw [HN.out]; exact HAL.out
          obtain ⟨g3, d3, y3, x3⟩ := (HP.out.same hbel).at (j := 3) (by omega) (i := a) (u := .int .i64 (c a : Int)) (by simp [rowsOf, haK, HC.out a haK])
          rw [HN.out] at y3
          have fj := hrow.frozen a
          have han := HAL.out
          have cj := hrow.cell han
          have hca := HC9.out a
          clear haK
          go_wp2
          go_roundw
          case rel =>
            refine ⟨k, by omega, by go_num, ?_, hbel.setCell (Nat.le_refl _) _⟩
            rw [HS.out]
            refine (hrow.set a (.int .i64 ((c a : Int) + mo))).congr (fun q _ => ?_)
            by_cases e : q = a
            · subst e; rw [if_pos rfl, upd_same]; simp
            · rw [if_neg e, upd_other e]
          case measure => simp [intOf]
    · have hm1 : m = 0 := by omega
      subst hm1
      go_wp2
      go_ret
      exact ⟨rfl, by rw [List.drop_zero] at hrow; exact hrow, hbel⟩
end Go.Proofs.YtoabakgmjcnodaaDoor
