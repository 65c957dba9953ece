import Derived.Test.YtoabakgmjcnodaaLgB0
import Derived.Deep.RegionHeld3
namespace Go.Proofs.Ytoabakgmjcnodaa
open Go.ChangeShapes Go.WideShapes Go.ChangeAt Go.RowKit
set_option maxRecDepth 10000 in
set_option maxHeartbeats 4000000 in
theorem ref_Told (r : Rc) (vO : Value) (w : World) (hO : Ds w vO r.outs) (h0 : U64 r.p0) (h1 : U64 r.p1) (hl : r.outs.length ≤ 2) :
    Calls Try.prog 16 #[.agg #[.int .u64 (r.p0 : Nat), .int .u64 (r.p1 : Nat), vO]] w fun e w' => e = .returned (.string (bsL (toldL r))) ∧ Below w.heap.size w w' := by
  obtain ⟨p0, p1, outs⟩ := r
  simp only at hO h0 h1 hl ⊢
  obtain ⟨aO, cO, rfl, -, hU, -⟩ := id hO
  go_enter Try.func16, Try.ntmps16
  go_upto_region 1 with fail
  obtain ⟨W, hW⟩ : ∃ W, w.alloc (.cells #[.int .u64 (p0 : Nat), .int .u64 (p1 : Nat), .slice aO outs.length cO] 37) = W := ⟨_, rfl⟩
  have hbW : Below w.heap.size w W := by rw [← hW]; exact (Below.refl _ _).alloc (Nat.le_refl _) _
  have hWb : W.heap[w.heap.size]? = some (.cells #[.int .u64 (p0 : Nat), .int .u64 (p1 : Nat), .slice aO outs.length cO] 37 (0, 0)) := by rw [← hW]; exact heap_alloc_new w _
  have hWs := blk_lt' hWb
  rw [hW]
  clear hW
  have HC : Hid (∀ w', Below W.heap.size W w' → w'.cell? ⟨w.heap.size, 0, none⟩ = some (.int .u64 (p0 : Nat)) ∧ w'.cell? ⟨w.heap.size, 1, none⟩ = some (.int .u64 (p1 : Nat)) ∧ w'.cell? ⟨w.heap.size, 2, none⟩ = some (.slice aO outs.length cO)) := by
    intro w' hb
    have hB := (hb.block _ hWs).trans hWb
    refine ⟨?_, ?_, ?_⟩ <;> (rw [cell_of_row w' _ _ _ 37 (0, 0) hB]; rfl)
  obtain ⟨c0, c1, c2⟩ := HC.out W (Below.refl _ _)
  have hwl : IntKind.u64.wrap (outs.length : Int) = (outs.length : Int) := by rw [IntKind.wrap_u64]; omega
  unfold U64 at h0 h1
  go_cut [3] (fun o wx => o = .string (bsL ([82] ++ wideL outs.length 1 ++ wideL p0 8 ++ wideL p1 8)) ∧ Below W.heap.size W wx)
  case first =>
    have hsz : ∀ v n, (bsL (wideL v n)).size = n := fun v n => by rw [bsL_size, wideL_len]
    go_region_held3 (fun w' => w'.cell? ⟨w.heap.size, 0, none⟩ = some (.int .u64 (p0 : Nat)) ∧ w'.cell? ⟨w.heap.size, 1, none⟩ = some (.int .u64 (p1 : Nat)) ∧ w'.cell? ⟨w.heap.size, 2, none⟩ = some (.slice aO outs.length cO)) (go_keep) (first
      | (go_at_call_of 26 (Value.int .u64 (outs.length : Int)); refine (ref_wide outs.length 1 _ (by omega) (by omega)).mono ?_; rintro e wA ⟨rfl, hA⟩; have hBA := (Below.refl W.heap.size W).drew.trans (hA.mono (by simp)); obtain ⟨d0, d1, d2⟩ := HC.out wA hBA)
      | (go_at_call_of 26 (Value.int .u64 (p0 : Int)); refine (ref_wide p0 8 _ h0 (by omega)).mono ?_; rintro e wB ⟨rfl, hB⟩; have hBB := hBA.trans (hB.mono hBA.size); obtain ⟨e0, e1, e2⟩ := HC.out wB hBB)
      | (go_at_call_of 26 (Value.int .u64 (p1 : Int)); refine (ref_wide p1 8 _ h1 (by omega)).mono ?_; rintro e wC ⟨rfl, hC⟩; have hBC := hBB.trans (hC.mono hBB.size); obtain ⟨f0, f1, f2⟩ := HC.out wC hBC))
    all_goals (try go_wp2_with fail)
    all_goals go_meet
    all_goals exact ⟨by rw [told_head], hBC⟩
  case rest =>
  obtain ⟨rfl, hbc⟩ := hcut
  clear c0 c1 c2
  obtain ⟨HD, hHD⟩ : ∃ HD, [82] ++ wideL outs.length 1 ++ wideL p0 8 ++ wideL p1 8 = HD := ⟨_, rfl⟩
  have HHD : Hid ([82] ++ wideL outs.length 1 ++ wideL p0 8 ++ wideL p1 8 = HD) := hHD
  have hHl : HD.length = 18 := by rw [← hHD]; simp [wideL_len]
  rw [hHD]
  clear hHD
  have HDS : Hid (Ds w (.slice aO outs.length cO) outs) := hO
  clear hO
  go_wp2_with fail
  go_loopw [3, 4] (fun s i wr => ∃ k : Nat, k ≤ outs.length ∧ i = .int .i64 k ∧ s = .string (bsL (HD ++ outsL (outs.take k))) ∧ Below W.heap.size W wr) (fun _ i _ => outs.length - (intOf i).toNat)
  case atStart => exact ⟨0, Nat.zero_le _, rfl, by simp [outsL], hbc⟩
  case round =>
    clear hbc
    obtain ⟨k, hk, rfl, rfl, hbr⟩ := hrel
    obtain ⟨c0, c1, c2⟩ := HC.out wr hbr
    have hSl : (bsL (HD ++ outsL (outs.take k))).size = 18 + 16 * k := by
      rw [bsL_size, List.length_append, hHl, outsL_len, List.length_take]; congr 2; omega
    by_cases hlt : k < outs.length
    · obtain ⟨bo, fo, hae, e0, e1⟩ := ds_at (HDS.out.below (hbW.trans (hbr.mono hbW.size))) hlt
      subst hae
      obtain ⟨u0, u1⟩ := hU _ (List.getElem_mem hlt)
      have HNX : Hid (bsL (HD ++ outsL (outs.take (k + 1))) = (bsL (HD ++ outsL (outs.take k)) ++ bsL (wideL outs[k].1 8)) ++ bsL (wideL outs[k].2 8)) := by rw [Hid, List.take_succ_eq_append_getElem hlt, outsL_snoc]; exact bsL_two _ _ _ _
      generalize outs[k] = d at *
      obtain ⟨x0, x1⟩ := d
      simp only at e0 e1 u0 u1 HNX
      generalize bsL (HD ++ outsL (outs.take k)) = S at *
      unfold U64 at u0 u1
      have hsz : ∀ v n, (bsL (wideL v n)).size = n := fun v n => by rw [bsL_size, wideL_len]
      have hz1 : ¬ 9223372036854775807 < S.size + 8 := by omega
      have hz2 : ¬ 9223372036854775807 < S.size + 8 + 8 := by omega
      have HCO : Hid (∀ w', Below wr.heap.size wr w' → w'.cell? ⟨w.heap.size, 2, none⟩ = some (.slice (some ⟨bo, fo, none⟩) outs.length cO) ∧ w'.cell? ⟨bo, fo + k * 2, none⟩ = some (.int .u64 (x0 : Nat)) ∧ w'.cell? ⟨bo, fo + k * 2 + 1, none⟩ = some (.int .u64 (x1 : Nat))) := by
        intro w' hb
        exact ⟨(hb.cell (p := ⟨w.heap.size, 2, none⟩) (block_lt_of_cell c2)).trans c2, (hb.cell (p := ⟨bo, fo + k * 2, none⟩) (block_lt_of_cell e0)).trans e0, (hb.cell (p := ⟨bo, fo + k * 2 + 1, none⟩) (block_lt_of_cell e1)).trans e1⟩
      obtain ⟨sz, hsz5⟩ : ∃ sz, 18 + 16 * k = sz ∧ (sz = 18 ∨ sz = 34) := ⟨_, rfl, by omega⟩
      rw [hsz5.1] at hSl
      have HSZ : Hid (18 + 16 * k = sz) := hsz5.1
      clear hz1 hz2
      rcases hsz5.2 with h18 | h18 <;> (subst h18; clear hsz5)
      · go_upto_region 5 with fail
        go_region_held3 (fun w' => w'.cell? ⟨w.heap.size, 2, none⟩ = some (.slice (some ⟨bo, fo, none⟩) outs.length cO) ∧ w'.cell? ⟨bo, fo + k * 2, none⟩ = some (.int .u64 (x0 : Nat)) ∧ w'.cell? ⟨bo, fo + k * 2 + 1, none⟩ = some (.int .u64 (x1 : Nat))) (go_keep) (first
          | (go_at_call_of 26 (Value.int .u64 (x0 : Int)); refine (ref_wide x0 8 _ u0 (by omega)).mono ?_; rintro e wA ⟨rfl, hA⟩; have hBA := (Below.refl wr.heap.size wr).drew.trans (hA.mono (by simp)); obtain ⟨d0, d1, d2⟩ := HCO.out wA hBA)
          | (go_at_call_of 26 (Value.int .u64 (x1 : Int)); refine (ref_wide x1 8 _ u1 (by omega)).mono ?_; rintro e wB ⟨rfl, hB⟩; have hBB := hBA.trans (hB.mono hBA.size); obtain ⟨f0, f1, f2⟩ := HCO.out wB hBB))
        all_goals
          go_wp2
          go_roundw
          case rel => exact ⟨k + 1, by omega, by go_num, by rw [HNX.out], hbr.trans (hBB.mono hbr.size)⟩
          case measure => simp [intOf]; omega
      · go_upto_region 5 with fail
        go_region_held3 (fun w' => w'.cell? ⟨w.heap.size, 2, none⟩ = some (.slice (some ⟨bo, fo, none⟩) outs.length cO) ∧ w'.cell? ⟨bo, fo + k * 2, none⟩ = some (.int .u64 (x0 : Nat)) ∧ w'.cell? ⟨bo, fo + k * 2 + 1, none⟩ = some (.int .u64 (x1 : Nat))) (go_keep) (first
          | (go_at_call_of 26 (Value.int .u64 (x0 : Int)); refine (ref_wide x0 8 _ u0 (by omega)).mono ?_; rintro e wA ⟨rfl, hA⟩; have hBA := (Below.refl wr.heap.size wr).drew.trans (hA.mono (by simp)); obtain ⟨d0, d1, d2⟩ := HCO.out wA hBA)
          | (go_at_call_of 26 (Value.int .u64 (x1 : Int)); refine (ref_wide x1 8 _ u1 (by omega)).mono ?_; rintro e wB ⟨rfl, hB⟩; have hBB := hBA.trans (hB.mono hBA.size); obtain ⟨f0, f1, f2⟩ := HCO.out wB hBB))
        all_goals
          go_wp2
          go_roundw
          case rel => exact ⟨k + 1, by omega, by go_num, by rw [HNX.out], hbr.trans (hBB.mono hbr.size)⟩
          case measure => simp [intOf]; omega
    · have HK : Hid (outs.take k = outs) := List.take_of_length_le (by omega)
      rw [HK.out]
      rw [HK.out] at hSl
      obtain ⟨L, hL⟩ : ∃ L, HD ++ outsL outs = L := ⟨_, rfl⟩
      have HL : Hid (bodyL ⟨p0, p1, outs⟩ = L) := by rw [Hid, ← hL, ← HHD.out]; rfl
      rw [hL] at hSl ⊢
      have hdl : (bsL L).data.toList = L := by simp [bsL]
      have hSum := ref_sum (bsL L) wr (by unfold maxLen; omega)
      rw [hdl] at hSum
      obtain ⟨g0, g1, hd, hg0, hg1⟩ := dig_nat L
      have HSM : Hid (Calls Try.prog 6 #[.string (bsL L)] wr fun e w' => e = .returned (.agg #[.int .u64 (g0 : Nat), .int .u64 (g1 : Nat)]) ∧ Below wr.heap.size wr w') := by
        unfold digV at hSum
        rw [hd] at hSum
        exact hSum
      have HFN : Hid (bsL (toldL ⟨p0, p1, outs⟩) = bsL L ++ bsL (wideL (g0 / 4294967296) 4)) := by
        unfold toldL
        rw [Hid, HL.out, hd]
        rw [show ((g0 : Int) / 4294967296).toNat = g0 / 4294967296 by omega]
        exact (bsL_add _ _).symm
      have hsz : ∀ v n, (bsL (wideL v n)).size = n := fun v n => by rw [bsL_size, wideL_len]
      have hz1 : ¬ 9223372036854775807 < (bsL L).size + 4 := by omega
      have hbs := hbW.trans (hbr.mono hbW.size)
      clear hSum hd hdl hL HHD HDS hSl
      go_wp2_with fail
      refine HSM.out.mono ?_
      rintro e w2 ⟨rfl, hb2⟩
      have hb3 := hbs.trans (hb2.mono hbs.size)
      have HWD : Hid (∀ w, Calls Try.prog 26 #[.int .u64 ((g0 : Int) / 4294967296), .int .i64 4] w fun e w' => e = .returned (.string (bsL (wideL (g0 / 4294967296) 4))) ∧ Below w.heap.size w w') := by
        intro w
        have h := ref_wide (g0 / 4294967296) 4 w (by omega) (by omega)
        rw [show ((g0 / 4294967296 : Nat) : Int) = (g0 : Int) / 4294967296 by omega] at h
        exact h
      go_wp2_with fail
      refine (HWD.out _).mono ?_
      rintro e w3 ⟨rfl, hb4⟩
      have hb5 := hb3.alloc hb3.size (.cells #[.int .u64 (g0 : Int), .int .u64 (g1 : Int)] 24)
      go_wp2
      go_ret
      exact ⟨by rw [HFN.out]; rfl, hb5.trans (hb4.mono hb5.size)⟩
end Go.Proofs.Ytoabakgmjcnodaa
