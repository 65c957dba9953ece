import Derived.Test.YtoabakgmjcnodaaLgF
import Derived.Test.YtoabakgmjcnodaaLgG
import Derived.Test.YtoabakgmjcnodaaLkN
import Derived.Deep.RegionHeld3
import Derived.Shelf.SlSortCmp.QuietGrown
import Derived.Lib.AppendIntMem
namespace Go.Proofs.Ytoabakgmjcnodaa
open Go.ChangeShapes Go.WideShapes Go.ChangeAt Go.RowKit Go.Sort

set_option maxHeartbeats 1000000 in
theorem ref_below_g (a b : Nat × Nat) (w : World) (h1 : U64 a.1) (h2 : U64 a.2) (h3 : U64 b.1) (h4 : U64 b.2) :
    Calls Try.prog 15 #[.agg #[.int .u64 (a.1 : Nat), .int .u64 (a.2 : Nat)], .agg #[.int .u64 (b.1 : Nat), .int .u64 (b.2 : Nat)]] w fun e w' => e = .returned (.bool (belowB a b)) ∧ ∃ q os, w' = grow (w.drewN q) os := by
  obtain ⟨a0, a1⟩ := a
  obtain ⟨b0, b1⟩ := b
  simp only at h1 h2 h3 h4 ⊢
  unfold U64 at h1 h2 h3 h4
  have hb : ∀ o1 o2, ∃ q os, (w.alloc o1).alloc o2 = grow (w.drewN q) os := fun o1 o2 => ⟨0, #[o1] ++ #[o2], by rw [alloc_eq_grow, alloc_eq_grow, grow_grow]; rfl⟩
  rcases (show a0 < b0 ∨ a0 = b0 ∨ b0 < a0 by omega) with h | h | h
  · have HE : Hid (belowB (a0, a1) (b0, b1) = true) := by simp [Hid, belowB, h]
    have t1 : ((a0 : Int) < (b0 : Int)) := by omega
    go_enter Try.func15, Try.ntmps15
    go_wp2
    go_ret
    exact ⟨ret_bool' HE.out.symm, hb _ _⟩
  · subst h
    have t1 : ((a0 : Int) == (a0 : Int)) = true := by simp
    by_cases h5 : a1 < b1
    · have HE : Hid (belowB (a0, a1) (a0, b1) = true) := by simp [Hid, belowB, h5]
      have t2 : ((a1 : Int) < (b1 : Int)) := by omega
      go_enter Try.func15, Try.ntmps15
      go_wp2
      go_ret
      exact ⟨ret_bool' HE.out.symm, hb _ _⟩
    · have HE : Hid (belowB (a0, a1) (a0, b1) = false) := by simp [Hid, belowB]; omega
      have t2 : ¬ ((a1 : Int) < (b1 : Int)) := by omega
      go_enter Try.func15, Try.ntmps15
      go_wp2
      go_ret
      exact ⟨ret_bool' HE.out.symm, hb _ _⟩
  · have HE : Hid (belowB (a0, a1) (b0, b1) = false) := by simp [Hid, belowB]; omega
    have t1 : ¬ ((a0 : Int) < (b0 : Int)) := by omega
    have t2 : ((a0 : Int) == (b0 : Int)) = false := by rw [beq_eq_false_iff_ne]; omega
    go_enter Try.func15, Try.ntmps15
    go_wp2
    go_ret
    exact ⟨ret_bool' HE.out.symm, hb _ _⟩
def szOf : Value → Nat
  | .string s => s.size
  | _ => 0
def bestI : Option Nat → Int
  | none => -1
  | some b => b
def l0 (last : Option (Nat × Nat)) : Nat × Nat := last.getD (0, 0)
/-- Is the k-th one better than the best so far? -/
def betB (l : List Rc) (k : Nat) : Option Nat → Bool
  | none => true
  | some b => belowB (prt (l.getD k rc0)) (prt (l.getD b rc0)) || decide (prt (l.getD k rc0) = prt (l.getD b rc0))
theorem best_step (l : List Rc) (last : Option (Nat × Nat)) (k : Nat) : bestTo l last (k + 1) = if upB last (l.getD k rc0) && betB l k (bestTo l last k) then some k else bestTo l last k := by
  simp only [bestTo]
  cases bestTo l last k with
  | none => simp [betB]
  | some b => simp [betB]
set_option maxRecDepth 10000 in
set_option maxHeartbeats 4000000 in
theorem ref_Compact (s : ByteArray) (w : World) (hs : s.size ≤ 140737488351232) :
    Calls Try.prog 9 #[.string s] w fun e w' => e = .returned (.string (bsL (compL (recsL s.data.toList (s.size + 1)).1 ((recsL s.data.toList (s.size + 1)).1.length + 1) none))) ∧ Below w.heap.size w w' := by
  have CRV := ref_Recover s w (by omega)
  obtain ⟨hl2, hlen⟩ := recs_all (s.size + 1) s.data.toList
  generalize (recsL s.data.toList (s.size + 1)).2 = np at *
  generalize (recsL s.data.toList (s.size + 1)).1 = l at *
  have hln : l.length ≤ 3703618114507 := by simp at hlen; omega
  have HL2 : Hid (∀ r ∈ l, r.outs.length ≤ 2 ∧ U64 r.p0 ∧ U64 r.p1) := hl2
  have HCR : Hid (Calls Try.prog 12 #[.string s] w fun e w' => ∃ v cs, e = .returned (.tuple #[v, .int .i64 (np : Nat)]) ∧ RsAt w' w.heap.size v cs l ∧ Below w.heap.size w w') := CRV
  obtain ⟨FULL, hF⟩ : ∃ F, compL l (l.length + 1) none = F := ⟨_, rfl⟩
  have hFl : FULL.length ≤ 54 * (l.length + 1) := by rw [← hF]; exact comp_len l (fun r hr => (hl2 r hr).1) _ _
  have HF : Hid (compL l (l.length + 1) none = FULL) := hF
  rw [hF]
  clear CRV hl2 hF hlen
  go_enter Try.func9, Try.ntmps9
  go_wp2_with fail
  refine HCR.out.mono ?_
  rintro e w1 ⟨v, cs, rfl, hRA, hb1⟩
  have hRs := hRA.rs
  clear hRA HCR
  obtain ⟨av, cv, rfl, -, -⟩ := id hRs
  have hb1s := hb1.size
  go_wp2_with fail
  obtain ⟨W, hW⟩ : ∃ W, w1.alloc (.cells #[.int .u64 0, .int .u64 0] 24) = W := ⟨_, rfl⟩
  have hbW1 : Below w1.heap.size w1 W := by rw [← hW]; exact (Below.refl _ _).alloc (Nat.le_refl _) _
  have hWb : W.heap[w1.heap.size]? = some (.cells #[.int .u64 0, .int .u64 0] 24 (0, 0)) := by rw [← hW]; exact heap_alloc_new w1 _
  rw [hW]
  clear hW
  have HRW : Hid (Rs w1 (.slice av l.length cv) l) := hRs
  clear hRs
  go_loopw [5, 7, 8, 9, 10, 11] (fun o sm _ _ _ _ wr => ∃ (last : Option (Nat × Nat)) (f : Nat) (pre : List UInt8), o = .string (bsL pre) ∧ sm = .bool last.isSome ∧ FULL = pre ++ compL l f last ∧ cntUp l last < f ∧ U64 (l0 last).1 ∧ U64 (l0 last).2 ∧
      wr.heap[w1.heap.size]? = some (.cells #[.int .u64 ((l0 last).1 : Nat), .int .u64 ((l0 last).2 : Nat)] 24 (0, 0)) ∧ Below w1.heap.size w1 wr) (fun o _ _ _ _ _ _ => FULL.length - szOf o)
  case atStart => exact ⟨none, l.length + 1, [], rfl, rfl, HF.out.symm, by have := cnt_le_len l none; omega, by unfold U64 l0; simp, by unfold U64 l0; simp, hWb, hbW1⟩
  case round =>
    clear hWb hbW1 HF
    obtain ⟨last, f, pre, rfl, rfl, hFU, hcf, u0, u1, hblk, hbr⟩ := hrel
    have HFU : Hid (FULL = pre ++ compL l f last) := hFU
    clear hFU
    obtain ⟨wo, rfl⟩ : ∃ wo, wo = wr := ⟨wr, rfl⟩
    have hbrs := hbr.size
    go_wp2_with fail
    go_loopw [8, 9, 10] (fun b i _ wm => ∃ k : Nat, k ≤ l.length ∧ i = .int .i64 k ∧ b = .int .i64 (bestI (bestTo l last k)) ∧ Below wo.heap.size wo wm) (fun _ i _ _ => l.length - (intOf i).toNat)
    case atStart => exact ⟨0, Nat.zero_le _, rfl, rfl, Below.refl _ _⟩
    case round =>
      obtain ⟨k, hk, rfl, rfl, hbm⟩ := hrel
      have hbms := hbm.size
      have hbW := hbr.trans (hbm.mono hbrs)
      have hblm := (hbm.block _ (blk_lt' hblk)).trans hblk
      have hUl := HL2.out
      by_cases hlt : k < l.length
      · obtain ⟨b, off, aO, cO, hx, x0, x1, -, -⟩ := rs_at HRW.out hlt
        subst hx
        have HX : Hid (∀ j, j < l.length → ∀ w', Below w1.heap.size w1 w' → w'.cell? ⟨b, off + j * 3, none⟩ = some (.int .u64 ((l.getD j rc0).p0 : Nat)) ∧ w'.cell? ⟨b, off + j * 3 + 1, none⟩ = some (.int .u64 ((l.getD j rc0).p1 : Nat))) := by
          intro j hj w' hb
          obtain ⟨b2, off2, _, _, hx2, y0, y1, -, -⟩ := rs_at HRW.out hj
          simp only [Option.some.injEq, Addr.mk.injEq, and_true] at hx2
          obtain ⟨rfl, rfl⟩ := hx2
          have e : l.getD j rc0 = l[j] := by simp [hj]
          rw [e]
          exact ⟨(hb.cell (p := ⟨b, off + j * 3, none⟩) (block_lt_of_cell y0)).trans y0, (hb.cell (p := ⟨b, off + j * 3 + 1, none⟩) (block_lt_of_cell y1)).trans y1⟩
        have HU : Hid (∀ j, j < l.length → U64 (l.getD j rc0).p0 ∧ U64 (l.getD j rc0).p1) := by
          intro j hj
          have e : l.getD j rc0 = l[j] := by simp [hj]
          rw [e]
          exact (HL2.out _ (List.getElem_mem hj)).2
        have HLA : Hid (∀ w', Below wr.heap.size wr w' → w'.cell? ⟨w1.heap.size, 0, none⟩ = some (.int .u64 ((l0 last).1 : Nat)) ∧ w'.cell? ⟨w1.heap.size, 1, none⟩ = some (.int .u64 ((l0 last).2 : Nat))) := by
          intro w' hb
          have e := (hb.block _ (blk_lt' hblm)).trans hblm
          constructor <;> (rw [cell_of_row w' _ _ _ 24 (0, 0) e]; rfl)
        have HBST : Hid (∀ j, bestTo l last k = some j → j < l.length) := fun j hj => by have := (best_up hj).1; omega
        have HSTEP : Hid (bestTo l last (k + 1) = if upB last (l.getD k rc0) && betB l k (bestTo l last k) then some k else bestTo l last k) := best_step l last k
        clear x0 x1 hblm hUl
        go_upto_region 9 with fail
        go_cut [10] (fun u wx => u = .bool (upB last (l.getD k rc0)) ∧ Below wr.heap.size wr wx)
        case first =>
          cases last with
          | none =>
            go_quiet (fail)
            go_wp2_with fail
            go_meet
            exact ⟨rfl, ⟨rfl, rfl, rfl, Nat.le_refl _, fun _ _ => rfl⟩⟩
          | some x =>
            obtain ⟨q0, q1⟩ := x
            simp only [l0, Option.getD_some] at u0 u1 HLA
            obtain ⟨v0, v1⟩ := HU.out k hlt
            obtain ⟨e0, e1⟩ := HX.out k hlt wr hbW
            obtain ⟨f0, f1⟩ := HLA.out wr (Below.refl _ _)
            have HXk := HX.out k hlt
            have HXK : Hid (∀ w', Below w1.heap.size w1 w' → w'.cell? ⟨b, off + k * 3, none⟩ = some (.int .u64 ((l.getD k rc0).p0 : Nat)) ∧ w'.cell? ⟨b, off + k * 3 + 1, none⟩ = some (.int .u64 ((l.getD k rc0).p1 : Nat))) := HXk
            obtain ⟨z0, hz0⟩ : ∃ z0, (l.getD k rc0).p0 = z0 := ⟨_, rfl⟩
            obtain ⟨z1, hz1⟩ : ∃ z1, (l.getD k rc0).p1 = z1 := ⟨_, rfl⟩
            rw [hz0] at HXK e0 v0
            rw [hz1] at HXK e1 v1
            have HBB : Hid (upB (some (q0, q1)) (l.getD k rc0) = belowB (q0, q1) (z0, z1)) := by rw [Hid, ← hz0, ← hz1]; rfl
            clear HXk HX HU HSTEP hz0 hz1
            have HBL : Hid (∀ w, Calls Try.prog 15 #[.agg #[.int .u64 (q0 : Nat), .int .u64 (q1 : Nat)], .agg #[.int .u64 (z0 : Nat), .int .u64 (z1 : Nat)]] w fun e w' => e = .returned (.bool (belowB (q0, q1) (z0, z1))) ∧ Below w.heap.size w w') := fun w => ref_below (q0, q1) (z0, z1) w u0 u1 v0 v1
            generalize belowB (q0, q1) (z0, z1) = BB at *
            go_region_held3 (fun w' => w'.cell? ⟨w1.heap.size, 0, none⟩ = some (.int .u64 (q0 : Nat)) ∧ w'.cell? ⟨w1.heap.size, 1, none⟩ = some (.int .u64 (q1 : Nat)) ∧ w'.cell? ⟨b, off + k * 3, none⟩ = some (.int .u64 (z0 : Nat)) ∧ w'.cell? ⟨b, off + k * 3 + 1, none⟩ = some (.int .u64 (z1 : Nat))) (go_keep) (first
              | (go_at_call 15; refine (HBL.out _).mono ?_; rintro e wA ⟨rfl, hA⟩; have hBA := (Below.refl wr.heap.size wr).drew.trans (hA.mono (by simp)); obtain ⟨g0, g1⟩ := HLA.out wA hBA; obtain ⟨h0, h1⟩ := HXK.out wA (hbW.trans (hBA.mono hbW.size))))
            all_goals (try go_wp2_with fail)
            all_goals go_meet
            all_goals exact ⟨by rw [HBB.out], hBA⟩
        case rest =>
          obtain ⟨wd, rfl⟩ : ∃ wd, wd = wc := ⟨wc, rfl⟩
          obtain ⟨rfl, hbd⟩ := hcut
          have hbds := hbd.size
          have hbWd := hbW.trans (hbd.mono hbW.size)
          obtain ⟨UP, hUP⟩ : ∃ UP, upB last (l.getD k rc0) = UP := ⟨_, rfl⟩
          obtain ⟨BE, hBE⟩ : ∃ BE, bestTo l last k = BE := ⟨_, rfl⟩
          rw [hUP, hBE] at HSTEP
          rw [hBE] at HBST
          have HBE : Hid (bestTo l last k = BE) := hBE
          rw [hUP, hBE]
          clear hUP hBE
          have hE := run_eq_dig
          have hG := guard24
          go_upto_region 10 with fail
          go_cut [64] (fun u wx => u = .bool (UP && betB l k BE) ∧ Below wd.heap.size wd wx)
          case first =>
            cases UP with
            | false =>
              go_quiet (fail)
              go_wp2_with fail
              go_meet
              exact ⟨rfl, ⟨rfl, rfl, rfl, Nat.le_refl _, fun _ _ => rfl⟩⟩
            | true =>
              cases BE with
              | none =>
                have hm1 : bestI none = -1 := rfl
                rw [hm1]
                go_quiet (fail)
                go_wp2_with fail
                go_meet
                exact ⟨rfl, ⟨rfl, rfl, rfl, Nat.le_refl _, fun _ _ => rfl⟩⟩
              | some bi =>
                have hbi := HBST.out bi rfl
                have hm1 : bestI (some bi) = (bi : Int) := rfl
                rw [hm1]
                obtain ⟨z, hz⟩ : ∃ z : Int, (bi : Int) = z := ⟨_, rfl⟩
                rw [hz]
                have hz1 : ¬ z < 0 := by omega
                have hz2 : 0 ≤ z := by omega
                have hz3 : z < (l.length : Int) := by omega
                have htn : z.toNat = bi := by omega
                have hl37 : ∀ w, Sem.run Try.prog (binOp .lss 3 (.int .i64 z) (.int .i64 0)) w = .ok (.bool false) w := fun w => by go_simp
                have HZ : Hid ((bi : Int) = z) := hz
                clear hz hm1
                obtain ⟨v0, v1⟩ := HU.out k hlt
                obtain ⟨y0, y1⟩ := HU.out bi hbi
                obtain ⟨e0, e1⟩ := HX.out k hlt wd hbWd
                obtain ⟨f0, f1⟩ := HX.out bi hbi wd hbWd
                have HXK := HX.out k hlt
                have HXB := HX.out bi hbi
                obtain ⟨z0, hz0⟩ : ∃ z0, (l.getD k rc0).p0 = z0 := ⟨_, rfl⟩
                obtain ⟨z1, hz1⟩ : ∃ z1, (l.getD k rc0).p1 = z1 := ⟨_, rfl⟩
                obtain ⟨t0, ht0⟩ : ∃ z0, (l.getD bi rc0).p0 = z0 := ⟨_, rfl⟩
                obtain ⟨t1, ht1⟩ : ∃ z1, (l.getD bi rc0).p1 = z1 := ⟨_, rfl⟩
                rw [hz0] at HXK e0 v0
                rw [hz1] at HXK e1 v1
                rw [ht0] at HXB f0 y0
                rw [ht1] at HXB f1 y1
                have HBB : Hid (betB l k (some bi) = (belowB (z0, z1) (t0, t1) || decide ((z0, z1) = (t0, t1)))) := by rw [Hid, ← hz0, ← hz1, ← ht0, ← ht1]; rfl
                have HBL : Hid (∀ w, Calls Try.prog 15 #[.agg #[.int .u64 (z0 : Nat), .int .u64 (z1 : Nat)], .agg #[.int .u64 (t0 : Nat), .int .u64 (t1 : Nat)]] w fun e w' => e = .returned (.bool (belowB (z0, z1) (t0, t1))) ∧ Below w.heap.size w w') := fun w => ref_below (z0, z1) (t0, t1) w v0 v1 y0 y1
                have HXX : Hid (∀ w', Below wd.heap.size wd w' → w'.cell? ⟨b, off + k * 3, none⟩ = some (.int .u64 (z0 : Nat)) ∧ w'.cell? ⟨b, off + k * 3 + 1, none⟩ = some (.int .u64 (z1 : Nat)) ∧ w'.cell? ⟨b, off + bi * 3, none⟩ = some (.int .u64 (t0 : Nat)) ∧ w'.cell? ⟨b, off + bi * 3 + 1, none⟩ = some (.int .u64 (t1 : Nat))) := by
                  intro w' hb
                  obtain ⟨a1, a2⟩ := HXK w' (hbWd.trans (hb.mono hbWd.size))
                  obtain ⟨a3, a4⟩ := HXB w' (hbWd.trans (hb.mono hbWd.size))
                  exact ⟨a1, a2, a3, a4⟩
                clear HXK HXB HX HU HSTEP hz0 hz1 ht0 ht1
                by_cases hBt : belowB (z0, z1) (t0, t1) = true
                · rw [hBt] at HBB
                  have HBG : Hid (∀ w, Calls Try.prog 15 #[.agg #[.int .u64 (z0 : Nat), .int .u64 (z1 : Nat)], .agg #[.int .u64 (t0 : Nat), .int .u64 (t1 : Nat)]] w fun e w' => e = .returned (.bool true) ∧ ∃ q os, w' = grow (w.drewN q) os) := fun w => by
                    have h := ref_below_g (z0, z1) (t0, t1) w v0 v1 y0 y1
                    rw [hBt] at h
                    exact h
                  have HBR : Hid (betB l k (some bi) = true) := by rw [Hid, HBB.out]; rfl
                  have mixed : Try.prog.follows .mixedOrders = true := by kernel_rfl
                  have hbl : b < wd.heap.size := block_lt_of_cell e0
                  have ce0 := fun n os => cell_grown (a := ⟨b, off + k * 3, none⟩) hbl e0 n os
                  have ce1 := fun n os => cell_grown (a := ⟨b, off + k * 3 + 1, none⟩) hbl e1 n os
                  have cf0 := fun n os => cell_grown (a := ⟨b, off + bi * 3, none⟩) hbl f0 n os
                  have cf1 := fun n os => cell_grown (a := ⟨b, off + bi * 3 + 1, none⟩) hbl f1 n os
                  clear hBt HBB HBL e0 e1 f0 f1
                  refine wp_region_quiet_grown (by assumption) (by kernel_rfl) ?_
                  iterate 17 (quiet_step (first | (go_at_call 15; refine Calls.grown_of (HBG.out _))))
                  iterate 14 ((with_reducible refine wpQuiet_step (fun K hK => ?_)); go_simp; (with_reducible refine hK _ ?_); clear hK K)
                  with_reducible refine wpQuiet_nil ?_
                  intro _ hw'
                  obtain ⟨⟨nq, osq⟩, hw2⟩ := hw'
                  subst hw2
                  go_wp2_with fail
                  have hzz := HZ.out
                  subst hzz
                  go_meet
                  exact ⟨by rw [HBR.out]; rfl, Lib.below_grow _ _ (Nat.le_refl _) _ _⟩
                · have hBf : belowB (z0, z1) (t0, t1) = false := by simpa using hBt
                  rw [hBf] at HBB HBL
                  have HBR : Hid (betB l k (some bi) = ((z0 : Int) == (t0 : Int) && (z1 : Int) == (t1 : Int))) := by
                    rw [Hid, HBB.out, Bool.false_or]
                    by_cases h : z0 = t0 <;> by_cases h' : z1 = t1 <;> simp [h, h'] <;> omega
                  clear hBt hBf HBB
                  first | (go_region_held3 (fun w' => w'.cell? ⟨b, off + k * 3, none⟩ = some (.int .u64 (z0 : Nat)) ∧ w'.cell? ⟨b, off + k * 3 + 1, none⟩ = some (.int .u64 (z1 : Nat)) ∧ w'.cell? ⟨b, off + bi * 3, none⟩ = some (.int .u64 (t0 : Nat)) ∧ w'.cell? ⟨b, off + bi * 3 + 1, none⟩ = some (.int .u64 (t1 : Nat))) (go_keep) (first | (go_at_call 15; refine (HBL.out _).mono ?_; rintro e wA ⟨rfl, hA⟩; have hBA := (Below.refl wd.heap.size wd).drew.trans (hA.mono (by simp)); obtain ⟨g0, g1, g2, g3⟩ := HXX.out wA hBA)))
                  all_goals (try go_wp2_with fail)
                  all_goals (have hzz := HZ.out; subst hzz)
                  all_goals go_meet
                  all_goals exact ⟨by rw [HBR.out]; rfl, hBA⟩
          case rest =>
            obtain ⟨rfl, hbe⟩ := hcut
            have hbe2 := (hbm.trans (hbd.mono hbms)).trans (hbe.mono (by omega))
            cases hcc : (UP && betB l k BE) with
            | false =>
              rw [hcc] at HSTEP
              have HS2 : Hid (bestTo l last (k + 1) = BE) := by rw [Hid, HSTEP.out]; rfl
              clear hcc
              go_wp2
              go_roundw
              case rel => exact ⟨k + 1, by omega, by go_num, by rw [HS2.out], hbe2⟩
              case measure => simp [intOf]; omega
            | true =>
              rw [hcc] at HSTEP
              have HS2 : Hid (bestTo l last (k + 1) = some k) := by rw [Hid, HSTEP.out]; rfl
              clear hcc
              go_wp2
              go_roundw
              case rel => exact ⟨k + 1, by omega, by go_num, by rw [HS2.out]; rfl, hbe2⟩
              case measure => simp [intOf]; omega
      · have hkl : k = l.length := by omega
        subst hkl
        obtain ⟨f, rfl⟩ : ∃ g, f = g + 1 := ⟨f - 1, by omega⟩
        obtain ⟨BE, hBE⟩ : ∃ BE, bestTo l last l.length = BE := ⟨_, rfl⟩
        have HBE : Hid (bestTo l last l.length = BE) := hBE
        rw [hBE]
        cases BE with
        | none =>
          have HEQ : Hid (FULL = pre) := by rw [Hid, HFU.out, compL, HBE.out]; simp
          have hm1 : bestI none = -1 := rfl
          rw [hm1]
          have hbb := hb1.trans (hbW.mono hb1s)
          go_wp2
          go_ret
          exact ⟨by rw [HEQ.out]; rfl, hbb⟩
        | some bi =>
          obtain ⟨hbi, hup⟩ := best_up hBE
          have hm1 : bestI (some bi) = (bi : Int) := rfl
          rw [hm1]
          obtain ⟨b, off, aO, cO, hx, x0, x1, x2, hd⟩ := rs_at HRW.out hbi
          subst hx
          have HEQ : Hid (FULL = (pre ++ toldL l[bi]) ++ compL l f (some (prt l[bi]))) := by
            have e : l.getD bi rc0 = l[bi] := by simp [hbi]
            rw [Hid, HFU.out, compL, HBE.out]
            simp only [e, List.append_assoc]
          have HCL : Hid (cntUp l (some (prt l[bi])) < f) := by
            have e : l.getD bi rc0 = l[bi] := by simp [hbi]
            have := cnt_less hBE
            rw [e] at this
            rw [Hid]; omega
          obtain ⟨ho2, hp0, hp1⟩ := HL2.out _ (List.getElem_mem hbi)
          have htl := told_len l[bi]
          have hFpre : pre.length + (toldL l[bi]).length ≤ FULL.length := by
            have := congrArg List.length HEQ.out
            simp only [List.length_append] at this
            omega
          have HPR : Hid (prt l[bi] = (l[bi].p0, l[bi].p1)) := rfl
          rw [HPR.out] at HEQ HCL
          generalize l[bi] = r at *
          have HTD : Hid (∀ w, Ds w (.slice aO r.outs.length cO) r.outs → Calls Try.prog 16 #[.agg #[.int .u64 (r.p0 : Nat), .int .u64 (r.p1 : Nat), .slice aO r.outs.length cO]] w fun e w' => e = .returned (.string (bsL (toldL r))) ∧ Below w.heap.size w w') := fun w h => ref_Told r _ w h hp0 hp1 (by omega)
          have HDR : Hid (Ds wr (.slice aO r.outs.length cO) r.outs) := hd.below hbW
          have HCE : Hid (∀ w', Below wr.heap.size wr w' → w'.cell? ⟨b, off + bi * 3, none⟩ = some (.int .u64 (r.p0 : Nat)) ∧ w'.cell? ⟨b, off + bi * 3 + 1, none⟩ = some (.int .u64 (r.p1 : Nat)) ∧ w'.cell? ⟨b, off + bi * 3 + 2, none⟩ = some (.slice aO r.outs.length cO)) := by
            intro w' hb
            have hb2 := hbW.trans (hb.mono hbW.size)
            exact ⟨(hb2.cell (p := ⟨b, off + bi * 3, none⟩) (block_lt_of_cell x0)).trans x0, (hb2.cell (p := ⟨b, off + bi * 3 + 1, none⟩) (block_lt_of_cell x1)).trans x1, (hb2.cell (p := ⟨b, off + bi * 3 + 2, none⟩) (block_lt_of_cell x2)).trans x2⟩
          obtain ⟨y0, y1, y2⟩ := HCE.out wr (Below.refl _ _)
          have HBL : Hid (∀ w', Below wr.heap.size wr w' → w'.heap[w1.heap.size]? = some (.cells #[.int .u64 ((l0 last).1 : Nat), .int .u64 ((l0 last).2 : Nat)] 24 (0, 0))) := fun w' hb => (hb.block _ (blk_lt' hblm)).trans hblm
          have hsz : (bsL (toldL r)).size = (toldL r).length := bsL_size _
          have hsp : (bsL pre).size = pre.length := bsL_size _
          have HJ : Hid (bsL pre ++ bsL (toldL r) = bsL (pre ++ toldL r)) := bsL_add _ _
          have HU2 : Hid (U64 r.p0 ∧ U64 r.p1) := ⟨hp0, hp1⟩
          obtain ⟨TL, hTL⟩ : ∃ TL, toldL r = TL := ⟨_, rfl⟩
          rw [hTL] at HEQ HTD htl hFpre hsz HJ
          clear hTL x0 x1 x2 hd hblm HFU HBE hBE
          have hz1 : ¬ 9223372036854775807 < (bsL pre).size + (bsL TL).size := by omega
          obtain ⟨BT, hBT⟩ : ∃ BT, bsL TL = BT := ⟨_, rfl⟩
          rw [hBT] at HTD hsz HJ hz1
          clear hBT
          go_wp2_with fail
          refine (HTD.out _ HDR.out).mono ?_
          rintro e w5 ⟨rfl, hb5⟩
          obtain ⟨q0, q1, q2⟩ := HCE.out w5 hb5
          have hbk5 := HBL.out w5 hb5
          have hbk5s := blk_lt' hbk5
          have k0 : w5.cell? ⟨w1.heap.size, 0, none⟩ = some (.int .u64 ((l0 last).1 : Nat)) := by rw [cell_of_row w5 _ _ _ 24 (0, 0) hbk5]; rfl
          have k1 : w5.cell? ⟨w1.heap.size, 1, none⟩ = some (.int .u64 ((l0 last).2 : Nat)) := by rw [cell_of_row w5 _ _ _ 24 (0, 0) hbk5]; rfl
          have kf : ∀ j, w5.frozen? ⟨w1.heap.size, j, none⟩ = false := fun j => by simp [World.frozen?, hbk5]
          have HB5 : Hid (Below w1.heap.size w1 w5) := hbW.trans (hb5.mono hbW.size)
          have HNB : Hid (((w5.setCell ⟨w1.heap.size, 0, none⟩ (.int .u64 (r.p0 : Nat))).setCell ⟨w1.heap.size, 1, none⟩ (.int .u64 (r.p1 : Nat))).heap[w1.heap.size]? = some (.cells #[.int .u64 (r.p0 : Nat), .int .u64 (r.p1 : Nat)] 24 (0, 0))) := by
            have h1 := heap_setCell_same w5 w1.heap.size 0 _ 24 (.int .u64 (r.p0 : Nat)) hbk5
            have h2 := heap_setCell_same _ w1.heap.size 1 _ 24 (.int .u64 (r.p1 : Nat)) h1
            rw [Hid, h2]; rfl
          clear hbk5
          go_wp2
          go_roundw
          case rel =>
            refine ⟨some (r.p0, r.p1), f, pre ++ TL, by rw [← HJ.out], rfl, HEQ.out, HCL.out, HU2.out.1, HU2.out.2, HNB.out, (HB5.out.setCell (Nat.le_refl _) _).setCell (Nat.le_refl _) _⟩
          case measure =>
            rw [HJ.out]
            simp only [szOf, bsL_size, List.length_append]
            omega
end Go.Proofs.Ytoabakgmjcnodaa
