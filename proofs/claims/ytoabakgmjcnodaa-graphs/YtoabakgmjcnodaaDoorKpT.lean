import Derived.Test.YtoabakgmjcnodaaDoorKpTwo
import Derived.Deep.DeepCutAuto
namespace Go.Proofs.YtoabakgmjcnodaaDoor
open Go.ChangeShapes Go.WideShapes Go.ChangeAt Go.RowKit

/-- The rows from place m on, the other way round. -/
def revRows (xs : Nat → List Value) (m : Nat) : Nat → List Value := fun j => if j < 6 then ((xs j).drop m).reverse else []
theorem revRows_next {xs : Nat → List Value} {m : Nat} {us : Nat → Value} (h : ∀ j, j < 6 → (xs j)[m]? = some (us j)) :
    up (up (up (up (up (up (revRows xs (m + 1)) 0 (revRows xs (m + 1) 0 ++ [us 0])) 1 (revRows xs (m + 1) 1 ++ [us 1])) 2 (revRows xs (m + 1) 2 ++ [us 2])) 3 (revRows xs (m + 1) 3 ++ [us 3])) 4 (revRows xs (m + 1) 4 ++ [us 4])) 5 (revRows xs (m + 1) 5 ++ [us 5]) = revRows xs m := by
  have key : ∀ j, j < 6 → revRows xs (m + 1) j ++ [us j] = revRows xs m j := by
    intro j hj
    obtain ⟨h1, h2⟩ := List.getElem?_eq_some_iff.1 (h j hj)
    unfold revRows
    rw [if_pos hj, if_pos hj, List.drop_eq_getElem_cons h1, List.reverse_cons, h2]
  funext j
  rcases (show j = 0 ∨ j = 1 ∨ j = 2 ∨ j = 3 ∨ j = 4 ∨ j = 5 ∨ 6 ≤ j by omega) with rfl | rfl | rfl | rfl | rfl | rfl | h6
  · rw [← key 0 (by omega)]; simp [up]
  · rw [← key 1 (by omega)]; simp [up]
  · rw [← key 2 (by omega)]; simp [up]
  · rw [← key 3 (by omega)]; simp [up]
  · rw [← key 4 (by omega)]; simp [up]
  · rw [← key 5 (by omega)]; simp [up]
  · simp only [up, revRows, if_neg (show ¬ j < 6 by omega), if_neg (show ¬ j = 0 by omega), if_neg (show ¬ j = 1 by omega), if_neg (show ¬ j = 2 by omega), if_neg (show ¬ j = 3 by omega), if_neg (show ¬ j = 4 by omega), if_neg (show ¬ j = 5 by omega)]
theorem revRows_len {xs : Nat → List Value} {n : Nat} (h : ∀ j, j < 6 → (xs j).length = n) (m : Nat) : ∀ j, j < 6 → (revRows xs m j).length = n - m := by
  intro j hj
  unfold revRows
  rw [if_pos hj, List.length_reverse, List.length_drop, h j hj]
theorem kr_zero (w : World) : KR (w.alloc (.cells #[.slice none 0 0, .slice none 0 0, .slice none 0 0, .slice none 0 0, .slice none 0 0, .slice none 0 0, .slice none 0 0] 39)) w.heap.size (fun k => k = w.heap.size) (fun _ => .slice none 0 0) (fun _ => []) := by
  refine ⟨heap_alloc_new w _, fun j hj => World.ownsRow_nil _ _ _ _, ?_, ?_, rfl, ?_, fun j _ => by simp⟩
  · intro j _ k hk; simp [Value.ownBlock] at hk
  · intro i j _ _ _ k hk; simp [Value.ownBlock] at hk
  · intro k hk; simp [hk]
theorem turn_app {w W Wb w1 : World} {qb : Nat} {M : Nat → Prop} {V : Nat → Value} {X : Nat → List Value} (R : KR W qb M V X) (hlow : ∀ k, M k → w.heap.size ≤ k) (hbel : Below w.heap.size w W)
    {j gg cap n : Nat} {u : Value} (hj : j < 7) (hn : n = (X j).length) (h12 : n < 12) (hWb : Below W.heap.size W Wb)
    (hown : w1.ownsRow (qb + 1) (kty j) 1 (.slice (some ⟨gg, 0, none⟩) (n + 1) cap) (n + 1) (X j ++ [u]))
    (hg : Wb.grownBy w1 (V j).ownBlock) (hat : (V j).ownBlock = some gg ∨ W.heap.size ≤ gg) :
    ∃ M1 V1, KR (w1.setCell ⟨qb, j, none⟩ (.slice (some ⟨gg, 0, none⟩) (n + 1) cap)) qb M1 V1 (up X j (X j ++ [u])) ∧ (∀ k, M1 k → w.heap.size ≤ k) ∧
      Below w.heap.size w (w1.setCell ⟨qb, j, none⟩ (.slice (some ⟨gg, 0, none⟩) (n + 1) cap)) := by
  obtain ⟨M1, R1, hS, hM⟩ := R.app hj hn h12 hWb hown hg hat
  refine ⟨M1, _, R1, fun k hk => (hM k hk).elim (hlow k) (fun h => by have := hbel.size; omega), hbel.trans ?_⟩
  exact hS.below hbel.size hlow

theorem KR.rowsx {w : World} {pb : Nat} {M : Nat → Prop} {v : Nat → Value} {xs ys : Nat → List Value} (R : KR w pb M v xs) (h : xs = ys) : KR w pb M v ys := h ▸ R

set_option maxRecDepth 10000 in
set_option maxHeartbeats 4000000 in
theorem kp_turn {w : World} {pb : Nat} {M : Nat → Prop} {v : Nat → Value} {K : List KT} {ord : List Nat} {cO cI : List Value} (P : KPl w pb M v K ord cO cI) :
    Calls Tryd.prog 21 #[.pointer (some ⟨pb, 0, none⟩)] w fun e w' => e = .returned (.tuple #[]) ∧
      ∃ M1 v1, KPl w' pb M1 v1 K.reverse ord cO.reverse cI.reverse ∧ Same M w w' ∧ ∀ q, M1 q → M q ∨ w.heap.size ≤ q := by
  have hfew := P.few
  obtain ⟨a0, q0, _, _, p0, _⟩ := P.R.ready 0 (by omega) rfl (P.len 0 (by omega))
  have hpb := blk_lt P.R.blk
  obtain ⟨n, hn⟩ : ∃ n, K.length = n := ⟨_, rfl⟩
  have HN : Hid (K.length = n) := hn
  have HP : Hid (KPl w pb M v K ord cO cI) := P
  obtain ⟨xs, hxs⟩ : ∃ xs, rowsOf K ord cO cI = xs := ⟨_, rfl⟩
  have HXS : Hid (rowsOf K ord cO cI = xs) := hxs
  have HL6 : Hid (∀ j, j < 6 → (xs j).length = n) := by rw [Hid, ← hxs, ← hn]; exact P.len
  rw [hn] at p0 hfew
  clear hn hxs P
  obtain ⟨i0, hi, hz0, hz1, hz2⟩ := info_parts Tryd.info9
  obtain ⟨i1, hi1, hz10, hz11, hz12⟩ := info_parts Tryd.info36
  obtain ⟨i2, hi2, hz20, hz21, hz22⟩ := info_parts Tryd.info3i
  go_enter Tryd.func21, Tryd.ntmps21
  go_wp2_with fail
  go_loopw [4] (fun r wr => ∃ m : Nat, m ≤ n ∧ r = .int .i64 ((m : Int) - 1) ∧ ∃ Mq Vq, KR wr w.heap.size Mq Vq (revRows xs m) ∧ (∀ k, Mq k → w.heap.size ≤ k) ∧ Below w.heap.size w wr) (fun r _ => (intOf r + 1).toNat)
  case atStart =>
    have e : revRows xs n = fun _ => [] := by
      funext j
      unfold revRows
      split
      · rename_i hj
        rw [List.drop_of_length_le (by rw [HL6.out j hj]; exact Nat.le_refl _)]; rfl
      · rfl
    refine ⟨n, Nat.le_refl _, rfl, fun k => k = w.heap.size, fun _ => .slice none 0 0, ?_, fun k hk => Nat.le_of_eq hk.symm, (Below.refl _ _).alloc (Nat.le_refl _) _⟩
    rw [e]
    exact kr_zero w
  case round =>
    obtain ⟨m0, hm, rfl, Mq, Vq, R0, HL0, HB0⟩ := hrel
    by_cases hm0 : 0 < m0
    · obtain ⟨m, rfl⟩ : ∃ k, m0 = k + 1 := ⟨m0 - 1, by omega⟩
      have hix : (((m + 1 : Nat) : Int) - 1) = (m : Int) := by omega
      rw [hix]
      have hmK : m < K.length := by rw [HN.out]; omega
      obtain ⟨uO, hO1, hO2, -⟩ := HP.out.eO m hmK
      obtain ⟨uI, hI1, hI2, -⟩ := HP.out.eI m hmK
      obtain ⟨aO, cO2, rfl, -, -⟩ := hO2
      obtain ⟨aI, cI2, rfl, -, -⟩ := hI2
      obtain ⟨us, hus⟩ : ∃ us : Nat → Value, us = fun j => if j = 0 then .string K[m].act else if j = 1 then .slice aO K[m].outs.length cO2 else if j = 2 then .slice aI K[m].ins.length cI2 else if j = 3 then .int .i64 K[m].cost else if j = 4 then .int .i64 K[m].jobs else .int .i64 K[m].pool := ⟨_, rfl⟩
      have HU : Hid (∀ j, j < 6 → (rowsOf K ord cO cI j)[m]? = some (us j)) := by
        intro j hj
        rcases (show j = 0 ∨ j = 1 ∨ j = 2 ∨ j = 3 ∨ j = 4 ∨ j = 5 by omega) with rfl | rfl | rfl | rfl | rfl | rfl
        · simp [rowsOf, hmK, hus]
        · rw [hus]; exact hO1
        · rw [hus]; exact hI1
        all_goals simp [rowsOf, hmK, hus]
      have HU2 : Hid (∀ j, j < 6 → (xs j)[m]? = some (us j)) := by rw [Hid, ← HXS.out]; exact HU.out
      have HNXT := revRows_next HU2.out
      have h0 : us 0 = .string K[m].act := by rw [hus]; rfl
      have h1 : us 1 = .slice aO K[m].outs.length cO2 := by rw [hus]; rfl
      have h2 : us 2 = .slice aI K[m].ins.length cI2 := by rw [hus]; rfl
      have h3 : us 3 = .int .i64 K[m].cost := by rw [hus]; rfl
      have h4 : us 4 = .int .i64 K[m].jobs := by rw [hus]; rfl
      have h5 : us 5 = .int .i64 K[m].pool := by rw [hus]; rfl
      rw [h0, h1, h2, h3, h4, h5] at HNXT
      replace HU : Hid (∀ j, j < 6 → (rowsOf K ord cO cI j)[m]? = some (if j = 0 then .string K[m].act else if j = 1 then .slice aO K[m].outs.length cO2 else if j = 2 then .slice aI K[m].ins.length cI2 else if j = 3 then .int .i64 K[m].cost else if j = 4 then .int .i64 K[m].jobs else .int .i64 K[m].pool)) := by rw [hus] at HU; exact HU
      obtain ⟨e, he0⟩ : ∃ e, e = n - (m + 1) := ⟨_, rfl⟩
      have he : e < 12 := by omega
      have hmn : m < n := by omega
      have HXN : Hid (∀ j, j < 6 → (revRows xs (m + 1) j).length = e) := by rw [Hid, he0]; exact revRows_len HL6.out (m + 1)
      have HNX : Hid (up (up (up (up (up (up (revRows xs (m + 1)) 0 (revRows xs (m + 1) 0 ++ [.string K[m].act])) 1 (revRows xs (m + 1) 1 ++ [.slice aO K[m].outs.length cO2])) 2 (revRows xs (m + 1) 2 ++ [.slice aI K[m].ins.length cI2])) 3 (revRows xs (m + 1) 3 ++ [.int .i64 K[m].cost])) 4 (revRows xs (m + 1) 4 ++ [.int .i64 K[m].jobs])) 5 (revRows xs (m + 1) 5 ++ [.int .i64 K[m].pool]) = revRows xs m) := HNXT
      clear HU2 HNXT h0 h1 h2 h3 h4 h5 hus he0 hO1 hI1
      generalize K[m].act = act at *
      generalize K[m].outs.length = lO at *
      generalize K[m].ins.length = lI at *
      generalize K[m].cost = cst at *
      generalize K[m].jobs = jbs at *
      generalize K[m].pool = pol at *
      clear hmK us
      go_upto_region 5 with fail
      obtain ⟨ax, cx, hv, hox, hc, hf⟩ := R0.ready 0 (by omega) (x := revRows xs (m + 1) 0) (n := e) rfl (HXN.out 0 (by omega))
      have hpl := blk_lt R0.blk
      have hqf : ∀ o, (World.alloc wr o).frozen? ⟨w.heap.size, 0, none⟩ = false := fun o => (World.frozen?_of_block (Below.heap_alloc _ _ _ hpl)).trans hf
      have hqc : ∀ o, (World.alloc wr o).cell? ⟨w.heap.size, 0, none⟩ = some (.slice ax e cx) := fun o => (World.cell?_of_block (Below.heap_alloc _ _ _ hpl)).trans hc
      have hne : some w.heap.size ≠ (Value.slice ax e cx).ownBlock := fun q => by have := (hox.lt _ q.symm).1; omega
      obtain ⟨gp, dp, yp, xp⟩ := (HP.out.same HB0).at (j := 0) (by omega) (i := m) (HU.out 0 (by omega))
      replace xp : World.cell? wr ⟨gp, m, none⟩ = some (.string act) := xp
      rw [HN.out] at yp
      have hb0 := Below.size HB0
      go_cut [] (fun wx => ∃ M1 V1, KR wx w.heap.size M1 V1 (up (revRows xs (m + 1)) 0 (revRows xs (m + 1) 0 ++ [(.string act)])) ∧ (∀ k, M1 k → w.heap.size ≤ k) ∧ Below w.heap.size w wx)
      case first =>
        go_region_law (refine step_append_lies _ (by rfl) _ _ _ (by rfl) (w.heap.size + 1) 9 i0 _ 1 16 Tryd.underlying36 hi hz0 hz1 hz2 rfl (by omega) _ e (revRows xs (m + 1) 0) (by rfl) ((hox.alloc _).drew) ⟨wr.heap.size, 0, none⟩ 1 1 [(.string act)] (by rfl) (by rfl) (World.news_of_block (cs := #[(.string act)]) (t := 9) (fr := (0, 0)) (alloc_drew_new wr _ _ (by simp))) (by simp [Value.oneCell']) (by omega) (by unfold maxLen; omega) (by omega) (by simp; omega) (wr.heap.size + 1) (by simp) ?_; intro gg cap w4 hown hgrow hat hlt1; have hfz : w4.frozen? ⟨w.heap.size, 0, none⟩ = false := (hgrow.frozen_far _ (by simp; omega) hne).trans (by simpa using hqf _); have hcz : w4.cell? ⟨w.heap.size, 0, none⟩ = some (.slice ax e cx) := (hgrow.cell_far _ (by simp; omega) hne).trans (by simpa using hqc _))
        all_goals
          go_wp2_with fail
          go_meet
          exact turn_app R0 HL0 HB0 (j := 0) (n := e) (by omega) (HXN.out 0 (by omega)).symm he (((Below.refl _ _).alloc (Nat.le_refl _) _).drew) hown (by rw [hv]; exact hgrow) (by rw [hv]; exact hat.imp id (fun h => by omega))
      case rest =>
      obtain ⟨M1, V1, R1, HL1, HB1⟩ := hcut
      clear hqf hqc hox hc hf hne hpl hv yp xp hb0 R0 HL0 HB0
      go_upto_region 6 with fail
      obtain ⟨ax, cx, hv, hox, hc, hf⟩ := R1.ready 1 (by omega) (x := revRows xs (m + 1) 1) (n := e) rfl (HXN.out 1 (by omega))
      have hpl := blk_lt R1.blk
      have hqf : ∀ o, (World.alloc wc o).frozen? ⟨w.heap.size, 1, none⟩ = false := fun o => (World.frozen?_of_block (Below.heap_alloc _ _ _ hpl)).trans hf
      have hqc : ∀ o, (World.alloc wc o).cell? ⟨w.heap.size, 1, none⟩ = some (.slice ax e cx) := fun o => (World.cell?_of_block (Below.heap_alloc _ _ _ hpl)).trans hc
      have hne : some w.heap.size ≠ (Value.slice ax e cx).ownBlock := fun q => by have := (hox.lt _ q.symm).1; omega
      obtain ⟨gp, dp, yp, xp⟩ := (HP.out.same HB1).at (j := 1) (by omega) (i := m) (HU.out 1 (by omega))
      replace xp : World.cell? wc ⟨gp, m, none⟩ = some (.slice aO lO cO2) := xp
      rw [HN.out] at yp
      have hb0 := Below.size HB1
      go_cut [] (fun wx => ∃ M1 V1, KR wx w.heap.size M1 V1 (up (up (revRows xs (m + 1)) 0 (revRows xs (m + 1) 0 ++ [(.string act)])) 1 (revRows xs (m + 1) 1 ++ [(.slice aO lO cO2)])) ∧ (∀ k, M1 k → w.heap.size ≤ k) ∧ Below w.heap.size w wx)
      case first =>
        go_region_law (refine step_append_lies _ (by rfl) _ _ _ (by rfl) (w.heap.size + 1) 36 i1 _ 1 24 Tryd.underlying37 hi1 hz10 hz11 hz12 rfl (by omega) _ e (revRows xs (m + 1) 1) (by rfl) ((hox.alloc _).drew) ⟨wc.heap.size, 0, none⟩ 1 1 [(.slice aO lO cO2)] (by rfl) (by rfl) (World.news_of_block (cs := #[(.slice aO lO cO2)]) (t := 36) (fr := (0, 0)) (alloc_drew_new wc _ _ (by simp))) (by simp [Value.oneCell']) (by omega) (by unfold maxLen; omega) (by omega) (by simp; omega) (wc.heap.size + 1) (by simp) ?_; intro gg cap w4 hown hgrow hat hlt1; have hfz : w4.frozen? ⟨w.heap.size, 1, none⟩ = false := (hgrow.frozen_far _ (by simp; omega) hne).trans (by simpa using hqf _); have hcz : w4.cell? ⟨w.heap.size, 1, none⟩ = some (.slice ax e cx) := (hgrow.cell_far _ (by simp; omega) hne).trans (by simpa using hqc _))
        all_goals
          go_wp2_with fail
          go_meet
          exact turn_app R1 HL1 HB1 (j := 1) (n := e) (by omega) (HXN.out 1 (by omega)).symm he (((Below.refl _ _).alloc (Nat.le_refl _) _).drew) hown (by rw [hv]; exact hgrow) (by rw [hv]; exact hat.imp id (fun h => by omega))
      case rest =>
      obtain ⟨M2, V2, R2, HL2, HB2⟩ := hcut
      clear hqf hqc hox hc hf hne hpl hv yp xp hb0 R1 HL1 HB1
      go_upto_region 7 with fail
      obtain ⟨ax, cx, hv, hox, hc, hf⟩ := R2.ready 2 (by omega) (x := revRows xs (m + 1) 2) (n := e) rfl (HXN.out 2 (by omega))
      have hpl := blk_lt R2.blk
      have hqf : ∀ o, (World.alloc wc o).frozen? ⟨w.heap.size, 2, none⟩ = false := fun o => (World.frozen?_of_block (Below.heap_alloc _ _ _ hpl)).trans hf
      have hqc : ∀ o, (World.alloc wc o).cell? ⟨w.heap.size, 2, none⟩ = some (.slice ax e cx) := fun o => (World.cell?_of_block (Below.heap_alloc _ _ _ hpl)).trans hc
      have hne : some w.heap.size ≠ (Value.slice ax e cx).ownBlock := fun q => by have := (hox.lt _ q.symm).1; omega
      obtain ⟨gp, dp, yp, xp⟩ := (HP.out.same HB2).at (j := 2) (by omega) (i := m) (HU.out 2 (by omega))
      replace xp : World.cell? wc ⟨gp, m, none⟩ = some (.slice aI lI cI2) := xp
      rw [HN.out] at yp
      have hb0 := Below.size HB2
      go_cut [] (fun wx => ∃ M1 V1, KR wx w.heap.size M1 V1 (up (up (up (revRows xs (m + 1)) 0 (revRows xs (m + 1) 0 ++ [(.string act)])) 1 (revRows xs (m + 1) 1 ++ [(.slice aO lO cO2)])) 2 (revRows xs (m + 1) 2 ++ [(.slice aI lI cI2)])) ∧ (∀ k, M1 k → w.heap.size ≤ k) ∧ Below w.heap.size w wx)
      case first =>
        go_region_law (refine step_append_lies _ (by rfl) _ _ _ (by rfl) (w.heap.size + 1) 36 i1 _ 1 24 Tryd.underlying37 hi1 hz10 hz11 hz12 rfl (by omega) _ e (revRows xs (m + 1) 2) (by rfl) ((hox.alloc _).drew) ⟨wc.heap.size, 0, none⟩ 1 1 [(.slice aI lI cI2)] (by rfl) (by rfl) (World.news_of_block (cs := #[(.slice aI lI cI2)]) (t := 36) (fr := (0, 0)) (alloc_drew_new wc _ _ (by simp))) (by simp [Value.oneCell']) (by omega) (by unfold maxLen; omega) (by omega) (by simp; omega) (wc.heap.size + 1) (by simp) ?_; intro gg cap w4 hown hgrow hat hlt1; have hfz : w4.frozen? ⟨w.heap.size, 2, none⟩ = false := (hgrow.frozen_far _ (by simp; omega) hne).trans (by simpa using hqf _); have hcz : w4.cell? ⟨w.heap.size, 2, none⟩ = some (.slice ax e cx) := (hgrow.cell_far _ (by simp; omega) hne).trans (by simpa using hqc _))
        all_goals
          go_wp2_with fail
          go_meet
          exact turn_app R2 HL2 HB2 (j := 2) (n := e) (by omega) (HXN.out 2 (by omega)).symm he (((Below.refl _ _).alloc (Nat.le_refl _) _).drew) hown (by rw [hv]; exact hgrow) (by rw [hv]; exact hat.imp id (fun h => by omega))
      case rest =>
      obtain ⟨M3, V3, R3, HL3, HB3⟩ := hcut
      clear hqf hqc hox hc hf hne hpl hv yp xp hb0 R2 HL2 HB2
      go_upto_region 8 with fail
      obtain ⟨ax, cx, hv, hox, hc, hf⟩ := R3.ready 3 (by omega) (x := revRows xs (m + 1) 3) (n := e) rfl (HXN.out 3 (by omega))
      have hpl := blk_lt R3.blk
      have hqf : ∀ o, (World.alloc wc o).frozen? ⟨w.heap.size, 3, none⟩ = false := fun o => (World.frozen?_of_block (Below.heap_alloc _ _ _ hpl)).trans hf
      have hqc : ∀ o, (World.alloc wc o).cell? ⟨w.heap.size, 3, none⟩ = some (.slice ax e cx) := fun o => (World.cell?_of_block (Below.heap_alloc _ _ _ hpl)).trans hc
      have hne : some w.heap.size ≠ (Value.slice ax e cx).ownBlock := fun q => by have := (hox.lt _ q.symm).1; omega
      obtain ⟨gp, dp, yp, xp⟩ := (HP.out.same HB3).at (j := 3) (by omega) (i := m) (HU.out 3 (by omega))
      replace xp : World.cell? wc ⟨gp, m, none⟩ = some (.int .i64 (cst : Int)) := xp
      rw [HN.out] at yp
      have hb0 := Below.size HB3
      go_cut [] (fun wx => ∃ M1 V1, KR wx w.heap.size M1 V1 (up (up (up (up (revRows xs (m + 1)) 0 (revRows xs (m + 1) 0 ++ [(.string act)])) 1 (revRows xs (m + 1) 1 ++ [(.slice aO lO cO2)])) 2 (revRows xs (m + 1) 2 ++ [(.slice aI lI cI2)])) 3 (revRows xs (m + 1) 3 ++ [(.int .i64 (cst : Int))])) ∧ (∀ k, M1 k → w.heap.size ≤ k) ∧ Below w.heap.size w wx)
      case first =>
        go_region_law (refine step_append_lies _ (by rfl) _ _ _ (by rfl) (w.heap.size + 1) 3 i2 _ 1 8 Tryd.underlying29 hi2 hz20 hz21 hz22 rfl (by omega) _ e (revRows xs (m + 1) 3) (by rfl) ((hox.alloc _).drew) ⟨wc.heap.size, 0, none⟩ 1 1 [(.int .i64 (cst : Int))] (by rfl) (by rfl) (World.news_of_block (cs := #[(.int .i64 (cst : Int))]) (t := 3) (fr := (0, 0)) (alloc_drew_new wc _ _ (by simp))) (by simp [Value.oneCell']) (by omega) (by unfold maxLen; omega) (by omega) (by simp; omega) (wc.heap.size + 1) (by simp) ?_; intro gg cap w4 hown hgrow hat hlt1; have hfz : w4.frozen? ⟨w.heap.size, 3, none⟩ = false := (hgrow.frozen_far _ (by simp; omega) hne).trans (by simpa using hqf _); have hcz : w4.cell? ⟨w.heap.size, 3, none⟩ = some (.slice ax e cx) := (hgrow.cell_far _ (by simp; omega) hne).trans (by simpa using hqc _))
        all_goals
          go_wp2_with fail
          go_meet
          exact turn_app R3 HL3 HB3 (j := 3) (n := e) (by omega) (HXN.out 3 (by omega)).symm he (((Below.refl _ _).alloc (Nat.le_refl _) _).drew) hown (by rw [hv]; exact hgrow) (by rw [hv]; exact hat.imp id (fun h => by omega))
      case rest =>
      obtain ⟨M4, V4, R4, HL4, HB4⟩ := hcut
      clear hqf hqc hox hc hf hne hpl hv yp xp hb0 R3 HL3 HB3
      go_upto_region 9 with fail
      obtain ⟨ax, cx, hv, hox, hc, hf⟩ := R4.ready 4 (by omega) (x := revRows xs (m + 1) 4) (n := e) rfl (HXN.out 4 (by omega))
      have hpl := blk_lt R4.blk
      have hqf : ∀ o, (World.alloc wc o).frozen? ⟨w.heap.size, 4, none⟩ = false := fun o => (World.frozen?_of_block (Below.heap_alloc _ _ _ hpl)).trans hf
      have hqc : ∀ o, (World.alloc wc o).cell? ⟨w.heap.size, 4, none⟩ = some (.slice ax e cx) := fun o => (World.cell?_of_block (Below.heap_alloc _ _ _ hpl)).trans hc
      have hne : some w.heap.size ≠ (Value.slice ax e cx).ownBlock := fun q => by have := (hox.lt _ q.symm).1; omega
      obtain ⟨gp, dp, yp, xp⟩ := (HP.out.same HB4).at (j := 4) (by omega) (i := m) (HU.out 4 (by omega))
      replace xp : World.cell? wc ⟨gp, m, none⟩ = some (.int .i64 (jbs : Int)) := xp
      rw [HN.out] at yp
      have hb0 := Below.size HB4
      go_cut [] (fun wx => ∃ M1 V1, KR wx w.heap.size M1 V1 (up (up (up (up (up (revRows xs (m + 1)) 0 (revRows xs (m + 1) 0 ++ [(.string act)])) 1 (revRows xs (m + 1) 1 ++ [(.slice aO lO cO2)])) 2 (revRows xs (m + 1) 2 ++ [(.slice aI lI cI2)])) 3 (revRows xs (m + 1) 3 ++ [(.int .i64 (cst : Int))])) 4 (revRows xs (m + 1) 4 ++ [(.int .i64 (jbs : Int))])) ∧ (∀ k, M1 k → w.heap.size ≤ k) ∧ Below w.heap.size w wx)
      case first =>
        go_region_law (refine step_append_lies _ (by rfl) _ _ _ (by rfl) (w.heap.size + 1) 3 i2 _ 1 8 Tryd.underlying29 hi2 hz20 hz21 hz22 rfl (by omega) _ e (revRows xs (m + 1) 4) (by rfl) ((hox.alloc _).drew) ⟨wc.heap.size, 0, none⟩ 1 1 [(.int .i64 (jbs : Int))] (by rfl) (by rfl) (World.news_of_block (cs := #[(.int .i64 (jbs : Int))]) (t := 3) (fr := (0, 0)) (alloc_drew_new wc _ _ (by simp))) (by simp [Value.oneCell']) (by omega) (by unfold maxLen; omega) (by omega) (by simp; omega) (wc.heap.size + 1) (by simp) ?_; intro gg cap w4 hown hgrow hat hlt1; have hfz : w4.frozen? ⟨w.heap.size, 4, none⟩ = false := (hgrow.frozen_far _ (by simp; omega) hne).trans (by simpa using hqf _); have hcz : w4.cell? ⟨w.heap.size, 4, none⟩ = some (.slice ax e cx) := (hgrow.cell_far _ (by simp; omega) hne).trans (by simpa using hqc _))
        all_goals
          go_wp2_with fail
          go_meet
          exact turn_app R4 HL4 HB4 (j := 4) (n := e) (by omega) (HXN.out 4 (by omega)).symm he (((Below.refl _ _).alloc (Nat.le_refl _) _).drew) hown (by rw [hv]; exact hgrow) (by rw [hv]; exact hat.imp id (fun h => by omega))
      case rest =>
      obtain ⟨M5, V5, R5, HL5, HB5⟩ := hcut
      clear hqf hqc hox hc hf hne hpl hv yp xp hb0 R4 HL4 HB4
      go_upto_region 10 with fail
      obtain ⟨ax, cx, hv, hox, hc, hf⟩ := R5.ready 5 (by omega) (x := revRows xs (m + 1) 5) (n := e) rfl (HXN.out 5 (by omega))
      have hpl := blk_lt R5.blk
      have hqf : ∀ o, (World.alloc wc o).frozen? ⟨w.heap.size, 5, none⟩ = false := fun o => (World.frozen?_of_block (Below.heap_alloc _ _ _ hpl)).trans hf
      have hqc : ∀ o, (World.alloc wc o).cell? ⟨w.heap.size, 5, none⟩ = some (.slice ax e cx) := fun o => (World.cell?_of_block (Below.heap_alloc _ _ _ hpl)).trans hc
      have hne : some w.heap.size ≠ (Value.slice ax e cx).ownBlock := fun q => by have := (hox.lt _ q.symm).1; omega
      obtain ⟨gp, dp, yp, xp⟩ := (HP.out.same HB5).at (j := 5) (by omega) (i := m) (HU.out 5 (by omega))
      replace xp : World.cell? wc ⟨gp, m, none⟩ = some (.int .i64 (pol : Int)) := xp
      rw [HN.out] at yp
      have hb0 := Below.size HB5
      go_region_law (refine step_append_lies _ (by rfl) _ _ _ (by rfl) (w.heap.size + 1) 3 i2 _ 1 8 Tryd.underlying29 hi2 hz20 hz21 hz22 rfl (by omega) _ e (revRows xs (m + 1) 5) (by rfl) ((hox.alloc _).drew) ⟨wc.heap.size, 0, none⟩ 1 1 [(.int .i64 (pol : Int))] (by rfl) (by rfl) (World.news_of_block (cs := #[(.int .i64 (pol : Int))]) (t := 3) (fr := (0, 0)) (alloc_drew_new wc _ _ (by simp))) (by simp [Value.oneCell']) (by omega) (by unfold maxLen; omega) (by omega) (by simp; omega) (wc.heap.size + 1) (by simp) ?_; intro gg cap w4 hown hgrow hat hlt1; have hfz : w4.frozen? ⟨w.heap.size, 5, none⟩ = false := (hgrow.frozen_far _ (by simp; omega) hne).trans (by simpa using hqf _); have hcz : w4.cell? ⟨w.heap.size, 5, none⟩ = some (.slice ax e cx) := (hgrow.cell_far _ (by simp; omega) hne).trans (by simpa using hqc _))
      all_goals
        go_wp2
        obtain ⟨M6, V6, R6, HL6b, HB6⟩ := turn_app R5 HL5 HB5 (j := 5) (u := (.int .i64 (pol : Int))) (n := e) (by omega) (HXN.out 5 (by omega)).symm he (((Below.refl _ _).alloc (Nat.le_refl _) _).drew) hown (by rw [hv]; exact hgrow) (by rw [hv]; exact hat.imp id (fun h => by omega))
        have R7 := R6.rowsx HNX.out
        go_roundw
        case rel => exact ⟨m, by omega, by go_num, M6, V6, R7, HL6b, HB6⟩
        case measure => simp [intOf]
    · have hm1 : m0 = 0 := by omega
      subst hm1
      have hle : ∀ j, j < 6 → (revRows xs 0 j).length = n := by
        intro j hj
        have := revRows_len HL6.out 0 j hj
        rwa [Nat.sub_zero] at this
      obtain ⟨b0, d0, e0, -, c0, -⟩ := R0.ready 0 (by omega) rfl (hle 0 (by omega))
      obtain ⟨b1, d1, e1, -, c1, -⟩ := R0.ready 1 (by omega) rfl (hle 1 (by omega))
      obtain ⟨b2, d2, e2, -, c2, -⟩ := R0.ready 2 (by omega) rfl (hle 2 (by omega))
      obtain ⟨b3, d3, e3, -, c3, -⟩ := R0.ready 3 (by omega) rfl (hle 3 (by omega))
      obtain ⟨b4, d4, e4, -, c4, -⟩ := R0.ready 4 (by omega) rfl (hle 4 (by omega))
      obtain ⟨b5, d5, e5, -, c5, -⟩ := R0.ready 5 (by omega) rfl (hle 5 (by omega))
      have HE : Hid (Vq 0 = .slice b0 n d0 ∧ Vq 1 = .slice b1 n d1 ∧ Vq 2 = .slice b2 n d2 ∧ Vq 3 = .slice b3 n d3 ∧ Vq 4 = .slice b4 n d4 ∧ Vq 5 = .slice b5 n d5) := ⟨e0, e1, e2, e3, e4, e5⟩
      have PW := HP.out.same HB0
      have hbk := PW.R.blk
      obtain ⟨t0, f0⟩ := PW.R.cell 0 (by omega)
      obtain ⟨t1, f1⟩ := PW.R.cell 1 (by omega)
      obtain ⟨t2, f2⟩ := PW.R.cell 2 (by omega)
      obtain ⟨t3, f3⟩ := PW.R.cell 3 (by omega)
      obtain ⟨t4, f4⟩ := PW.R.cell 4 (by omega)
      obtain ⟨t5, f5⟩ := PW.R.cell 5 (by omega)
      have hne : pb ≠ w.heap.size := by omega
      have hne2 : w.heap.size ≠ pb := by omega
      have HR0 : Hid (KR wr w.heap.size Mq Vq (revRows xs 0)) := R0
      clear e0 e1 e2 e3 e4 e5 PW hle R0
      go_wp2
      go_end0
      have hX0 : ∀ j, j < 6 → revRows xs 0 j = (rowsOf K ord cO cI j).reverse := fun j hj => by rw [HXS.out]; simp [revRows, hj]
      exact ⟨rfl, turn_end6 HP.out HR0.out hX0 HL0 HB0 HE.out⟩
end Go.Proofs.YtoabakgmjcnodaaDoor
