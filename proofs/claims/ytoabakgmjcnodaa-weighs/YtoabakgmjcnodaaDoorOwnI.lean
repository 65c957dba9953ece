import Derived.Test.YtoabakgmjcnodaaDoorOwnH
namespace Go.Proofs.YtoabakgmjcnodaaDoor
open Go.ChangeShapes Go.WideShapes Go.ChangeAt Go.RowKit

theorem Tryd.info80 : (Tryd.prog.info? 80).map (fun i => (i.zero, i.size, i.bytes)) = some (some (.agg #[.slice none 0 0, .slice none 0 0, .string ByteArray.empty, .int .i64 0, .int .i64 0, .string ByteArray.empty]), 6, 96) := by kernel_rfl

def ownAdd (S : OS) (t : OT) : OS × Nat :=
  if S.tasks.length = 24 then (S, 1)
  else if t.pool.size ≠ 0 ∧ placeI (S.pools.map (·.1)) t.pool < 0 then (S, 3)
  else if wantsB t.act t.outs.length t.ins.length = false then (S, 4)
  else if (claimRun S.tasks.length S.claims t.outs).2 = false then ({ S with claims := (claimRun S.tasks.length S.claims t.outs).1 }, 5)
  else ({ S with claims := (claimRun S.tasks.length S.claims t.outs).1, tasks := S.tasks ++ [t] }, 0)

/-- Behind the append of a task. -/
theorem app_otask {w w1 Wb : World} {rb mb : Nat} {M : Nat → Prop} {S : OS} {vP vT : Value} {cP cT : List Value} {D : DataW Unit} {gg cap : Nat} {t : OT} {vO vI : Value} (R : OPlan w rb mb M S vP vT cP cT D) (hWb : Below w.heap.size w Wb) (h24 : S.tasks.length ≤ 23)
    (sO : Strs w vO t.outs) (sI : Strs w vI t.ins) (aO : ∀ k, vO.ownBlock = some k → ¬ M k ∧ k < w.heap.size) (aI : ∀ k, vI.ownBlock = some k → ¬ M k ∧ k < w.heap.size) (lO : t.outs.length ≤ 4000) (lI : t.ins.length ≤ 4000) (zO : ∀ x ∈ t.outs, x.size ≤ 2000) (zI : ∀ x ∈ t.ins, x.size ≤ 2000)
    (hown : w1.ownsRow (rb + 1) 80 6 (.slice (some ⟨gg, 0, none⟩) (S.tasks.length + 1) cap) (S.tasks.length + 1) (cT ++ [vO, vI, .string t.act, .int .i64 t.cost, .int .i64 t.jobs, .string t.pool]))
    (hg : Wb.grownBy w1 vT.ownBlock) (hat : vT.ownBlock = some gg ∨ w.heap.size ≤ gg) :
    OPost w (w1.setCell ⟨rb, 1, none⟩ (.slice (some ⟨gg, 0, none⟩) (S.tasks.length + 1) cap)) rb mb M { S with tasks := S.tasks ++ [t] } := by
  have hpl := blk_lt R.blk
  have hbs := hWb.size
  have hgs := hg.size
  have hlow : ∀ k, vT.ownBlock = some k → rb + 1 ≤ k := fun k hk => (R.tasks.lt k hk).1
  have hb : ∀ k, k < w.heap.size → vT.ownBlock ≠ some k → w1.heap[k]? = w.heap[k]? := fun k hk hne =>
    (hg.block k (by omega) (fun e => hne e.symm)).trans (hWb.block k hk)
  have hS : Same (fun k => k = rb ∨ vT.ownBlock = some k) w (w1.setCell ⟨rb, 1, none⟩ (.slice (some ⟨gg, 0, none⟩) (S.tasks.length + 1) cap)) :=
    ((⟨hWb.os, hWb.tape, hWb.output, hWb.size, fun k hk _ => hWb.block k hk⟩ : Same _ w Wb).grown hg (fun k hk _ => .inr hk)).setCell (fun _ => .inl rfl) _
  have hM : ∀ k, (k = rb ∨ vT.ownBlock = some k) → M k := fun k h => h.elim (fun e => e ▸ R.mine) (R.mT k)
  have hM1 : ∀ k, (M k ∨ k = gg) → M k ∨ w.heap.size ≤ k := fun k h => h.elim .inl (fun h => hat.elim (fun e => .inl (R.mT k (by rw [e, h]))) (fun e => .inr (by omega)))
  have hcl := R.tasks.1
  refine ⟨fun k => M k ∨ k = gg, vP, .slice (some ⟨gg, 0, none⟩) (S.tasks.length + 1) cap, cP, cT ++ [vO, vI, .string t.act, .int .i64 t.cost, .int .i64 t.jobs, .string t.pool], D,
    ⟨blk_set ((hb rb hpl (fun e => by have := hlow _ e; omega)).trans R.blk) rfl, .inl R.mine, .inl R.mm, R.mlt, ⟨?_, R.pools.each⟩, ?_, ?_, R.keys, ?_, ?_, ?_, ?_, ?_⟩, hS.mono (fun k _ h => hM k h), hM1⟩
  · exact hS.owns R.pools.own (fun k hk h => h.elim (fun e => by have := (R.pools.own.lt k hk).1; omega) (fun e => owns_ne R.pools.own R.tasks (by decide) k hk e))
  · refine ownsRow_setCell_below ?_ (by simp) _
    simpa using hown
  · exact ownsMap_same R.map hS (fun h => h.elim (fun e => by have := R.mlt; omega) (fun e => by have := hlow _ e; have := R.mlt; omega))
  · exact fun k hk => .inl (R.mP k hk)
  · intro k hk; right; simpa [Value.ownBlock] using hk.symm
  · intro i hi
    by_cases h : i < S.tasks.length
    · obtain ⟨uO, uI, U⟩ := R.each i h
      have e : (S.tasks ++ [t])[i]'hi = S.tasks[i] := List.getElem_append_left h
      simp only [e]
      have U2 := U.same hS hM hM1
      refine ⟨uO, uI, ?_, ?_, ?_, ?_, ?_, ?_, U2.outs, U2.ins, U2.aO, U2.aI, U2.lO, U2.lI, U2.sO, U2.sI⟩
      · rw [List.getElem?_append_left (by omega)]; exact U.c0
      · rw [List.getElem?_append_left (by omega)]; exact U.c1
      · rw [List.getElem?_append_left (by omega)]; exact U.c2
      · rw [List.getElem?_append_left (by omega)]; exact U.c3
      · rw [List.getElem?_append_left (by omega)]; exact U.c4
      · rw [List.getElem?_append_left (by omega)]; exact U.c5
    · have hi' : i = S.tasks.length := by simp at hi; omega
      subst hi'
      have e : (S.tasks ++ [t])[S.tasks.length]'hi = t := by simp
      simp only [e]
      have hcell : ∀ j, (cT ++ [vO, vI, .string t.act, .int .i64 t.cost, .int .i64 t.jobs, .string t.pool])[S.tasks.length * 6 + j]? = [vO, vI, .string t.act, .int .i64 t.cost, .int .i64 t.jobs, .string t.pool][j]? := by
        intro j; rw [List.getElem?_append_right (by omega), hcl]; congr 1; omega
      have hnew : ∀ k, ¬ M k → k < w.heap.size → ¬ (M k ∨ k = gg) := fun k hk hlt h => (hM1 k h).elim hk (fun h' => by omega)
      refine ⟨vO, vI, hcell 0, hcell 1, hcell 2, hcell 3, hcell 4, hcell 5, sO.same hS (fun k hk hh => (aO k hk).1 (hM k hh)), sI.same hS (fun k hk hh => (aI k hk).1 (hM k hh)), ?_, ?_, lO, lI, zO, zI⟩
      · exact fun k hk => ⟨hnew k (aO k hk).1 (aO k hk).2, by have := (aO k hk).2; simp; omega⟩
      · exact fun k hk => ⟨hnew k (aI k hk).1 (aI k hk).2, by have := (aI k hk).2; simp; omega⟩
  · have := R.few; simp; omega
  · intro k hk
    rcases hk with h | h
    · have := R.old k h; simp; omega
    · have := (hown.lt gg rfl).2; rw [h]; simpa using this

theorem OPost.two {w W W2 W3 : World} {rb mb : Nat} {M : Nat → Prop} {S : OS} (hb : Below w.heap.size w W) (hS2 : Same M W W2) (h : OPost W2 W3 rb mb M S) : OPost w W3 rb mb M S := by
  obtain ⟨M1, a, b, c, d, e, R, hs, hM⟩ := h
  have hbs := hb.size
  have hs2 := hS2.size
  refine ⟨M1, a, b, c, d, e, R, ?_, fun k hk => (hM k hk).elim .inl (fun h => .inr (by omega))⟩
  exact (Same.trans ⟨hb.os, hb.tape, hb.output, hb.size, fun k hk _ => hb.block k hk⟩ hS2).trans hs

set_option maxRecDepth 10000 in
set_option maxHeartbeats 4000000 in
theorem own_addTask (w : World) (rb mb : Nat) (M : Nat → Prop) (S : OS) (vP vT : Value) (cP cT : List Value) (D : DataW Unit) (R : OPlan w rb mb M S vP vT cP cT D) (hV : Vars w) (t : OT) (vO vI : Value)
    (sO : Strs w vO t.outs) (sI : Strs w vI t.ins) (aO : ∀ k, vO.ownBlock = some k → ¬ M k ∧ k < w.heap.size) (aI : ∀ k, vI.ownBlock = some k → ¬ M k ∧ k < w.heap.size) (lO : t.outs.length ≤ 4000) (lI : t.ins.length ≤ 4000) (zO : ∀ x ∈ t.outs, x.size ≤ 2000) (zI : ∀ x ∈ t.ins, x.size ≤ 2000) (hcl : S.claims.length ≤ 900000) :
    Calls Tryd.prog 42 #[.pointer (some ⟨rb, 0, none⟩), .agg #[vO, vI, .string t.act, .int .i64 t.cost, .int .i64 t.jobs, .string t.pool]] w fun e w' => e = .returned (.int .i64 (ownAdd S t).2) ∧ OPost w w' rb mb M (ownAdd S t).1 := by
  obtain ⟨i0, hi, hz0, hz1, hz2⟩ := info_parts Tryd.info80
  obtain ⟨outs, act, ins, cost, jobs, pool⟩ := t
  simp only at sO sI lO lI zO zI ⊢
  obtain ⟨aO0, cO, rfl, _, _⟩ := id sO
  obtain ⟨aI0, cI, rfl, _, _⟩ := id sI
  obtain ⟨RT, hRT⟩ : ∃ RT, ownAdd S ⟨outs, act, ins, cost, jobs, pool⟩ = RT := ⟨_, rfl⟩
  rw [hRT]
  have HR : Hid (ownAdd S ⟨outs, act, ins, cost, jobs, pool⟩ = RT) := hRT
  clear hRT
  obtain ⟨aT, qT, hvT⟩ := owns_shape R.tasks
  have hbA := (Below.refl w.heap.size w).alloc (Nat.le_refl _) (.cells #[.slice aO0 outs.length cO, .slice aI0 ins.length cI, .string act, .int .i64 cost, .int .i64 jobs, .string pool] 80)
  obtain ⟨p0, p1, p2, pf⟩ := three R.blk
  have hrl := blk_lt R.blk
  have p1' := p1
  rw [hvT] at p1'
  have q1 : ∀ o, (w.alloc o).cell? ⟨rb, 1, none⟩ = some (.slice aT S.tasks.length qT) := fun o => (World.cell?_of_block (Below.heap_alloc _ _ _ hrl)).trans p1'
  clear hvT p1 p1' p0 p2 pf
  by_cases h24 : S.tasks.length = 24
  · have hb : ((S.tasks.length : Int) == 24) = true := by rw [h24]; rfl
    have HE : Hid (RT = (S, 1)) := by rw [← HR.out]; simp [Hid, ownAdd, h24]
    clear HR h24
    go_enter Tryd.func42, Tryd.ntmps42
    go_wp2
    go_ret
    rw [HE.out]
    exact ⟨ret_int rfl, OPost.none R hbA⟩
  have hb24 : ((S.tasks.length : Int) == 24) = false := by rw [beq_eq_false_iff_ne]; omega
  have H24 : Hid (S.tasks.length ≤ 23) := by have := R.few; show S.tasks.length ≤ 23; omega
  by_cases hp0 : pool.size = 0
  · have hpe : pool.toList.isEmpty = true := by rw [toList_isEmpty]; simpa using hp0
    have HRT : Hid (RT = if wantsB act outs.length ins.length = false then (S, 4) else if (claimRun S.tasks.length S.claims outs).2 = false then ({ S with claims := (claimRun S.tasks.length S.claims outs).1 }, 5) else ({ S with claims := (claimRun S.tasks.length S.claims outs).1, tasks := S.tasks ++ [⟨outs, act, ins, cost, jobs, pool⟩] }, 0)) := by
      rw [← HR.out]; simp [Hid, ownAdd, h24, hp0]
    clear HR h24 hp0
    go_enter Tryd.func42, Tryd.ntmps42
    go_wp2_with fail
    have hWt := heap_alloc_new w (.cells #[.slice aO0 outs.length cO, .slice aI0 ins.length cI, .string act, .int .i64 cost, .int .i64 jobs, .string pool] 80)
    have hVW := hV.below hbA hV.two
    have hbW := hbA
    generalize w.alloc (.cells #[.slice aO0 outs.length cO, .slice aI0 ins.length cI, .string act, .int .i64 cost, .int .i64 jobs, .string pool] 80) = W at *
    clear hbA q1
    obtain ⟨wb, hwb⟩ : ∃ wb, wantsB act outs.length ins.length = wb := ⟨_, rfl⟩
    have HWB : Hid (wantsB act outs.length ins.length = wb) := hwb
    have hFA := own_fitsAction aO0 aI0 cO cI outs.length ins.length act pool cost jobs W lO lI hVW
    rw [hwb] at hFA
    have HFA : Hid (Calls Tryd.prog 61 #[.agg #[.slice aO0 outs.length cO, .slice aI0 ins.length cI, .string act, .int .i64 cost, .int .i64 jobs, .string pool]] W fun e w' => e = .returned (.bool wb) ∧ Below W.heap.size W w') := hFA
    clear hFA
    cases wb
    · have HE : Hid (RT = (S, 4)) := by rw [HRT.out]; simp [Hid, hwb]
      clear hwb
      go_wp2_with (go_at_call 61; refine HFA.out.mono ?_; rintro e w1 ⟨rfl, hb1⟩)
      go_ret
      rw [HE.out]
      exact ⟨ret_int rfl, OPost.none R (hbW.trans (hb1.mono hbW.size))⟩
    · have HRT2 : Hid (RT = if (claimRun S.tasks.length S.claims outs).2 = false then ({ S with claims := (claimRun S.tasks.length S.claims outs).1 }, 5) else ({ S with claims := (claimRun S.tasks.length S.claims outs).1, tasks := S.tasks ++ [⟨outs, act, ins, cost, jobs, pool⟩] }, 0)) := by rw [HRT.out]; simp [Hid, hwb]
      clear hwb HRT
      go_wp2_with fail
      refine HFA.out.mono ?_
      rintro e w2 ⟨rfl, hb2⟩
      have hbX := hbW.trans (hb2.mono hbW.size)
      have hbX1 := hbX.size
      have RX := R.same hbX
      have hXt := (hb2.block w.heap.size (blk_lt hWt)).trans hWt
      clear hWt
      obtain ⟨c0, c1, c2, c3, c4, c5, cf⟩ := six hXt
      have hvX := sO.below hbX
      have hCO := own_claimOutputs w2 rb mb M S vP vT cP cT D RX _ outs hvX (fun k hk => (aO k hk).1) lO zO hcl
      obtain ⟨cr, hcr⟩ : ∃ cr, claimRun S.tasks.length S.claims outs = cr := ⟨_, rfl⟩
      rw [hcr] at hCO HRT2
      have HCO : Hid (Calls Tryd.prog 62 #[.pointer (some ⟨rb, 0, none⟩), .slice aO0 outs.length cO] w2 fun e w' => e = .returned (.bool cr.2) ∧ ∃ D1, OPlan w' rb mb M { S with claims := cr.1 } vP vT cP cT D1 ∧ Same (fun k => k = mb) w2 w') := hCO
      clear hCO hcr
      obtain ⟨cl, ok⟩ := cr
      simp only at HCO HRT2
      cases ok
      · have HE : Hid (RT = ({ S with claims := cl }, 5)) := by rw [HRT2.out]; rfl
        go_wp2_with (go_at_call 62; refine HCO.out.mono ?_; rintro e w3 ⟨rfl, D1, R3, hS3⟩)
        go_ret
        rw [HE.out]
        exact ⟨ret_int rfl, OPost.two hbX (hS3.mono (fun k _ h => by rw [h]; exact R.mm)) (OPost.none R3 (Below.refl _ _))⟩
      · have HE : Hid (RT = ({ S with claims := cl, tasks := S.tasks ++ [⟨outs, act, ins, cost, jobs, pool⟩] }, 0)) := by rw [HRT2.out]; rfl
        go_wp2_with fail
        refine HCO.out.mono ?_
        rintro e w3 ⟨rfl, D1, R3, hS3⟩
        clear c0 c1 c2 c3 c4 c5 cf
        have hS3s := hS3.size
        have hml := R.mlt
        have hrl := blk_lt R.blk
        have hYt := (hS3.block w.heap.size (blk_lt hXt) (by omega)).trans hXt
        obtain ⟨c0, c1, c2, c3, c4, c5, cf⟩ := six hYt
        obtain ⟨p0, p1, p2, pf⟩ := three R3.blk
        obtain ⟨aT, qT, hvT⟩ := owns_shape R3.tasks
        subst hvT
        simp only at p1 R3 HE
        have hown := R3.tasks
        simp only at hown
        have hfew := R3.few
        simp only at hfew
        have hpl := blk_lt R3.blk
        have hqf : ∀ o, (w3.alloc o).frozen? ⟨rb, 1, none⟩ = false := fun o => (World.frozen?_of_block (Below.heap_alloc _ _ _ hpl)).trans (pf 1)
        have hqc : ∀ o, (w3.alloc o).cell? ⟨rb, 1, none⟩ = some (.slice aT S.tasks.length qT) := fun o => (World.cell?_of_block (Below.heap_alloc _ _ _ hpl)).trans p1
        have hne1 : some rb ≠ (Value.slice aT S.tasks.length qT).ownBlock := fun e => by have := (R3.tasks.lt rb e.symm).1; omega
        have hsM : ∀ q, q = mb → M q := fun q h => by rw [h]; exact R.mm
        have sO3 := hvX.same hS3 (fun q hq h => (aO q hq).1 (hsM q h))
        have sI3 := (sI.below hbX).same hS3 (fun q hq h => (aI q hq).1 (hsM q h))
        have h23 := H24.out
        go_wp2_with fail
        go_region_law
          ((refine step_append_lies _ (by rfl) _ _ _ (by rfl) (rb + 1) 80 i0 _ 6 96 Tryd.underlying46 hi hz0 hz1 hz2 rfl (by omega) _ S.tasks.length cT (by rfl) ((hown.alloc _).drew)
              ⟨w3.heap.size, 0, none⟩ 1 1 [.slice aO0 outs.length cO, .slice aI0 ins.length cI, .string act, .int .i64 cost, .int .i64 jobs, .string pool] (by rfl) (by rfl) (World.news_of_block (cs := #[.slice aO0 outs.length cO, .slice aI0 ins.length cI, .string act, .int .i64 cost, .int .i64 jobs, .string pool]) (t := 80) (fr := (0, 0)) (alloc_drew_new w3 _ _ (by simp))) (by simp [Value.oneCell'])
              (by omega) (by unfold maxLen; omega) (by omega) (by simp; omega) (w3.heap.size + 1) (by simp) ?_; intro gg cap w4 hown2 hgrow hat hlt1; have hfz : w4.frozen? ⟨rb, 1, none⟩ = false := (hgrow.frozen_far _ (by simp; omega) hne1).trans (by simpa using hqf _); have hcz : w4.cell? ⟨rb, 1, none⟩ = some (.slice aT S.tasks.length qT) := (hgrow.cell_far _ (by simp; omega) hne1).trans (by simpa using hqc _)))
        all_goals
          have hp3 := app_otask (t := ⟨outs, act, ins, cost, jobs, pool⟩) R3 (((Below.refl _ _).alloc (Nat.le_refl _) _).drew) (by simp only; omega) sO3 sI3 (fun q hq => ⟨(aO q hq).1, by have := (aO q hq).2; omega⟩) (fun q hq => ⟨(aI q hq).1, by have := (aI q hq).2; omega⟩) lO lI zO zI hown2 hgrow (hat.imp id (fun h => by omega))
          go_wp2
          go_ret
          rw [HE.out]
          exact ⟨ret_int rfl, OPost.two hbX (hS3.mono (fun k _ h => hsM k h)) hp3⟩
  · have hpe : pool.toList.isEmpty = false := by rw [toList_isEmpty]; simpa using hp0
    have RA := R.same hbA
    have hHP := own_hasPool _ rb vP vT _ S.pools cP pool RA.blk RA.pools RA.few.2.1
    obtain ⟨pl, hpl⟩ : ∃ pl, placeI (S.pools.map (·.1)) pool = pl := ⟨_, rfl⟩
    rw [hpl] at hHP
    have HHP : Hid (Calls Tryd.prog 56 #[.pointer (some ⟨rb, 0, none⟩), .string pool] (w.alloc (.cells #[.slice aO0 outs.length cO, .slice aI0 ins.length cI, .string act, .int .i64 cost, .int .i64 jobs, .string pool] 80)) fun e w' => e = .returned (.bool (decide (0 ≤ pl))) ∧ Below (w.alloc (.cells #[.slice aO0 outs.length cO, .slice aI0 ins.length cI, .string act, .int .i64 cost, .int .i64 jobs, .string pool] 80)).heap.size (w.alloc (.cells #[.slice aO0 outs.length cO, .slice aI0 ins.length cI, .string act, .int .i64 cost, .int .i64 jobs, .string pool] 80)) w') := hHP
    clear hHP RA
    by_cases hneg : pl < 0
    · have HE : Hid (RT = (S, 3)) := by rw [← HR.out]; simp [Hid, ownAdd, h24, hp0, hpl, hneg]
      have hd : decide (0 ≤ pl) = false := by simp; omega
      clear HR h24 hp0 hpl
      go_enter Tryd.func42, Tryd.ntmps42
      go_wp2_with (go_at_call 56; refine HHP.out.mono ?_; rintro e w1 ⟨rfl, hb1⟩; rw [hd])
      go_ret
      rw [HE.out]
      exact ⟨ret_int rfl, OPost.none R (hbA.trans (hb1.mono (by simp)))⟩
    · have hd : decide (0 ≤ pl) = true := by simp; omega
      have HRT : Hid (RT = if wantsB act outs.length ins.length = false then (S, 4) else if (claimRun S.tasks.length S.claims outs).2 = false then ({ S with claims := (claimRun S.tasks.length S.claims outs).1 }, 5) else ({ S with claims := (claimRun S.tasks.length S.claims outs).1, tasks := S.tasks ++ [⟨outs, act, ins, cost, jobs, pool⟩] }, 0)) := by
        rw [← HR.out]; simp [Hid, ownAdd, h24, hp0, hpl, hneg]
      clear HR h24 hp0 hpl hneg
      go_enter Tryd.func42, Tryd.ntmps42
      go_wp2_with fail
      refine HHP.out.mono ?_
      rintro e W ⟨rfl, hb1⟩
      rw [hd]
      have hWt := (hb1.block w.heap.size (by simp)).trans (heap_alloc_new w _)
      have hbW := hbA.trans (hb1.mono (by simp))
      have hVW := hV.below hbW hV.two
      clear hbA q1 hb1 HHP
      obtain ⟨c0, c1, c2, c3, c4, c5, cf⟩ := six hWt
      go_wp2_with fail
      clear c0 c1 c2 c3 c4 c5 cf
      obtain ⟨wb, hwb⟩ : ∃ wb, wantsB act outs.length ins.length = wb := ⟨_, rfl⟩
      have HWB : Hid (wantsB act outs.length ins.length = wb) := hwb
      have hFA := own_fitsAction aO0 aI0 cO cI outs.length ins.length act pool cost jobs W lO lI hVW
      rw [hwb] at hFA
      have HFA : Hid (Calls Tryd.prog 61 #[.agg #[.slice aO0 outs.length cO, .slice aI0 ins.length cI, .string act, .int .i64 cost, .int .i64 jobs, .string pool]] W fun e w' => e = .returned (.bool wb) ∧ Below W.heap.size W w') := hFA
      clear hFA
      cases wb
      · have HE : Hid (RT = (S, 4)) := by rw [HRT.out]; simp [Hid, hwb]
        clear hwb
        go_wp2_with (go_at_call 61; refine HFA.out.mono ?_; rintro e w1 ⟨rfl, hb1⟩)
        go_ret
        rw [HE.out]
        exact ⟨ret_int rfl, OPost.none R (hbW.trans (hb1.mono hbW.size))⟩
      · have HRT2 : Hid (RT = if (claimRun S.tasks.length S.claims outs).2 = false then ({ S with claims := (claimRun S.tasks.length S.claims outs).1 }, 5) else ({ S with claims := (claimRun S.tasks.length S.claims outs).1, tasks := S.tasks ++ [⟨outs, act, ins, cost, jobs, pool⟩] }, 0)) := by rw [HRT.out]; simp [Hid, hwb]
        clear hwb HRT
        go_wp2_with fail
        refine HFA.out.mono ?_
        rintro e w2 ⟨rfl, hb2⟩
        have hbX := hbW.trans (hb2.mono hbW.size)
        have hbX1 := hbX.size
        have RX := R.same hbX
        have hXt := (hb2.block w.heap.size (blk_lt hWt)).trans hWt
        clear hWt
        obtain ⟨c0, c1, c2, c3, c4, c5, cf⟩ := six hXt
        have hvX := sO.below hbX
        have hCO := own_claimOutputs w2 rb mb M S vP vT cP cT D RX _ outs hvX (fun k hk => (aO k hk).1) lO zO hcl
        obtain ⟨cr, hcr⟩ : ∃ cr, claimRun S.tasks.length S.claims outs = cr := ⟨_, rfl⟩
        rw [hcr] at hCO HRT2
        have HCO : Hid (Calls Tryd.prog 62 #[.pointer (some ⟨rb, 0, none⟩), .slice aO0 outs.length cO] w2 fun e w' => e = .returned (.bool cr.2) ∧ ∃ D1, OPlan w' rb mb M { S with claims := cr.1 } vP vT cP cT D1 ∧ Same (fun k => k = mb) w2 w') := hCO
        clear hCO hcr
        obtain ⟨cl, ok⟩ := cr
        simp only at HCO HRT2
        cases ok
        · have HE : Hid (RT = ({ S with claims := cl }, 5)) := by rw [HRT2.out]; rfl
          go_wp2_with (go_at_call 62; refine HCO.out.mono ?_; rintro e w3 ⟨rfl, D1, R3, hS3⟩)
          go_ret
          rw [HE.out]
          exact ⟨ret_int rfl, OPost.two hbX (hS3.mono (fun k _ h => by rw [h]; exact R.mm)) (OPost.none R3 (Below.refl _ _))⟩
        · have HE : Hid (RT = ({ S with claims := cl, tasks := S.tasks ++ [⟨outs, act, ins, cost, jobs, pool⟩] }, 0)) := by rw [HRT2.out]; rfl
          go_wp2_with fail
          refine HCO.out.mono ?_
          rintro e w3 ⟨rfl, D1, R3, hS3⟩
          clear c0 c1 c2 c3 c4 c5 cf
          have hS3s := hS3.size
          have hml := R.mlt
          have hrl := blk_lt R.blk
          have hYt := (hS3.block w.heap.size (blk_lt hXt) (by omega)).trans hXt
          obtain ⟨c0, c1, c2, c3, c4, c5, cf⟩ := six hYt
          obtain ⟨p0, p1, p2, pf⟩ := three R3.blk
          obtain ⟨aT, qT, hvT⟩ := owns_shape R3.tasks
          subst hvT
          simp only at p1 R3 HE
          have hown := R3.tasks
          simp only at hown
          have hfew := R3.few
          simp only at hfew
          have hpl := blk_lt R3.blk
          have hqf : ∀ o, (w3.alloc o).frozen? ⟨rb, 1, none⟩ = false := fun o => (World.frozen?_of_block (Below.heap_alloc _ _ _ hpl)).trans (pf 1)
          have hqc : ∀ o, (w3.alloc o).cell? ⟨rb, 1, none⟩ = some (.slice aT S.tasks.length qT) := fun o => (World.cell?_of_block (Below.heap_alloc _ _ _ hpl)).trans p1
          have hne1 : some rb ≠ (Value.slice aT S.tasks.length qT).ownBlock := fun e => by have := (R3.tasks.lt rb e.symm).1; omega
          have hsM : ∀ q, q = mb → M q := fun q h => by rw [h]; exact R.mm
          have sO3 := hvX.same hS3 (fun q hq h => (aO q hq).1 (hsM q h))
          have sI3 := (sI.below hbX).same hS3 (fun q hq h => (aI q hq).1 (hsM q h))
          have h23 := H24.out
          go_wp2_with fail
          go_region_law
            ((refine step_append_lies _ (by rfl) _ _ _ (by rfl) (rb + 1) 80 i0 _ 6 96 Tryd.underlying46 hi hz0 hz1 hz2 rfl (by omega) _ S.tasks.length cT (by rfl) ((hown.alloc _).drew)
                ⟨w3.heap.size, 0, none⟩ 1 1 [.slice aO0 outs.length cO, .slice aI0 ins.length cI, .string act, .int .i64 cost, .int .i64 jobs, .string pool] (by rfl) (by rfl) (World.news_of_block (cs := #[.slice aO0 outs.length cO, .slice aI0 ins.length cI, .string act, .int .i64 cost, .int .i64 jobs, .string pool]) (t := 80) (fr := (0, 0)) (alloc_drew_new w3 _ _ (by simp))) (by simp [Value.oneCell'])
                (by omega) (by unfold maxLen; omega) (by omega) (by simp; omega) (w3.heap.size + 1) (by simp) ?_; intro gg cap w4 hown2 hgrow hat hlt1; have hfz : w4.frozen? ⟨rb, 1, none⟩ = false := (hgrow.frozen_far _ (by simp; omega) hne1).trans (by simpa using hqf _); have hcz : w4.cell? ⟨rb, 1, none⟩ = some (.slice aT S.tasks.length qT) := (hgrow.cell_far _ (by simp; omega) hne1).trans (by simpa using hqc _)))
          all_goals
            have hp3 := app_otask (t := ⟨outs, act, ins, cost, jobs, pool⟩) R3 (((Below.refl _ _).alloc (Nat.le_refl _) _).drew) (by simp only; omega) sO3 sI3 (fun q hq => ⟨(aO q hq).1, by have := (aO q hq).2; omega⟩) (fun q hq => ⟨(aI q hq).1, by have := (aI q hq).2; omega⟩) lO lI zO zI hown2 hgrow (hat.imp id (fun h => by omega))
            go_wp2
            go_ret
            rw [HE.out]
            exact ⟨ret_int rfl, OPost.two hbX (hS3.mono (fun k _ h => hsM k h)) hp3⟩
end Go.Proofs.YtoabakgmjcnodaaDoor
