import Derived.Test.YtoabakgmjcnodaaDoorOwnF
import Derived.Maps.OwnOps
import Derived.Maps.Keyed
namespace Go.Proofs.YtoabakgmjcnodaaDoor
open Go.ChangeShapes Go.WideShapes Go.ChangeAt Go.RowKit

/-- What the lines have said so far, as the program keeps it: claims has for each output the number of its task. -/
structure OS where
  pools : List (ByteArray × Nat)
  tasks : List OT
  claims : List (ByteArray × Nat)
def os0 : OS := ⟨[], [], []⟩

/-- The number under which an output is claimed. -/
def claimOf (l : List (ByteArray × Nat)) (x : ByteArray) : Option Nat := (l.find? fun p => p.1.toList == x.toList).map (·.2)
/-- The map holds the claims. -/
def MapIs (D : DataW Unit) (l : List (ByteArray × Nat)) : Prop := Maps.IsMap D ∧ ∀ x : ByteArray, Maps.has D (.string x.data.toList) = (claimOf l x).isSome ∧
  (∀ n, claimOf l x = some n → D.atKey (.string x.data.toList) (.lit (.int .i64 0)) = .lit (.int .i64 n))
theorem isMap_put {D : DataW Unit} (h : Maps.IsMap D) (k : Lit) (d : DataW Unit) : Maps.IsMap (D.put k d) := by
  obtain ⟨es, rfl⟩ := h
  exact ⟨_, DataW.put_eq _ _ _⟩
theorem MapIs.empty : MapIs (.map []) [] := ⟨⟨[], rfl⟩, fun x => ⟨rfl, fun n h => by simp [claimOf] at h⟩⟩
theorem MapIs.put {D : DataW Unit} {l : List (ByteArray × Nat)} (h : MapIs D l) (x : ByteArray) (n : Nat) (hx : claimOf l x = none) : MapIs (D.put (.string x.data.toList) (.lit (.int .i64 n))) (l ++ [(x, n)]) := by
  refine ⟨isMap_put h.1 _ _, fun y => ?_⟩
  by_cases e : y = x
  · subst e
    have hc : claimOf (l ++ [(y, n)]) y = some n := by
      unfold claimOf at hx ⊢
      rw [Option.map_eq_none_iff] at hx
      rw [List.find?_append, hx]; simp
    rw [hc]
    exact ⟨Maps.has_put_same h.1 (by simp [WideAt.IsKeyLit]) _, fun m hm => by injection hm with hm; subst hm; exact Maps.atKey_put_same h.1 (by simp [WideAt.IsKeyLit]) _ _⟩
  · have hne : Lit.string y.data.toList ≠ Lit.string x.data.toList := fun h' => e (WideShapes.bytes_inj (by injection h'))
    have hc : claimOf (l ++ [(x, n)]) y = claimOf l y := by
      unfold claimOf
      have : (x.toList == y.toList) = false := by
        rw [beq_eq_false_iff_ne, ByteArray.toList_eq, ByteArray.toList_eq]; exact fun h' => e (WideShapes.bytes_inj h'.symm)
      rw [List.find?_append]
      cases l.find? fun p => p.1.toList == y.toList <;> simp [this]
    rw [hc]
    have h1 := h.2 y
    exact ⟨(Maps.has_put_other hne _).trans h1.1, fun m hm => (Maps.atKey_put_other hne _ _).trans (h1.2 m hm)⟩

/-- One task's cells lie at 6 i in the row, its lists outside M. -/
structure OTaskAt (w : World) (M : Nat → Prop) (cT : List Value) (i : Nat) (t : OT) (vO vI : Value) : Prop where
  c0 : cT[i * 6]? = some vO
  c1 : cT[i * 6 + 1]? = some vI
  c2 : cT[i * 6 + 2]? = some (.string t.act)
  c3 : cT[i * 6 + 3]? = some (.int .i64 t.cost)
  c4 : cT[i * 6 + 4]? = some (.int .i64 t.jobs)
  c5 : cT[i * 6 + 5]? = some (.string t.pool)
  outs : Strs w vO t.outs
  ins : Strs w vI t.ins
  aO : ∀ k, vO.ownBlock = some k → ¬ M k ∧ k < w.heap.size
  aI : ∀ k, vI.ownBlock = some k → ¬ M k ∧ k < w.heap.size
  lO : t.outs.length ≤ 4000
  lI : t.ins.length ≤ 4000
  sO : ∀ x ∈ t.outs, x.size ≤ 2000
  sI : ∀ x ∈ t.ins, x.size ≤ 2000

structure OPlan (w : World) (rb mb : Nat) (M : Nat → Prop) (S : OS) (vP vT : Value) (cP cT : List Value) (D : DataW Unit) : Prop where
  blk : w.heap[rb]? = some (.cells #[vP, vT, .map (some mb)] 65 (0, 0))
  mine : M rb
  mm : M mb
  mlt : mb < rb
  pools : PoolRow w (rb + 1) vP S.pools cP
  tasks : w.ownsRow (rb + 1) 80 6 vT S.tasks.length cT
  map : w.ownsMap Tryd.prog 9 (plainElem Tryd.prog 3) mb S.claims.length D
  keys : MapIs D S.claims
  mP : ∀ k, vP.ownBlock = some k → M k
  mT : ∀ k, vT.ownBlock = some k → M k
  each : ∀ i (h : i < S.tasks.length), ∃ vO vI, OTaskAt w M cT i S.tasks[i] vO vI
  few : S.tasks.length ≤ 24 ∧ S.pools.length ≤ 6 ∧ S.claims.length ≤ 1000000
  old : ∀ k, M k → k < w.heap.size

/-- What the readers' methods leave. -/
def OPost (w w1 : World) (rb mb : Nat) (M : Nat → Prop) (S1 : OS) : Prop :=
  ∃ M1 vP1 vT1 cP1 cT1 D1, OPlan w1 rb mb M1 S1 vP1 vT1 cP1 cT1 D1 ∧ Same M w w1 ∧ ∀ k, M1 k → M k ∨ w.heap.size ≤ k
theorem OTaskAt.same {w w1 : World} {M M1 : Nat → Prop} {cT : List Value} {i : Nat} {t : OT} {vO vI : Value} (T : OTaskAt w M cT i t vO vI) {N : Nat → Prop} (hs : Same N w w1) (hN : ∀ k, N k → M k) (hM : ∀ k, M1 k → M k ∨ w.heap.size ≤ k) : OTaskAt w1 M1 cT i t vO vI :=
  ⟨T.c0, T.c1, T.c2, T.c3, T.c4, T.c5, T.outs.same hs (fun k hk h => (T.aO k hk).1 (hN k h)), T.ins.same hs (fun k hk h => (T.aI k hk).1 (hN k h)),
    fun k hk => ⟨fun h => (hM k h).elim (T.aO k hk).1 (fun h' => by have := (T.aO k hk).2; omega), Nat.lt_of_lt_of_le (T.aO k hk).2 hs.size⟩,
    fun k hk => ⟨fun h => (hM k h).elim (T.aI k hk).1 (fun h' => by have := (T.aI k hk).2; omega), Nat.lt_of_lt_of_le (T.aI k hk).2 hs.size⟩, T.lO, T.lI, T.sO, T.sI⟩
theorem ownsMap_same {w w1 : World} {mb n : Nat} {D : DataW Unit} {N : Nat → Prop} (h : w.ownsMap Tryd.prog 9 (plainElem Tryd.prog 3) mb n D) (hs : Same N w w1) (hn : ¬ N mb) : w1.ownsMap Tryd.prog 9 (plainElem Tryd.prog 3) mb n D := by
  have hlt := h.lt
  obtain ⟨es, clock, hb, F, h1, h2⟩ := h
  exact ⟨es, clock, (hs.block mb hlt hn).trans hb, F, h1, h2⟩
theorem OPlan.same {w w1 : World} {rb mb : Nat} {M : Nat → Prop} {S : OS} {vP vT : Value} {cP cT : List Value} {D : DataW Unit} (R : OPlan w rb mb M S vP vT cP cT D) (h : Below w.heap.size w w1) : OPlan w1 rb mb M S vP vT cP cT D := by
  have hb : Same (fun _ => False) w w1 := ⟨h.os, h.tape, h.output, h.size, fun k hk _ => h.block k hk⟩
  exact ⟨(h.block rb (blk_lt R.blk)).trans R.blk, R.mine, R.mm, R.mlt, ⟨hb.owns R.pools.own (fun _ _ => id), R.pools.each⟩, hb.owns R.tasks (fun _ _ => id), ownsMap_same R.map hb id, R.keys, R.mP, R.mT,
    fun i hi => by
      obtain ⟨vO, vI, T⟩ := R.each i hi
      exact ⟨vO, vI, T.same hb (fun _ h => h.elim) (fun _ h => .inl h)⟩, R.few, fun k hk => Nat.lt_of_lt_of_le (R.old k hk) h.size⟩
theorem OPost.none {w w1 : World} {rb mb : Nat} {M : Nat → Prop} {S : OS} {vP vT : Value} {cP cT : List Value} {D : DataW Unit} (R : OPlan w rb mb M S vP vT cP cT D) (h : Below w.heap.size w w1) : OPost w w1 rb mb M S :=
  ⟨M, vP, vT, cP, cT, D, R.same h, ⟨h.os, h.tape, h.output, h.size, fun k hk _ => h.block k hk⟩, fun _ => .inl⟩
theorem OPost.after {w w0 w1 : World} {rb mb : Nat} {M : Nat → Prop} {S1 : OS} (h0 : Below w.heap.size w w0) (h : OPost w0 w1 rb mb M S1) : OPost w w1 rb mb M S1 := by
  obtain ⟨M1, a, b, c, d, e, R, hs, hM⟩ := h
  refine ⟨M1, a, b, c, d, e, R, ?_, fun k hk => (hM k hk).elim .inl (fun h => .inr (by have := h0.size; omega))⟩
  exact Same.trans ⟨h0.os, h0.tape, h0.output, h0.size, fun k hk _ => h0.block k hk⟩ hs

/-- Behind the append of a pool. -/
theorem app_pool {w w1 Wb : World} {rb mb : Nat} {M : Nat → Prop} {S : OS} {vP vT : Value} {cP cT : List Value} {D : DataW Unit} {gg cap : Nat} {x : ByteArray} {n : Nat} (R : OPlan w rb mb M S vP vT cP cT D) (hWb : Below w.heap.size w Wb) (h6 : S.pools.length ≤ 5)
    (hown : w1.ownsRow (rb + 1) 86 2 (.slice (some ⟨gg, 0, none⟩) (S.pools.length + 1) cap) (S.pools.length + 1) (cP ++ [.string x, .int .i64 n]))
    (hg : Wb.grownBy w1 vP.ownBlock) (hat : vP.ownBlock = some gg ∨ w.heap.size ≤ gg) :
    OPost w (w1.setCell ⟨rb, 0, none⟩ (.slice (some ⟨gg, 0, none⟩) (S.pools.length + 1) cap)) rb mb M { S with pools := S.pools ++ [(x, n)] } := by
  have hpl := blk_lt R.blk
  have hbs := hWb.size
  have hgs := hg.size
  have hlow : ∀ k, vP.ownBlock = some k → rb + 1 ≤ k := fun k hk => (R.pools.own.lt k hk).1
  have hb : ∀ k, k < w.heap.size → vP.ownBlock ≠ some k → w1.heap[k]? = w.heap[k]? := fun k hk hne =>
    (hg.block k (by omega) (fun e => hne e.symm)).trans (hWb.block k hk)
  have hS : Same (fun k => k = rb ∨ vP.ownBlock = some k) w (w1.setCell ⟨rb, 0, none⟩ (.slice (some ⟨gg, 0, none⟩) (S.pools.length + 1) cap)) :=
    ((⟨hWb.os, hWb.tape, hWb.output, hWb.size, fun k hk _ => hWb.block k hk⟩ : Same _ w Wb).grown hg (fun k hk _ => .inr hk)).setCell (fun _ => .inl rfl) _
  have hM : ∀ k, (k = rb ∨ vP.ownBlock = some k) → M k := fun k h => h.elim (fun e => e ▸ R.mine) (R.mP k)
  have hM1 : ∀ k, (M k ∨ k = gg) → M k ∨ w.heap.size ≤ k := fun k h => h.elim .inl (fun h => hat.elim (fun e => .inl (R.mP k (by rw [e, h]))) (fun e => .inr (by omega)))
  refine ⟨fun k => M k ∨ k = gg, .slice (some ⟨gg, 0, none⟩) (S.pools.length + 1) cap, vT, cP ++ [.string x, .int .i64 n], cT, D,
    ⟨blk_set ((hb rb hpl (fun e => by have := hlow _ e; omega)).trans R.blk) rfl, .inl R.mine, .inl R.mm, R.mlt, ⟨?_, ?_⟩, ?_, ?_, R.keys, ?_, ?_, ?_, ?_, ?_⟩, hS.mono (fun k _ h => hM k h), hM1⟩
  · refine ownsRow_setCell_below ?_ (by simp) _
    simpa using hown
  · intro i hi
    have hcl := R.pools.own.1
    by_cases h : i < S.pools.length
    · have e : (S.pools ++ [(x, n)])[i]'hi = S.pools[i] := List.getElem_append_left h
      simp only [e]
      rw [List.getElem?_append_left (by omega), List.getElem?_append_left (by omega)]
      exact R.pools.each i h
    · have hi' : i = S.pools.length := by simp at hi; omega
      subst hi'
      have e : (S.pools ++ [(x, n)])[S.pools.length]'hi = (x, n) := by simp
      simp only [e]
      rw [List.getElem?_append_right (by omega), List.getElem?_append_right (by omega), hcl]
      exact ⟨by simp, by simp [show S.pools.length * 2 + 1 - S.pools.length * 2 = 1 by omega]⟩
  · exact hS.owns R.tasks (fun k hk h => h.elim (fun e => by have := (R.tasks.lt k hk).1; omega) (fun e => owns_ne R.tasks R.pools.own (by decide) k hk e))
  · exact ownsMap_same R.map hS (fun h => h.elim (fun e => by have := R.mlt; omega) (fun e => by have := hlow _ e; have := R.mlt; omega))
  · intro k hk; right; simpa [Value.ownBlock] using hk.symm
  · exact fun k hk => .inl (R.mT k hk)
  · intro i hi
    obtain ⟨uO, uI, U⟩ := R.each i hi
    exact ⟨uO, uI, U.same hS hM hM1⟩
  · have := R.few; simp; omega
  · intro k hk
    rcases hk with h | h
    · have := R.old k h; simp; omega
    · have := (hown.lt gg rfl).2; rw [h]; simpa using this

theorem Tryd.info86 : (Tryd.prog.info? 86).map (fun i => (i.zero, i.size, i.bytes)) = some (some (.agg #[.string ByteArray.empty, .int .i64 0]), 2, 24) := by kernel_rfl

def ownPool (S : OS) (x : ByteArray) (n : Nat) : OS × Nat :=
  if 0 ≤ placeI (S.pools.map (·.1)) x then (S, 3) else if S.pools.length = 6 then (S, 1) else ({ S with pools := S.pools ++ [(x, n)] }, 0)

set_option maxRecDepth 10000 in
set_option maxHeartbeats 2000000 in
theorem own_addPool (w : World) (rb mb : Nat) (M : Nat → Prop) (S : OS) (vP vT : Value) (cP cT : List Value) (D : DataW Unit) (R : OPlan w rb mb M S vP vT cP cT D) (x : ByteArray) (n : Nat) :
    Calls Tryd.prog 40 #[.pointer (some ⟨rb, 0, none⟩), .agg #[.string x, .int .i64 n]] w fun e w' => e = .returned (.int .i64 (ownPool S x n).2) ∧ OPost w w' rb mb M (ownPool S x n).1 := by
  obtain ⟨i0, hi, hz0, hz1, hz2⟩ := info_parts Tryd.info86
  obtain ⟨RT, hRT⟩ : ∃ RT, ownPool S x n = RT := ⟨_, rfl⟩
  rw [hRT]
  have HR : Hid (ownPool S x n = RT) := hRT
  clear hRT
  have hbA := (Below.refl w.heap.size w).alloc (Nat.le_refl _) (.cells #[.string x, .int .i64 n] 86)
  have RA := R.same hbA
  have hHP := own_hasPool _ rb vP vT _ S.pools cP x RA.blk RA.pools RA.few.2.1
  obtain ⟨pl, hpl⟩ : ∃ pl, placeI (S.pools.map (·.1)) x = pl := ⟨_, rfl⟩
  rw [hpl] at hHP
  have HHP : Hid (Calls Tryd.prog 56 #[.pointer (some ⟨rb, 0, none⟩), .string x] (w.alloc (.cells #[.string x, .int .i64 n] 86)) fun e w' => e = .returned (.bool (decide (0 ≤ pl))) ∧ Below (w.alloc (.cells #[.string x, .int .i64 n] 86)).heap.size (w.alloc (.cells #[.string x, .int .i64 n] 86)) w') := hHP
  clear hHP
  have HRT : Hid (RT = if 0 ≤ pl then (S, 3) else if S.pools.length = 6 then (S, 1) else ({ S with pools := S.pools ++ [(x, n)] }, 0)) := by rw [← HR.out, ← hpl]; rfl
  clear hpl HR
  by_cases h0 : 0 ≤ pl
  · have HE : Hid (RT = (S, 3)) := by rw [HRT.out]; simp [Hid, h0]
    have hd : decide (0 ≤ pl) = true := by simpa using h0
    go_enter Tryd.func40, Tryd.ntmps40
    go_wp2_with (go_at_call 56; refine HHP.out.mono ?_; rintro e w1 ⟨rfl, hb1⟩; rw [hd])
    go_ret
    rw [HE.out]
    exact ⟨ret_int rfl, OPost.none R (hbA.trans (hb1.mono (by simp)))⟩
  · have hd : decide (0 ≤ pl) = false := by simpa using h0
    go_enter Tryd.func40, Tryd.ntmps40
    go_wp2_with fail
    refine HHP.out.mono ?_
    rintro e w1 ⟨rfl, hb1⟩
    rw [hd]
    have hbW := hbA.trans (hb1.mono (by simp))
    have RW := R.same hbW
    obtain ⟨p0, p1, p2, pf⟩ := three RW.blk
    obtain ⟨aP, qP, hvP⟩ := owns_shape RW.pools.own
    subst hvP
    have hx := (hb1.block w.heap.size (by simp)).trans (heap_alloc_new w _)
    have x0 : w1.cell? ⟨w.heap.size, 0, none⟩ = some (.string x) := by rw [cell_of_row _ _ _ _ _ _ hx]; rfl
    have x1 : w1.cell? ⟨w.heap.size, 1, none⟩ = some (.int .i64 n) := by rw [cell_of_row _ _ _ _ _ _ hx]; rfl
    have hxl := blk_lt hx
    by_cases h6 : S.pools.length = 6
    · have HE : Hid (RT = (S, 1)) := by rw [HRT.out]; simp [Hid, h0, h6]
      have hb6 : ((S.pools.length : Int) == 6) = true := by rw [h6]; rfl
      clear h6
      go_wp2
      go_ret
      rw [HE.out]
      exact ⟨ret_int rfl, OPost.none R hbW⟩
    · have HE : Hid (RT = ({ S with pools := S.pools ++ [(x, n)] }, 0)) := by rw [HRT.out]; simp [Hid, h0, h6]
      have hb6 : ((S.pools.length : Int) == 6) = false := by rw [beq_eq_false_iff_ne]; omega
      have hfew := RW.few
      have hown := RW.pools.own
      have hpl := blk_lt RW.blk
      have hqf : ∀ o, (w1.alloc o).frozen? ⟨rb, 0, none⟩ = false := fun o => (World.frozen?_of_block (Below.heap_alloc _ _ _ hpl)).trans (pf 0)
      have hqc : ∀ o, (w1.alloc o).cell? ⟨rb, 0, none⟩ = some (.slice aP S.pools.length qP) := fun o => (World.cell?_of_block (Below.heap_alloc _ _ _ hpl)).trans p0
      have hne1 : some rb ≠ (Value.slice aP S.pools.length qP).ownBlock := fun e => by have := (RW.pools.own.lt rb e.symm).1; omega
      go_wp2_with fail
      go_region_law
        ((refine step_append_lies _ (by rfl) _ _ _ (by rfl) (rb + 1) 86 i0 _ 2 24 Tryd.underlying45 hi hz0 hz1 hz2 rfl (by omega) _ S.pools.length cP (by rfl) ((hown.alloc _).drew)
            ⟨w1.heap.size, 0, none⟩ 1 1 [.string x, .int .i64 n] (by rfl) (by rfl) (World.news_of_block (cs := #[.string x, .int .i64 n]) (t := 86) (fr := (0, 0)) (alloc_drew_new w1 _ _ (by simp))) (by simp [Value.oneCell'])
            (by omega) (by unfold maxLen; omega) (by omega) (by simp; omega) (w1.heap.size + 1) (by simp) ?_; intro gg cap w3 hown2 hgrow hat hlt1; have hfz : w3.frozen? ⟨rb, 0, none⟩ = false := (hgrow.frozen_far _ (by simp; omega) hne1).trans (by simpa using hqf _); have hcz : w3.cell? ⟨rb, 0, none⟩ = some (.slice aP S.pools.length qP) := (hgrow.cell_far _ (by simp; omega) hne1).trans (by simpa using hqc _)))
      all_goals
        have hp3 := app_pool RW (((Below.refl _ _).alloc (Nat.le_refl _) _).drew) (by omega) hown2 hgrow (hat.imp id (fun h => by omega))
        go_wp2
        go_ret
        rw [HE.out]
        exact ⟨ret_int rfl, OPost.after hbW hp3⟩

set_option maxRecDepth 10000 in
set_option maxHeartbeats 2000000 in
/-- The words behind pool. -/
theorem own_readPool (v : Value) (ws : List ByteArray) (w : World) (hv : Strs w v ws) (hn : ws.length ≤ 3000) (hsz : ∀ s ∈ ws, s.size ≤ maxLen) :
    Calls Tryd.prog 39 #[v] w fun e w' => ∃ x n, e = .returned (.tuple #[.agg #[.string x, .int .i64 (n : Nat)], .bool (decide (ws.length = 2 ∧ nameB (ws.getD 0 ByteArray.empty).data.toList = true ∧ digN (ws.getD 1 ByteArray.empty).data.toList ≠ 0))]) ∧
      (ws.length = 2 ∧ nameB (ws.getD 0 ByteArray.empty).data.toList = true → x = ws.getD 0 ByteArray.empty ∧ n = digN (ws.getD 1 ByteArray.empty).data.toList) ∧ Below w.heap.size w w' := by
  have hv0 := hv
  obtain ⟨a, c, rfl, _, _⟩ := hv0
  by_cases h2 : ws.length = 2
  · have e2 : ((ws.length : Int) != 2) = false := by rw [h2]; rfl
    have hl0 : (0 : Int) < (ws.length : Int) := by omega
    have hl1 : (1 : Int) < (ws.length : Int) := by omega
    obtain ⟨b, off, hx, hc0⟩ := strs_at hv (show 0 < ws.length by omega)
    obtain ⟨b1, off1, hx1, hc1⟩ := strs_at hv (show 1 < ws.length by omega)
    subst hx
    injection hx1 with hx1; injection hx1 with hx1 hx2
    subst hx1 hx2
    have g0 : ws[0]'(by omega) = ws.getD 0 ByteArray.empty := by rw [List.getD_eq_getElem?_getD, List.getElem?_eq_getElem (by omega)]; rfl
    have g1 : ws[1]'(by omega) = ws.getD 1 ByteArray.empty := by rw [List.getD_eq_getElem?_getD, List.getElem?_eq_getElem (by omega)]; rfl
    have s0 := hsz _ (List.getElem_mem (show 0 < ws.length by omega))
    have s1 := hsz _ (List.getElem_mem (show 1 < ws.length by omega))
    rw [g0] at hc0 s0
    rw [g1] at hc1 s1
    rw [Nat.add_zero] at hc0
    generalize ws.getD 0 ByteArray.empty = x at *
    generalize ws.getD 1 ByteArray.empty = y at *
    have H2 : Hid (ws.length = 2) := h2
    have hbA := (Below.refl w.heap.size w).alloc (Nat.le_refl _) (.cells #[.string ⟨#[]⟩, .int .i64 0] 86)
    have hcA0 := (hbA.cell (p := ⟨b, off, none⟩) (block_lt_of_cell hc0)).trans hc0
    have hcA1 := (hbA.cell (p := ⟨b, off + 1, none⟩) (block_lt_of_cell hc1)).trans hc1
    obtain ⟨nb, hnb⟩ : ∃ nb, nameB x.data.toList = nb := ⟨_, rfl⟩
    have HNB : Hid (nameB x.data.toList = nb) := hnb
    rw [hnb]
    clear h2 g0 g1 hnb
    cases nb
    · have hf : decide (ws.length = 2 ∧ false = true ∧ digN y.data.toList ≠ 0) = false := by simp
      rw [hf]
      go_enter Tryd.func39, Tryd.ntmps39
      go_wp2_with (go_at_call 54; refine (own_IsName x _ s0).mono ?_; rintro e w1 ⟨rfl, hw⟩; rw [HNB.out]; subst hw)
      exact bodyPost_ret (v := .tuple #[.agg #[.string ⟨#[]⟩, .int .i64 0], .bool false]) (by simp [results, Tryd.results39, go_sem]) rfl ⟨⟨#[]⟩, 0, rfl, fun h => by simp at h, hbA⟩
    · obtain ⟨d, hd⟩ : ∃ d, digN y.data.toList = d := ⟨_, rfl⟩
      have HD : Hid (digN y.data.toList = d) := hd
      rw [hd]
      have hf : decide (ws.length = 2 ∧ true = true ∧ d ≠ 0) = decide (d ≠ 0) := by simp [H2.out]
      rw [hf]
      clear hd hf
      go_enter Tryd.func39, Tryd.ntmps39
      go_wp2_with (first
        | (go_at_call 54; refine (own_IsName x _ s0).mono ?_; rintro e w1 ⟨rfl, hw⟩; rw [HNB.out]; subst hw)
        | (go_at_call 55; refine (own_readDigit y _ s1).mono ?_; rintro e w1 ⟨rfl, hw⟩; rw [HD.out]; subst hw))
      exact bodyPost_ret (v := .tuple #[.agg #[.string x, .int .i64 d], .bool (decide (d ≠ 0))]) (by simp [results, Tryd.results39, go_sem]) rfl ⟨x, d, rfl, fun _ => ⟨rfl, rfl⟩, (Below.refl _ _).alloc (Nat.le_refl _) _⟩
  · have e2 : ((ws.length : Int) != 2) = true := by rw [bne_iff_ne]; omega
    have hf : decide (ws.length = 2 ∧ nameB (ws.getD 0 ByteArray.empty).data.toList = true ∧ digN (ws.getD 1 ByteArray.empty).data.toList ≠ 0) = false := by simp [h2]
    rw [hf]
    have H2 : Hid (ws.length ≠ 2) := h2
    clear hf h2
    go_enter Tryd.func39, Tryd.ntmps39
    go_wp2
    exact bodyPost_ret (v := .tuple #[.agg #[.string ⟨#[]⟩, .int .i64 0], .bool false]) (by simp [results, Tryd.results39, go_sem]) rfl ⟨⟨#[]⟩, 0, rfl, fun h => absurd h.1 H2.out, (Below.refl _ _).alloc (Nat.le_refl _) _⟩
end Go.Proofs.YtoabakgmjcnodaaDoor
