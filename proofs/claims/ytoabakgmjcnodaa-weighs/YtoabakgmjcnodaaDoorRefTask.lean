import Derived.Test.YtoabakgmjcnodaaDoorRefWants
import Derived.Test.YtoabakgmjcnodaaDoorFormSpec
import Derived.Test.YtoabakgmjcnodaaDoorFormWalk
import Derived.Deep.QuietTactic
import Derived.BigQuiet
import Derived.Deep.RegionHeld3
import Derived.Deep.RegionLaw
import Derived.Deep.AppendLies
namespace Go.Proofs.YtoabakgmjcnodaaDoor
open Go.ChangeShapes Go.WideShapes Go.ChangeAt Go.RowKit

/-- Is an output one of a task ahead, or twice there? -/
def twiceAt (l : List TS) (outs : List ByteArray) (i : Nat) : Bool := decide (0 ≤ makerI l (outs.getD i ByteArray.empty)) || decide (0 ≤ placeI (outs.take i) (outs.getD i ByteArray.empty))
def twiceB (l : List TS) (outs : List ByteArray) : Bool := (List.range outs.length).any (twiceAt l outs)
def onceTo (l : List TS) (outs : List ByteArray) (k : Nat) : Prop := ∀ i, i < k → twiceAt l outs i = false
theorem onceTo_succ {l : List TS} {outs : List ByteArray} {k : Nat} (h : onceTo l outs k) (h1 : twiceAt l outs k = false) : onceTo l outs (k + 1) := by
  intro i hi
  by_cases e : i = k
  · subst e; exact h1
  · exact h i (by omega)
theorem twice_hit {l : List TS} {outs : List ByteArray} {k : Nat} (hk : k < outs.length) (h1 : twiceAt l outs k = true) : twiceB l outs = true := by
  unfold twiceB; rw [List.any_eq_true]; exact ⟨k, List.mem_range.2 hk, h1⟩
theorem twice_miss {l : List TS} {outs : List ByteArray} (h : onceTo l outs outs.length) : twiceB l outs = false := by
  unfold twiceB; rw [List.any_eq_false]; intro i hi; rw [h i (List.mem_range.1 hi)]; simp

def newTask (S : PS) (f : FS) : TS := ⟨f.outs, f.act, f.ins, if f.cost = 0 then 1 else f.cost, if f.jobs = 0 then 1 else f.jobs, if f.pool.size = 0 then -1 else placeI S.pools f.pool⟩
def refTask (S : PS) (f : FS) : PS × Nat :=
  if S.tasks.length = 24 then (S, 1)
  else if f.pool.size ≠ 0 ∧ placeI S.pools f.pool < 0 then (S, 3)
  else if wantsB f.act f.outs.length f.ins.length = false then (S, 4)
  else if twiceB S.tasks f.outs = true then (S, 5)
  else ({ S with tasks := S.tasks ++ [newTask S f] }, 0)

theorem RPlan.same {w w1 : World} {pb : Nat} {M : Nat → Prop} {S : PS} {vT vP vD : Value} {cT : List Value} (R : RPlan w pb M S vT vP vD cT) (h : Below w.heap.size w w1) : RPlan w1 pb M S vT vP vD cT := by
  have hb : Same (fun _ => False) w w1 := ⟨h.os, h.tape, h.output, h.size, fun k hk _ => h.block k hk⟩
  exact ⟨(h.block pb (blk_lt R.blk)).trans R.blk, R.mine, hb.owns R.tasks (fun _ _ => id), hb.owns R.pools (fun _ _ => id), hb.owns R.depth (fun _ _ => id), R.mT, R.mP, R.mD,
    fun i hi => by
      obtain ⟨vO, vI, T⟩ := R.each i hi
      exact ⟨vO, vI, T.c0, T.c1, T.c2, T.c3, T.c4, T.c5, T.outs.same hb (fun _ _ => id), T.ins.same hb (fun _ _ => id), fun k hk => ⟨(T.aO k hk).1, Nat.lt_of_lt_of_le (T.aO k hk).2 h.size⟩, fun k hk => ⟨(T.aI k hk).1, Nat.lt_of_lt_of_le (T.aI k hk).2 h.size⟩, T.lO, T.lI⟩, R.few, fun k hk => Nat.lt_of_lt_of_le (R.old k hk) h.size⟩

theorem Tryd.info97 : (Tryd.prog.info? 97).map (fun i => (i.zero, i.size, i.bytes)) = some (some (.agg #[.slice none 0 0, .string ByteArray.empty, .slice none 0 0, .int .i64 0, .int .i64 0, .int .i64 0]), 6, 88) := by kernel_rfl

/-- What task leaves. -/
def TaskPost (w w1 : World) (pb : Nat) (M : Nat → Prop) (S1 : PS) (vP vD : Value) : Prop :=
  ∃ M1 vT1 cT1, RPlan w1 pb M1 S1 vT1 vP vD cT1 ∧ Same M w w1 ∧ ∀ k, M1 k → M k ∨ w.heap.size ≤ k

theorem TaskPost.none {w w1 : World} {pb : Nat} {M : Nat → Prop} {S : PS} {vT vP vD : Value} {cT : List Value} (R : RPlan w pb M S vT vP vD cT) (h : Below w.heap.size w w1) : TaskPost w w1 pb M S vP vD :=
  ⟨M, vT, cT, R.same h, ⟨h.os, h.tape, h.output, h.size, fun k hk _ => h.block k hk⟩, fun _ => .inl⟩
theorem Strs.take {w : World} {a : Option Addr} {n c : Nat} {ss : List ByteArray} (h : Strs w (.slice a n c) ss) (k : Nat) (hk : k ≤ ss.length) (c1 : Nat) (hk1 : k ≤ c1) : Strs w (.slice a k c1) (ss.take k) := by
  obtain ⟨a1, c2, e, _, h⟩ := h
  injection e with e1 e2 e3
  subst e1
  have hl : (ss.take k).length = k := by rw [List.length_take]; omega
  refine ⟨a, c1, by rw [hl], by omega, ?_⟩
  rcases h with h | ⟨b, off, h1, hc⟩
  · left; rw [h]; simp
  · right
    refine ⟨b, off, h1, fun i hi => ?_⟩
    rw [hl] at hi
    rw [hc i (by omega)]; simp

theorem Strs.heap {w w1 : World} {v : Value} {ss : List ByteArray} (h : Strs w v ss) (e : w1.heap = w.heap) : Strs w1 v ss := by
  obtain ⟨a, c, rfl, hl, h⟩ := h
  refine ⟨a, c, rfl, hl, ?_⟩
  rcases h with h | ⟨b, off, h1, hc⟩
  · exact .inl h
  · exact .inr ⟨b, off, h1, fun i hi => (World.cell?_of_block (by rw [e])).trans (hc i hi)⟩
theorem drewN_heap (w : World) (n : Nat) : (w.drewN n).heap = w.heap := by
  rfl
theorem below_drewN {B : Nat} {a w : World} (h : Below B a w) (n : Nat) : Below B a (w.drewN n) := by
  exact ⟨h.os, h.tape, h.output, h.size, h.block⟩

/-- Where the loop of task stands. -/
structure TRel (w wr : World) (pb : Nat) (M : Nat → Prop) (S : PS) (vT vP vD : Value) (cT : List Value) (tb : Nat) (outs ins : List ByteArray) (vO vI : Value) (act : ByteArray) (cost jobs : Nat) (pi : Int) : Prop where
  plan : RPlan wr pb M S vT vP vD cT
  blk : wr.heap[tb]? = some (.cells #[vO, .string act, vI, .int .i64 cost, .int .i64 jobs, .int .i64 pi] 97 (0, 0))
  outs : Strs wr vO outs
  ins : Strs wr vI ins
  bel : Below w.heap.size w wr
theorem TRel.drewN {w wr : World} {pb : Nat} {M : Nat → Prop} {S : PS} {vT vP vD : Value} {cT : List Value} {tb : Nat} {outs ins : List ByteArray} {vO vI : Value} {act : ByteArray} {cost jobs : Nat} {pi : Int}
    (h : TRel w wr pb M S vT vP vD cT tb outs ins vO vI act cost jobs pi) (n : Nat) : TRel w (wr.drewN n) pb M S vT vP vD cT tb outs ins vO vI act cost jobs pi :=
  ⟨h.plan.same (below_drewN (Below.refl _ _) n), by rw [drewN_heap]; exact h.blk, h.outs.heap (drewN_heap _ _), h.ins.heap (drewN_heap _ _), below_drewN h.bel n⟩
theorem strs_at {w : World} {a : Option Addr} {n c : Nat} {ss : List ByteArray} (h : Strs w (.slice a n c) ss) {k : Nat} (hk : k < ss.length) : ∃ b off, a = some ⟨b, off, none⟩ ∧ w.cell? ⟨b, off + k, none⟩ = some (.string ss[k]) := by
  obtain ⟨a1, c1, e, _, h⟩ := h
  injection e with e1 e2 e3
  subst e1
  rcases h with h | ⟨b, off, h1, hc⟩
  · rw [h] at hk; simp at hk
  · exact ⟨b, off, h1, hc k hk⟩
theorem Strs.below {w w1 : World} {v : Value} {ss : List ByteArray} (h : Strs w v ss) (hb : Below w.heap.size w w1) : Strs w1 v ss :=
  h.same (M := fun _ => False) ⟨hb.os, hb.tape, hb.output, hb.size, fun k hk _ => hb.block k hk⟩ (fun _ _ => id)

theorem alloc_drew_new (w : World) (o : Obj) (n : Nat) (h : n = w.heap.size) : (w.alloc o).drew.heap[n]? = some o := by
  rw [h]; exact heap_alloc_new w o
/-- Behind the append of the new task. -/
theorem app_task {w wr w1 : World} {pb : Nat} {M : Nat → Prop} {S : PS} {vT vP vD : Value} {cT : List Value} {outs ins : List ByteArray} {vO vI : Value} {act : ByteArray} {cost jobs : Nat} {pi : Int} {gg cap : Nat}
    (R : RPlan w pb M S vT vP vD cT) (T : TRel w wr pb M S vT vP vD cT w.heap.size outs ins vO vI act cost jobs pi) (o : Obj)
    (aO : ∀ k, vO.ownBlock = some k → ¬ M k ∧ k < w.heap.size) (aI : ∀ k, vI.ownBlock = some k → ¬ M k ∧ k < w.heap.size) (lO : outs.length ≤ 4000) (lI : ins.length ≤ 4000) (h24 : S.tasks.length ≠ 24)
    (hown : w1.ownsRow (pb + 1) 97 6 (.slice (some ⟨gg, 0, none⟩) (S.tasks.length + 1) cap) (S.tasks.length + 1) (cT ++ [vO, .string act, vI, .int .i64 cost, .int .i64 jobs, .int .i64 pi]))
    (hg : (wr.alloc o).drew.grownBy w1 vT.ownBlock) (hat : vT.ownBlock = some gg ∨ gg = wr.heap.size + 1) :
    TaskPost w (w1.setCell ⟨pb, 0, none⟩ (.slice (some ⟨gg, 0, none⟩) (S.tasks.length + 1) cap)) pb M { S with tasks := S.tasks ++ [⟨outs, act, ins, cost, jobs, pi⟩] } vP vD := by
  have hbs := T.bel.size
  have hpl := blk_lt T.plan.blk
  have hlow : ∀ k, vT.ownBlock = some k → pb + 1 ≤ k := fun k hk => (R.tasks.lt k hk).1
  have hb : ∀ k, k < wr.heap.size → vT.ownBlock ≠ some k → w1.heap[k]? = wr.heap[k]? := fun k hk hne =>
    (hg.block k (by simp; omega) (fun e => hne e.symm)).trans (Below.heap_alloc _ _ _ hk)
  have hsz : wr.heap.size + 1 ≤ w1.heap.size := by have := hg.size; simpa using this
  -- what is neither p nor the row of tasks is as it was
  have hS : Same (fun k => k = pb ∨ vT.ownBlock = some k) wr (w1.setCell ⟨pb, 0, none⟩ (.slice (some ⟨gg, 0, none⟩) (S.tasks.length + 1) cap)) :=
    ((((Same.refl _ wr).alloc o).drew).grown hg (fun k hk _ => .inr hk)).setCell (fun _ => .inl rfl) _
  have hM : ∀ k, (k = pb ∨ vT.ownBlock = some k) → M k := fun k h => h.elim (fun e => e ▸ R.mine) (R.mT k)
  have hnew : ∀ k, ¬ M k → k < wr.heap.size → ¬ (M k ∨ k = gg) := by
    intro k hk hlt h
    rcases h with h | h
    · exact hk h
    · rcases hat with e | e
      · exact hk (R.mT k (by rw [e, h]))
      · omega
  refine ⟨fun k => M k ∨ k = gg, .slice (some ⟨gg, 0, none⟩) (S.tasks.length + 1) cap, cT ++ [vO, .string act, vI, .int .i64 cost, .int .i64 jobs, .int .i64 pi], ?_, ?_, ?_⟩
  · refine ⟨blk_set ((hb pb hpl (fun e => by have := hlow _ e; omega)).trans T.plan.blk) rfl, .inl R.mine, ?_, ?_, ?_, ?_, ?_, ?_, ?_, ?_, ?_⟩
    · refine ownsRow_setCell_below ?_ (by simp) _
      simpa using hown
    · exact hS.owns T.plan.pools (fun k hk h => h.elim (fun e => by have := (T.plan.pools.lt k hk).1; omega) (fun e => owns_ne T.plan.pools T.plan.tasks (by decide) k hk e))
    · exact hS.owns T.plan.depth (fun k hk h => h.elim (fun e => by have := (T.plan.depth.lt k hk).1; omega) (fun e => owns_ne T.plan.depth T.plan.tasks (by decide) k hk e))
    · intro k hk; right; simpa [Value.ownBlock] using hk.symm
    · exact fun k hk => .inl (R.mP k hk)
    · exact fun k hk => .inl (R.mD k hk)
    · intro i hi
      have hcl := T.plan.tasks.1
      by_cases h : i < S.tasks.length
      · obtain ⟨uO, uI, U⟩ := T.plan.each i h
        have e : (S.tasks ++ [⟨outs, act, ins, cost, jobs, pi⟩])[i]'hi = S.tasks[i] := List.getElem_append_left h
        simp only [e]
        refine ⟨uO, uI, ?_, ?_, ?_, ?_, ?_, ?_, U.outs.same hS (fun k hk hh => (U.aO k hk).1 (hM k hh)), U.ins.same hS (fun k hk hh => (U.aI k hk).1 (hM k hh)), ?_, ?_, U.lO, U.lI⟩
        · rw [List.getElem?_append_left (by omega)]; exact U.c0
        · rw [List.getElem?_append_left (by omega)]; exact U.c1
        · rw [List.getElem?_append_left (by omega)]; exact U.c2
        · rw [List.getElem?_append_left (by omega)]; exact U.c3
        · rw [List.getElem?_append_left (by omega)]; exact U.c4
        · rw [List.getElem?_append_left (by omega)]; exact U.c5
        · exact fun k hk => ⟨hnew k (U.aO k hk).1 (U.aO k hk).2, by have := (U.aO k hk).2; simp; omega⟩
        · exact fun k hk => ⟨hnew k (U.aI k hk).1 (U.aI k hk).2, by have := (U.aI k hk).2; simp; omega⟩
      · have hi' : i = S.tasks.length := by simp at hi; omega
        subst hi'
        have e : (S.tasks ++ [⟨outs, act, ins, cost, jobs, pi⟩])[S.tasks.length]'hi = ⟨outs, act, ins, cost, jobs, pi⟩ := by simp
        simp only [e]
        have hcell : ∀ j, (cT ++ [vO, .string act, vI, .int .i64 cost, .int .i64 jobs, .int .i64 pi])[S.tasks.length * 6 + j]? = [vO, .string act, vI, .int .i64 cost, .int .i64 jobs, .int .i64 pi][j]? := by
          intro j; rw [List.getElem?_append_right (by omega), hcl]; congr 1; omega
        refine ⟨vO, vI, hcell 0, hcell 1, hcell 2, hcell 3, hcell 4, hcell 5, T.outs.same hS (fun k hk hh => (aO k hk).1 (hM k hh)), T.ins.same hS (fun k hk hh => (aI k hk).1 (hM k hh)), ?_, ?_, lO, lI⟩
        · exact fun k hk => ⟨hnew k (aO k hk).1 (by have := (aO k hk).2; omega), by have := (aO k hk).2; simp; omega⟩
        · exact fun k hk => ⟨hnew k (aI k hk).1 (by have := (aI k hk).2; omega), by have := (aI k hk).2; simp; omega⟩
    · have := R.few; simp; omega
    · intro k hk
      rcases hk with h | h
      · have := R.old k h; simp; omega
      · have := (hown.lt gg rfl).2; rw [h]; simpa using this
  · have h1 : Same M w wr := ⟨T.bel.os, T.bel.tape, T.bel.output, T.bel.size, fun k hk _ => T.bel.block k hk⟩
    exact h1.trans (hS.mono (fun k _ h => hM k h))
  · intro k hk
    rcases hk with h | h
    · exact .inl h
    · rcases hat with e | e
      · exact .inl (R.mT k (by rw [e, h]))
      · right; omega

set_option maxRecDepth 10000 in
set_option maxHeartbeats 4000000 in
theorem ref_task (w : World) (pb : Nat) (M : Nat → Prop) (S : PS) (vT vP vD : Value) (cT : List Value) (f : FS) (vO vI : Value) (R : RPlan w pb M S vT vP vD cT)
    (hO : Strs w vO f.outs) (hI : Strs w vI f.ins) (aO : ∀ k, vO.ownBlock = some k → ¬ M k ∧ k < w.heap.size) (aI : ∀ k, vI.ownBlock = some k → ¬ M k ∧ k < w.heap.size) (lO : f.outs.length ≤ 4000) (lI : f.ins.length ≤ 4000) (hc9 : f.cost ≤ 9) (hj9 : f.jobs ≤ 9) :
    Calls Tryd.prog 48 #[.pointer (some ⟨pb, 0, none⟩), .agg #[vO, .string f.act, vI, .int .i64 f.cost, .int .i64 f.jobs, .int .i64 (-1)], .string f.pool] w
      fun e w' => e = .returned (.int .i64 (refTask S f).2) ∧ TaskPost w w' pb M (refTask S f).1 vP vD := by
  obtain ⟨i0, hi, hz0, hz1, hz2⟩ := info_parts Tryd.info97
  obtain ⟨p0, p1, p2, pf⟩ := three R.blk
  obtain ⟨outs, act, ins, cost, jobs, pool, hf⟩ : ∃ outs act ins cost jobs pool, f = ⟨f.mode, outs, act, ins, cost, jobs, pool⟩ := ⟨_, _, _, _, _, _, rfl⟩
  obtain ⟨m, rfl⟩ : ∃ m, f = ⟨m, outs, act, ins, cost, jobs, pool⟩ := ⟨_, hf⟩
  clear hf
  simp only at hO hI lO lI hc9 hj9 ⊢
  have hfew := R.few
  obtain ⟨aT, qT, hvT⟩ := owns_shape R.tasks
  obtain ⟨aP, qP, hvP⟩ := owns_shape R.pools
  subst hvT hvP
  have hO' := hO
  have hI' := hI
  obtain ⟨xO, yO, rfl, hyO, _⟩ := hO'
  obtain ⟨xI, yI, rfl, hyI, _⟩ := hI'
  have hpb := blk_lt R.blk
  obtain ⟨RT, hRT⟩ : ∃ RT, refTask S ⟨m, outs, act, ins, cost, jobs, pool⟩ = RT := ⟨_, rfl⟩
  rw [hRT]
  have HR : Hid (refTask S ⟨m, outs, act, ins, cost, jobs, pool⟩ = RT) := hRT
  by_cases h24 : S.tasks.length = 24
  · have hb : ((S.tasks.length : Int) == 24) = true := by rw [h24]; rfl
    have HE : Hid (RT = (S, 1)) := by rw [← HR.out]; simp [Hid, refTask, h24]
    clear hRT HR h24
    go_enter Tryd.func48, Tryd.ntmps48
    go_wp2
    go_ret
    rw [HE.out]
    exact ⟨ret_int rfl, TaskPost.none R ((Below.refl _ _).alloc (Nat.le_refl _) _)⟩
  have hb24 : ((S.tasks.length : Int) == 24) = false := by rw [beq_eq_false_iff_ne]; omega
  have hPs : Strs w (.slice aP S.pools.length qP) S.pools := Strs.owned R.pools
  by_cases hp0 : pool.size = 0
  · have hpe : pool.toList.isEmpty = true := by rw [toList_isEmpty]; simpa using hp0
    obtain ⟨wb, hwb⟩ : ∃ wb, wantsB act outs.length ins.length = wb := ⟨_, rfl⟩
    have HWB : Hid (wantsB act outs.length ins.length = wb) := hwb
    cases wb
    · have HE : Hid (RT = (S, 4)) := by rw [← HR.out]; simp [Hid, refTask, h24, hp0, hwb]
      clear hRT HR h24 hp0 hwb
      go_enter Tryd.func48, Tryd.ntmps48
      go_wp2_with (go_at_call 64; refine (ref_wants xO xI yO yI outs.length ins.length act cost jobs (-1) _ lO lI).mono ?_; rintro e w1 ⟨rfl, hw⟩; rw [HWB.out]; subst hw)
      go_ret
      rw [HE.out]
      exact ⟨ret_int rfl, TaskPost.none R (((Below.refl _ _).alloc (Nat.le_refl _) _).alloc (by simp) _)⟩
    · have HS : Hid (S.tasks.length ≠ 24 ∧ pool.size = 0 ∧ wantsB act outs.length ins.length = true) := ⟨h24, hp0, hwb⟩
      clear hRT h24 hp0 hwb
      go_enter Tryd.func48, Tryd.ntmps48
      go_wp2_with (go_at_call 64; refine (ref_wants xO xI yO yI outs.length ins.length act cost jobs (-1) _ lO lI).mono ?_; rintro e w1 ⟨rfl, hw⟩; rw [HWB.out]; subst hw)
      go_loopw [6, 8, 9, 10] (fun _ i _ _ wr => ∃ k : Nat, k ≤ outs.length ∧ i = .int .i64 k ∧ onceTo S.tasks outs k ∧
          TRel w wr pb M S (.slice aT S.tasks.length qT) (.slice aP S.pools.length qP) vD cT w.heap.size outs ins (.slice xO outs.length yO) (.slice xI ins.length yI) act cost jobs (-1))
        (fun _ i _ _ _ => outs.length - (intOf i).toNat)
      case atStart =>
        have hb2 := ((Below.refl w.heap.size w).alloc (Nat.le_refl _) (.cells #[.slice xO outs.length yO, .string act, .slice xI ins.length yI, .int .i64 cost, .int .i64 jobs, .int .i64 (-1)] 97)).alloc (by simp) (.cells #[.slice xO outs.length yO, .string act, .slice xI ins.length yI, .int .i64 cost, .int .i64 jobs, .int .i64 (-1)] 97)
        exact ⟨0, Nat.zero_le _, rfl, fun i hi => by omega, R.same hb2, heap_alloc2_old _ _ _, hO.below hb2, hI.below hb2, hb2⟩
      case round =>
        obtain ⟨k, hk, rfl, hno, T⟩ := hrel
        obtain ⟨c0, c1, c2, c3, c4, c5, cf⟩ := six T.blk
        by_cases hlt : k < outs.length
        · obtain ⟨b, off, hx, hc⟩ := strs_at T.outs hlt
          subst hx
          obtain ⟨x, hx⟩ : ∃ x, x = outs[k] := ⟨_, rfl⟩
          have HX : Hid (x = outs[k]) := hx
          rw [← hx] at hc
          clear hx
          have hTk := T.outs.take k hk yO (by omega)
          have hkN : k ≤ yO := by omega
          have hkI : (k : Int) ≤ (yO : Int) := by omega
          obtain ⟨mk, hmk⟩ : ∃ mk, makerI S.tasks x = mk := ⟨_, rfl⟩
          have HMK : Hid (makerI S.tasks x = mk) := hmk
          obtain ⟨pl, hpl⟩ : ∃ pl, placeI (outs.take k) x = pl := ⟨_, rfl⟩
          have HPL : Hid (placeI (outs.take k) x = pl) := hpl
          have HTW : Hid (twiceAt S.tasks outs k = (decide (0 ≤ mk) || decide (0 ≤ pl))) := by
            have e : outs.getD k ByteArray.empty = x := by rw [HX.out]; simp [List.getD_eq_getElem?_getD, hlt]
            show twiceAt S.tasks outs k = _
            unfold twiceAt; rw [e, hmk, hpl]
          have CPL : Hid (∀ n, Calls Tryd.prog 46 #[.slice (some ⟨b, off, none⟩) k yO, .string x] (wr.drewN n) fun e w' => e = .returned (.int .i64 pl) ∧ w' = wr.drewN n) := by
            intro n
            have h := ref_place _ (outs.take k) x (wr.drewN n) (hTk.heap (drewN_heap _ _)) (by rw [List.length_take]; unfold maxLen; omega)
            rwa [hpl] at h
          clear hmk hpl
          go_wp2_with (go_at_call 65; refine (ref_Maker x _ pb M S _ _ vD cT T.plan).mono ?_; rintro e w1 ⟨rfl, hw⟩; rw [HMK.out]; subst hw)
          go_quiet ((go_at_call 46; exact Calls.quiet_of_same (CPL.out _)))
          by_cases h1 : 0 ≤ mk
          · have HE : Hid (RT = (S, 5)) := by
              have := twice_hit hlt (by rw [HTW.out]; simp [h1])
              rw [← HR.out]; simp [Hid, refTask, HS.out, this]
            go_wp2
            go_ret
            rw [HE.out]
            exact ⟨ret_int rfl, TaskPost.none R (below_drewN T.bel _)⟩
          · by_cases h2 : 0 ≤ pl
            · have HE : Hid (RT = (S, 5)) := by
                have := twice_hit hlt (by rw [HTW.out]; simp [h2])
                rw [← HR.out]; simp [Hid, refTask, HS.out, this]
              go_wp2
              go_ret
              rw [HE.out]
              exact ⟨ret_int rfl, TaskPost.none R (below_drewN T.bel _)⟩
            · have HN : Hid (onceTo S.tasks outs (k + 1)) := onceTo_succ hno (by rw [HTW.out]; simp [h1, h2])
              go_wp2
              go_roundw
              case rel => exact ⟨k + 1, by omega, by go_num, HN.out, T.drewN _⟩
              case measure => simp [intOf]; omega
        · have HE : Hid (RT = ({ S with tasks := S.tasks ++ [newTask S ⟨m, outs, act, ins, cost, jobs, pool⟩] }, 0)) := by
            have := twice_miss (l := S.tasks) (outs := outs) (by rw [show outs.length = k by omega]; exact hno)
            rw [← HR.out]; simp [Hid, refTask, HS.out, this]
          by_cases hc0 : cost = 0
          · have hb1 : ((cost : Int) == 0) = true := by rw [hc0]; rfl
            by_cases hj0 : jobs = 0
            · have hb2 : ((jobs : Int) == 0) = true := by rw [hj0]; rfl
              have hbW : Below w.heap.size w ((wr.setCell ⟨w.heap.size, 3, none⟩ (.int .i64 1)).setCell ⟨w.heap.size, 4, none⟩ (.int .i64 1)) := (T.bel.setCell (Nat.le_refl _) _).setCell (Nat.le_refl _) _
              have hB : ((wr.setCell ⟨w.heap.size, 3, none⟩ (.int .i64 1)).setCell ⟨w.heap.size, 4, none⟩ (.int .i64 1)).heap[w.heap.size]? = some (.cells #[.slice xO outs.length yO, .string act, .slice xI ins.length yI, .int .i64 (1 : Nat), .int .i64 (1 : Nat), .int .i64 (-1)] 97 (0, 0)) := blk_set (blk_set T.blk rfl) rfl
              have TT : TRel w ((wr.setCell ⟨w.heap.size, 3, none⟩ (.int .i64 1)).setCell ⟨w.heap.size, 4, none⟩ (.int .i64 1)) pb M S (.slice aT S.tasks.length qT) (.slice aP S.pools.length qP) vD cT w.heap.size outs ins (.slice xO outs.length yO) (.slice xI ins.length yI) act 1 1 (-1) := ⟨R.same hbW, hB, hO.below hbW, hI.below hbW, hbW⟩
              obtain ⟨q0, q1, q2, qf⟩ := three TT.plan.blk
              obtain ⟨e0, e1, e2, e3, e4, e5, ef⟩ := six TT.blk
              have hbs := TT.bel.size
              have hown := TT.plan.tasks
              have hpl := blk_lt TT.plan.blk
              have htl := blk_lt TT.blk
              have hqf : ∀ o, (World.alloc ((wr.setCell ⟨w.heap.size, 3, none⟩ (.int .i64 1)).setCell ⟨w.heap.size, 4, none⟩ (.int .i64 1)) o).frozen? ⟨pb, 0, none⟩ = false := fun o => (World.frozen?_of_block (Below.heap_alloc _ _ _ hpl)).trans (qf 0)
              have hqc : ∀ o, (World.alloc ((wr.setCell ⟨w.heap.size, 3, none⟩ (.int .i64 1)).setCell ⟨w.heap.size, 4, none⟩ (.int .i64 1)) o).cell? ⟨pb, 0, none⟩ = some (.slice aT S.tasks.length qT) := fun o => (World.cell?_of_block (Below.heap_alloc _ _ _ hpl)).trans q0
              have hne1 : some pb ≠ (Value.slice aT S.tasks.length qT).ownBlock := fun e => by have := (R.tasks.lt pb e.symm).1; omega
              have hne2 : some w.heap.size ≠ (Value.slice aT S.tasks.length qT).ownBlock := fun e => by have := (R.tasks.lt _ e.symm).2; omega
              try simp only [World.size_setCell] at hpl htl hbs
              go_wp2_with fail
              go_region_law
                ((refine step_append_lies _ (by rfl) _ _ _ (by rfl) (pb + 1) 97 i0 _ 6 88 Tryd.underlying70 hi hz0 hz1 hz2 rfl (by omega) _ S.tasks.length cT (by rfl) ((hown.alloc _).drew)
                    ⟨wr.heap.size, 0, none⟩ 1 1 [.slice xO outs.length yO, .string act, .slice xI ins.length yI, .int .i64 (1 : Nat), .int .i64 (1 : Nat), .int .i64 (-1)] (by rfl) (by rfl) (World.news_of_block (cs := #[.slice xO outs.length yO, .string act, .slice xI ins.length yI, .int .i64 (1 : Nat), .int .i64 (1 : Nat), .int .i64 (-1)]) (t := 97) (fr := (0, 0)) (alloc_drew_new ((wr.setCell ⟨w.heap.size, 3, none⟩ (.int .i64 1)).setCell ⟨w.heap.size, 4, none⟩ (.int .i64 1)) _ _ (by simp))) (by simp [Value.oneCell'])
                    (by omega) (by unfold maxLen; omega) (by omega) (by simp; omega) (wr.heap.size + 1) (by simp) ?_; intro gg cap w1 hown1 hgrow hat hlt1; have hfz : w1.frozen? ⟨pb, 0, none⟩ = false := (hgrow.frozen_far _ (by simp; omega) hne1).trans (by simpa using hqf _); have hcz : w1.cell? ⟨pb, 0, none⟩ = some (.slice aT S.tasks.length qT) := (hgrow.cell_far _ (by simp; omega) hne1).trans (by simpa using hqc _)))
              all_goals
                go_wp2
                go_ret
                rw [HE.out]
                refine ⟨ret_int rfl, ?_⟩
                have A := app_task R TT _ aO aI lO lI HS.out.1 hown1 hgrow (by simpa using hat)
                simpa [newTask, hc0, hj0, HS.out] using A
            · have hb2 : ((jobs : Int) == 0) = false := by rw [beq_eq_false_iff_ne]; omega
              have hbW : Below w.heap.size w (wr.setCell ⟨w.heap.size, 3, none⟩ (.int .i64 1)) := T.bel.setCell (Nat.le_refl _) _
              have hB : (wr.setCell ⟨w.heap.size, 3, none⟩ (.int .i64 1)).heap[w.heap.size]? = some (.cells #[.slice xO outs.length yO, .string act, .slice xI ins.length yI, .int .i64 (1 : Nat), .int .i64 jobs, .int .i64 (-1)] 97 (0, 0)) := blk_set T.blk rfl
              have TT : TRel w (wr.setCell ⟨w.heap.size, 3, none⟩ (.int .i64 1)) pb M S (.slice aT S.tasks.length qT) (.slice aP S.pools.length qP) vD cT w.heap.size outs ins (.slice xO outs.length yO) (.slice xI ins.length yI) act 1 jobs (-1) := ⟨R.same hbW, hB, hO.below hbW, hI.below hbW, hbW⟩
              obtain ⟨q0, q1, q2, qf⟩ := three TT.plan.blk
              obtain ⟨e0, e1, e2, e3, e4, e5, ef⟩ := six TT.blk
              have hbs := TT.bel.size
              have hown := TT.plan.tasks
              have hpl := blk_lt TT.plan.blk
              have htl := blk_lt TT.blk
              have hqf : ∀ o, (World.alloc (wr.setCell ⟨w.heap.size, 3, none⟩ (.int .i64 1)) o).frozen? ⟨pb, 0, none⟩ = false := fun o => (World.frozen?_of_block (Below.heap_alloc _ _ _ hpl)).trans (qf 0)
              have hqc : ∀ o, (World.alloc (wr.setCell ⟨w.heap.size, 3, none⟩ (.int .i64 1)) o).cell? ⟨pb, 0, none⟩ = some (.slice aT S.tasks.length qT) := fun o => (World.cell?_of_block (Below.heap_alloc _ _ _ hpl)).trans q0
              have hne1 : some pb ≠ (Value.slice aT S.tasks.length qT).ownBlock := fun e => by have := (R.tasks.lt pb e.symm).1; omega
              have hne2 : some w.heap.size ≠ (Value.slice aT S.tasks.length qT).ownBlock := fun e => by have := (R.tasks.lt _ e.symm).2; omega
              try simp only [World.size_setCell] at hpl htl hbs
              go_wp2_with fail
              go_region_law
                ((refine step_append_lies _ (by rfl) _ _ _ (by rfl) (pb + 1) 97 i0 _ 6 88 Tryd.underlying70 hi hz0 hz1 hz2 rfl (by omega) _ S.tasks.length cT (by rfl) ((hown.alloc _).drew)
                    ⟨wr.heap.size, 0, none⟩ 1 1 [.slice xO outs.length yO, .string act, .slice xI ins.length yI, .int .i64 (1 : Nat), .int .i64 (jobs : Nat), .int .i64 (-1)] (by rfl) (by rfl) (World.news_of_block (cs := #[.slice xO outs.length yO, .string act, .slice xI ins.length yI, .int .i64 (1 : Nat), .int .i64 (jobs : Nat), .int .i64 (-1)]) (t := 97) (fr := (0, 0)) (alloc_drew_new (wr.setCell ⟨w.heap.size, 3, none⟩ (.int .i64 1)) _ _ (by simp))) (by simp [Value.oneCell'])
                    (by omega) (by unfold maxLen; omega) (by omega) (by simp; omega) (wr.heap.size + 1) (by simp) ?_; intro gg cap w1 hown1 hgrow hat hlt1; have hfz : w1.frozen? ⟨pb, 0, none⟩ = false := (hgrow.frozen_far _ (by simp; omega) hne1).trans (by simpa using hqf _); have hcz : w1.cell? ⟨pb, 0, none⟩ = some (.slice aT S.tasks.length qT) := (hgrow.cell_far _ (by simp; omega) hne1).trans (by simpa using hqc _)))
              all_goals
                go_wp2
                go_ret
                rw [HE.out]
                refine ⟨ret_int rfl, ?_⟩
                have A := app_task R TT _ aO aI lO lI HS.out.1 hown1 hgrow (by simpa using hat)
                simpa [newTask, hc0, hj0, HS.out] using A
          · have hb1 : ((cost : Int) == 0) = false := by rw [beq_eq_false_iff_ne]; omega
            by_cases hj0 : jobs = 0
            · have hb2 : ((jobs : Int) == 0) = true := by rw [hj0]; rfl
              have hbW : Below w.heap.size w (wr.setCell ⟨w.heap.size, 4, none⟩ (.int .i64 1)) := T.bel.setCell (Nat.le_refl _) _
              have hB : (wr.setCell ⟨w.heap.size, 4, none⟩ (.int .i64 1)).heap[w.heap.size]? = some (.cells #[.slice xO outs.length yO, .string act, .slice xI ins.length yI, .int .i64 cost, .int .i64 (1 : Nat), .int .i64 (-1)] 97 (0, 0)) := blk_set T.blk rfl
              have TT : TRel w (wr.setCell ⟨w.heap.size, 4, none⟩ (.int .i64 1)) pb M S (.slice aT S.tasks.length qT) (.slice aP S.pools.length qP) vD cT w.heap.size outs ins (.slice xO outs.length yO) (.slice xI ins.length yI) act cost 1 (-1) := ⟨R.same hbW, hB, hO.below hbW, hI.below hbW, hbW⟩
              obtain ⟨q0, q1, q2, qf⟩ := three TT.plan.blk
              obtain ⟨e0, e1, e2, e3, e4, e5, ef⟩ := six TT.blk
              have hbs := TT.bel.size
              have hown := TT.plan.tasks
              have hpl := blk_lt TT.plan.blk
              have htl := blk_lt TT.blk
              have hqf : ∀ o, (World.alloc (wr.setCell ⟨w.heap.size, 4, none⟩ (.int .i64 1)) o).frozen? ⟨pb, 0, none⟩ = false := fun o => (World.frozen?_of_block (Below.heap_alloc _ _ _ hpl)).trans (qf 0)
              have hqc : ∀ o, (World.alloc (wr.setCell ⟨w.heap.size, 4, none⟩ (.int .i64 1)) o).cell? ⟨pb, 0, none⟩ = some (.slice aT S.tasks.length qT) := fun o => (World.cell?_of_block (Below.heap_alloc _ _ _ hpl)).trans q0
              have hne1 : some pb ≠ (Value.slice aT S.tasks.length qT).ownBlock := fun e => by have := (R.tasks.lt pb e.symm).1; omega
              have hne2 : some w.heap.size ≠ (Value.slice aT S.tasks.length qT).ownBlock := fun e => by have := (R.tasks.lt _ e.symm).2; omega
              try simp only [World.size_setCell] at hpl htl hbs
              go_wp2_with fail
              go_region_law
                ((refine step_append_lies _ (by rfl) _ _ _ (by rfl) (pb + 1) 97 i0 _ 6 88 Tryd.underlying70 hi hz0 hz1 hz2 rfl (by omega) _ S.tasks.length cT (by rfl) ((hown.alloc _).drew)
                    ⟨wr.heap.size, 0, none⟩ 1 1 [.slice xO outs.length yO, .string act, .slice xI ins.length yI, .int .i64 (cost : Nat), .int .i64 (1 : Nat), .int .i64 (-1)] (by rfl) (by rfl) (World.news_of_block (cs := #[.slice xO outs.length yO, .string act, .slice xI ins.length yI, .int .i64 (cost : Nat), .int .i64 (1 : Nat), .int .i64 (-1)]) (t := 97) (fr := (0, 0)) (alloc_drew_new (wr.setCell ⟨w.heap.size, 4, none⟩ (.int .i64 1)) _ _ (by simp))) (by simp [Value.oneCell'])
                    (by omega) (by unfold maxLen; omega) (by omega) (by simp; omega) (wr.heap.size + 1) (by simp) ?_; intro gg cap w1 hown1 hgrow hat hlt1; have hfz : w1.frozen? ⟨pb, 0, none⟩ = false := (hgrow.frozen_far _ (by simp; omega) hne1).trans (by simpa using hqf _); have hcz : w1.cell? ⟨pb, 0, none⟩ = some (.slice aT S.tasks.length qT) := (hgrow.cell_far _ (by simp; omega) hne1).trans (by simpa using hqc _)))
              all_goals
                go_wp2
                go_ret
                rw [HE.out]
                refine ⟨ret_int rfl, ?_⟩
                have A := app_task R TT _ aO aI lO lI HS.out.1 hown1 hgrow (by simpa using hat)
                simpa [newTask, hc0, hj0, HS.out] using A
            · have hb2 : ((jobs : Int) == 0) = false := by rw [beq_eq_false_iff_ne]; omega
              have hbW : Below w.heap.size w wr := T.bel
              have hB : wr.heap[w.heap.size]? = some (.cells #[.slice xO outs.length yO, .string act, .slice xI ins.length yI, .int .i64 cost, .int .i64 jobs, .int .i64 (-1)] 97 (0, 0)) := T.blk
              have TT : TRel w wr pb M S (.slice aT S.tasks.length qT) (.slice aP S.pools.length qP) vD cT w.heap.size outs ins (.slice xO outs.length yO) (.slice xI ins.length yI) act cost jobs (-1) := ⟨R.same hbW, hB, hO.below hbW, hI.below hbW, hbW⟩
              obtain ⟨q0, q1, q2, qf⟩ := three TT.plan.blk
              obtain ⟨e0, e1, e2, e3, e4, e5, ef⟩ := six TT.blk
              have hbs := TT.bel.size
              have hown := TT.plan.tasks
              have hpl := blk_lt TT.plan.blk
              have htl := blk_lt TT.blk
              have hqf : ∀ o, (World.alloc wr o).frozen? ⟨pb, 0, none⟩ = false := fun o => (World.frozen?_of_block (Below.heap_alloc _ _ _ hpl)).trans (qf 0)
              have hqc : ∀ o, (World.alloc wr o).cell? ⟨pb, 0, none⟩ = some (.slice aT S.tasks.length qT) := fun o => (World.cell?_of_block (Below.heap_alloc _ _ _ hpl)).trans q0
              have hne1 : some pb ≠ (Value.slice aT S.tasks.length qT).ownBlock := fun e => by have := (R.tasks.lt pb e.symm).1; omega
              have hne2 : some w.heap.size ≠ (Value.slice aT S.tasks.length qT).ownBlock := fun e => by have := (R.tasks.lt _ e.symm).2; omega
              try simp only [World.size_setCell] at hpl htl hbs
              go_wp2_with fail
              go_region_law
                ((refine step_append_lies _ (by rfl) _ _ _ (by rfl) (pb + 1) 97 i0 _ 6 88 Tryd.underlying70 hi hz0 hz1 hz2 rfl (by omega) _ S.tasks.length cT (by rfl) ((hown.alloc _).drew)
                    ⟨wr.heap.size, 0, none⟩ 1 1 [.slice xO outs.length yO, .string act, .slice xI ins.length yI, .int .i64 (cost : Nat), .int .i64 (jobs : Nat), .int .i64 (-1)] (by rfl) (by rfl) (World.news_of_block (cs := #[.slice xO outs.length yO, .string act, .slice xI ins.length yI, .int .i64 (cost : Nat), .int .i64 (jobs : Nat), .int .i64 (-1)]) (t := 97) (fr := (0, 0)) (alloc_drew_new wr _ _ (by simp))) (by simp [Value.oneCell'])
                    (by omega) (by unfold maxLen; omega) (by omega) (by simp; omega) (wr.heap.size + 1) (by simp) ?_; intro gg cap w1 hown1 hgrow hat hlt1; have hfz : w1.frozen? ⟨pb, 0, none⟩ = false := (hgrow.frozen_far _ (by simp; omega) hne1).trans (by simpa using hqf _); have hcz : w1.cell? ⟨pb, 0, none⟩ = some (.slice aT S.tasks.length qT) := (hgrow.cell_far _ (by simp; omega) hne1).trans (by simpa using hqc _)))
              all_goals
                go_wp2
                go_ret
                rw [HE.out]
                refine ⟨ret_int rfl, ?_⟩
                have A := app_task R TT _ aO aI lO lI HS.out.1 hown1 hgrow (by simpa using hat)
                simpa [newTask, hc0, hj0, HS.out] using A
  · have hpe : pool.toList.isEmpty = false := by rw [toList_isEmpty]; simpa using hp0
    obtain ⟨pi, hpi⟩ : ∃ pi, placeI S.pools pool = pi := ⟨_, rfl⟩
    have HPI : Hid (placeI S.pools pool = pi) := hpi
    have hb1 := (Below.refl w.heap.size w).alloc (Nat.le_refl _) (.cells #[.slice xO outs.length yO, .string act, .slice xI ins.length yI, .int .i64 cost, .int .i64 jobs, .int .i64 (-1)] 97)
    have hP1 := hPs.below hb1
    by_cases hneg : pi < 0
    · have HE : Hid (RT = (S, 3)) := by rw [← HR.out]; simp [Hid, refTask, h24, hp0, hpi, hneg]
      clear hRT HR h24 hp0 hpi
      go_enter Tryd.func48, Tryd.ntmps48
      go_wp2_with (go_at_call 46; refine (ref_place _ S.pools pool _ hP1 (by unfold maxLen; omega)).mono ?_; rintro e w1 ⟨rfl, hw⟩; rw [HPI.out]; subst hw)
      go_ret
      rw [HE.out]
      exact ⟨ret_int rfl, TaskPost.none R ((Below.refl _ _).alloc (Nat.le_refl _) _)⟩
    · obtain ⟨wb, hwb⟩ : ∃ wb, wantsB act outs.length ins.length = wb := ⟨_, rfl⟩
      have HWB : Hid (wantsB act outs.length ins.length = wb) := hwb
      cases wb
      · have HE : Hid (RT = (S, 4)) := by rw [← HR.out]; simp [Hid, refTask, h24, hp0, hpi, hneg, hwb]
        clear hRT HR h24 hp0 hpi hwb
        go_enter Tryd.func48, Tryd.ntmps48
        go_wp2_with (first
          | (go_at_call 46; refine (ref_place _ S.pools pool _ hP1 (by unfold maxLen; omega)).mono ?_; rintro e w1 ⟨rfl, hw⟩; rw [HPI.out]; subst hw)
          | (go_at_call 64; refine (ref_wants xO xI yO yI outs.length ins.length act cost jobs pi _ lO lI).mono ?_; rintro e w1 ⟨rfl, hw⟩; rw [HWB.out]; subst hw))
        go_ret
        rw [HE.out]
        exact ⟨ret_int rfl, TaskPost.none R (((Below.refl _ _).alloc (Nat.le_refl _) _).alloc (by simp) _)⟩
      · have HS : Hid (S.tasks.length ≠ 24 ∧ pool.size ≠ 0 ∧ placeI S.pools pool = pi ∧ ¬ pi < 0 ∧ wantsB act outs.length ins.length = true) := ⟨h24, hp0, hpi, hneg, hwb⟩
        clear hRT h24 hp0 hpi hwb
        go_enter Tryd.func48, Tryd.ntmps48
        go_wp2_with (first
          | (go_at_call 46; refine (ref_place _ S.pools pool _ hP1 (by unfold maxLen; omega)).mono ?_; rintro e w1 ⟨rfl, hw⟩; rw [HPI.out]; subst hw)
          | (go_at_call 64; refine (ref_wants xO xI yO yI outs.length ins.length act cost jobs pi _ lO lI).mono ?_; rintro e w1 ⟨rfl, hw⟩; rw [HWB.out]; subst hw))
        clear hb1 hP1
        go_loopw [6, 8, 9, 10] (fun _ i _ _ wr => ∃ k : Nat, k ≤ outs.length ∧ i = .int .i64 k ∧ onceTo S.tasks outs k ∧
            TRel w wr pb M S (.slice aT S.tasks.length qT) (.slice aP S.pools.length qP) vD cT w.heap.size outs ins (.slice xO outs.length yO) (.slice xI ins.length yI) act cost jobs pi)
          (fun _ i _ _ _ => outs.length - (intOf i).toNat)
        case atStart =>
          have hb2 := ((Below.refl w.heap.size w).alloc (Nat.le_refl _) (.cells #[.slice xO outs.length yO, .string act, .slice xI ins.length yI, .int .i64 cost, .int .i64 jobs, .int .i64 pi] 97)).alloc (by simp) (.cells #[.slice xO outs.length yO, .string act, .slice xI ins.length yI, .int .i64 cost, .int .i64 jobs, .int .i64 pi] 97)
          exact ⟨0, Nat.zero_le _, rfl, fun i hi => by omega, R.same hb2, heap_alloc2_old _ _ _, hO.below hb2, hI.below hb2, hb2⟩
        case round =>
          obtain ⟨k, hk, rfl, hno, T⟩ := hrel
          obtain ⟨c0, c1, c2, c3, c4, c5, cf⟩ := six T.blk
          by_cases hlt : k < outs.length
          · obtain ⟨b, off, hx, hc⟩ := strs_at T.outs hlt
            subst hx
            obtain ⟨x, hx⟩ : ∃ x, x = outs[k] := ⟨_, rfl⟩
            have HX : Hid (x = outs[k]) := hx
            rw [← hx] at hc
            clear hx
            have hTk := T.outs.take k hk yO (by omega)
            have hkN : k ≤ yO := by omega
            have hkI : (k : Int) ≤ (yO : Int) := by omega
            obtain ⟨mk, hmk⟩ : ∃ mk, makerI S.tasks x = mk := ⟨_, rfl⟩
            have HMK : Hid (makerI S.tasks x = mk) := hmk
            obtain ⟨pl, hpl⟩ : ∃ pl, placeI (outs.take k) x = pl := ⟨_, rfl⟩
            have HPL : Hid (placeI (outs.take k) x = pl) := hpl
            have HTW : Hid (twiceAt S.tasks outs k = (decide (0 ≤ mk) || decide (0 ≤ pl))) := by
              have e : outs.getD k ByteArray.empty = x := by rw [HX.out]; simp [List.getD_eq_getElem?_getD, hlt]
              show twiceAt S.tasks outs k = _
              unfold twiceAt; rw [e, hmk, hpl]
            have CPL : Hid (∀ n, Calls Tryd.prog 46 #[.slice (some ⟨b, off, none⟩) k yO, .string x] (wr.drewN n) fun e w' => e = .returned (.int .i64 pl) ∧ w' = wr.drewN n) := by
              intro n
              have h := ref_place _ (outs.take k) x (wr.drewN n) (hTk.heap (drewN_heap _ _)) (by rw [List.length_take]; unfold maxLen; omega)
              rwa [hpl] at h
            clear hmk hpl
            go_wp2_with (go_at_call 65; refine (ref_Maker x _ pb M S _ _ vD cT T.plan).mono ?_; rintro e w1 ⟨rfl, hw⟩; rw [HMK.out]; subst hw)
            go_quiet ((go_at_call 46; exact Calls.quiet_of_same (CPL.out _)))
            by_cases h1 : 0 ≤ mk
            · have HE : Hid (RT = (S, 5)) := by
                have := twice_hit hlt (by rw [HTW.out]; simp [h1])
                rw [← HR.out]; simp [Hid, refTask, HS.out, this]
              go_wp2
              go_ret
              rw [HE.out]
              exact ⟨ret_int rfl, TaskPost.none R (below_drewN T.bel _)⟩
            · by_cases h2 : 0 ≤ pl
              · have HE : Hid (RT = (S, 5)) := by
                  have := twice_hit hlt (by rw [HTW.out]; simp [h2])
                  rw [← HR.out]; simp [Hid, refTask, HS.out, this]
                go_wp2
                go_ret
                rw [HE.out]
                exact ⟨ret_int rfl, TaskPost.none R (below_drewN T.bel _)⟩
              · have HN : Hid (onceTo S.tasks outs (k + 1)) := onceTo_succ hno (by rw [HTW.out]; simp [h1, h2])
                go_wp2
                go_roundw
                case rel => exact ⟨k + 1, by omega, by go_num, HN.out, T.drewN _⟩
                case measure => simp [intOf]; omega
          · have HE : Hid (RT = ({ S with tasks := S.tasks ++ [newTask S ⟨m, outs, act, ins, cost, jobs, pool⟩] }, 0)) := by
              have := twice_miss (l := S.tasks) (outs := outs) (by rw [show outs.length = k by omega]; exact hno)
              rw [← HR.out]; simp [Hid, refTask, HS.out, this]
            by_cases hc0 : cost = 0
            · have hb1 : ((cost : Int) == 0) = true := by rw [hc0]; rfl
              by_cases hj0 : jobs = 0
              · have hb2 : ((jobs : Int) == 0) = true := by rw [hj0]; rfl
                have hbW : Below w.heap.size w ((wr.setCell ⟨w.heap.size, 3, none⟩ (.int .i64 1)).setCell ⟨w.heap.size, 4, none⟩ (.int .i64 1)) := (T.bel.setCell (Nat.le_refl _) _).setCell (Nat.le_refl _) _
                have hB : ((wr.setCell ⟨w.heap.size, 3, none⟩ (.int .i64 1)).setCell ⟨w.heap.size, 4, none⟩ (.int .i64 1)).heap[w.heap.size]? = some (.cells #[.slice xO outs.length yO, .string act, .slice xI ins.length yI, .int .i64 (1 : Nat), .int .i64 (1 : Nat), .int .i64 pi] 97 (0, 0)) := blk_set (blk_set T.blk rfl) rfl
                have TT : TRel w ((wr.setCell ⟨w.heap.size, 3, none⟩ (.int .i64 1)).setCell ⟨w.heap.size, 4, none⟩ (.int .i64 1)) pb M S (.slice aT S.tasks.length qT) (.slice aP S.pools.length qP) vD cT w.heap.size outs ins (.slice xO outs.length yO) (.slice xI ins.length yI) act 1 1 pi := ⟨R.same hbW, hB, hO.below hbW, hI.below hbW, hbW⟩
                obtain ⟨q0, q1, q2, qf⟩ := three TT.plan.blk
                obtain ⟨e0, e1, e2, e3, e4, e5, ef⟩ := six TT.blk
                have hbs := TT.bel.size
                have hown := TT.plan.tasks
                have hpl := blk_lt TT.plan.blk
                have htl := blk_lt TT.blk
                have hqf : ∀ o, (World.alloc ((wr.setCell ⟨w.heap.size, 3, none⟩ (.int .i64 1)).setCell ⟨w.heap.size, 4, none⟩ (.int .i64 1)) o).frozen? ⟨pb, 0, none⟩ = false := fun o => (World.frozen?_of_block (Below.heap_alloc _ _ _ hpl)).trans (qf 0)
                have hqc : ∀ o, (World.alloc ((wr.setCell ⟨w.heap.size, 3, none⟩ (.int .i64 1)).setCell ⟨w.heap.size, 4, none⟩ (.int .i64 1)) o).cell? ⟨pb, 0, none⟩ = some (.slice aT S.tasks.length qT) := fun o => (World.cell?_of_block (Below.heap_alloc _ _ _ hpl)).trans q0
                have hne1 : some pb ≠ (Value.slice aT S.tasks.length qT).ownBlock := fun e => by have := (R.tasks.lt pb e.symm).1; omega
                have hne2 : some w.heap.size ≠ (Value.slice aT S.tasks.length qT).ownBlock := fun e => by have := (R.tasks.lt _ e.symm).2; omega
                try simp only [World.size_setCell] at hpl htl hbs
                go_wp2_with fail
                go_region_law
                  ((refine step_append_lies _ (by rfl) _ _ _ (by rfl) (pb + 1) 97 i0 _ 6 88 Tryd.underlying70 hi hz0 hz1 hz2 rfl (by omega) _ S.tasks.length cT (by rfl) ((hown.alloc _).drew)
                      ⟨wr.heap.size, 0, none⟩ 1 1 [.slice xO outs.length yO, .string act, .slice xI ins.length yI, .int .i64 (1 : Nat), .int .i64 (1 : Nat), .int .i64 pi] (by rfl) (by rfl) (World.news_of_block (cs := #[.slice xO outs.length yO, .string act, .slice xI ins.length yI, .int .i64 (1 : Nat), .int .i64 (1 : Nat), .int .i64 pi]) (t := 97) (fr := (0, 0)) (alloc_drew_new ((wr.setCell ⟨w.heap.size, 3, none⟩ (.int .i64 1)).setCell ⟨w.heap.size, 4, none⟩ (.int .i64 1)) _ _ (by simp))) (by simp [Value.oneCell'])
                      (by omega) (by unfold maxLen; omega) (by omega) (by simp; omega) (wr.heap.size + 1) (by simp) ?_; intro gg cap w1 hown1 hgrow hat hlt1; have hfz : w1.frozen? ⟨pb, 0, none⟩ = false := (hgrow.frozen_far _ (by simp; omega) hne1).trans (by simpa using hqf _); have hcz : w1.cell? ⟨pb, 0, none⟩ = some (.slice aT S.tasks.length qT) := (hgrow.cell_far _ (by simp; omega) hne1).trans (by simpa using hqc _)))
                all_goals
                  go_wp2
                  go_ret
                  rw [HE.out]
                  refine ⟨ret_int rfl, ?_⟩
                  have A := app_task R TT _ aO aI lO lI HS.out.1 hown1 hgrow (by simpa using hat)
                  simpa [newTask, hc0, hj0, HS.out] using A
              · have hb2 : ((jobs : Int) == 0) = false := by rw [beq_eq_false_iff_ne]; omega
                have hbW : Below w.heap.size w (wr.setCell ⟨w.heap.size, 3, none⟩ (.int .i64 1)) := T.bel.setCell (Nat.le_refl _) _
                have hB : (wr.setCell ⟨w.heap.size, 3, none⟩ (.int .i64 1)).heap[w.heap.size]? = some (.cells #[.slice xO outs.length yO, .string act, .slice xI ins.length yI, .int .i64 (1 : Nat), .int .i64 jobs, .int .i64 pi] 97 (0, 0)) := blk_set T.blk rfl
                have TT : TRel w (wr.setCell ⟨w.heap.size, 3, none⟩ (.int .i64 1)) pb M S (.slice aT S.tasks.length qT) (.slice aP S.pools.length qP) vD cT w.heap.size outs ins (.slice xO outs.length yO) (.slice xI ins.length yI) act 1 jobs pi := ⟨R.same hbW, hB, hO.below hbW, hI.below hbW, hbW⟩
                obtain ⟨q0, q1, q2, qf⟩ := three TT.plan.blk
                obtain ⟨e0, e1, e2, e3, e4, e5, ef⟩ := six TT.blk
                have hbs := TT.bel.size
                have hown := TT.plan.tasks
                have hpl := blk_lt TT.plan.blk
                have htl := blk_lt TT.blk
                have hqf : ∀ o, (World.alloc (wr.setCell ⟨w.heap.size, 3, none⟩ (.int .i64 1)) o).frozen? ⟨pb, 0, none⟩ = false := fun o => (World.frozen?_of_block (Below.heap_alloc _ _ _ hpl)).trans (qf 0)
                have hqc : ∀ o, (World.alloc (wr.setCell ⟨w.heap.size, 3, none⟩ (.int .i64 1)) o).cell? ⟨pb, 0, none⟩ = some (.slice aT S.tasks.length qT) := fun o => (World.cell?_of_block (Below.heap_alloc _ _ _ hpl)).trans q0
                have hne1 : some pb ≠ (Value.slice aT S.tasks.length qT).ownBlock := fun e => by have := (R.tasks.lt pb e.symm).1; omega
                have hne2 : some w.heap.size ≠ (Value.slice aT S.tasks.length qT).ownBlock := fun e => by have := (R.tasks.lt _ e.symm).2; omega
                try simp only [World.size_setCell] at hpl htl hbs
                go_wp2_with fail
                go_region_law
                  ((refine step_append_lies _ (by rfl) _ _ _ (by rfl) (pb + 1) 97 i0 _ 6 88 Tryd.underlying70 hi hz0 hz1 hz2 rfl (by omega) _ S.tasks.length cT (by rfl) ((hown.alloc _).drew)
                      ⟨wr.heap.size, 0, none⟩ 1 1 [.slice xO outs.length yO, .string act, .slice xI ins.length yI, .int .i64 (1 : Nat), .int .i64 (jobs : Nat), .int .i64 pi] (by rfl) (by rfl) (World.news_of_block (cs := #[.slice xO outs.length yO, .string act, .slice xI ins.length yI, .int .i64 (1 : Nat), .int .i64 (jobs : Nat), .int .i64 pi]) (t := 97) (fr := (0, 0)) (alloc_drew_new (wr.setCell ⟨w.heap.size, 3, none⟩ (.int .i64 1)) _ _ (by simp))) (by simp [Value.oneCell'])
                      (by omega) (by unfold maxLen; omega) (by omega) (by simp; omega) (wr.heap.size + 1) (by simp) ?_; intro gg cap w1 hown1 hgrow hat hlt1; have hfz : w1.frozen? ⟨pb, 0, none⟩ = false := (hgrow.frozen_far _ (by simp; omega) hne1).trans (by simpa using hqf _); have hcz : w1.cell? ⟨pb, 0, none⟩ = some (.slice aT S.tasks.length qT) := (hgrow.cell_far _ (by simp; omega) hne1).trans (by simpa using hqc _)))
                all_goals
                  go_wp2
                  go_ret
                  rw [HE.out]
                  refine ⟨ret_int rfl, ?_⟩
                  have A := app_task R TT _ aO aI lO lI HS.out.1 hown1 hgrow (by simpa using hat)
                  simpa [newTask, hc0, hj0, HS.out] using A
            · have hb1 : ((cost : Int) == 0) = false := by rw [beq_eq_false_iff_ne]; omega
              by_cases hj0 : jobs = 0
              · have hb2 : ((jobs : Int) == 0) = true := by rw [hj0]; rfl
                have hbW : Below w.heap.size w (wr.setCell ⟨w.heap.size, 4, none⟩ (.int .i64 1)) := T.bel.setCell (Nat.le_refl _) _
                have hB : (wr.setCell ⟨w.heap.size, 4, none⟩ (.int .i64 1)).heap[w.heap.size]? = some (.cells #[.slice xO outs.length yO, .string act, .slice xI ins.length yI, .int .i64 cost, .int .i64 (1 : Nat), .int .i64 pi] 97 (0, 0)) := blk_set T.blk rfl
                have TT : TRel w (wr.setCell ⟨w.heap.size, 4, none⟩ (.int .i64 1)) pb M S (.slice aT S.tasks.length qT) (.slice aP S.pools.length qP) vD cT w.heap.size outs ins (.slice xO outs.length yO) (.slice xI ins.length yI) act cost 1 pi := ⟨R.same hbW, hB, hO.below hbW, hI.below hbW, hbW⟩
                obtain ⟨q0, q1, q2, qf⟩ := three TT.plan.blk
                obtain ⟨e0, e1, e2, e3, e4, e5, ef⟩ := six TT.blk
                have hbs := TT.bel.size
                have hown := TT.plan.tasks
                have hpl := blk_lt TT.plan.blk
                have htl := blk_lt TT.blk
                have hqf : ∀ o, (World.alloc (wr.setCell ⟨w.heap.size, 4, none⟩ (.int .i64 1)) o).frozen? ⟨pb, 0, none⟩ = false := fun o => (World.frozen?_of_block (Below.heap_alloc _ _ _ hpl)).trans (qf 0)
                have hqc : ∀ o, (World.alloc (wr.setCell ⟨w.heap.size, 4, none⟩ (.int .i64 1)) o).cell? ⟨pb, 0, none⟩ = some (.slice aT S.tasks.length qT) := fun o => (World.cell?_of_block (Below.heap_alloc _ _ _ hpl)).trans q0
                have hne1 : some pb ≠ (Value.slice aT S.tasks.length qT).ownBlock := fun e => by have := (R.tasks.lt pb e.symm).1; omega
                have hne2 : some w.heap.size ≠ (Value.slice aT S.tasks.length qT).ownBlock := fun e => by have := (R.tasks.lt _ e.symm).2; omega
                try simp only [World.size_setCell] at hpl htl hbs
                go_wp2_with fail
                go_region_law
                  ((refine step_append_lies _ (by rfl) _ _ _ (by rfl) (pb + 1) 97 i0 _ 6 88 Tryd.underlying70 hi hz0 hz1 hz2 rfl (by omega) _ S.tasks.length cT (by rfl) ((hown.alloc _).drew)
                      ⟨wr.heap.size, 0, none⟩ 1 1 [.slice xO outs.length yO, .string act, .slice xI ins.length yI, .int .i64 (cost : Nat), .int .i64 (1 : Nat), .int .i64 pi] (by rfl) (by rfl) (World.news_of_block (cs := #[.slice xO outs.length yO, .string act, .slice xI ins.length yI, .int .i64 (cost : Nat), .int .i64 (1 : Nat), .int .i64 pi]) (t := 97) (fr := (0, 0)) (alloc_drew_new (wr.setCell ⟨w.heap.size, 4, none⟩ (.int .i64 1)) _ _ (by simp))) (by simp [Value.oneCell'])
                      (by omega) (by unfold maxLen; omega) (by omega) (by simp; omega) (wr.heap.size + 1) (by simp) ?_; intro gg cap w1 hown1 hgrow hat hlt1; have hfz : w1.frozen? ⟨pb, 0, none⟩ = false := (hgrow.frozen_far _ (by simp; omega) hne1).trans (by simpa using hqf _); have hcz : w1.cell? ⟨pb, 0, none⟩ = some (.slice aT S.tasks.length qT) := (hgrow.cell_far _ (by simp; omega) hne1).trans (by simpa using hqc _)))
                all_goals
                  go_wp2
                  go_ret
                  rw [HE.out]
                  refine ⟨ret_int rfl, ?_⟩
                  have A := app_task R TT _ aO aI lO lI HS.out.1 hown1 hgrow (by simpa using hat)
                  simpa [newTask, hc0, hj0, HS.out] using A
              · have hb2 : ((jobs : Int) == 0) = false := by rw [beq_eq_false_iff_ne]; omega
                have hbW : Below w.heap.size w wr := T.bel
                have hB : wr.heap[w.heap.size]? = some (.cells #[.slice xO outs.length yO, .string act, .slice xI ins.length yI, .int .i64 cost, .int .i64 jobs, .int .i64 pi] 97 (0, 0)) := T.blk
                have TT : TRel w wr pb M S (.slice aT S.tasks.length qT) (.slice aP S.pools.length qP) vD cT w.heap.size outs ins (.slice xO outs.length yO) (.slice xI ins.length yI) act cost jobs pi := ⟨R.same hbW, hB, hO.below hbW, hI.below hbW, hbW⟩
                obtain ⟨q0, q1, q2, qf⟩ := three TT.plan.blk
                obtain ⟨e0, e1, e2, e3, e4, e5, ef⟩ := six TT.blk
                have hbs := TT.bel.size
                have hown := TT.plan.tasks
                have hpl := blk_lt TT.plan.blk
                have htl := blk_lt TT.blk
                have hqf : ∀ o, (World.alloc wr o).frozen? ⟨pb, 0, none⟩ = false := fun o => (World.frozen?_of_block (Below.heap_alloc _ _ _ hpl)).trans (qf 0)
                have hqc : ∀ o, (World.alloc wr o).cell? ⟨pb, 0, none⟩ = some (.slice aT S.tasks.length qT) := fun o => (World.cell?_of_block (Below.heap_alloc _ _ _ hpl)).trans q0
                have hne1 : some pb ≠ (Value.slice aT S.tasks.length qT).ownBlock := fun e => by have := (R.tasks.lt pb e.symm).1; omega
                have hne2 : some w.heap.size ≠ (Value.slice aT S.tasks.length qT).ownBlock := fun e => by have := (R.tasks.lt _ e.symm).2; omega
                try simp only [World.size_setCell] at hpl htl hbs
                go_wp2_with fail
                go_region_law
                  ((refine step_append_lies _ (by rfl) _ _ _ (by rfl) (pb + 1) 97 i0 _ 6 88 Tryd.underlying70 hi hz0 hz1 hz2 rfl (by omega) _ S.tasks.length cT (by rfl) ((hown.alloc _).drew)
                      ⟨wr.heap.size, 0, none⟩ 1 1 [.slice xO outs.length yO, .string act, .slice xI ins.length yI, .int .i64 (cost : Nat), .int .i64 (jobs : Nat), .int .i64 pi] (by rfl) (by rfl) (World.news_of_block (cs := #[.slice xO outs.length yO, .string act, .slice xI ins.length yI, .int .i64 (cost : Nat), .int .i64 (jobs : Nat), .int .i64 pi]) (t := 97) (fr := (0, 0)) (alloc_drew_new wr _ _ (by simp))) (by simp [Value.oneCell'])
                      (by omega) (by unfold maxLen; omega) (by omega) (by simp; omega) (wr.heap.size + 1) (by simp) ?_; intro gg cap w1 hown1 hgrow hat hlt1; have hfz : w1.frozen? ⟨pb, 0, none⟩ = false := (hgrow.frozen_far _ (by simp; omega) hne1).trans (by simpa using hqf _); have hcz : w1.cell? ⟨pb, 0, none⟩ = some (.slice aT S.tasks.length qT) := (hgrow.cell_far _ (by simp; omega) hne1).trans (by simpa using hqc _)))
                all_goals
                  go_wp2
                  go_ret
                  rw [HE.out]
                  refine ⟨ret_int rfl, ?_⟩
                  have A := app_task R TT _ aO aI lO lI HS.out.1 hown1 hgrow (by simpa using hat)
                  simpa [newTask, hc0, hj0, HS.out] using A
end Go.Proofs.YtoabakgmjcnodaaDoor
