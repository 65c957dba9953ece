import Derived.Test.YtoabakgmjcnodaaDoorRefB
import Derived.Test.YtoabakgmjcnodaaDoorRefC
import Derived.Test.YtoabakgmjcnodaaDoorHeap
import Derived.Test.YtoabakgmjcnodaaDoorFormSpec
namespace Go.Proofs.YtoabakgmjcnodaaDoor
open Go.ChangeShapes Go.WideShapes Go.ChangeAt Go.RowKit

/-- Where the walk of form stands: the task so far in block tb, its lists rows of their own. -/
structure FRel (B tb : Nat) (w wr : World) (t : FS) (vO vI : Value) : Prop where
  blk : wr.heap[tb]? = some (.cells #[vO, .string t.act, vI, .int .i64 t.cost, .int .i64 t.jobs, .int .i64 (-1)] 97 (0, 0))
  res : wr.heap[B]? = some (.cells #[.slice none 0 0, .string ByteArray.empty, .slice none 0 0, .int .i64 0, .int .i64 0, .int .i64 0] 97 (0, 0))
  outs : wr.ownsRow (tb + 1) 9 1 vO t.outs.length (t.outs.map Value.string)
  ins : wr.ownsRow (tb + 1) 9 1 vI t.ins.length (t.ins.map Value.string)
  apart : ∀ k, vO.ownBlock = some k → vI.ownBlock ≠ some k
  bel : Below B w wr
  lt : B < tb

theorem owns_shape {w : World} {base : Nat} {e : TypeId} {size : Nat} {v : Value} {n : Nat} {xs : List Value} (h : w.ownsRow base e size v n xs) : ∃ a c, v = .slice a n c := by
  rcases h.2 with ⟨rfl, rfl⟩ | ⟨g, cap, cur, rfl, _⟩
  · exact ⟨_, _, rfl⟩
  · exact ⟨_, _, rfl⟩

section
variable {B tb : Nat} {w wr : World} {m m1 : Nat} {outs : List ByteArray} {act : ByteArray} {ins : List ByteArray} {cost jobs : Nat} {pool pool1 : ByteArray} {vO vI : Value}

theorem rel_mode (R : FRel B tb w wr ⟨m, outs, act, ins, cost, jobs, pool⟩ vO vI) (m1 : Nat) (pool1 : ByteArray) : FRel B tb w wr ⟨m1, outs, act, ins, cost, jobs, pool1⟩ vO vI :=
  ⟨R.blk, R.res, R.outs, R.ins, R.apart, R.bel, R.lt⟩
theorem rel_act (R : FRel B tb w wr ⟨m, outs, act, ins, cost, jobs, pool⟩ vO vI) (m1 : Nat) (x : ByteArray) : FRel B tb w (wr.setCell ⟨tb, 1, none⟩ (.string x)) ⟨m1, outs, x, ins, cost, jobs, pool⟩ vO vI :=
  ⟨blk_set R.blk rfl, (heap_setCell_other _ _ _ _ (by have := R.lt; simp; omega)).trans R.res, ownsRow_setCell_below R.outs (by simp) _, ownsRow_setCell_below R.ins (by simp) _, R.apart, R.bel.setCell (by have := R.lt; simp; omega) _, R.lt⟩
theorem rel_cost (R : FRel B tb w wr ⟨m, outs, act, ins, cost, jobs, pool⟩ vO vI) (m1 : Nat) (d : Nat) : FRel B tb w (wr.setCell ⟨tb, 3, none⟩ (.int .i64 d)) ⟨m1, outs, act, ins, d, jobs, pool⟩ vO vI :=
  ⟨blk_set R.blk rfl, (heap_setCell_other _ _ _ _ (by have := R.lt; simp; omega)).trans R.res, ownsRow_setCell_below R.outs (by simp) _, ownsRow_setCell_below R.ins (by simp) _, R.apart, R.bel.setCell (by have := R.lt; simp; omega) _, R.lt⟩
theorem rel_jobs (R : FRel B tb w wr ⟨m, outs, act, ins, cost, jobs, pool⟩ vO vI) (m1 : Nat) (d : Nat) : FRel B tb w (wr.setCell ⟨tb, 4, none⟩ (.int .i64 d)) ⟨m1, outs, act, ins, cost, d, pool⟩ vO vI :=
  ⟨blk_set R.blk rfl, (heap_setCell_other _ _ _ _ (by have := R.lt; simp; omega)).trans R.res, ownsRow_setCell_below R.outs (by simp) _, ownsRow_setCell_below R.ins (by simp) _, R.apart, R.bel.setCell (by have := R.lt; simp; omega) _, R.lt⟩

/-- Behind an append to the outputs, ahead of the store. -/
theorem app_outs {x : ByteArray} {v1 : Value} {w2 : World} (R : FRel B tb w wr ⟨m, outs, act, ins, cost, jobs, pool⟩ vO vI)
    (hown : w2.ownsRow (tb + 1) 9 1 v1 (outs.length + 1) (outs.map Value.string ++ [Value.string x]))
    (hg : (wr.alloc (.cells #[Value.string x] 9)).grownBy w2 vO.ownBlock) (hat : v1.ownBlock = vO.ownBlock ∨ v1.ownBlock = some (wr.heap.size + 1)) :
    w2.heap[tb]? = some (.cells #[vO, .string act, vI, .int .i64 cost, .int .i64 jobs, .int .i64 (-1)] 97 (0, 0)) ∧
    FRel B tb w (w2.setCell ⟨tb, 0, none⟩ v1) ⟨m, outs ++ [x], act, ins, cost, jobs, pool⟩ v1 vI := by
  have hlt := R.lt
  have htb := blk_lt R.blk
  have hb : ∀ k, k < wr.heap.size → vO.ownBlock ≠ some k → w2.heap[k]? = wr.heap[k]? := fun k hk hne =>
    (hg.block k (by simp; omega) (fun e => hne e.symm)).trans (Below.heap_alloc _ _ _ hk)
  have hlow : ∀ k, vO.ownBlock = some k → tb + 1 ≤ k := fun k hk => (R.outs.lt k hk).1
  have h1 : w2.heap[tb]? = some (.cells #[vO, .string act, vI, .int .i64 cost, .int .i64 jobs, .int .i64 (-1)] 97 (0, 0)) :=
    (hb tb htb (fun e => by have := hlow _ e; omega)).trans R.blk
  refine ⟨h1, blk_set h1 rfl, ?_, ?_, ?_, ?_, ?_, R.lt⟩
  · rw [heap_setCell_other _ _ _ _ (by simp; omega)]
    exact (hb B (by omega) (fun e => by have := hlow _ e; omega)).trans R.res
  · refine ownsRow_setCell_below ?_ (by simp) _
    simpa using hown
  · refine ownsRow_setCell_below ?_ (by simp) _
    refine (R.ins.alloc (.cells #[Value.string x] 9)).kept hg ?_
    cases hi : vI.ownBlock with
    | none => exact .inl rfl
    | some k => exact .inr (fun e => R.apart k e.symm hi)
  · intro k hk hi
    rcases hat with e | e
    · exact R.apart k (e ▸ hk) hi
    · have := (R.ins.lt k hi).2
      rw [e] at hk; injection hk with hk; omega
  · exact ((R.bel.alloc (by have := R.bel.size; have := blk_lt R.res; omega) _).grown hg (by have := blk_lt R.res; simp; omega) (fun k hk => by have := hlow k hk; omega)).setCell (by simp; omega) _

/-- The same for the inputs. -/
theorem app_ins {x : ByteArray} {v1 : Value} {w2 : World} (R : FRel B tb w wr ⟨m, outs, act, ins, cost, jobs, pool⟩ vO vI)
    (hown : w2.ownsRow (tb + 1) 9 1 v1 (ins.length + 1) (ins.map Value.string ++ [Value.string x]))
    (hg : (wr.alloc (.cells #[Value.string x] 9)).grownBy w2 vI.ownBlock) (hat : v1.ownBlock = vI.ownBlock ∨ v1.ownBlock = some (wr.heap.size + 1)) :
    w2.heap[tb]? = some (.cells #[vO, .string act, vI, .int .i64 cost, .int .i64 jobs, .int .i64 (-1)] 97 (0, 0)) ∧
    FRel B tb w (w2.setCell ⟨tb, 2, none⟩ v1) ⟨m, outs, act, ins ++ [x], cost, jobs, pool⟩ vO v1 := by
  have hlt := R.lt
  have htb := blk_lt R.blk
  have hb : ∀ k, k < wr.heap.size → vI.ownBlock ≠ some k → w2.heap[k]? = wr.heap[k]? := fun k hk hne =>
    (hg.block k (by simp; omega) (fun e => hne e.symm)).trans (Below.heap_alloc _ _ _ hk)
  have hlow : ∀ k, vI.ownBlock = some k → tb + 1 ≤ k := fun k hk => (R.ins.lt k hk).1
  have h1 : w2.heap[tb]? = some (.cells #[vO, .string act, vI, .int .i64 cost, .int .i64 jobs, .int .i64 (-1)] 97 (0, 0)) :=
    (hb tb htb (fun e => by have := hlow _ e; omega)).trans R.blk
  refine ⟨h1, blk_set h1 rfl, ?_, ?_, ?_, ?_, ?_, R.lt⟩
  · rw [heap_setCell_other _ _ _ _ (by simp; omega)]
    exact (hb B (by omega) (fun e => by have := hlow _ e; omega)).trans R.res
  · refine ownsRow_setCell_below ?_ (by simp) _
    refine (R.outs.alloc (.cells #[Value.string x] 9)).kept hg ?_
    cases hi : vO.ownBlock with
    | none => exact .inl rfl
    | some k => exact .inr (fun e => R.apart k hi e.symm)
  · refine ownsRow_setCell_below ?_ (by simp) _
    simpa using hown
  · intro k hk hi
    rcases hat with e | e
    · exact R.apart k hk (e ▸ hi)
    · have := (R.outs.lt k hk).2
      rw [e] at hi; injection hi with hi; omega
  · exact ((R.bel.alloc (by have := R.bel.size; have := blk_lt R.res; omega) _).grown hg (by have := blk_lt R.res; simp; omega) (fun k hk => by have := hlow k hk; omega)).setCell (by simp; omega) _
end

/-- What form leaves. -/
def FormPost (w w1 : World) (e : Ending) (ss : List ByteArray) : Prop :=
  (∃ t vO vI, frun fs0 ss = some t ∧ e = .returned (.tuple #[.agg #[vO, .string t.act, vI, .int .i64 t.cost, .int .i64 t.jobs, .int .i64 (-1)], .string t.pool, .bool (fwhole t)]) ∧
    w1.ownsRow (w.heap.size + 2) 9 1 vO t.outs.length (t.outs.map Value.string) ∧ w1.ownsRow (w.heap.size + 2) 9 1 vI t.ins.length (t.ins.map Value.string) ∧
    (∀ k, vO.ownBlock = some k → vI.ownBlock ≠ some k) ∧ Below w.heap.size w w1) ∨
  (frun fs0 ss = none ∧ ∃ aO nO cO act aI nI cI cost jobs p, e = .returned (.tuple #[.agg #[.slice aO nO cO, .string act, .slice aI nI cI, .int .i64 cost, .int .i64 jobs, .int .i64 (-1)], .string p, .bool false]) ∧ Below w.heap.size w w1)

theorem below_six {B : Nat} {w w1 : World} (h : Below B w w1) (hB : B = w.heap.size) (a b c d e f : Value) :
    Below w.heap.size w ((((((w1.setCell ⟨B, 0, none⟩ a).setCell ⟨B, 1, none⟩ b).setCell ⟨B, 2, none⟩ c).setCell ⟨B, 3, none⟩ d).setCell ⟨B, 4, none⟩ e).setCell ⟨B, 5, none⟩ f) := by
  subst hB
  exact (((((h.setCell (Nat.le_refl _) _).setCell (Nat.le_refl _) _).setCell (Nat.le_refl _) _).setCell (Nat.le_refl _) _).setCell (Nat.le_refl _) _).setCell (Nat.le_refl _) _
theorem owns_six {B base : Nat} {w1 : World} {t : TypeId} {v : Value} {n : Nat} {xs : List Value} (h : w1.ownsRow base t 1 v n xs) (hB : B < base) (a b c d e f : Value) :
    ((((((w1.setCell ⟨B, 0, none⟩ a).setCell ⟨B, 1, none⟩ b).setCell ⟨B, 2, none⟩ c).setCell ⟨B, 3, none⟩ d).setCell ⟨B, 4, none⟩ e).setCell ⟨B, 5, none⟩ f).ownsRow base t 1 v n xs :=
  ownsRow_setCell_below (ownsRow_setCell_below (ownsRow_setCell_below (ownsRow_setCell_below (ownsRow_setCell_below (ownsRow_setCell_below h hB _) hB _) hB _) hB _) hB _) hB _
theorem strNe (x : ByteArray) (l : List UInt8) (h : ¬ (x.toList == l) = true) : (x.toList == l) = false := by simpa using h



set_option maxRecDepth 10000 in
set_option maxHeartbeats 8000000 in
theorem ref_form (v : Value) (ss : List ByteArray) (w : World) (hv : Strs w v ss) (hn : ss.length ≤ 4000000000) (hsz : ∀ s ∈ ss, s.size ≤ maxLen) :
    Calls Tryd.prog 47 #[v] w fun e w' => FormPost w w' e ss := by
  obtain ⟨a, c, rfl, _, hv⟩ := hv
  obtain ⟨i0, hi, hz0, hz1, hz2⟩ := info_parts Tryd.info9
  obtain ⟨b, off, hcell⟩ : ∃ b off, ∀ i (h : i < ss.length), a = some ⟨b, off, none⟩ ∧ w.cell? ⟨b, off + i, none⟩ = some (.string ss[i]) := by
    rcases hv with rfl | ⟨b, off, h, hcell⟩
    · exact ⟨0, 0, fun i h => by simp at h⟩
    · exact ⟨b, off, fun i h' => ⟨h, hcell i h'⟩⟩
  clear hv
  go_enter Tryd.func47, Tryd.ntmps47
  go_wp2
  go_loopw [6, 7, 8] (fun pl m i wr => ∃ (k : Nat) (t : FS) (vO vI : Value), k ≤ ss.length ∧ i = .int .i64 k ∧ pl = .string t.pool ∧ m = .int .i64 t.mode ∧ frun fs0 (ss.take k) = some t ∧ t.mode ≤ 6 ∧
      FRel w.heap.size (w.heap.size + 1) w wr t vO vI)
    (fun _ _ i _ => ss.length - (intOf i).toNat)
  case atStart =>
    refine ⟨0, fs0, .slice none 0 0, .slice none 0 0, Nat.zero_le _, rfl, rfl, rfl, rfl, by simp [fs0], ?_⟩
    exact ⟨heap_alloc2_new _ _ _, heap_alloc2_old _ _ _, World.ownsRow_nil _ _ _ _, World.ownsRow_nil _ _ _ _, fun k hk => by simp [Value.ownBlock] at hk,
      ((Below.refl _ _).alloc (Nat.le_refl _) _).alloc (by simp) _, by omega⟩
  case round =>
    obtain ⟨k, t, vO, vI, hk, rfl, rfl, rfl, hrun, hm, R⟩ := hrel
    obtain ⟨mode, outs, act, ins, cost, jobs, pool⟩ := t
    have HR : Hid (frun fs0 (ss.take k) = some ⟨mode, outs, act, ins, cost, jobs, pool⟩) := hrun
    have hlen := frun_le hrun
    clear hrun
    obtain ⟨aO, cO, rfl⟩ := owns_shape R.outs
    obtain ⟨aI, cI, rfl⟩ := owns_shape R.ins
    obtain ⟨c0, c1, c2, c3, c4, c5, cf⟩ := six R.blk
    obtain ⟨r0, r1, r2, r3, r4, r5, rf⟩ := six R.res
    simp only at c0 c1 c2 c3 c4 c5 hm hlen
    have R0 : True := trivial
    by_cases hlt : k < ss.length
    · have hc := (R.bel.cell (p := ⟨b, off + k, none⟩) (block_lt_of_cell (hcell k hlt).2)).trans (hcell k hlt).2
      have ha := (hcell k hlt).1
      subst ha
      obtain ⟨x, hx⟩ : ∃ x, x = ss[k] := ⟨_, rfl⟩
      have HX : Hid (x = ss[k]) := hx
      have hxs : x.size ≤ maxLen := by rw [hx]; exact hsz _ (List.getElem_mem hlt)
      rw [← hx] at hc
      clear hx
      obtain ⟨nb, hnb⟩ : ∃ nb, nameB x.data.toList = nb := ⟨_, rfl⟩
      have HNB : Hid (nameB x.data.toList = nb) := hnb
      clear hnb
      obtain ⟨d, hdg⟩ : ∃ d, digN x.data.toList = d := ⟨_, rfl⟩
      have HDG : Hid (digN x.data.toList = d) := hdg
      have hd9 := digN_le x.data.toList
      rw [hdg] at hd9
      clear hdg
      rcases (show mode = 0 ∨ mode = 1 ∨ mode = 2 ∨ mode = 3 ∨ mode = 4 ∨ mode = 5 ∨ mode = 6 by omega) with rfl | rfl | rfl | rfl | rfl | rfl | rfl
      · -- outputs
        by_cases he : isEq x = true
        · have h1 : (x.toList == [61]) = true := he
          by_cases ho : outs = []
          · have h2 : ¬ (0 : Int) < (outs.length : Int) := by rw [ho]; simp
            have hn0 : nb = false := by
              have : nameB x.data.toList = false := by
                rw [← ByteArray.toList_eq, show x.toList = [61] by simpa using h1]; decide +kernel
              rw [← HNB.out]; exact this
            subst hn0
            have HO : Hid (outs = []) := ho
            clear ho
            have HF : Hid (frun fs0 ss = none) := frun_stop hlt HR.out (by rw [← HX.out]; simp [fstep, he, HO.out, HNB.out])
            clear R0
            go_wp2_with (first
              | (go_at_call 44; refine (ref_Name x _ hxs).mono ?_; rintro e w1 ⟨rfl, hw⟩; rw [HNB.out]; subst hw)
              | (go_at_call 45; refine (ref_number x _).mono ?_; rintro e w1 ⟨rfl, hw⟩; rw [HDG.out]; subst hw))
            exact bodyPost_ret (v := .tuple #[.agg #[.slice aO outs.length cO, .string act, .slice aI ins.length cI, .int .i64 cost, .int .i64 jobs, .int .i64 (-1)], .string pool, .bool false]) (by simp [results, Tryd.results47, go_sem, r0, r1, r2, r3, r4, r5]) rfl (.inr ⟨HF.out, _, _, _, _, _, _, _, _, _, _, rfl, below_six R.bel rfl _ _ _ _ _ _⟩)
          · have h2 : (0 : Int) < (outs.length : Int) := by have := List.length_pos_iff.2 ho; omega
            have HF : Hid (frun fs0 (ss.take (k + 1)) = some ⟨1, outs, act, ins, cost, jobs, pool⟩) := frun_next hlt HR.out (by rw [← HX.out]; simp [fstep, he, ho])
            go_wp2_with (first
              | (go_at_call 44; refine (ref_Name x _ hxs).mono ?_; rintro e w1 ⟨rfl, hw⟩; rw [HNB.out]; subst hw)
              | (go_at_call 45; refine (ref_number x _).mono ?_; rintro e w1 ⟨rfl, hw⟩; rw [HDG.out]; subst hw))
            go_roundw
            case rel => exact ⟨k + 1, _, _, _, by omega, by go_num, rfl, rfl, HF.out, by simp, (rel_mode R 1 pool)⟩
            case measure => simp [intOf]; omega
        · have h1 : (x.toList == [61]) = false := strNe _ _ he
          cases nb
          · skip
            have HF : Hid (frun fs0 ss = none) := frun_stop hlt HR.out (by rw [← HX.out]; simp [fstep, he, HNB.out])
            clear R0
            go_wp2_with (first
              | (go_at_call 44; refine (ref_Name x _ hxs).mono ?_; rintro e w1 ⟨rfl, hw⟩; rw [HNB.out]; subst hw)
              | (go_at_call 45; refine (ref_number x _).mono ?_; rintro e w1 ⟨rfl, hw⟩; rw [HDG.out]; subst hw))
            exact bodyPost_ret (v := .tuple #[.agg #[.slice aO outs.length cO, .string act, .slice aI ins.length cI, .int .i64 cost, .int .i64 jobs, .int .i64 (-1)], .string pool, .bool false]) (by simp [results, Tryd.results47, go_sem, r0, r1, r2, r3, r4, r5]) rfl (.inr ⟨HF.out, _, _, _, _, _, _, _, _, _, _, rfl, below_six R.bel rfl _ _ _ _ _ _⟩)
          · skip
            have HF : Hid (frun fs0 (ss.take (k + 1)) = some ⟨0, outs ++ [x], act, ins, cost, jobs, pool⟩) := frun_next hlt HR.out (by rw [← HX.out]; simp [fstep, he, HNB.out])
            have hbs := R.bel.size
            have hbl := blk_lt R.blk
            go_wp2_with (first
              | (at_builtin; (refine wpList_append_own_at _ rfl _ _ 36 rfl (w.heap.size + 1 + 1) 9 i0 (.string ByteArray.empty) 1 16 Tryd.underlying36 hi hz0 hz1 hz2 rfl (by decide) _ _ _ rfl (R.outs.alloc _) ⟨_, 0, none⟩ 1 1 [.string x] rfl rfl (Go.cell_one_new _ _ _) (one_cell _) (by unfold maxLen; simp; omega) (by simp; omega) (by simp; omega) ?_))
              | (go_at_call 44; refine (ref_Name x _ hxs).mono ?_; rintro e w1 ⟨rfl, hw⟩; rw [HNB.out]; subst hw)
              | (go_at_call 45; refine (ref_number x _).mono ?_; rintro e w1 ⟨rfl, hw⟩; rw [HDG.out]; subst hw))
            intro v1 w2 hown hgrow _ hat
            obtain ⟨a1, q1, rfl⟩ := owns_shape hown
            have R2 := app_outs R hown hgrow (by simpa using hat)
            obtain ⟨d0, d1, d2, d3, d4, d5, df⟩ := six R2.1
            clear hown hgrow hat
            go_wp2
            go_roundw
            case rel => exact ⟨k + 1, _, _, _, by omega, by go_num, rfl, rfl, HF.out, by simp, R2.2⟩
            case measure => simp [intOf]; omega
      · -- the action
        cases nb
        · skip
          have HF : Hid (frun fs0 ss = none) := frun_stop hlt HR.out (by rw [← HX.out]; simp [fstep, HNB.out])
          clear R0
          go_wp2_with (first
            | (go_at_call 44; refine (ref_Name x _ hxs).mono ?_; rintro e w1 ⟨rfl, hw⟩; rw [HNB.out]; subst hw)
            | (go_at_call 45; refine (ref_number x _).mono ?_; rintro e w1 ⟨rfl, hw⟩; rw [HDG.out]; subst hw))
          exact bodyPost_ret (v := .tuple #[.agg #[.slice aO outs.length cO, .string act, .slice aI ins.length cI, .int .i64 cost, .int .i64 jobs, .int .i64 (-1)], .string pool, .bool false]) (by simp [results, Tryd.results47, go_sem, r0, r1, r2, r3, r4, r5]) rfl (.inr ⟨HF.out, _, _, _, _, _, _, _, _, _, _, rfl, below_six R.bel rfl _ _ _ _ _ _⟩)
        · skip
          have HF : Hid (frun fs0 (ss.take (k + 1)) = some ⟨2, outs, x, ins, cost, jobs, pool⟩) := frun_next hlt HR.out (by rw [← HX.out]; simp [fstep, HNB.out])
          go_wp2_with (first
            | (go_at_call 44; refine (ref_Name x _ hxs).mono ?_; rintro e w1 ⟨rfl, hw⟩; rw [HNB.out]; subst hw)
            | (go_at_call 45; refine (ref_number x _).mono ?_; rintro e w1 ⟨rfl, hw⟩; rw [HDG.out]; subst hw))
          go_roundw
          case rel => exact ⟨k + 1, _, _, _, by omega, by go_num, rfl, rfl, HF.out, by simp, (rel_act R 2 x)⟩
          case measure => simp [intOf]; omega
      · -- inputs
        by_cases he : isBar x = true
        · have h1 : (x.toList == [124]) = true := he
          have HF : Hid (frun fs0 (ss.take (k + 1)) = some ⟨3, outs, act, ins, cost, jobs, pool⟩) := frun_next hlt HR.out (by rw [← HX.out]; simp [fstep, he])
          go_wp2_with (first
            | (go_at_call 44; refine (ref_Name x _ hxs).mono ?_; rintro e w1 ⟨rfl, hw⟩; rw [HNB.out]; subst hw)
            | (go_at_call 45; refine (ref_number x _).mono ?_; rintro e w1 ⟨rfl, hw⟩; rw [HDG.out]; subst hw))
          go_roundw
          case rel => exact ⟨k + 1, _, _, _, by omega, by go_num, rfl, rfl, HF.out, by simp, (rel_mode R 3 pool)⟩
          case measure => simp [intOf]; omega
        · have h1 : (x.toList == [124]) = false := strNe _ _ he
          cases nb
          · skip
            have HF : Hid (frun fs0 ss = none) := frun_stop hlt HR.out (by rw [← HX.out]; simp [fstep, he, HNB.out])
            clear R0
            go_wp2_with (first
              | (go_at_call 44; refine (ref_Name x _ hxs).mono ?_; rintro e w1 ⟨rfl, hw⟩; rw [HNB.out]; subst hw)
              | (go_at_call 45; refine (ref_number x _).mono ?_; rintro e w1 ⟨rfl, hw⟩; rw [HDG.out]; subst hw))
            exact bodyPost_ret (v := .tuple #[.agg #[.slice aO outs.length cO, .string act, .slice aI ins.length cI, .int .i64 cost, .int .i64 jobs, .int .i64 (-1)], .string pool, .bool false]) (by simp [results, Tryd.results47, go_sem, r0, r1, r2, r3, r4, r5]) rfl (.inr ⟨HF.out, _, _, _, _, _, _, _, _, _, _, rfl, below_six R.bel rfl _ _ _ _ _ _⟩)
          · skip
            have HF : Hid (frun fs0 (ss.take (k + 1)) = some ⟨2, outs, act, ins ++ [x], cost, jobs, pool⟩) := frun_next hlt HR.out (by rw [← HX.out]; simp [fstep, he, HNB.out])
            have hbs := R.bel.size
            have hbl := blk_lt R.blk
            go_wp2_with (first
              | (at_builtin; (refine wpList_append_own_at _ rfl _ _ 36 rfl (w.heap.size + 1 + 1) 9 i0 (.string ByteArray.empty) 1 16 Tryd.underlying36 hi hz0 hz1 hz2 rfl (by decide) _ _ _ rfl (R.ins.alloc _) ⟨_, 0, none⟩ 1 1 [.string x] rfl rfl (Go.cell_one_new _ _ _) (one_cell _) (by unfold maxLen; simp; omega) (by simp; omega) (by simp; omega) ?_))
              | (go_at_call 44; refine (ref_Name x _ hxs).mono ?_; rintro e w1 ⟨rfl, hw⟩; rw [HNB.out]; subst hw)
              | (go_at_call 45; refine (ref_number x _).mono ?_; rintro e w1 ⟨rfl, hw⟩; rw [HDG.out]; subst hw))
            intro v1 w2 hown hgrow _ hat
            obtain ⟨a1, q1, rfl⟩ := owns_shape hown
            have R2 := app_ins R hown hgrow (by simpa using hat)
            obtain ⟨d0, d1, d2, d3, d4, d5, df⟩ := six R2.1
            clear hown hgrow hat
            go_wp2
            go_roundw
            case rel => exact ⟨k + 1, _, _, _, by omega, by go_num, rfl, rfl, HF.out, by simp, R2.2⟩
            case measure => simp [intOf]; omega
      · -- behind the bar
        by_cases e1 : isCost x = true
        · have h1 : (x.toList == [99, 111, 115, 116]) = true := e1
          have hxl : x.toList = [99, 111, 115, 116] := by simpa using h1
          have h2 : (x.toList == [106, 111, 98, 115]) = false := by rw [hxl]; rfl
          have h3 : (x.toList == [112, 111, 111, 108]) = false := by rw [hxl]; rfl
          have e2 : isJobs x = false := h2
          have e3 : isPool x = false := h3
          clear hxl
          by_cases hz : cost = 0
          · have hb : ((cost : Int) == 0) = true := by rw [hz]; rfl
            have HF : Hid (frun fs0 (ss.take (k + 1)) = some ⟨4, outs, act, ins, cost, jobs, pool⟩) := frun_next hlt HR.out (by rw [← HX.out]; simp [fstep, e1, hz])
            go_wp2_with (first
              | (go_at_call 44; refine (ref_Name x _ hxs).mono ?_; rintro e w1 ⟨rfl, hw⟩; rw [HNB.out]; subst hw)
              | (go_at_call 45; refine (ref_number x _).mono ?_; rintro e w1 ⟨rfl, hw⟩; rw [HDG.out]; subst hw))
            go_roundw
            case rel => exact ⟨k + 1, _, _, _, by omega, by go_num, rfl, rfl, HF.out, by simp, (rel_mode R 4 pool)⟩
            case measure => simp [intOf]; omega
          · have hb : ((cost : Int) == 0) = false := by rw [beq_eq_false_iff_ne]; omega
            have HF : Hid (frun fs0 ss = none) := frun_stop hlt HR.out (by rw [← HX.out]; simp [fstep, e1, e2, e3, hz])
            clear R0
            go_wp2_with (first
              | (go_at_call 44; refine (ref_Name x _ hxs).mono ?_; rintro e w1 ⟨rfl, hw⟩; rw [HNB.out]; subst hw)
              | (go_at_call 45; refine (ref_number x _).mono ?_; rintro e w1 ⟨rfl, hw⟩; rw [HDG.out]; subst hw))
            exact bodyPost_ret (v := .tuple #[.agg #[.slice aO outs.length cO, .string act, .slice aI ins.length cI, .int .i64 cost, .int .i64 jobs, .int .i64 (-1)], .string pool, .bool false]) (by simp [results, Tryd.results47, go_sem, r0, r1, r2, r3, r4, r5]) rfl (.inr ⟨HF.out, _, _, _, _, _, _, _, _, _, _, rfl, below_six R.bel rfl _ _ _ _ _ _⟩)
        · have h1 : (x.toList == [99, 111, 115, 116]) = false := strNe _ _ e1
          by_cases e2 : isJobs x = true
          · have h2 : (x.toList == [106, 111, 98, 115]) = true := e2
            have hxl : x.toList = [106, 111, 98, 115] := by simpa using h2
            have h3 : (x.toList == [112, 111, 111, 108]) = false := by rw [hxl]; rfl
            have e3 : isPool x = false := h3
            clear hxl
            by_cases hz : jobs = 0
            · have hb : ((jobs : Int) == 0) = true := by rw [hz]; rfl
              have HF : Hid (frun fs0 (ss.take (k + 1)) = some ⟨5, outs, act, ins, cost, jobs, pool⟩) := frun_next hlt HR.out (by rw [← HX.out]; simp [fstep, e1, e2, hz])
              go_wp2_with (first
                | (go_at_call 44; refine (ref_Name x _ hxs).mono ?_; rintro e w1 ⟨rfl, hw⟩; rw [HNB.out]; subst hw)
                | (go_at_call 45; refine (ref_number x _).mono ?_; rintro e w1 ⟨rfl, hw⟩; rw [HDG.out]; subst hw))
              go_roundw
              case rel => exact ⟨k + 1, _, _, _, by omega, by go_num, rfl, rfl, HF.out, by simp, (rel_mode R 5 pool)⟩
              case measure => simp [intOf]; omega
            · have hb : ((jobs : Int) == 0) = false := by rw [beq_eq_false_iff_ne]; omega
              have HF : Hid (frun fs0 ss = none) := frun_stop hlt HR.out (by rw [← HX.out]; simp [fstep, e1, e2, e3, hz])
              clear R0
              go_wp2_with (first
                | (go_at_call 44; refine (ref_Name x _ hxs).mono ?_; rintro e w1 ⟨rfl, hw⟩; rw [HNB.out]; subst hw)
                | (go_at_call 45; refine (ref_number x _).mono ?_; rintro e w1 ⟨rfl, hw⟩; rw [HDG.out]; subst hw))
              exact bodyPost_ret (v := .tuple #[.agg #[.slice aO outs.length cO, .string act, .slice aI ins.length cI, .int .i64 cost, .int .i64 jobs, .int .i64 (-1)], .string pool, .bool false]) (by simp [results, Tryd.results47, go_sem, r0, r1, r2, r3, r4, r5]) rfl (.inr ⟨HF.out, _, _, _, _, _, _, _, _, _, _, rfl, below_six R.bel rfl _ _ _ _ _ _⟩)
          · have h2 : (x.toList == [106, 111, 98, 115]) = false := strNe _ _ e2
            by_cases e3 : isPool x = true
            · have h3 : (x.toList == [112, 111, 111, 108]) = true := e3
              by_cases hz : pool.size = 0
              · have hb : pool.toList.isEmpty = true := by rw [toList_isEmpty]; simpa using hz
                have HF : Hid (frun fs0 (ss.take (k + 1)) = some ⟨6, outs, act, ins, cost, jobs, pool⟩) := frun_next hlt HR.out (by rw [← HX.out]; simp [fstep, e1, e2, e3, hz])
                go_wp2_with (first
                  | (go_at_call 44; refine (ref_Name x _ hxs).mono ?_; rintro e w1 ⟨rfl, hw⟩; rw [HNB.out]; subst hw)
                  | (go_at_call 45; refine (ref_number x _).mono ?_; rintro e w1 ⟨rfl, hw⟩; rw [HDG.out]; subst hw))
                go_roundw
                case rel => exact ⟨k + 1, _, _, _, by omega, by go_num, rfl, rfl, HF.out, by simp, (rel_mode R 6 pool)⟩
                case measure => simp [intOf]; omega
              · have hb : pool.toList.isEmpty = false := by rw [toList_isEmpty]; simpa using hz
                have HF : Hid (frun fs0 ss = none) := frun_stop hlt HR.out (by rw [← HX.out]; simp [fstep, e1, e2, e3, hz])
                clear R0
                go_wp2_with (first
                  | (go_at_call 44; refine (ref_Name x _ hxs).mono ?_; rintro e w1 ⟨rfl, hw⟩; rw [HNB.out]; subst hw)
                  | (go_at_call 45; refine (ref_number x _).mono ?_; rintro e w1 ⟨rfl, hw⟩; rw [HDG.out]; subst hw))
                exact bodyPost_ret (v := .tuple #[.agg #[.slice aO outs.length cO, .string act, .slice aI ins.length cI, .int .i64 cost, .int .i64 jobs, .int .i64 (-1)], .string pool, .bool false]) (by simp [results, Tryd.results47, go_sem, r0, r1, r2, r3, r4, r5]) rfl (.inr ⟨HF.out, _, _, _, _, _, _, _, _, _, _, rfl, below_six R.bel rfl _ _ _ _ _ _⟩)
            · have h3 : (x.toList == [112, 111, 111, 108]) = false := strNe _ _ e3
              have HF : Hid (frun fs0 ss = none) := frun_stop hlt HR.out (by rw [← HX.out]; simp [fstep, e1, e2, e3])
              clear R0
              go_wp2_with (first
                | (go_at_call 44; refine (ref_Name x _ hxs).mono ?_; rintro e w1 ⟨rfl, hw⟩; rw [HNB.out]; subst hw)
                | (go_at_call 45; refine (ref_number x _).mono ?_; rintro e w1 ⟨rfl, hw⟩; rw [HDG.out]; subst hw))
              exact bodyPost_ret (v := .tuple #[.agg #[.slice aO outs.length cO, .string act, .slice aI ins.length cI, .int .i64 cost, .int .i64 jobs, .int .i64 (-1)], .string pool, .bool false]) (by simp [results, Tryd.results47, go_sem, r0, r1, r2, r3, r4, r5]) rfl (.inr ⟨HF.out, _, _, _, _, _, _, _, _, _, _, rfl, below_six R.bel rfl _ _ _ _ _ _⟩)
      · -- behind cost
        by_cases hd : 0 < d
        · have hd' : (0 : Int) < (d : Int) := by omega
          have HF : Hid (frun fs0 (ss.take (k + 1)) = some ⟨3, outs, act, ins, d, jobs, pool⟩) := frun_next hlt HR.out (by rw [← HX.out]; simp [fstep, HDG.out, hd])
          go_wp2_with (first
            | (go_at_call 44; refine (ref_Name x _ hxs).mono ?_; rintro e w1 ⟨rfl, hw⟩; rw [HNB.out]; subst hw)
            | (go_at_call 45; refine (ref_number x _).mono ?_; rintro e w1 ⟨rfl, hw⟩; rw [HDG.out]; subst hw))
          go_roundw
          case rel => exact ⟨k + 1, _, _, _, by omega, by go_num, rfl, rfl, HF.out, by simp, (rel_cost R 3 d)⟩
          case measure => simp [intOf]; omega
        · have hd' : ¬ (0 : Int) < (d : Int) := by omega
          have HF : Hid (frun fs0 ss = none) := frun_stop hlt HR.out (by rw [← HX.out]; simp [fstep, HDG.out, hd])
          clear R0
          go_wp2_with (first
            | (go_at_call 44; refine (ref_Name x _ hxs).mono ?_; rintro e w1 ⟨rfl, hw⟩; rw [HNB.out]; subst hw)
            | (go_at_call 45; refine (ref_number x _).mono ?_; rintro e w1 ⟨rfl, hw⟩; rw [HDG.out]; subst hw))
          exact bodyPost_ret (v := .tuple #[.agg #[.slice aO outs.length cO, .string act, .slice aI ins.length cI, .int .i64 cost, .int .i64 jobs, .int .i64 (-1)], .string pool, .bool false]) (by simp [results, Tryd.results47, go_sem, r0, r1, r2, r3, r4, r5]) rfl (.inr ⟨HF.out, _, _, _, _, _, _, _, _, _, _, rfl, below_six R.bel rfl _ _ _ _ _ _⟩)
      · -- behind jobs
        by_cases hd : 0 < d
        · have hd' : (0 : Int) < (d : Int) := by omega
          have HF : Hid (frun fs0 (ss.take (k + 1)) = some ⟨3, outs, act, ins, cost, d, pool⟩) := frun_next hlt HR.out (by rw [← HX.out]; simp [fstep, HDG.out, hd])
          go_wp2_with (first
            | (go_at_call 44; refine (ref_Name x _ hxs).mono ?_; rintro e w1 ⟨rfl, hw⟩; rw [HNB.out]; subst hw)
            | (go_at_call 45; refine (ref_number x _).mono ?_; rintro e w1 ⟨rfl, hw⟩; rw [HDG.out]; subst hw))
          go_roundw
          case rel => exact ⟨k + 1, _, _, _, by omega, by go_num, rfl, rfl, HF.out, by simp, (rel_jobs R 3 d)⟩
          case measure => simp [intOf]; omega
        · have hd' : ¬ (0 : Int) < (d : Int) := by omega
          have HF : Hid (frun fs0 ss = none) := frun_stop hlt HR.out (by rw [← HX.out]; simp [fstep, HDG.out, hd])
          clear R0
          go_wp2_with (first
            | (go_at_call 44; refine (ref_Name x _ hxs).mono ?_; rintro e w1 ⟨rfl, hw⟩; rw [HNB.out]; subst hw)
            | (go_at_call 45; refine (ref_number x _).mono ?_; rintro e w1 ⟨rfl, hw⟩; rw [HDG.out]; subst hw))
          exact bodyPost_ret (v := .tuple #[.agg #[.slice aO outs.length cO, .string act, .slice aI ins.length cI, .int .i64 cost, .int .i64 jobs, .int .i64 (-1)], .string pool, .bool false]) (by simp [results, Tryd.results47, go_sem, r0, r1, r2, r3, r4, r5]) rfl (.inr ⟨HF.out, _, _, _, _, _, _, _, _, _, _, rfl, below_six R.bel rfl _ _ _ _ _ _⟩)
      · -- behind pool
        cases nb
        · skip
          have HF : Hid (frun fs0 ss = none) := frun_stop hlt HR.out (by rw [← HX.out]; simp [fstep, HNB.out])
          clear R0
          go_wp2_with (first
            | (go_at_call 44; refine (ref_Name x _ hxs).mono ?_; rintro e w1 ⟨rfl, hw⟩; rw [HNB.out]; subst hw)
            | (go_at_call 45; refine (ref_number x _).mono ?_; rintro e w1 ⟨rfl, hw⟩; rw [HDG.out]; subst hw))
          exact bodyPost_ret (v := .tuple #[.agg #[.slice aO outs.length cO, .string act, .slice aI ins.length cI, .int .i64 cost, .int .i64 jobs, .int .i64 (-1)], .string pool, .bool false]) (by simp [results, Tryd.results47, go_sem, r0, r1, r2, r3, r4, r5]) rfl (.inr ⟨HF.out, _, _, _, _, _, _, _, _, _, _, rfl, below_six R.bel rfl _ _ _ _ _ _⟩)
        · skip
          have HF : Hid (frun fs0 (ss.take (k + 1)) = some ⟨3, outs, act, ins, cost, jobs, x⟩) := frun_next hlt HR.out (by rw [← HX.out]; simp [fstep, HNB.out])
          go_wp2_with (first
            | (go_at_call 44; refine (ref_Name x _ hxs).mono ?_; rintro e w1 ⟨rfl, hw⟩; rw [HNB.out]; subst hw)
            | (go_at_call 45; refine (ref_number x _).mono ?_; rintro e w1 ⟨rfl, hw⟩; rw [HDG.out]; subst hw))
          go_roundw
          case rel => exact ⟨k + 1, _, _, _, by omega, by go_num, rfl, rfl, HF.out, by simp, (rel_mode R 3 x)⟩
          case measure => simp [intOf]; omega
    · have hkn : k = ss.length := by omega
      have HF : Hid (frun fs0 ss = some ⟨mode, outs, act, ins, cost, jobs, pool⟩) := by
        have h := HR.out; rwa [hkn, List.take_length] at h
      clear hkn
      rcases (show mode = 2 ∨ mode = 3 ∨ mode = 0 ∨ mode = 1 ∨ mode = 4 ∨ mode = 5 ∨ mode = 6 by omega) with rfl | rfl | rfl | rfl | rfl | rfl | rfl
      · have HW : Hid (fwhole ⟨2, outs, act, ins, cost, jobs, pool⟩ = true) := rfl
        go_wp2
        exact bodyPost_ret (v := .tuple #[.agg #[.slice aO outs.length cO, .string act, .slice aI ins.length cI, .int .i64 cost, .int .i64 jobs, .int .i64 (-1)], .string pool, .bool true]) (by simp [results, Tryd.results47, go_sem, r0, r1, r2, r3, r4, r5]) rfl
          (.inl ⟨_, _, _, HF.out, by rw [HW.out], owns_six R.outs (by omega) _ _ _ _ _ _, owns_six R.ins (by omega) _ _ _ _ _ _, R.apart, below_six R.bel rfl _ _ _ _ _ _⟩)
      · by_cases h1 : 0 < cost
        · have h1' : (0 : Int) < (cost : Int) := by omega
          have HW : Hid (fwhole ⟨3, outs, act, ins, cost, jobs, pool⟩ = true) := by simp [Hid, fwhole, h1]
          go_wp2
          exact bodyPost_ret (v := .tuple #[.agg #[.slice aO outs.length cO, .string act, .slice aI ins.length cI, .int .i64 cost, .int .i64 jobs, .int .i64 (-1)], .string pool, .bool true]) (by simp [results, Tryd.results47, go_sem, r0, r1, r2, r3, r4, r5]) rfl
            (.inl ⟨_, _, _, HF.out, by rw [HW.out], owns_six R.outs (by omega) _ _ _ _ _ _, owns_six R.ins (by omega) _ _ _ _ _ _, R.apart, below_six R.bel rfl _ _ _ _ _ _⟩)
        · have h1' : ¬ (0 : Int) < (cost : Int) := by omega
          by_cases h2 : 0 < jobs
          · have h2' : (0 : Int) < (jobs : Int) := by omega
            have HW : Hid (fwhole ⟨3, outs, act, ins, cost, jobs, pool⟩ = true) := by simp [Hid, fwhole, h2]
            go_wp2
            exact bodyPost_ret (v := .tuple #[.agg #[.slice aO outs.length cO, .string act, .slice aI ins.length cI, .int .i64 cost, .int .i64 jobs, .int .i64 (-1)], .string pool, .bool true]) (by simp [results, Tryd.results47, go_sem, r0, r1, r2, r3, r4, r5]) rfl
              (.inl ⟨_, _, _, HF.out, by rw [HW.out], owns_six R.outs (by omega) _ _ _ _ _ _, owns_six R.ins (by omega) _ _ _ _ _ _, R.apart, below_six R.bel rfl _ _ _ _ _ _⟩)
          · have h2' : ¬ (0 : Int) < (jobs : Int) := by omega
            by_cases h3 : pool.size = 0
            · have hb : pool.toList.isEmpty = true := by rw [toList_isEmpty]; simpa using h3
              have HW : Hid (fwhole ⟨3, outs, act, ins, cost, jobs, pool⟩ = false) := by simp [Hid, fwhole, h1, h2, h3]
              go_wp2
              exact bodyPost_ret (v := .tuple #[.agg #[.slice aO outs.length cO, .string act, .slice aI ins.length cI, .int .i64 cost, .int .i64 jobs, .int .i64 (-1)], .string pool, .bool false]) (by simp [results, Tryd.results47, go_sem, r0, r1, r2, r3, r4, r5]) rfl
                (.inl ⟨_, _, _, HF.out, by rw [HW.out], owns_six R.outs (by omega) _ _ _ _ _ _, owns_six R.ins (by omega) _ _ _ _ _ _, R.apart, below_six R.bel rfl _ _ _ _ _ _⟩)
            · have hb : pool.toList.isEmpty = false := by rw [toList_isEmpty]; simpa using h3
              have HW : Hid (fwhole ⟨3, outs, act, ins, cost, jobs, pool⟩ = true) := by simp [Hid, fwhole, h3]
              go_wp2
              exact bodyPost_ret (v := .tuple #[.agg #[.slice aO outs.length cO, .string act, .slice aI ins.length cI, .int .i64 cost, .int .i64 jobs, .int .i64 (-1)], .string pool, .bool true]) (by simp [results, Tryd.results47, go_sem, r0, r1, r2, r3, r4, r5]) rfl
                (.inl ⟨_, _, _, HF.out, by rw [HW.out], owns_six R.outs (by omega) _ _ _ _ _ _, owns_six R.ins (by omega) _ _ _ _ _ _, R.apart, below_six R.bel rfl _ _ _ _ _ _⟩)
      · have HW : Hid (fwhole ⟨0, outs, act, ins, cost, jobs, pool⟩ = false) := rfl
        go_wp2
        exact bodyPost_ret (v := .tuple #[.agg #[.slice aO outs.length cO, .string act, .slice aI ins.length cI, .int .i64 cost, .int .i64 jobs, .int .i64 (-1)], .string pool, .bool false]) (by simp [results, Tryd.results47, go_sem, r0, r1, r2, r3, r4, r5]) rfl
          (.inl ⟨_, _, _, HF.out, by rw [HW.out], owns_six R.outs (by omega) _ _ _ _ _ _, owns_six R.ins (by omega) _ _ _ _ _ _, R.apart, below_six R.bel rfl _ _ _ _ _ _⟩)
      · have HW : Hid (fwhole ⟨1, outs, act, ins, cost, jobs, pool⟩ = false) := rfl
        go_wp2
        exact bodyPost_ret (v := .tuple #[.agg #[.slice aO outs.length cO, .string act, .slice aI ins.length cI, .int .i64 cost, .int .i64 jobs, .int .i64 (-1)], .string pool, .bool false]) (by simp [results, Tryd.results47, go_sem, r0, r1, r2, r3, r4, r5]) rfl
          (.inl ⟨_, _, _, HF.out, by rw [HW.out], owns_six R.outs (by omega) _ _ _ _ _ _, owns_six R.ins (by omega) _ _ _ _ _ _, R.apart, below_six R.bel rfl _ _ _ _ _ _⟩)
      · have HW : Hid (fwhole ⟨4, outs, act, ins, cost, jobs, pool⟩ = false) := rfl
        go_wp2
        exact bodyPost_ret (v := .tuple #[.agg #[.slice aO outs.length cO, .string act, .slice aI ins.length cI, .int .i64 cost, .int .i64 jobs, .int .i64 (-1)], .string pool, .bool false]) (by simp [results, Tryd.results47, go_sem, r0, r1, r2, r3, r4, r5]) rfl
          (.inl ⟨_, _, _, HF.out, by rw [HW.out], owns_six R.outs (by omega) _ _ _ _ _ _, owns_six R.ins (by omega) _ _ _ _ _ _, R.apart, below_six R.bel rfl _ _ _ _ _ _⟩)
      · have HW : Hid (fwhole ⟨5, outs, act, ins, cost, jobs, pool⟩ = false) := rfl
        go_wp2
        exact bodyPost_ret (v := .tuple #[.agg #[.slice aO outs.length cO, .string act, .slice aI ins.length cI, .int .i64 cost, .int .i64 jobs, .int .i64 (-1)], .string pool, .bool false]) (by simp [results, Tryd.results47, go_sem, r0, r1, r2, r3, r4, r5]) rfl
          (.inl ⟨_, _, _, HF.out, by rw [HW.out], owns_six R.outs (by omega) _ _ _ _ _ _, owns_six R.ins (by omega) _ _ _ _ _ _, R.apart, below_six R.bel rfl _ _ _ _ _ _⟩)
      · have HW : Hid (fwhole ⟨6, outs, act, ins, cost, jobs, pool⟩ = false) := rfl
        go_wp2
        exact bodyPost_ret (v := .tuple #[.agg #[.slice aO outs.length cO, .string act, .slice aI ins.length cI, .int .i64 cost, .int .i64 jobs, .int .i64 (-1)], .string pool, .bool false]) (by simp [results, Tryd.results47, go_sem, r0, r1, r2, r3, r4, r5]) rfl
          (.inl ⟨_, _, _, HF.out, by rw [HW.out], owns_six R.outs (by omega) _ _ _ _ _ _, owns_six R.ins (by omega) _ _ _ _ _ _, R.apart, below_six R.bel rfl _ _ _ _ _ _⟩)
end Go.Proofs.YtoabakgmjcnodaaDoor
