/-
  The two readers go hand in hand (plain functions).
-/
import Derived.Test.YtoabakgmjcnodaaDoorPureA
import Derived.Test.YtoabakgmjcnodaaDoorOwnO
namespace Go.Proofs.YtoabakgmjcnodaaDoor
open Go.ChangeShapes Go.WideShapes Go.ChangeAt Go.RowKit

/-- The claims are the outputs of the tasks. -/
def Claimed (cl : List (ByteArray × Nat)) (l : List TS) : Prop := ∀ x, makerI l x = match claimOf cl x with
  | some m => (m : Int)
  | none => -1
/-- The same plan, kept in two ways. -/
structure Sim (S : OS) (P : PS) : Prop where
  pools : S.pools.map (·.1) = P.pools
  tasks : S.tasks.map (fun t => (t.outs, t.ins, t.cost)) = P.tasks.map (fun t => (t.outs, t.ins, t.cost))
  claims : Claimed S.claims P.tasks
theorem Sim.len {S : OS} {P : PS} (h : Sim S P) : S.tasks.length = P.tasks.length := by
  have := congrArg List.length h.tasks
  simpa using this
theorem Sim.zero : Sim os0 ps0 := ⟨rfl, rfl, fun _ => rfl⟩

theorem maker_has (l : List TS) (x : ByteArray) : 0 ≤ makerI l x ∨ makerI l x = -1 := by
  unfold makerI
  cases l.findIdx? (fun t => decide (0 ≤ placeI t.outs x)) with
  | some k => left; simp only; omega
  | none => right; rfl
theorem Claimed.some {cl : List (ByteArray × Nat)} {l : List TS} (h : Claimed cl l) (x : ByteArray) : (claimOf cl x).isSome = decide (0 ≤ makerI l x) := by
  rw [h x]
  cases claimOf cl x with
  | none => rfl
  | some m => simp
theorem place_mem (ss : List ByteArray) (x : ByteArray) : 0 ≤ placeI ss x ↔ x ∈ ss := by
  unfold placeI
  cases h : ss.findIdx? (fun y => y.toList == x.toList) with
  | some k =>
    rw [List.findIdx?_eq_some_iff_getElem] at h
    obtain ⟨hk, h1, _⟩ := h
    rw [beq_iff_eq, toList_data, toList_data] at h1
    have e : ss[k] = x := WideShapes.bytes_inj h1
    simp only
    exact ⟨fun _ => by rw [← e]; exact List.getElem_mem hk, fun _ => by omega⟩
  | none =>
    rw [List.findIdx?_eq_none_iff] at h
    simp only
    refine ⟨fun h => by omega, fun hx => ?_⟩
    have := h x hx
    simp at this
open Classical in
theorem claimOf_app (cl : List (ByteArray × Nat)) (outs : List ByteArray) (n : Nat) (x : ByteArray) : claimOf (cl ++ outs.map fun y => (y, n)) x = match claimOf cl x with
    | some m => some m
    | none => if x ∈ outs then some n else none := by
  unfold claimOf
  rw [List.find?_append]
  cases cl.find? (fun p => p.1.toList == x.toList) with
  | some p => rfl
  | none =>
    simp only [Option.map_none, Option.none_or]
    cases h : (outs.map fun y => (y, n)).find? (fun p => p.1.toList == x.toList) with
    | none =>
      rw [if_neg]
      · rfl
      · intro hx
        rw [List.find?_eq_none] at h
        have := h (x, n) (List.mem_map.2 ⟨x, hx, rfl⟩)
        simp at this
    | some p =>
      have h1 := List.find?_some h
      have h2 := List.mem_of_find?_eq_some h
      rw [List.mem_map] at h2
      obtain ⟨y, hy, rfl⟩ := h2
      simp only [beq_iff_eq, toList_data] at h1
      have e : y = x := WideShapes.bytes_inj h1
      rw [if_pos (by rw [← e]; exact hy)]
      rfl
open Classical in
theorem maker_app (l : List TS) (t : TS) (x : ByteArray) : makerI (l ++ [t]) x = if 0 ≤ makerI l x then makerI l x else if x ∈ t.outs then (l.length : Int) else -1 := by
  unfold makerI
  rw [List.findIdx?_append]
  cases l.findIdx? (fun t => decide (0 ≤ placeI t.outs x)) with
  | some k => simp
  | none =>
    by_cases hx : x ∈ t.outs
    · have : 0 ≤ placeI t.outs x := (place_mem _ _).2 hx
      simp [List.findIdx?_cons, this, hx]
    · have : ¬ 0 ≤ placeI t.outs x := fun h => hx ((place_mem _ _).1 h)
      simp [List.findIdx?_cons, this, hx]
open Classical in
theorem Claimed.app {cl : List (ByteArray × Nat)} {l : List TS} (h : Claimed cl l) (t : TS) : Claimed (cl ++ t.outs.map fun y => (y, l.length)) (l ++ [t]) := by
  intro x
  rw [maker_app, claimOf_app, h x]
  cases claimOf cl x with
  | some m => simp
  | none => 
    by_cases hx : x ∈ t.outs
    · simp [hx]
    · simp [hx]
open Classical in
/-- The outputs are claimed where none is there twice. -/
theorem claim_twice (n : Nat) : ∀ (outs pre : List ByteArray) (cl : List (ByteArray × Nat)), (claimRun n (cl ++ pre.map fun y => (y, n)) outs) =
    if (∃ i, i < outs.length ∧ ((claimOf cl (outs.getD i ByteArray.empty)).isSome = true ∨ outs.getD i ByteArray.empty ∈ pre ++ outs.take i)) then ((claimRun n (cl ++ pre.map fun y => (y, n)) outs).1, false) else (cl ++ (pre ++ outs).map fun y => (y, n), true)
  | [], pre, cl => by
    rw [if_neg]
    · simp [claimRun]
    · rintro ⟨i, hi, _⟩; simp at hi
  | x :: r, pre, cl => by
    simp only [claimRun]
    by_cases hx : (claimOf (cl ++ pre.map fun y => (y, n)) x).isSome = true
    · rw [if_pos hx, if_pos]
      refine ⟨0, by simp, ?_⟩
      rw [claimOf_app] at hx
      cases hc : claimOf cl x with
      | some m => left; simp [hc]
      | none =>
        right
        rw [hc] at hx
        by_cases hp : x ∈ pre
        · simp [hp]
        · simp [hp] at hx
    · rw [if_neg hx]
      have e : cl ++ pre.map (fun y => (y, n)) ++ [(x, n)] = cl ++ (pre ++ [x]).map fun y => (y, n) := by simp
      rw [e]
      have ih := claim_twice n r (pre ++ [x]) cl
      have hiff : (∃ i, i < r.length ∧ ((claimOf cl (r.getD i ByteArray.empty)).isSome = true ∨ r.getD i ByteArray.empty ∈ pre ++ [x] ++ r.take i)) ↔
          (∃ i, i < (x :: r).length ∧ ((claimOf cl ((x :: r).getD i ByteArray.empty)).isSome = true ∨ (x :: r).getD i ByteArray.empty ∈ pre ++ (x :: r).take i)) := by
        constructor
        · rintro ⟨i, hi, h⟩
          refine ⟨i + 1, by simp; omega, ?_⟩
          simpa using h
        · rintro ⟨i, hi, h⟩
          cases i with
          | zero =>
            exfalso
            rw [claimOf_app] at hx
            rcases h with h | h
            · cases hc : claimOf cl x with
              | some m => rw [hc] at hx; simp at hx
              | none => simp [hc] at h
            · have hp : x ∈ pre := by simpa using h
              cases hc : claimOf cl x with
              | some m => rw [hc] at hx; simp at hx
              | none => rw [hc] at hx; simp [hp] at hx
          | succ i =>
            refine ⟨i, by simp at hi; omega, ?_⟩
            simpa using h
      by_cases hex : ∃ i, i < r.length ∧ ((claimOf cl (r.getD i ByteArray.empty)).isSome = true ∨ r.getD i ByteArray.empty ∈ pre ++ [x] ++ r.take i)
      · rw [if_pos hex] at ih
        rw [if_pos (hiff.1 hex)]
        exact ih
      · rw [if_neg hex] at ih
        rw [if_neg (fun h => hex (hiff.2 h)), ih]
        simp
theorem twice_iff (l : List TS) (outs : List ByteArray) : twiceB l outs = true ↔ ∃ i, i < outs.length ∧ (0 ≤ makerI l (outs.getD i ByteArray.empty) ∨ outs.getD i ByteArray.empty ∈ outs.take i) := by
  unfold twiceB
  rw [List.any_eq_true]
  constructor
  · rintro ⟨i, hi, h⟩
    refine ⟨i, List.mem_range.1 hi, ?_⟩
    simp only [twiceAt, Bool.or_eq_true, decide_eq_true_eq, place_mem] at h
    exact h
  · rintro ⟨i, hi, h⟩
    refine ⟨i, List.mem_range.2 hi, ?_⟩
    simp only [twiceAt, Bool.or_eq_true, decide_eq_true_eq, place_mem]
    exact h
open Classical in
theorem claim_run {cl : List (ByteArray × Nat)} {l : List TS} (h : Claimed cl l) (n : Nat) (outs : List ByteArray) : (claimRun n cl outs).2 = !twiceB l outs ∧ (twiceB l outs = false → (claimRun n cl outs).1 = cl ++ outs.map fun y => (y, n)) := by
  have h1 := claim_twice n outs [] cl
  simp only [List.map_nil, List.append_nil, List.nil_append] at h1
  have hiff : (∃ i, i < outs.length ∧ ((claimOf cl (outs.getD i ByteArray.empty)).isSome = true ∨ outs.getD i ByteArray.empty ∈ outs.take i)) ↔ twiceB l outs = true := by
    rw [twice_iff]
    constructor
    · rintro ⟨i, hi, h2⟩
      refine ⟨i, hi, h2.imp (fun h3 => ?_) id⟩
      rw [h.some] at h3; simpa using h3
    · rintro ⟨i, hi, h2⟩
      refine ⟨i, hi, h2.imp (fun h3 => ?_) id⟩
      rw [h.some]; simpa using h3
  by_cases hex : twiceB l outs = true
  · rw [if_pos (hiff.2 hex)] at h1
    refine ⟨by rw [h1, hex]; rfl, fun h2 => by rw [hex] at h2; cases h2⟩
  · rw [if_neg (fun h2 => hex (hiff.1 h2))] at h1
    have hf : twiceB l outs = false := by simpa using hex
    exact ⟨by rw [h1, hf]; rfl, fun _ => by rw [h1]⟩

/-- A task more: the same error, and side by side behind it. -/
theorem sim_add {S : OS} {P : PS} (h : Sim S P) (f : FS) : (ownAdd S (toOT f)).2 = (refTask P f).2 ∧ ((refTask P f).2 = 0 → Sim (ownAdd S (toOT f)).1 (refTask P f).1) := by
  have hl := h.len
  have hc := claim_run h.claims S.tasks.length f.outs
  unfold ownAdd refTask
  simp only [show (toOT f).outs = f.outs from rfl, show (toOT f).act = f.act from rfl, show (toOT f).ins = f.ins from rfl, show (toOT f).pool = f.pool from rfl]
  rw [h.pools, hl]
  split
  · exact ⟨rfl, fun h => by cases h⟩
  by_cases h3 : f.pool.size ≠ 0 ∧ placeI P.pools f.pool < 0
  · rw [if_pos h3, if_pos h3]; exact ⟨rfl, fun h => by cases h⟩
  rw [if_neg h3, if_neg h3]
  by_cases h4 : wantsB f.act f.outs.length f.ins.length = false
  · rw [if_pos h4, if_pos h4]; exact ⟨rfl, fun h => by cases h⟩
  rw [if_neg h4, if_neg h4]
  rw [hl] at hc
  by_cases h5 : twiceB P.tasks f.outs = true
  · rw [if_pos h5, if_pos (by rw [hc.1, h5]; rfl)]; exact ⟨rfl, fun h => by cases h⟩
  · have hf : twiceB P.tasks f.outs = false := by simpa using h5
    rw [if_neg h5, if_neg (by rw [hc.1, hf]; decide)]
    refine ⟨rfl, fun _ => ⟨h.pools, ?_, ?_⟩⟩
    · simp only [List.map_append, h.tasks, List.map_cons, List.map_nil]
      congr 1
      simp only [toOT, newTask, List.cons.injEq, Prod.mk.injEq, and_true, true_and]
      split <;> omega
    · show Claimed (claimRun P.tasks.length S.claims f.outs).1 (P.tasks ++ [newTask P f])
      rw [hc.2 hf]
      exact h.claims.app (newTask P f)
theorem sim_pool {S : OS} {P : PS} (h : Sim S P) (l : List ByteArray) : (ownPoolLine S (l.drop 1)).2 = (poolLine P l).2 ∧ ((poolLine P l).2 = 0 → Sim (ownPoolLine S (l.drop 1)).1 (poolLine P l).1) := by
  have e0 : (l.drop 1).getD 0 ByteArray.empty = l.getD 1 ByteArray.empty := by simp [List.getD_eq_getElem?_getD]
  have e1 : (l.drop 1).getD 1 ByteArray.empty = l.getD 2 ByteArray.empty := by simp [List.getD_eq_getElem?_getD]
  have hpl : S.pools.length = P.pools.length := by rw [← h.pools]; simp
  unfold ownPoolLine poolLine
  rw [e0, e1, List.length_drop]
  by_cases h3 : l.length ≠ 3
  · rw [if_pos h3, if_neg (by omega)]; exact ⟨rfl, fun h => by cases h⟩
  · rw [if_neg h3]
    by_cases h2 : nameB (l.getD 1 ByteArray.empty).data.toList = false ∨ digN (l.getD 2 ByteArray.empty).data.toList = 0
    · rw [if_pos h2, if_neg (by rintro ⟨_, ha, hb⟩; rcases h2 with h2 | h2
                                · rw [h2] at ha; cases ha
                                · exact hb h2)]
      exact ⟨rfl, fun h => by cases h⟩
    · rw [if_neg h2, if_pos ⟨by omega, by
        have : ¬ nameB (l.getD 1 ByteArray.empty).data.toList = false := fun h => h2 (.inl h)
        simpa using this, fun h => h2 (.inr h)⟩]
      unfold ownPool
      rw [h.pools, hpl]
      split
      · exact ⟨rfl, fun h => by cases h⟩
      · split
        · exact ⟨rfl, fun h => by cases h⟩
        · refine ⟨rfl, fun _ => ⟨?_, h.tasks, h.claims⟩⟩
          simp [h.pools]
theorem sim_line {S : OS} {P : PS} (h : Sim S P) (s : ByteArray) : (ownLine S s).2 = (refLine P s).2 ∧ ((refLine P s).2 = 0 → Sim (ownLine S s).1 (refLine P s).1) := by
  unfold ownLine refLine
  split
  · exact ⟨rfl, fun _ => h⟩
  split
  · exact sim_pool h _
  split
  · exact ⟨rfl, fun h => by cases h⟩
  unfold ownTaskLine taskLine
  rw [ownTask_eq]
  cases frun fs0 ((wordsOf s).drop 1) with
  | none => exact ⟨rfl, fun h => by cases h⟩
  | some t =>
    simp only [fin, Option.bind_some]
    by_cases hw : fwhole t = true
    · simp only [hw, if_true, Bool.true_eq_false, if_false]
      exact sim_add h t
    · have hf : fwhole t = false := by simpa using hw
      simp only [hf, Bool.false_eq_true, if_false, if_true]
      exact ⟨trivial, fun h => by cases h⟩
theorem sim_run (l : List ByteArray) : ∀ (S : OS) (P : PS) (i : Nat), Sim S P → (ownRun S i l).2 = (refRun P i l).2 ∧ ((refRun P i l).2 = none → Sim (ownRun S i l).1 (refRun P i l).1) := by
  induction l with
  | nil => intro S P i h; exact ⟨rfl, fun _ => h⟩
  | cons x r ih =>
    intro S P i h
    have h1 := sim_line h x
    simp only [ownRun, refRun]
    rw [h1.1]
    by_cases h0 : (refLine P x).2 = 0
    · rw [if_pos h0, if_pos h0]; exact ih _ _ _ (h1.2 h0)
    · rw [if_neg h0, if_neg h0]; exact ⟨rfl, fun h => by cases h⟩
end Go.Proofs.YtoabakgmjcnodaaDoor
