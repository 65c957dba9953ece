import Derived.Test.YtoabakgmjcnodaaDoorOwnJ
import Derived.Test.YtoabakgmjcnodaaDoorOwnM
import Derived.Test.YtoabakgmjcnodaaDoorOwnN
import Derived.Test.YtoabakgmjcnodaaDoorRefRead
namespace Go.Proofs.YtoabakgmjcnodaaDoor
open Go.ChangeShapes Go.WideShapes Go.ChangeAt Go.RowKit

/-- The lines one after the other. -/
def ownRun (S : OS) : Nat → List ByteArray → OS × Option (Nat × Nat)
  | _, [] => (S, none)
  | i, x :: r => if (ownLine S x).2 = 0 then ownRun (ownLine S x).1 (i + 1) r else ((ownLine S x).1, some (i, (ownLine S x).2))
def ownRing (S : OS) : Bool := decide ((ordIter (ownWaits S) (ownWaits S).length ((ownWaits S).length + 1)).length < (ownWaits S).length)
def ownRead (s : ByteArray) : OS × Nat × Nat :=
  if 2000 < s.size then (os0, 0, 1)
  else match ownRun os0 0 (linesOf s) with
    | (S, some (i, e)) => (S, i, e)
    | (S, none) => if ownRing S = true then (S, (linesOf s).length, 6) else (S, S.tasks.length, 0)
theorem ownRun_snoc (x : ByteArray) (l : List ByteArray) : ∀ (S S1 : OS) (i : Nat), ownRun S i l = (S1, none) →
    ownRun S i (l ++ [x]) = if (ownLine S1 x).2 = 0 then ((ownLine S1 x).1, none) else ((ownLine S1 x).1, some (i + l.length, (ownLine S1 x).2)) := by
  induction l with
  | nil =>
    intro S S1 i h
    injection h with h _; subst h
    simp only [List.nil_append, ownRun, List.length_nil, Nat.add_zero]
  | cons y r ih =>
    intro S S1 i h
    simp only [ownRun] at h
    split at h
    · rename_i h0
      simp only [List.cons_append, ownRun, h0, if_true]
      rw [ih _ _ _ h, List.length_cons, Nat.add_assoc, Nat.add_comm 1]
    · injection h with _ h; cases h
theorem ownRun_stop (l r : List ByteArray) : ∀ (S S1 : OS) (i : Nat) (o : Nat × Nat), ownRun S i l = (S1, some o) → ownRun S i (l ++ r) = (S1, some o) := by
  induction l with
  | nil => intro S S1 i o h; injection h with _ h; cases h
  | cons y q ih =>
    intro S S1 i o h
    simp only [ownRun, List.cons_append] at h ⊢
    split at h
    · rename_i h0; simp only [h0, if_true]; exact ih _ _ _ _ h
    · rename_i h0; simp only [h0, if_false]; exact h

/-- What holds behind every line that is right. -/
structure OInv (S : OS) : Prop where
  len : S.claims.length ≤ S.tasks.length * 3000
  num : ∀ p ∈ S.claims, p.2 < S.tasks.length
theorem claimRun_mem (n : Nat) (l : List ByteArray) : ∀ (cl : List (ByteArray × Nat)), ∀ p ∈ (claimRun n cl l).1, p ∈ cl ∨ p.2 = n := by
  induction l with
  | nil => intro cl p hp; exact .inl hp
  | cons y q ih =>
    intro cl p hp
    simp only [claimRun] at hp
    split at hp
    · exact .inl hp
    · rcases ih _ p hp with h | h
      · rw [List.mem_append] at h
        rcases h with h | h
        · exact .inl h
        · right; simp at h; rw [h]
      · exact .inr h
theorem OInv.add {S : OS} (h : OInv S) {t : OT} (hl : t.outs.length ≤ 3000) (h0 : (ownAdd S t).2 = 0) : OInv (ownAdd S t).1 := by
  unfold ownAdd at h0 ⊢
  split
  · rename_i hc; rw [if_pos hc] at h0; cases h0
  rename_i hc1; rw [if_neg hc1] at h0
  split
  · rename_i hc; rw [if_pos hc] at h0; cases h0
  rename_i hc2; rw [if_neg hc2] at h0
  split
  · rename_i hc; rw [if_pos hc] at h0; cases h0
  rename_i hc3; rw [if_neg hc3] at h0
  split
  · rename_i hc; rw [if_pos hc] at h0; cases h0
  refine ⟨?_, fun p hp => ?_⟩
  · have h1 := claimRun_len S.tasks.length t.outs S.claims
    have h2 := h.len
    simp only [List.length_append, List.length_cons, List.length_nil]; omega
  · simp only [List.length_append, List.length_cons, List.length_nil]
    rcases claimRun_mem _ _ _ p hp with h1 | h1
    · have := h.num p h1; omega
    · omega
theorem OInv.pool {S : OS} (h : OInv S) {x : ByteArray} {n : Nat} (h0 : (ownPool S x n).2 = 0) : OInv (ownPool S x n).1 := by
  unfold ownPool at h0 ⊢
  split
  · rename_i hc; rw [if_pos hc] at h0; cases h0
  rename_i hc1; rw [if_neg hc1] at h0
  split
  · rename_i hc; rw [if_pos hc] at h0; cases h0
  · exact ⟨h.len, h.num⟩
theorem OInv.line {S : OS} (h : OInv S) {s : ByteArray} (hs : s.size ≤ 2000) (h0 : (ownLine S s).2 = 0) : OInv (ownLine S s).1 := by
  unfold ownLine at h0 ⊢
  split
  · exact h
  rename_i hc1; rw [if_neg hc1] at h0
  split
  · rename_i hc2; rw [if_pos hc2] at h0
    unfold ownPoolLine at h0 ⊢
    split
    · rename_i hc3; rw [if_pos hc3] at h0; exact h.pool h0
    · exact h
  rename_i hc2; rw [if_neg hc2] at h0
  split
  · exact h
  rename_i hc3; rw [if_neg hc3] at h0
  unfold ownTaskLine at h0 ⊢
  split
  · exact h
  · rename_i t ht
    rw [ht] at h0
    refine h.add ?_ h0
    have h1 := (ownTask_mem ht).1
    have h2 := words_le s
    rw [List.length_drop] at h1
    omega
theorem OInv.run (l : List ByteArray) : ∀ (S S1 : OS) (i : Nat), OInv S → (∀ x ∈ l, x.size ≤ 2000) → ownRun S i l = (S1, none) → OInv S1 := by
  induction l with
  | nil => intro S S1 i h _ h1; injection h1 with h1 _; subst h1; exact h
  | cons y q ih =>
    intro S S1 i h hl h1
    simp only [ownRun] at h1
    split at h1
    · rename_i h0; exact ih _ _ _ (h.line (hl y (by simp)) h0) (fun x hx => hl x (by simp [hx])) h1
    · injection h1 with _ h1; cases h1
theorem OInv.zero : OInv os0 := ⟨by simp [os0], fun p hp => by simp [os0] at hp⟩
theorem claimOf_mem {cl : List (ByteArray × Nat)} {x : ByteArray} {m : Nat} (h : claimOf cl x = some m) : ∃ p ∈ cl, p.2 = m := by
  unfold claimOf at h
  rw [Option.map_eq_some_iff] at h
  obtain ⟨p, h1, h2⟩ := h
  exact ⟨p, List.mem_of_find?_eq_some h1, h2⟩
theorem waitRun_mem (cl : List (ByteArray × Nat)) (l : List ByteArray) : ∀ (acc : List Nat), ∀ m ∈ l.foldl (waitStep cl) acc, m ∈ acc ∨ ∃ p ∈ cl, p.2 = m := by
  induction l with
  | nil => intro acc m h; exact .inl h
  | cons x r ih =>
    intro acc m h
    rcases ih _ m h with h1 | h1
    · unfold waitStep at h1
      split at h1
      · exact .inl h1
      · rename_i m1 hm
        split at h1
        · exact .inl h1
        · rw [List.mem_append] at h1
          rcases h1 with h1 | h1
          · exact .inl h1
          · simp at h1; rw [h1]; exact .inr (claimOf_mem hm)
    · exact .inr h1
theorem OInv.waits {S : OS} (h : OInv S) (hl : ∀ t ∈ S.tasks, t.ins.length ≤ 4000) : ∀ l ∈ ownWaits S, l.length ≤ 4000 ∧ ∀ x ∈ l, x < (ownWaits S).length := by
  intro l hlm
  unfold ownWaits at hlm ⊢
  rw [List.mem_map] at hlm
  obtain ⟨t, ht, rfl⟩ := hlm
  refine ⟨Nat.le_trans (waitRun_len _ _) (hl t ht), fun x hx => ?_⟩
  rw [List.length_map]
  rcases waitRun_mem _ _ _ x hx with h1 | ⟨p, h1, h2⟩
  · simp at h1
  · rw [← h2]; exact h.num p h1
theorem NRows.wts {w : World} {ab : Nat} {S : OS} {vs : Nat → Value} {ls : Nat → List Nat} (h : NRows w ab S.tasks.length vs ls) (he : ∀ i t, S.tasks[i]? = some t → ls i = waitRun S.claims t.ins) : Wts w ab (ownWaits S) := by
  intro i hi
  have hi2 : i < S.tasks.length := by simpa [ownWaits] using hi
  refine ⟨vs i, h.row.cell hi2, ?_⟩
  have h1 := Ints.owned (h.own i hi2)
  have h2 : (ownWaits S)[i] = ls i := by
    rw [he i S.tasks[i] (List.getElem?_eq_getElem hi2)]; simp [ownWaits]
  rw [h2]; exact h1
theorem OPlan.lens {w : World} {rb mb : Nat} {M : Nat → Prop} {S : OS} {vP vT : Value} {cP cT : List Value} {D : DataW Unit} (R : OPlan w rb mb M S vP vT cP cT D) : ∀ t ∈ S.tasks, t.ins.length ≤ 4000 := by
  intro t ht
  obtain ⟨i, hi, rfl⟩ := List.mem_iff_getElem.1 ht
  obtain ⟨vO, vI, T⟩ := R.each i hi
  exact T.lI

/-- The lines in memory stay what they are, and the plan grows. -/
structure OLRel (w wr : World) (L : List ByteArray) (S : OS) (M : Nat → Prop) (vP vT : Value) (cP cT : List Value) (D : DataW Unit) : Prop where
  plan : OPlan wr (w.heap.size + 2) (w.heap.size + 1) M S vP vT cP cT D
  cells : Strs wr (.slice (some ⟨w.heap.size + 3, 0, none⟩) L.length L.length) L
  res : wr.heap[w.heap.size]? = some (.cells #[.slice none 0 0, .slice none 0 0, .slice none 0 0] 49 (0, 0))
  notM : ¬ M (w.heap.size + 3)
  notR : ¬ M w.heap.size
  lt : w.heap.size + 3 < wr.heap.size
  bel : Below w.heap.size w wr
  low : ∀ k, M k → w.heap.size ≤ k
theorem OLRel.next {w wr w1 : World} {L : List ByteArray} {S S1 : OS} {M : Nat → Prop} {vP vT : Value} {cP cT : List Value} {D : DataW Unit} (h : OLRel w wr L S M vP vT cP cT D) (h1 : OPost wr w1 (w.heap.size + 2) (w.heap.size + 1) M S1) :
    ∃ M1 vP1 vT1 cP1 cT1 D1, OLRel w w1 L S1 M1 vP1 vT1 cP1 cT1 D1 := by
  obtain ⟨M1, vP1, vT1, cP1, cT1, D1, R, hs, hM⟩ := h1
  have hlt := h.lt
  refine ⟨M1, vP1, vT1, cP1, cT1, D1, R, h.cells.same hs (fun k hk => ?_), (hs.block _ (by omega) h.notR).trans h.res, fun hg => (hM _ hg).elim h.notM (fun e => by omega), fun hg => (hM _ hg).elim h.notR (fun e => by omega), Nat.lt_of_lt_of_le h.lt hs.size, ?_, ?_⟩
  · have : k = w.heap.size + 3 := by simpa [Value.ownBlock] using hk.symm
    rw [this]; exact h.notM
  · exact h.bel.trans (hs.below h.bel.size h.low)
  · intro k hk
    rcases hM k hk with h2 | h2
    · exact h.low k h2
    · omega
theorem oplan0 (w : World) : OPlan ((w.alloc (.map #[] 0)).alloc (.cells #[.slice none 0 0, .slice none 0 0, .map (some w.heap.size)] 65)) (w.heap.size + 1) w.heap.size (fun k => k = w.heap.size ∨ k = w.heap.size + 1) os0 (.slice none 0 0) (.slice none 0 0) [] [] (.map []) := by
  refine ⟨?_, .inr rfl, .inl rfl, by omega, ⟨World.ownsRow_nil _ _ _ _, fun i hi => by simp [os0] at hi⟩, World.ownsRow_nil _ _ _ _, (World.ownsMap_made w _ _ _).alloc _, MapIs.empty, fun k hk => by simp [Value.ownBlock] at hk, fun k hk => by simp [Value.ownBlock] at hk, fun i hi => by simp [os0] at hi, by simp [os0], fun k hk => ?_⟩
  · have := heap_alloc_new (w.alloc (.map #[] 0)) (.cells #[.slice none 0 0, .slice none 0 0, .map (some w.heap.size)] 65)
    simpa using this
  · simp; omega

/-- What Read leaves. -/
def ORPost (w w1 : World) (e : Ending) (R : OS × Nat × Nat) : Prop :=
  (R.2.2 ≠ 0 → e = .returned (.tuple #[.agg #[.slice none 0 0, .slice none 0 0, .slice none 0 0], .int .i64 R.2.1, .int .i64 R.2.2])) ∧ Below w.heap.size w w1 ∧
  (R.2.2 = 0 → ∃ aP nP qP B vT cT ab vs ls, e = .returned (.tuple #[.agg #[.slice aP nP qP, vT, .slice (some ⟨ab, 0, none⟩) R.1.tasks.length R.1.tasks.length], .int .i64 R.2.1, .int .i64 0]) ∧ w1.ownsRow B 80 6 vT R.1.tasks.length cT ∧
    (∀ i t, R.1.tasks[i]? = some t → cT[i * 6 + 3]? = some (.int .i64 t.cost)) ∧ R.1.tasks.length ≤ 24 ∧ (∀ t ∈ R.1.tasks, t.ins.length ≤ 4000) ∧ NRows w1 ab R.1.tasks.length vs ls ∧ (∀ i t, R.1.tasks[i]? = some t → ls i = waitRun R.1.claims t.ins) ∧ OInv R.1)
end Go.Proofs.YtoabakgmjcnodaaDoor
