/-
  The two ways in which a ring is found say the same (plain functions).
-/
import Derived.Test.YtoabakgmjcnodaaDoorPureB
namespace Go.Proofs.YtoabakgmjcnodaaDoor
open Go.ChangeShapes Go.WideShapes Go.ChangeAt Go.RowKit

theorem foldl_mem (cl : List (ByteArray × Nat)) (m : Nat) : ∀ (l : List ByteArray) (acc : List Nat), m ∈ l.foldl (waitStep cl) acc ↔ m ∈ acc ∨ ∃ x ∈ l, claimOf cl x = some m
  | [], acc => by simp
  | x :: r, acc => by
    rw [List.foldl_cons, foldl_mem cl m r]
    unfold waitStep
    cases hc : claimOf cl x with
    | none => simp [hc]
    | some k =>
      simp only
      by_cases hk : acc.contains k = true
      · rw [if_pos hk]
        constructor
        · rintro (h | ⟨y, hy, h⟩)
          · exact .inl h
          · exact .inr ⟨y, by simp [hy], h⟩
        · rintro (h | ⟨y, hy, h⟩)
          · exact .inl h
          · rw [List.mem_cons] at hy
            rcases hy with rfl | hy
            · rw [hc] at h; injection h with h; subst h; left; simpa using hk
            · exact .inr ⟨y, hy, h⟩
      · rw [if_neg hk, List.mem_append]
        constructor
        · rintro ((h | h) | ⟨y, hy, h⟩)
          · exact .inl h
          · simp at h; subst h; exact .inr ⟨x, by simp, hc⟩
          · exact .inr ⟨y, by simp [hy], h⟩
        · rintro (h | ⟨y, hy, h⟩)
          · exact .inl (.inl h)
          · rw [List.mem_cons] at hy
            rcases hy with rfl | hy
            · rw [hc] at h; injection h with h; subst h; left; right; simp
            · exact .inr ⟨y, hy, h⟩
/-- Who waits for whom is said alike. -/
theorem waits_eq {S : OS} {P : PS} (h : Sim S P) {a b : Nat} (ha : a < P.tasks.length) : waitsM P.tasks a b = ((ownWaits S).getD a []).contains b := by
  have ha2 : a < S.tasks.length := by rw [h.len]; exact ha
  have h1 : (ownWaits S).getD a [] = waitRun S.claims S.tasks[a].ins := by simp [ownWaits, ha2]
  have h2 : S.tasks[a].ins = P.tasks[a].ins := by
    have := congrArg (fun l => l[a]?) h.tasks
    simp [ha, ha2] at this
    exact this.2.1
  have h3 : P.tasks.getD a ⟨[], ByteArray.empty, [], 0, 0, 0⟩ = P.tasks[a] := by simp [ha]
  rw [h1, h2]
  unfold waitsM waitsL
  rw [h3, Bool.eq_iff_iff, List.any_eq_true, List.contains_iff_mem, waitRun, foldl_mem]
  simp only [List.not_mem_nil, false_or, beq_iff_eq]
  constructor
  · rintro ⟨x, hx, he⟩
    refine ⟨x, hx, ?_⟩
    rw [h.claims x] at he
    cases hc : claimOf S.claims x with
    | none => rw [hc] at he; simp only at he; omega
    | some m => rw [hc] at he; simp only at he; congr 1; omega
  · rintro ⟨x, hx, he⟩
    refine ⟨x, hx, ?_⟩
    rw [h.claims x, he]

theorem freeTo_iff (W : Nat → Nat → Bool) (G : Nat → Bool) (a : Nat) : ∀ n, freeTo W G a n = true ↔ G a = false ∧ ∀ k, k < n → W a k = true → G k = true
  | 0 => by simp [freeTo]
  | n + 1 => by
    simp only [freeTo, Bool.and_eq_true, freeTo_iff W G a n, Bool.or_eq_true, Bool.not_eq_true']
    constructor
    · rintro ⟨⟨h1, h2⟩, h3⟩
      refine ⟨h1, fun k hk hw => ?_⟩
      by_cases e : k = n
      · subst e; rcases h3 with h3 | h3
        · rw [hw] at h3; cases h3
        · exact h3
      · exact h2 k (by omega) hw
    · rintro ⟨h1, h2⟩
      refine ⟨⟨h1, fun k hk => h2 k (by omega)⟩, ?_⟩
      cases hw : W a n
      · exact .inl rfl
      · exact .inr (h2 n (by omega) hw)
section
variable {W : Nat → Nat → Bool} {ls : List (List Nat)} {n : Nat}
theorem free_eq (hW : ∀ a b, a < n → W a b = (ls.getD a []).contains b) (hL : ∀ a, a < n → ∀ x ∈ ls.getD a [], x < n) (o : List Nat) {j : Nat} (hj : j < n) : freeTo W (fun i => o.contains i) j n = true ↔ (o.contains j = false ∧ (ls.getD j []).all (fun x => o.contains x) = true) := by
  rw [freeTo_iff]
  refine and_congr_right fun _ => ?_
  rw [List.all_eq_true]
  constructor
  · intro h x hx
    exact h x (hL j hj x hx) (by rw [hW j x hj]; simpa using hx)
  · intro h k hk hw
    rw [hW j k hj] at hw
    exact h k (by simpa using hw)
theorem pass_eq (hW : ∀ a b, a < n → W a b = (ls.getD a []).contains b) (hL : ∀ a, a < n → ∀ x ∈ ls.getD a [], x < n) (o : List Nat) (z : Int) : ∀ j, j ≤ n → passTo W n (fun i => o.contains i, z - o.length) j = (fun i => (ordPass ls o j).contains i, z - (ordPass ls o j).length)
  | 0, _ => rfl
  | j + 1, hj => by
    have ih := pass_eq hW hL o z j (by omega)
    simp only [passTo, ih, ordPass, ordStep]
    have hf := free_eq hW hL (ordPass ls o j) (show j < n by omega)
    by_cases hc : (ordPass ls o j).contains j = false ∧ (ls.getD j []).all (fun x => (ordPass ls o j).contains x) = true
    · rw [if_pos (hf.2 hc), if_pos hc]
      simp only [Prod.mk.injEq]
      constructor
      · funext i
        rw [has_snoc]
        by_cases e : i = j
        · simp [e]
        · simp [e]
      · simp; omega
    · rw [if_neg (fun h => hc (hf.1 h)), if_neg hc]
theorem rounds_eq (hW : ∀ a b, a < n → W a b = (ls.getD a []).contains b) (hL : ∀ a, a < n → ∀ x ∈ ls.getD a [], x < n) : ∀ r, rounds W n r = (fun i => (ordIter ls n r).contains i, (n : Int) - (ordIter ls n r).length)
  | 0 => by simp only [rounds, ordIter]; simp
  | r + 1 => by
    simp only [rounds, rounds_eq hW hL r, ordIter]
    exact pass_eq hW hL _ _ n (Nat.le_refl _)
theorem ring_eq (hW : ∀ a b, a < n → W a b = (ls.getD a []).contains b) (hL : ∀ a, a < n → ∀ x ∈ ls.getD a [], x < n) : ringB W n = decide ((ordIter ls n (n + 1)).length < n) := by
  unfold ringB
  rw [rounds_eq hW hL, decide_eq_decide]
  simp only; omega
end
theorem ring_same {S : OS} {P : PS} (h : Sim S P) (hi : OInv S) : ringB (waitsM P.tasks) P.tasks.length = ownRing S := by
  have hl := h.len
  have hlw : (ownWaits S).length = P.tasks.length := by rw [← hl]; simp [ownWaits]
  unfold ownRing
  rw [hlw]
  refine ring_eq (fun a b ha => waits_eq h ha) (fun a ha x hx => ?_)
  have ha2 : a < S.tasks.length := by rw [hl]; exact ha
  have h1 : (ownWaits S).getD a [] = waitRun S.claims S.tasks[a].ins := by simp [ownWaits, ha2]
  rw [h1] at hx
  rcases waitRun_mem _ _ _ x hx with h2 | ⟨p, h2, h3⟩
  · simp at h2
  · rw [← h3, ← hl]; exact hi.num p h2
/-- Both readers say the same, and side by side where all is well. -/
theorem read_same (s : ByteArray) : (ownRead s).2 = (refRead s).2 ∧ ((refRead s).2.2 = 0 → Sim (ownRead s).1 (refRead s).1) := by
  unfold ownRead refRead
  by_cases hl : 2000 < s.size
  · rw [if_pos hl, if_pos hl]; exact ⟨rfl, fun h => by cases h⟩
  rw [if_neg hl, if_neg hl]
  have h := sim_run (linesOf s) os0 ps0 0 Sim.zero
  have hinv := fun S1 => OInv.run (linesOf s) os0 S1 0 OInv.zero (fun x hx => by have := lines_size s x hx; omega)
  rcases ho : ownRun os0 0 (linesOf s) with ⟨S, oo⟩
  rcases hr : refRun ps0 0 (linesOf s) with ⟨P, rr⟩
  rw [ho, hr] at h
  obtain ⟨h1, h2⟩ := h
  simp only at h1 h2
  subst h1
  cases oo with
  | some p =>
    obtain ⟨i, e⟩ := p
    refine ⟨rfl, fun h0 => ?_⟩
    exfalso
    have hne : ∀ (l : List ByteArray) (S : PS) (i : Nat) (P : PS) (j e : Nat), refRun S i l = (P, some (j, e)) → e ≠ 0 := by
      intro l
      induction l with
      | nil => intro S i P j e h; injection h with _ h; cases h
      | cons x r ih =>
        intro S i P j e h
        simp only [refRun] at h
        split at h
        · exact ih _ _ _ _ _ h
        · rename_i hc; injection h with _ h; injection h with h; injection h with _ h; subst h; exact hc
    exact hne _ _ _ _ _ _ hr h0
  | none =>
    have hs := h2 rfl
    have hi := hinv S ho
    simp only
    rw [ring_same hs hi]
    by_cases hg : ownRing S = true
    · rw [if_pos hg, if_pos hg]; exact ⟨rfl, fun h => by cases h⟩
    · rw [if_neg hg, if_neg hg]
      exact ⟨by rw [hs.len], fun _ => hs⟩
end Go.Proofs.YtoabakgmjcnodaaDoor
