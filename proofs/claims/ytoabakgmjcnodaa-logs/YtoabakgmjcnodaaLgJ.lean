/-
  Numbers and bytes, there and back; the record that some bytes begin with, by its seal (plain functions; nothing of the program).
-/
import Derived.Test.YtoabakgmjcnodaaLgH
namespace Go.Proofs.Ytoabakgmjcnodaa

theorem wideL_snoc (a c : Nat) (hc : c < 256) : ∀ n, wideL (256 * a + c) (n + 1) = wideL a n ++ [UInt8.ofNat c]
  | 0 => by
    have e : (256 * a + c) / 256 ^ 0 % 256 = c := by simp; omega
    simp only [wideL, e, List.nil_append]
  | n + 1 => by
    have e : (256 * a + c) / 256 ^ (n + 1) = a / 256 ^ n := by
      rw [Nat.pow_succ, Nat.mul_comm (256 ^ n), ← Nat.div_div_eq_div_mul]
      congr 1; omega
    rw [wideL, e, wideL_snoc a c hc n]
    conv => rhs; rw [wideL]
    rfl
theorem num_wide (v : Nat) : ∀ n, numL (wideL v n) = v % 256 ^ n := by
  intro n
  induction n generalizing v with
  | zero => simp [wideL, numL, Nat.mod_one]
  | succ n ih =>
    have e : v = 256 * (v / 256) + v % 256 := by omega
    rw [e, wideL_snoc _ _ (Nat.mod_lt _ (by omega)), numL_snoc, ih, ← e, Nat.pow_succ]
    have e2 : (UInt8.ofNat (v % 256)).toNat = v % 256 := by simp
    rw [e2, Nat.mul_comm (256 ^ n), Nat.mod_mul]
    omega
theorem wide_num : ∀ (n : Nat) (l : List UInt8), l.length = n → wideL (numL l) n = l
  | 0, l, h => by
    have : l = [] := List.length_eq_zero_iff.1 h
    subst this; rfl
  | n + 1, l, h => by
    rcases List.eq_nil_or_concat l with rfl | ⟨r, c, rfl⟩
    · simp at h
    · rw [List.concat_eq_append] at h ⊢
      rw [numL_snoc, wideL_snoc _ _ c.toNat_lt, wide_num n r (by simpa using h)]
      simp
/-- The seal of a body. -/
def sealL (t : List UInt8) : Nat := ((dig t).1 / 4294967296).toNat
theorem seal_lt (t : List UInt8) : sealL t < 4294967296 := by
  obtain ⟨a, b, h, h1, h2⟩ := dig_nat t
  unfold sealL
  rw [h]
  simp only
  omega
theorem take_two (t : List UInt8) (a b : Nat) : (t.drop a).take b ++ t.drop (a + b) = t.drop a := by
  rw [← List.drop_drop, List.take_append_drop]
theorem wide8 {t : List UInt8} {a : Nat} (h : a + 8 ≤ t.length) : wideL (numL ((t.drop a).take 8)) 8 = (t.drop a).take 8 :=
  wide_num 8 _ (by rw [List.length_take, List.length_drop]; omega)
theorem take_step (t : List UInt8) (a b : Nat) : t.take a ++ (t.drop a).take b = t.take (a + b) := by rw [List.take_add]
theorem body_of {c d : UInt8} {r : List UInt8} (hc : c = 82) (hd : d = 1 ∨ d = 2) (hl : 18 + 16 * d.toNat ≤ (c :: d :: r).length) : bodyL (rcOf (c :: d :: r) d.toNat) = (c :: d :: r).take (18 + 16 * d.toNat) := by
  obtain ⟨t, ht⟩ : ∃ t, c :: d :: r = t := ⟨_, rfl⟩
  have h2 : t.take 2 = [82] ++ wideL d.toNat 1 := by
    rw [← ht, hc]
    rcases hd with rfl | rfl <;> rfl
  have hd1 : d.toNat = 1 ∨ d.toNat = 2 := by rcases hd with rfl | rfl <;> simp
  rw [ht] at hl ⊢
  generalize d.toNat = k at *
  unfold bodyL rcOf
  simp only [List.length_map, List.length_range]
  rw [← h2, wide8 (by omega), wide8 (by omega), take_step, take_step]
  rcases hd1 with rfl | rfl
  · simp only [List.range_one, List.map_cons, List.map_nil, outsL, List.flatMap_cons, List.flatMap_nil, List.append_nil]
    rw [wide8 (by omega), wide8 (by omega), ← List.append_assoc, take_step, take_step]
  · have e : List.range 2 = [0, 1] := rfl
    simp only [e, List.map_cons, List.map_nil, outsL, List.flatMap_cons, List.flatMap_nil, List.append_nil]
    rw [wide8 (by omega), wide8 (by omega), wide8 (by omega), wide8 (by omega), ← List.append_assoc, ← List.append_assoc, ← List.append_assoc, take_step, take_step, take_step, take_step]
/-- The record that some bytes begin with, told by its seal. -/
theorem recL_seal {c d : UInt8} {r : List UInt8} (hc : c = 82) (hd : d = 1 ∨ d = 2) (hl : 22 + 16 * d.toNat ≤ (c :: d :: r).length) :
    recL (c :: d :: r) = if numL (((c :: d :: r).drop (18 + 16 * d.toNat)).take 4) = sealL ((c :: d :: r).take (18 + 16 * d.toNat)) then some (rcOf (c :: d :: r) d.toNat, 22 + 16 * d.toNat) else none := by
  have hb := body_of hc hd (by omega : 18 + 16 * d.toNat ≤ (c :: d :: r).length)
  unfold recL
  simp only
  have hT : (c :: d :: r).take (22 + 16 * d.toNat) = toldL (rcOf (c :: d :: r) d.toNat) ↔ numL (((c :: d :: r).drop (18 + 16 * d.toNat)).take 4) = sealL ((c :: d :: r).take (18 + 16 * d.toNat)) := by
    unfold toldL
    rw [hb]
    generalize (c :: d :: r) = t at *
    rw [show 22 + 16 * d.toNat = (18 + 16 * d.toNat) + 4 by omega, ← take_step, List.append_cancel_left_eq]
    have hl4 : ((t.drop (18 + 16 * d.toNat)).take 4).length = 4 := by rw [List.length_take, List.length_drop]; omega
    constructor
    · intro h
      rw [h, num_wide]
      exact Nat.mod_eq_of_lt (seal_lt _)
    · intro h
      have := wide_num 4 _ hl4
      rw [h] at this
      exact this.symm
  by_cases h : numL (((c :: d :: r).drop (18 + 16 * d.toNat)).take 4) = sealL ((c :: d :: r).take (18 + 16 * d.toNat))
  · rw [if_pos h, if_pos ⟨hc, hd, hl, hT.2 h⟩]
  · rw [if_neg h, if_neg (fun hh => h (hT.1 hh.2.2.2))]

/- The last record of a fingerprint, and the fingerprints in order. -/

/-- The last one of this fingerprint. -/
def lastF (l : List Rc) (k : Nat × Nat) : Option Rc := l.foldl (fun o r => if prt r = k then some r else o) none
theorem lastF_snoc (l : List Rc) (r : Rc) (k : Nat × Nat) : lastF (l ++ [r]) k = if prt r = k then some r else lastF l k := by simp [lastF]
theorem lastF_none {l : List Rc} {k : Nat × Nat} : lastF l k = none ↔ ∀ r ∈ l, prt r ≠ k := by
  have key : ∀ (n : Nat) (l : List Rc), l.length = n → (lastF l k = none ↔ ∀ r ∈ l, prt r ≠ k) := by
    intro n
    induction n with
    | zero =>
      intro l h
      have : l = [] := List.length_eq_zero_iff.1 h
      subst this; simp [lastF]
    | succ n ihn =>
      intro l h
      rcases List.eq_nil_or_concat l with rfl | ⟨l', x, rfl⟩
      · simp at h
      · rw [List.concat_eq_append] at h ⊢
        rw [lastF_snoc]
        have ih := ihn l' (by simpa using h)
        constructor
        · intro h r hr
          split at h
          · cases h
          · rename_i hx
            rw [List.mem_append, List.mem_singleton] at hr
            rcases hr with hr | rfl
            · exact ih.1 h r hr
            · exact hx
        · intro h
          rw [if_neg (h x (by simp)), ih]
          exact fun r hr => h r (by simp [hr])
  exact key _ l rfl
theorem lastF_at {l : List Rc} {b : Nat} (hb : b < l.length) (h : ∀ i, b < i → (hi : i < l.length) → prt l[i] ≠ prt l[b]) : lastF l (prt l[b]) = some l[b] := by
  have key : ∀ (n : Nat) (l : List Rc) (b : Nat), l.length = n → ∀ hb : b < l.length, (∀ i, b < i → (hi : i < l.length) → prt l[i] ≠ prt l[b]) → lastF l (prt l[b]) = some l[b] := by
    intro n
    induction n with
    | zero => intro l b h0 hb; omega
    | succ n ihn =>
      intro l b h0 hb h
      rcases List.eq_nil_or_concat l with rfl | ⟨l', x, rfl⟩
      · simp at hb
      · simp only [List.concat_eq_append] at hb h h0 ⊢
        rw [lastF_snoc]
        rw [List.length_append, List.length_singleton] at hb h0
        by_cases e : b < l'.length
        · have hx := h l'.length e (by simp)
          rw [List.getElem_append_right (Nat.le_refl _)] at hx
          simp only [Nat.sub_self, List.getElem_cons_zero] at hx
          rw [List.getElem_append_left e] at hx ⊢
          rw [if_neg hx]
          refine ihn l' b (by omega) e (fun i h1 hi => ?_)
          have := h i h1 (by simp; omega)
          rw [List.getElem_append_left hi, List.getElem_append_left e] at this
          exact this
        · have e2 : b = l'.length := by omega
          subst e2
          rw [List.getElem_append_right (Nat.le_refl _)]
          simp
  exact key _ l b rfl hb h

/-- Does a fingerprint come behind the last one? -/
def upK (last : Option (Nat × Nat)) (k : Nat × Nat) : Bool := match last with
  | none => true
  | some x => belowB x k
theorem upB_eq (last : Option (Nat × Nat)) (r : Rc) : upB last r = upK last (prt r) := by cases last <;> rfl
theorem below_total (a b : Nat × Nat) : belowB a b = true ∨ a = b ∨ belowB b a = true := by
  obtain ⟨a0, a1⟩ := a
  obtain ⟨b0, b1⟩ := b
  rw [belowB_iff, belowB_iff]
  simp only [Prod.mk.injEq]
  omega
theorem below_trans' {a b c : Nat × Nat} (h : belowB a b = true) (h2 : belowB b c = true) : belowB a c = true := by
  rw [belowB_iff] at *; omega
theorem below_irrefl (a : Nat × Nat) : belowB a a = false := by
  rw [Bool.eq_false_iff, Ne, belowB_iff]; omega
/-- What bestTo finds. -/
theorem best_spec (l : List Rc) (last : Option (Nat × Nat)) : ∀ k, k ≤ l.length → match bestTo l last k with
    | none => ∀ i (h : i < l.length), i < k → upK last (prt l[i]) = false
    | some b => ∃ hb : b < l.length, b < k ∧ upK last (prt l[b]) = true ∧ (∀ i (h : i < l.length), i < k → upK last (prt l[i]) = true → belowB (prt l[b]) (prt l[i]) = true ∨ prt l[b] = prt l[i]) ∧ ∀ i (h : i < l.length), b < i → i < k → prt l[i] ≠ prt l[b]
  | 0, _ => by simp [bestTo]
  | k + 1, hk => by
    have ih := best_spec l last k (by omega)
    have hkl : k < l.length := by omega
    have eg : ∀ {j} (h : j < l.length), l.getD j rc0 = l[j] := fun h => by simp [h]
    simp only [bestTo]
    split at ih
    · rename_i hn
      simp only [hn, eg hkl, upB_eq]
      by_cases hu : upK last (prt l[k]) = true
      · rw [if_pos hu]
        refine ⟨hkl, by omega, hu, fun i h hi hui => ?_, fun i h h1 h2 => by omega⟩
        by_cases e : i = k
        · subst e; exact .inr rfl
        · have := ih i h (by omega); rw [this] at hui; cases hui
      · rw [if_neg hu]
        intro i h hi
        by_cases e : i = k
        · subst e; exact Bool.eq_false_iff.2 hu
        · exact ih i h (by omega)
    · rename_i b hn
      obtain ⟨hb, hbk, hub, hmin, hlast⟩ := ih
      simp only [hn, eg hkl, eg hb, upB_eq]
      by_cases hc : upK last (prt l[k]) = true ∧ (belowB (prt l[k]) (prt l[b]) = true ∨ prt l[k] = prt l[b])
      · rw [if_pos hc]
        refine ⟨hkl, by omega, hc.1, fun i h hi hui => ?_, fun i h h1 h2 => by omega⟩
        by_cases e : i = k
        · subst e; exact .inr rfl
        · rcases hmin i h (by omega) hui with h1 | h1
          · rcases hc.2 with h2 | h2
            · exact .inl (below_trans' h2 h1)
            · rw [h2]; exact .inl h1
          · rw [← h1]; exact hc.2
      · rw [if_neg hc]
        refine ⟨hb, by omega, hub, fun i h hi hui => ?_, fun i h h1 h2 => ?_⟩
        · by_cases e : i = k
          · subst e
            rcases below_total (prt l[i]) (prt l[b]) with h1 | h1 | h1
            · exact absurd ⟨hui, .inl h1⟩ hc
            · exact absurd ⟨hui, .inr h1⟩ hc
            · exact .inl h1
          · exact hmin i h (by omega) hui
        · by_cases e : i = k
          · subst e
            intro h3
            exact hc ⟨by rw [h3]; exact hub, .inr h3⟩
          · exact hlast i h h1 (by omega)

/-- Compact by any list of all fingerprints in rising order. -/
theorem comp_sorted (l : List Rc) (ks : List (Nat × Nat)) (hs : ks.Pairwise (fun a b => belowB a b = true)) (hm : ∀ k, k ∈ ks ↔ ∃ r ∈ l, prt r = k) :
    ∀ (f : Nat) (last : Option (Nat × Nat)), cntUp l last < f → compL l f last = (ks.filter (upK last)).flatMap fun k => toldL ((lastF l k).getD rc0)
  | 0, last, h => by omega
  | f + 1, last, h => by
    have hsp := best_spec l last l.length (Nat.le_refl _)
    rw [compL]
    split at hsp
    · rename_i hn
      rw [hn]
      have : ks.filter (upK last) = [] := by
        rw [List.filter_eq_nil_iff]
        intro k hk hu
        obtain ⟨r, hr, rfl⟩ := (hm k).1 hk
        obtain ⟨i, hi, rfl⟩ := List.getElem_of_mem hr
        rw [hsp i hi hi] at hu; cases hu
      rw [this]; rfl
    · rename_i b hn
      rw [hn]
      simp only
      obtain ⟨hb, _, hub, hmin, hlast⟩ := hsp
      have eg : l.getD b rc0 = l[b] := by simp [hb]
      have hless := cnt_less hn
      rw [eg] at hless ⊢
      rw [comp_sorted l ks hs hm f _ (by omega)]
      have hL := lastF_at hb (fun i h1 hi => hlast i hi h1 hi)
      have hmem : prt l[b] ∈ ks := (hm _).2 ⟨l[b], List.getElem_mem hb, rfl⟩
      have key : ∀ ks : List (Nat × Nat), ks.Pairwise (fun a b => belowB a b = true) → prt l[b] ∈ ks → (∀ k ∈ ks, upK last k = true → belowB (prt l[b]) k = true ∨ prt l[b] = k) → ks.filter (upK last) = prt l[b] :: ks.filter (upK (some (prt l[b]))) := by
        intro ks
        induction ks with
        | nil => intro _ h; cases h
        | cons k ks ih =>
          intro hp hk hall
          obtain ⟨h1, h2⟩ := List.pairwise_cons.1 hp
          by_cases e : prt l[b] = k
          · rw [List.filter_cons, if_pos (by rw [← e]; exact hub), List.filter_cons, if_neg (by rw [← e]; simp [upK, below_irrefl]), ← e]
            congr 1
            apply List.filter_congr
            intro x hx
            have hbx : belowB (prt l[b]) x = true := by rw [e]; exact h1 x hx
            show upK last x = belowB (prt l[b]) x
            rw [hbx]
            cases last with
            | none => rfl
            | some y => exact below_trans' hub hbx
          · have hk2 : prt l[b] ∈ ks := by
              rw [List.mem_cons] at hk
              exact hk.resolve_left e
            have hkb : belowB k (prt l[b]) = true := h1 _ hk2
            have hnu : ¬ upK last k = true := by
              intro hu
              rcases hall k (by simp) hu with h3 | h3
              · have := below_trans' h3 hkb; rw [below_irrefl] at this; cases this
              · exact e h3
            have hnu2 : ¬ upK (some (prt l[b])) k = true := by
              intro hu
              have := below_trans' hkb hu; rw [below_irrefl] at this; cases this
            rw [List.filter_cons, if_neg hnu, List.filter_cons, if_neg hnu2]
            exact ih h2 hk2 (fun x hx => hall x (by simp [hx]))
      rw [key ks hs hmem (fun k hk hu => by
        obtain ⟨r, hr, rfl⟩ := (hm k).1 hk
        obtain ⟨i, hi, rfl⟩ := List.getElem_of_mem hr
        exact hmin i hi hi hu), List.flatMap_cons, hL]
      rfl
theorem comp_all (l : List Rc) (ks : List (Nat × Nat)) (hs : ks.Pairwise (fun a b => belowB a b = true)) (hm : ∀ k, k ∈ ks ↔ ∃ r ∈ l, prt r = k) :
    compL l (l.length + 1) none = ks.flatMap fun k => toldL ((lastF l k).getD rc0) := by
  rw [comp_sorted l ks hs hm _ _ (by have := cnt_le_len l none; omega)]
  congr 1
  exact List.filter_eq_self.2 (fun _ _ => rfl)
end Go.Proofs.Ytoabakgmjcnodaa
