/-
  The two ways in which the words of a line of a task are read give the same task (plain functions).
-/
import Derived.Test.YtoabakgmjcnodaaDoorOwnD
import Derived.Test.YtoabakgmjcnodaaDoorRefLine
namespace Go.Proofs.YtoabakgmjcnodaaDoor
open Go.ChangeShapes Go.WideShapes Go.ChangeAt Go.RowKit

theorem toList_data (x : ByteArray) : x.toList = x.data.toList := by rw [ByteArray.toList_eq]
theorem name_ne {x : ByteArray} {c : UInt8} (hc : okByte c = false) (h : nameB x.data.toList = true) : (x.toList == [c]) = false := by
  cases e : x.toList == [c]
  · rfl
  · rw [beq_iff_eq, toList_data] at e
    rw [e] at h
    simp [nameB, hc] at h
theorem name_eq {x : ByteArray} (h : nameB x.data.toList = true) : isEq x = false := name_ne (by decide) h
theorem name_bar {x : ByteArray} (h : nameB x.data.toList = true) : isBar x = false := name_ne (by decide) h

theorem place_first {pre : List ByteArray} {s x : ByteArray} (r : List ByteArray) (h : ∀ y ∈ pre, (y.toList == s.toList) = false) (hx : (x.toList == s.toList) = true) : placeI (pre ++ x :: r) s = pre.length := by
  unfold placeI
  have : (pre ++ x :: r).findIdx? (fun y => y.toList == s.toList) = some pre.length := by
    rw [List.findIdx?_eq_some_iff_getElem]
    refine ⟨by simp, by simpa using hx, fun j hj => ?_⟩
    rw [List.getElem_append_left hj]
    have := h _ (List.getElem_mem hj)
    simpa using this
  rw [this]
theorem place_nowhere {pre : List ByteArray} {s : ByteArray} (h : ∀ y ∈ pre, (y.toList == s.toList) = false) : placeI pre s = -1 := by
  unfold placeI
  have : pre.findIdx? (fun y => y.toList == s.toList) = none := by
    rw [List.findIdx?_eq_none_iff]; exact h
  rw [this]
/-- Behind a beginning without it: it stands nowhere, or further on. -/
theorem place_far {pre : List ByteArray} {s : ByteArray} (r : List ByteArray) (h : ∀ y ∈ pre, (y.toList == s.toList) = false) : placeI (pre ++ r) s < 0 ∨ pre.length ≤ (placeI (pre ++ r) s).toNat := by
  unfold placeI
  cases e : (pre ++ r).findIdx? (fun y => y.toList == s.toList) with
  | none => left; decide
  | some k =>
    right
    simp only [Int.toNat_natCast]
    rw [List.findIdx?_eq_some_iff_getElem] at e
    obtain ⟨hk, h1, _⟩ := e
    by_cases hlt : k < pre.length
    · rw [List.getElem_append_left hlt] at h1
      rw [h _ (List.getElem_mem hlt)] at h1; cases h1
    · omega

theorem names_bad {l : List ByteArray} {y : ByteArray} (hy : y ∈ l) (h : nameB y.data.toList = false) : namesB l = false := by
  have : l.all (fun x => nameB x.data.toList) = false := by rw [List.all_eq_false]; exact ⟨y, hy, by simp [h]⟩
  simp [namesB, this]
theorem names_good {l : List ByteArray} (h : ∀ y ∈ l, nameB y.data.toList = true) (h0 : l ≠ []) : namesB l = true := by
  have : l.all (fun x => nameB x.data.toList) = true := by rw [List.all_eq_true]; exact h
  cases l with
  | nil => exact absurd rfl h0
  | cons a r => simp only [namesB, this]; rfl
theorem ownFin_bad {outs rest : List ByteArray} {o : Opt} (h : namesB outs = false ∨ namesB rest = false) : ownFin outs rest o = none := by
  unfold ownFin; rw [if_neg]; rintro ⟨h1, h2⟩; rcases h with h | h
  · rw [h1] at h; cases h
  · rw [h2] at h; cases h
theorem ownRest_bad {outs rest : List ByteArray} (h : namesB outs = false) : ownRest outs rest = none := by
  unfold ownRest
  split
  · exact ownFin_bad (.inl h)
  · cases optAll (rest.drop ((placeI rest barS).toNat + 1)) with
    | none => rfl
    | some t => exact ownFin_bad (.inl h)
theorem ownRest_worse {outs pre r : List ByteArray} {y : ByteArray} (hb : ∀ y ∈ pre, (y.toList == barS.toList) = false) (hy : y ∈ pre) (h : nameB y.data.toList = false) : ownRest outs (pre ++ r) = none := by
  unfold ownRest
  split
  · exact ownFin_bad (.inr (names_bad (List.mem_append_left _ hy) h))
  · rename_i hp
    have hle := (place_far r hb).resolve_left hp
    cases optAll ((pre ++ r).drop ((placeI (pre ++ r) barS).toNat + 1)) with
    | none => rfl
    | some t =>
      refine ownFin_bad (.inr (names_bad (y := y) ?_ h))
      rw [List.take_append, List.take_of_length_le hle]
      exact List.mem_append_left _ hy

/-- Is anything set? -/
def optSet (o : Opt) : Bool := decide (0 < o.cost) || decide (0 < o.jobs) || decide (o.pool.size ≠ 0)
def toOT (t : FS) : OT := ⟨t.outs, t.act, t.ins, max t.cost 1, max t.jobs 1, t.pool⟩
def fin (r : Option FS) : Option OT := r.bind fun t => if fwhole t = true then some (toOT t) else none
theorem name_size {x : ByteArray} (h : nameB x.data.toList = true) : x.size ≠ 0 := by
  intro e
  have : x.data.toList = [] := List.eq_nil_of_length_eq_zero (by simpa using e)
  rw [this] at h; cases h
theorem optStep_set {t t1 : Opt} {k v : ByteArray} (h : optStep t k v = some t1) : optSet t1 = true := by
  unfold optStep at h
  repeat' split at h
  all_goals first
    | (rename_i hc; injection h with h; subst h; have h1 : 0 < digN v.data.toList := Nat.pos_of_ne_zero hc.1; simp [optSet, h1]; done)
    | (rename_i hc; injection h with h; subst h; have h1 := name_size hc.2; simp [optSet, h1]; done)
    | (cases h; done)
theorem optRun_set : ∀ (l : List ByteArray) (t t1 : Opt), optSet t = true → optRun t l = some t1 → optSet t1 = true
  | [], t, t1, hs, h => by injection h with h; subst h; exact hs
  | [_], t, t1, hs, h => by cases h
  | k :: v :: r, t, t1, hs, h => by
    simp only [optRun] at h
    rw [Option.bind_eq_some_iff] at h
    obtain ⟨t2, h1, h2⟩ := h
    exact optRun_set r t2 t1 (optStep_set h1) h2
theorem optRun_odd : ∀ (l : List ByteArray) (t : Opt), l.length % 2 ≠ 0 → optRun t l = none
  | [], _, h => absurd rfl h
  | [_], _, _ => rfl
  | k :: v :: r, t, h => by
    simp only [optRun]
    cases optStep t k v with
    | none => rfl
    | some t2 => exact optRun_odd r t2 (by simp only [List.length_cons] at h; omega)
theorem not_whole {m : Nat} {outs ins : List ByteArray} {act pool : ByteArray} {c j : Nat} (h : m = 4 ∨ m = 5 ∨ m = 6 ∨ m = 0 ∨ m = 1) : fwhole ⟨m, outs, act, ins, c, j, pool⟩ = false := by
  rcases h with rfl | rfl | rfl | rfl | rfl <;> rfl
theorem one_kind {x : ByteArray} {a b : List UInt8} (h : (x.toList == a) = true) (hne : a ≠ b) : (x.toList == b) = false := by
  rw [beq_iff_eq] at h; rw [h, beq_eq_false_iff_ne]; exact hne
theorem fin_opt (outs ins : List ByteArray) (act : ByteArray) : ∀ (l : List ByteArray) (o : Opt),
    fin (frun ⟨3, outs, act, ins, o.cost, o.jobs, o.pool⟩ l) = (optRun o l).bind fun o1 => if optSet o1 = true then some ⟨outs, act, ins, max o1.cost 1, max o1.jobs 1, o1.pool⟩ else none
  | [], o => by simp only [frun, fin, optRun, Option.bind_some]; rfl
  | [k], o => by
    simp only [optRun, Option.bind_none, frun, fstep]
    split
    · simp [fin, not_whole]
    · split
      · simp [fin, not_whole]
      · split
        · simp [fin, not_whole]
        · rfl
  | k :: v :: r, o => by
    simp only [optRun, optStep, frun, fstep]
    by_cases hc : isCost k = true
    · have hj : isJobs k = false := one_kind hc (by decide)
      have hp : isPool k = false := one_kind hc (by decide)
      by_cases h0 : o.cost = 0
      · simp only [hc, h0, and_self, if_true, Option.bind_some, and_true]
        by_cases hd : digN v.data.toList = 0
        · simp [hd, fin]
        · have hd' : 0 < digN v.data.toList := by omega
          simp only [hd', if_true, Option.bind_some, ne_eq, hd, not_false_eq_true]
          exact fin_opt outs ins act r { o with cost := digN v.data.toList }
      · simp [hc, h0, hj, hp, fin]
    · by_cases hj : isJobs k = true
      · have hp : isPool k = false := one_kind hj (by decide)
        by_cases h0 : o.jobs = 0
        · simp only [hc, hj, h0, and_self, if_true, and_true]
          by_cases hd : digN v.data.toList = 0
          · simp [hd, fin]
          · have hd' : 0 < digN v.data.toList := by omega
            simp only [hd', if_true, Option.bind_some, ne_eq, hd, not_false_eq_true, Bool.false_eq_true, if_false]
            exact fin_opt outs ins act r { o with jobs := digN v.data.toList }
        · simp [hc, h0, hj, hp, fin]
      · by_cases hp : isPool k = true
        · by_cases h0 : o.pool.size = 0
          · simp only [hc, hj, hp, h0, and_self, if_true, true_and]
            by_cases hd : nameB v.data.toList = true
            · simp only [hd, if_true, Option.bind_some, Bool.false_eq_true, if_false]
              exact fin_opt outs ins act r { o with pool := v }
            · simp [hd, fin]
          · simp [hc, h0, hj, hp, fin]
        · simp [hc, hj, hp, fin]
theorem fin_all (outs ins : List ByteArray) (act : ByteArray) (l : List ByteArray) :
    fin (frun ⟨3, outs, act, ins, 0, 0, ByteArray.empty⟩ l) = (optAll l).bind fun o1 => some ⟨outs, act, ins, max o1.cost 1, max o1.jobs 1, o1.pool⟩ := by
  have h := fin_opt outs ins act l opt0
  have h' : fin (frun ⟨3, outs, act, ins, 0, 0, ByteArray.empty⟩ l) = _ := h
  rw [h']
  unfold optAll
  cases l with
  | nil => simp [optRun, optSet, opt0]
  | cons k r =>
    by_cases hodd : (k :: r).length % 2 = 0
    · rw [if_neg (by simp only [List.length_cons] at hodd ⊢; omega)]
      cases r with
      | nil => simp at hodd
      | cons v r =>
        cases ho : optRun opt0 (k :: v :: r) with
        | none => rfl
        | some o1 =>
          have hset : optSet o1 = true := by
            simp only [optRun] at ho
            rw [Option.bind_eq_some_iff] at ho
            obtain ⟨t2, h1, h2⟩ := ho
            exact optRun_set r t2 o1 (optStep_set h1) h2
          simp [hset]
    · rw [optRun_odd _ _ hodd, if_pos (.inr hodd)]; rfl

theorem bar_eq (x : ByteArray) : (x.toList == barS.toList) = isBar x := by
  rw [show barS.toList = [124] by rw [toList_data]; rfl]; rfl
theorem eq_eq (x : ByteArray) : (x.toList == eqS.toList) = isEq x := by
  rw [show eqS.toList = [61] by rw [toList_data]; rfl]; rfl

/-- Behind the action. -/
theorem fin_ins (outs : List ByteArray) (ho : namesB outs = true) : ∀ (r pre : List ByteArray) (a : ByteArray), (∀ y ∈ a :: pre, nameB y.data.toList = true) →
    ownRest outs (a :: pre ++ r) = fin (frun ⟨2, outs, a, pre, 0, 0, ByteArray.empty⟩ r)
  | [], pre, a, h => by
    have hb : ∀ y ∈ a :: pre, (y.toList == barS.toList) = false := fun y hy => by rw [bar_eq]; exact name_bar (h y hy)
    rw [List.append_nil, ownRest_no (by rw [place_nowhere hb]; decide)]
    simp only [ownFin, ho, names_good h (by simp), and_self, if_true, frun, fin, Option.bind_some, fwhole]
    rfl
  | x :: r, pre, a, h => by
    have hb : ∀ y ∈ a :: pre, (y.toList == barS.toList) = false := fun y hy => by rw [bar_eq]; exact name_bar (h y hy)
    simp only [frun, fstep]
    by_cases hx : isBar x = true
    · rw [ownRest_yes (place_first r hb (by rw [bar_eq]; exact hx))]
      simp only [hx, if_true, Option.bind_some]
      rw [fin_all]
      have e1 : (a :: pre ++ x :: r).drop ((a :: pre).length + 1) = r := by rw [List.drop_append]; simp
      have e2 : (a :: pre ++ x :: r).take (a :: pre).length = a :: pre := List.take_left' rfl
      rw [e1, e2]
      congr 1
      funext o
      simp only [ownFin, ho, names_good h (by simp), and_self, if_true]
      rfl
    · by_cases hn : nameB x.data.toList = true
      · simp only [hx, hn, if_true, if_false, Option.bind_some, Bool.false_eq_true]
        have h2 : ∀ y ∈ a :: (pre ++ [x]), nameB y.data.toList = true := by
          intro y hy
          rw [← List.cons_append, List.mem_append] at hy
          rcases hy with hy | hy
          · exact h y hy
          · simp at hy; rw [hy]; exact hn
        have := fin_ins outs ho r (pre ++ [x]) a h2
        rw [← this]; simp
      · simp only [hx, hn, if_false, Bool.false_eq_true]
        have e : a :: pre ++ x :: r = (a :: pre ++ [x]) ++ r := by simp
        rw [e]
        rw [ownRest_worse (y := x) ?_ (by simp) (by simpa using hn)]
        · rfl
        · intro y hy
          rw [List.mem_append] at hy
          rcases hy with hy | hy
          · exact hb y hy
          · simp at hy; rw [hy, bar_eq]; simpa using hx
theorem ownTask_hit {pre r : List ByteArray} {x : ByteArray} (hb : ∀ y ∈ pre, (y.toList == eqS.toList) = false) (hx : isEq x = true) : ownTask (pre ++ x :: r) = ownRest pre r := by
  rw [ownTask_some (place_first r hb (by rw [eq_eq]; exact hx))]
  have e1 : (pre ++ x :: r).drop (pre.length + 1) = r := by rw [List.drop_append]; simp
  have e2 : (pre ++ x :: r).take pre.length = pre := List.take_left' rfl
  rw [e1, e2]
theorem ownTask_worse {pre r : List ByteArray} {y : ByteArray} (hb : ∀ y ∈ pre, (y.toList == eqS.toList) = false) (hy : y ∈ pre) (h : nameB y.data.toList = false) : ownTask (pre ++ r) = none := by
  unfold ownTask
  split
  · rfl
  · rename_i hp
    have hle := (place_far r hb).resolve_left hp
    refine ownRest_bad (names_bad (y := y) ?_ h)
    rw [List.take_append, List.take_of_length_le hle]
    exact List.mem_append_left _ hy
theorem fin_task : ∀ (r pre : List ByteArray), (∀ y ∈ pre, nameB y.data.toList = true) → ownTask (pre ++ r) = fin (frun ⟨0, pre, ByteArray.empty, [], 0, 0, ByteArray.empty⟩ r)
  | [], pre, h => by
    have hb : ∀ y ∈ pre, (y.toList == eqS.toList) = false := fun y hy => by rw [eq_eq]; exact name_eq (h y hy)
    unfold ownTask
    rw [List.append_nil, if_pos (by rw [place_nowhere hb]; decide)]
    rfl
  | x :: r, pre, h => by
    have hb : ∀ y ∈ pre, (y.toList == eqS.toList) = false := fun y hy => by rw [eq_eq]; exact name_eq (h y hy)
    simp only [frun, fstep]
    by_cases hx : isEq x = true
    · rw [ownTask_hit hb hx]
      by_cases h0 : pre = []
      · subst h0
        have hn : nameB x.data.toList = false := by
          cases e : nameB x.data.toList
          · rfl
          · rw [name_eq e] at hx; cases hx
        simp only [ne_eq, not_true_eq_false, and_false, if_false, hn, Bool.false_eq_true]
        rw [ownRest_bad (by rfl)]; rfl
      · have ho := names_good h h0
        simp only [hx, ne_eq, h0, not_false_eq_true, and_self, if_true, Option.bind_some]
        cases r with
        | nil =>
          rw [ownRest_no (by rw [place_nowhere (fun y hy => by simp at hy)]; decide), ownFin_bad (.inr rfl)]
          rfl
        | cons y q =>
          simp only [frun, fstep]
          by_cases hn : nameB y.data.toList = true
          · simp only [hn, if_true, Option.bind_some]
            exact fin_ins pre ho q [] y (fun z hz => by simp at hz; rw [hz]; exact hn)
          · simp only [hn, if_false, Bool.false_eq_true, Option.bind_none]
            by_cases hbar : isBar y = true
            · have hp := place_first (pre := []) q (s := barS) (x := y) (fun z hz => by simp at hz) (by rw [bar_eq]; exact hbar)
              rw [List.nil_append] at hp
              rw [ownRest_yes hp]
              cases optAll ((y :: q).drop (([] : List ByteArray).length + 1)) with
              | none => rfl
              | some t => exact ownFin_bad (.inr rfl)
            · have e : y :: q = [y] ++ q := rfl
              rw [e, ownRest_worse (y := y) ?_ (by simp) (by simpa using hn)]
              · rfl
              · intro z hz; simp at hz; rw [hz, bar_eq]; simpa using hbar
    · by_cases hn : nameB x.data.toList = true
      · simp only [hx, hn, if_true, if_false, Option.bind_some, Bool.false_eq_true, false_and]
        have := fin_task r (pre ++ [x]) (fun y hy => by
          rw [List.mem_append] at hy
          rcases hy with hy | hy
          · exact h y hy
          · simp at hy; rw [hy]; exact hn)
        rw [← this]; simp
      · simp only [hx, hn, if_false, Bool.false_eq_true, false_and, Option.bind_none]
        have e : pre ++ x :: r = (pre ++ [x]) ++ r := by simp
        rw [e, ownTask_worse (y := x) ?_ (by simp) (by simpa using hn)]
        · rfl
        · intro y hy
          rw [List.mem_append] at hy
          rcases hy with hy | hy
          · exact hb y hy
          · simp at hy; rw [hy, eq_eq]; simpa using hx
/-- The two ways give the same task. -/
theorem ownTask_eq (ws : List ByteArray) : ownTask ws = fin (frun fs0 ws) := fin_task ws [] (fun y hy => by simp at hy)
end Go.Proofs.YtoabakgmjcnodaaDoor
