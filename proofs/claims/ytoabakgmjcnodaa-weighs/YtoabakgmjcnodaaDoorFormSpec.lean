/-
  How the words of a line of a task are read, one after the other (plain functions; nothing of the program).
-/
import Derived.Test.YtoabakgmjcnodaaDoorRefA
namespace Go.Proofs.YtoabakgmjcnodaaDoor

/-- What has been read: 0 outputs, 1 the action, 2 inputs, 3 what is behind the bar, 4 to 6 behind cost, jobs, pool. -/
structure FS where
  mode : Nat
  outs : List ByteArray
  act : ByteArray
  ins : List ByteArray
  cost : Nat
  jobs : Nat
  pool : ByteArray

def fs0 : FS := ⟨0, [], ByteArray.empty, [], 0, 0, ByteArray.empty⟩

def isEq (x : ByteArray) : Bool := x.toList == [61]
def isBar (x : ByteArray) : Bool := x.toList == [124]
def isCost (x : ByteArray) : Bool := x.toList == [99, 111, 115, 116]
def isJobs (x : ByteArray) : Bool := x.toList == [106, 111, 98, 115]
def isPool (x : ByteArray) : Bool := x.toList == [112, 111, 111, 108]

/-- One word more; none: the line is none. -/
def fstep (t : FS) (x : ByteArray) : Option FS := match t.mode with
  | 0 => if isEq x = true ∧ t.outs ≠ [] then some { t with mode := 1 } else if nameB x.data.toList = true then some { t with outs := t.outs ++ [x] } else none
  | 1 => if nameB x.data.toList = true then some { t with act := x, mode := 2 } else none
  | 2 => if isBar x = true then some { t with mode := 3 } else if nameB x.data.toList = true then some { t with ins := t.ins ++ [x] } else none
  | 3 => if isCost x = true ∧ t.cost = 0 then some { t with mode := 4 } else if isJobs x = true ∧ t.jobs = 0 then some { t with mode := 5 } else if isPool x = true ∧ t.pool.size = 0 then some { t with mode := 6 } else none
  | 4 => if 0 < digN x.data.toList then some { t with cost := digN x.data.toList, mode := 3 } else none
  | 5 => if 0 < digN x.data.toList then some { t with jobs := digN x.data.toList, mode := 3 } else none
  | 6 => if nameB x.data.toList = true then some { t with pool := x, mode := 3 } else none
  | _ => none

def frun (t : FS) : List ByteArray → Option FS
  | [] => some t
  | x :: r => (fstep t x).bind fun t1 => frun t1 r

/-- Is it whole? -/
def fwhole (t : FS) : Bool := t.mode == 2 || (t.mode == 3 && (decide (0 < t.cost) || decide (0 < t.jobs) || decide (t.pool.size ≠ 0)))

theorem frun_snoc (t : FS) (l : List ByteArray) (x : ByteArray) : frun t (l ++ [x]) = (frun t l).bind fun t1 => fstep t1 x := by
  induction l generalizing t with
  | nil => simp [frun]
  | cons y r ih =>
    simp only [List.cons_append, frun]
    cases fstep t y with
    | none => rfl
    | some t1 => simp [ih]
theorem frun_append (t : FS) (l r : List ByteArray) : frun t (l ++ r) = (frun t l).bind fun t1 => frun t1 r := by
  induction l generalizing t with
  | nil => rfl
  | cons y l ih =>
    simp only [List.cons_append, frun]
    cases fstep t y with
    | none => rfl
    | some t1 => simp [ih]

theorem frun_next {ss : List ByteArray} {k : Nat} {t t1 : FS} (hk : k < ss.length) (h : frun fs0 (ss.take k) = some t) (h1 : fstep t ss[k] = some t1) : frun fs0 (ss.take (k + 1)) = some t1 := by
  rw [List.take_succ_eq_append_getElem hk, frun_snoc, h]; exact h1
theorem frun_stop {ss : List ByteArray} {k : Nat} {t : FS} (hk : k < ss.length) (h : frun fs0 (ss.take k) = some t) (h1 : fstep t ss[k] = none) : frun fs0 ss = none := by
  have e : ss = ss.take k ++ (ss[k] :: ss.drop (k + 1)) := by rw [← List.drop_eq_getElem_cons hk, List.take_append_drop]
  rw [e, frun_append, h]
  simp only [Option.bind_some, frun, h1, Option.bind_none]

theorem fmode_step {t t1 : FS} {x : ByteArray} (h : fstep t x = some t1) : t1.mode ≤ 6 := by
  unfold fstep at h
  split at h
  · split at h
    · injection h with h; subst h; simp
    · split at h
      · injection h with h; subst h; simp only; omega
      · cases h
  all_goals (repeat' split at h)
  all_goals first
    | (injection h with h; subst h; simp only; omega)
    | cases h

theorem fstep_len {t t1 : FS} {x : ByteArray} (h : fstep t x = some t1) : t1.outs.length ≤ t.outs.length + 1 ∧ t1.ins.length ≤ t.ins.length + 1 := by
  unfold fstep at h
  split at h
  all_goals (repeat' split at h)
  all_goals first
    | (injection h with h; subst h; simp)
    | cases h
theorem frun_len (l : List ByteArray) : ∀ (t t1 : FS), frun t l = some t1 → t1.outs.length ≤ t.outs.length + l.length ∧ t1.ins.length ≤ t.ins.length + l.length := by
  induction l with
  | nil => intro t t1 h; injection h with h; subst h; simp
  | cons x r ih =>
    intro t t1 h
    simp only [frun] at h
    cases hs : fstep t x with
    | none => rw [hs] at h; cases h
    | some t2 =>
      rw [hs] at h
      have h1 := ih t2 t1 h
      have h2 := fstep_len hs
      simp only [List.length_cons]; omega
theorem frun_le {ss : List ByteArray} {k : Nat} {t : FS} (h : frun fs0 (ss.take k) = some t) : t.outs.length ≤ k ∧ t.ins.length ≤ k := by
  have := frun_len _ _ _ h
  have h2 : (ss.take k).length ≤ k := List.length_take_le _ _
  simp only [fs0, List.length_nil] at this; omega
end Go.Proofs.YtoabakgmjcnodaaDoor
