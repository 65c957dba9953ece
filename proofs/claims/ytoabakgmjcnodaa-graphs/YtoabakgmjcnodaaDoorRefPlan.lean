import Derived.Test.YtoabakgmjcnodaaDoorRefB
import Derived.Test.YtoabakgmjcnodaaDoorRefC
import Derived.Test.YtoabakgmjcnodaaDoorHeap
namespace Go.Proofs.YtoabakgmjcnodaaDoor
open Go.ChangeShapes Go.WideShapes Go.ChangeAt Go.RowKit

/-- A task that was read; its pool is a place, or -1. -/
structure TS where
  outs : List ByteArray
  act : ByteArray
  ins : List ByteArray
  cost : Nat
  jobs : Nat
  pool : Int

/-- What the lines have said so far. -/
structure PS where
  tasks : List TS
  pools : List ByteArray
  depth : List Nat

theorem addr_add (g j : Nat) : (⟨g, 0, none⟩ : Addr).add j = ⟨g, j, none⟩ := by unfold Addr.add; split <;> simp_all

theorem Strs.same {M : Nat → Prop} {w w1 : World} {v : Value} {ss : List ByteArray} (h : Strs w v ss) (hs : Same M w w1) (hv : ∀ k, v.ownBlock = some k → ¬ M k) : Strs w1 v ss := by
  obtain ⟨a, c, rfl, hl, h⟩ := h
  refine ⟨a, c, rfl, hl, ?_⟩
  rcases h with h | ⟨b, off, rfl, hc⟩
  · exact .inl h
  · refine .inr ⟨b, off, rfl, fun i hi => ?_⟩
    have h0 := hc i hi
    exact (World.cell?_of_block (hs.block b (block_lt_of_cell h0) (hv b rfl))).trans h0
theorem Strs.owned {w : World} {base : Nat} {v : Value} {ss : List ByteArray} (h : w.ownsRow base 9 1 v ss.length (ss.map Value.string)) : Strs w v ss := by
  obtain ⟨a, c, rfl⟩ : ∃ a c, v = .slice a ss.length c := by
    rcases h.2 with ⟨e, h0⟩ | ⟨g, cap, cur, e, _⟩
    · rw [h0] ; exact ⟨_, _, e⟩
    · exact ⟨_, _, e⟩
  rcases h.2 with ⟨e, h0⟩ | ⟨g, cap, cur, e, _, hg, hle, _, _, ht⟩
  · exact ⟨a, c, rfl, by omega, .inl (List.eq_nil_of_length_eq_zero h0)⟩
  · injection e with e1 e2 e3
    subst e1 e3
    refine ⟨_, _, rfl, hle, ?_⟩
    refine .inr ⟨g, 0, rfl, fun i hi => ?_⟩
    have := h.cells (g := g) rfl i (.string ss[i]) (by simp [hi])
    rw [addr_add] at this; simpa using this

/-- One task's cells lie at 6 i in the row, its lists outside M. -/
structure TaskAt (w : World) (M : Nat → Prop) (cT : List Value) (i : Nat) (t : TS) (vO vI : Value) : Prop where
  c0 : cT[i * 6]? = some vO
  c1 : cT[i * 6 + 1]? = some (.string t.act)
  c2 : cT[i * 6 + 2]? = some vI
  c3 : cT[i * 6 + 3]? = some (.int .i64 t.cost)
  c4 : cT[i * 6 + 4]? = some (.int .i64 t.jobs)
  c5 : cT[i * 6 + 5]? = some (.int .i64 t.pool)
  outs : Strs w vO t.outs
  ins : Strs w vI t.ins
  aO : ∀ k, vO.ownBlock = some k → ¬ M k ∧ k < w.heap.size
  aI : ∀ k, vI.ownBlock = some k → ¬ M k ∧ k < w.heap.size
  lO : t.outs.length ≤ 4000
  lI : t.ins.length ≤ 4000

/-- The plan S lies in w: its struct in block pb, its three rows; M: what may be written. -/
structure RPlan (w : World) (pb : Nat) (M : Nat → Prop) (S : PS) (vT vP vD : Value) (cT : List Value) : Prop where
  blk : w.heap[pb]? = some (.cells #[vT, vP, vD] 72 (0, 0))
  mine : M pb
  tasks : w.ownsRow (pb + 1) 97 6 vT S.tasks.length cT
  pools : w.ownsRow (pb + 1) 9 1 vP S.pools.length (S.pools.map Value.string)
  depth : w.ownsRow (pb + 1) 3 1 vD S.depth.length (S.depth.map fun (n : Nat) => Value.int .i64 (n : Int))
  mT : ∀ k, vT.ownBlock = some k → M k
  mP : ∀ k, vP.ownBlock = some k → M k
  mD : ∀ k, vD.ownBlock = some k → M k
  each : ∀ i (h : i < S.tasks.length), ∃ vO vI, TaskAt w M cT i S.tasks[i] vO vI
  few : S.tasks.length ≤ 24 ∧ S.pools.length ≤ 6 ∧ S.depth.length ≤ 6
  old : ∀ k, M k → k < w.heap.size

/-- The task that makes a path; -1: none does. -/
def makerI (l : List TS) (x : ByteArray) : Int := match l.findIdx? (fun t => decide (0 ≤ placeI t.outs x)) with
  | some i => i
  | none => -1
def madeBy (l : List TS) (x : ByteArray) (k : Nat) : Prop := ∀ i (h : i < l.length), i < k → ¬ (0 ≤ placeI l[i].outs x)
theorem madeBy_succ {l : List TS} {x : ByteArray} {k : Nat} (h : madeBy l x k) (hk : k < l.length) (h1 : ¬ (0 ≤ placeI l[k].outs x)) : madeBy l x (k + 1) := by
  intro i hi hik
  by_cases e : i = k
  · subst e; exact h1
  · exact h i hi (by omega)
theorem maker_hit {l : List TS} {x : ByteArray} {k : Nat} (h : madeBy l x k) (hk : k < l.length) (h1 : 0 ≤ placeI l[k].outs x) : makerI l x = k := by
  unfold makerI
  have : l.findIdx? (fun t => decide (0 ≤ placeI t.outs x)) = some k := by
    rw [List.findIdx?_eq_some_iff_getElem]
    exact ⟨hk, by simpa using h1, fun j hj => by have := h j (by omega) hj; simpa using this⟩
  rw [this]
theorem maker_miss {l : List TS} {x : ByteArray} (h : madeBy l x l.length) : makerI l x = -1 := by
  unfold makerI
  have : l.findIdx? (fun t => decide (0 ≤ placeI t.outs x)) = none := by
    rw [List.findIdx?_eq_none_iff]
    intro t ht
    obtain ⟨i, hi, rfl⟩ := List.mem_iff_getElem.1 ht
    have := h i hi hi
    simpa using this
  rw [this]

/-- The cells of the row of tasks. -/
theorem RPlan.cell {w : World} {pb : Nat} {M : Nat → Prop} {S : PS} {vT vP vD : Value} {cT : List Value} (R : RPlan w pb M S vT vP vD cT) {j : Nat} {u : Value} (hu : cT[j]? = some u) :
    ∃ g c, vT = .slice (some ⟨g, 0, none⟩) S.tasks.length c ∧ w.cell? ⟨g, j, none⟩ = some u := by
  rcases R.tasks.2 with ⟨e, h0⟩ | ⟨g, cap, cur, e, _⟩
  · have h1 := R.tasks.1
    have : cT = [] := List.eq_nil_of_length_eq_zero (by rw [h1, h0, Nat.zero_mul])
    rw [this] at hu; simp at hu
  · refine ⟨g, cap, e, ?_⟩
    have := R.tasks.cells (g := g) (by rw [e]; rfl) j u hu
    rwa [addr_add] at this

set_option maxRecDepth 10000 in
set_option maxHeartbeats 1000000 in
theorem ref_Maker (x : ByteArray) (w : World) (pb : Nat) (M : Nat → Prop) (S : PS) (vT vP vD : Value) (cT : List Value) (R : RPlan w pb M S vT vP vD cT) :
    Calls Tryd.prog 65 #[.pointer (some ⟨pb, 0, none⟩), .string x] w fun e w' => e = .returned (.int .i64 (makerI S.tasks x)) ∧ w' = w := by
  obtain ⟨p0, p1, p2, pf⟩ := three R.blk
  have hfew := R.few.1
  obtain ⟨aT, qT, hvT⟩ : ∃ a c, vT = .slice a S.tasks.length c := by
    rcases R.tasks.2 with ⟨e, h0⟩ | ⟨g, cap, cur, e, _⟩
    · rw [h0]; exact ⟨_, _, e⟩
    · exact ⟨_, _, e⟩
  subst hvT
  generalize hP : makerI S.tasks x = P
  have HP : Hid (makerI S.tasks x = P) := hP
  clear hP
  go_enter Tryd.func65, Tryd.ntmps65
  go_wp2
  go_loop [4, 5, 6] (fun _ i _ => ∃ k : Nat, k ≤ S.tasks.length ∧ i = .int .i64 k ∧ madeBy S.tasks x k) (fun _ i _ => S.tasks.length - (intOf i).toNat)
  case atStart => exact ⟨0, Nat.zero_le _, rfl, fun i hi h => by omega⟩
  case round =>
    obtain ⟨k, hk, rfl, hno⟩ := hrel
    by_cases hlt : k < S.tasks.length
    · obtain ⟨vO, vI, T⟩ := R.each k hlt
      obtain ⟨g, c, hv, hc0⟩ := R.cell T.c0
      injection hv with hv1 _ hv2
      subst hv1
      obtain ⟨q, hq⟩ : ∃ q, placeI S.tasks[k].outs x = q := ⟨_, rfl⟩
      have HQ : Hid (placeI S.tasks[k].outs x = q) := hq
      clear hq
      have hlO := T.lO
      by_cases h0 : 0 ≤ q
      · go_wp2_with (go_at_call 46; refine (ref_place _ _ x _ T.outs (by unfold maxLen; omega)).mono ?_; rintro e w1 ⟨rfl, hw⟩; rw [HQ.out]; subst hw)
        go_ret
        exact ⟨ret_int (by rw [← HP.out, maker_hit hno hlt (by rw [HQ.out]; exact h0)]), rfl⟩
      · go_wp2_with (go_at_call 46; refine (ref_place _ _ x _ T.outs (by unfold maxLen; omega)).mono ?_; rintro e w1 ⟨rfl, hw⟩; rw [HQ.out]; subst hw)
        go_round
        case rel => exact ⟨k + 1, by omega, by go_num, madeBy_succ hno hlt (by rw [HQ.out]; omega)⟩
        case measure => simp [intOf]; omega
    · go_wp2
      go_ret
      exact ⟨ret_int (by rw [← HP.out, maker_miss (by rw [show S.tasks.length = k by omega]; exact hno)]), rfl⟩

/-- Does a task with these inputs wait for task b? -/
def waitsL (l : List TS) (ins : List ByteArray) (b : Int) : Bool := ins.any fun x => makerI l x == b
def waitsTo (l : List TS) (ins : List ByteArray) (b : Int) (k : Nat) : Prop := ∀ i (h : i < ins.length), i < k → (makerI l ins[i] == b) = false
theorem waitsTo_succ {l : List TS} {ins : List ByteArray} {b : Int} {k : Nat} (h : waitsTo l ins b k) (hk : k < ins.length) (h1 : (makerI l ins[k] == b) = false) : waitsTo l ins b (k + 1) := by
  intro i hi hik
  by_cases e : i = k
  · subst e; exact h1
  · exact h i hi (by omega)
theorem waits_hit {l : List TS} {ins : List ByteArray} {b : Int} {k : Nat} (hk : k < ins.length) (h1 : (makerI l ins[k] == b) = true) : waitsL l ins b = true := by
  unfold waitsL; rw [List.any_eq_true]; exact ⟨ins[k], List.getElem_mem hk, h1⟩
theorem waits_miss {l : List TS} {ins : List ByteArray} {b : Int} (h : waitsTo l ins b ins.length) : waitsL l ins b = false := by
  unfold waitsL; rw [List.any_eq_false]
  intro x hx
  obtain ⟨i, hi, rfl⟩ := List.mem_iff_getElem.1 hx
  simp [h i hi hi]

set_option maxRecDepth 10000 in
set_option maxHeartbeats 1000000 in
theorem ref_Waits (a : Nat) (b : Int) (w : World) (pb : Nat) (M : Nat → Prop) (S : PS) (vT vP vD : Value) (cT : List Value) (R : RPlan w pb M S vT vP vD cT) (ha : a < S.tasks.length) :
    Calls Tryd.prog 49 #[.pointer (some ⟨pb, 0, none⟩), .int .i64 a, .int .i64 b] w fun e w' => e = .returned (.bool (waitsL S.tasks S.tasks[a].ins b)) ∧ w' = w := by
  obtain ⟨p0, p1, p2, pf⟩ := three R.blk
  have hfew := R.few.1
  obtain ⟨vO, vI, T⟩ := R.each a ha
  obtain ⟨g, qT, hvT, hc2⟩ := R.cell T.c2
  subst hvT
  have hlI := T.lI
  generalize hN : S.tasks[a].ins = ins at *
  have hins : Strs w vI ins := by rw [← hN]; exact T.ins
  obtain ⟨aI, cI, rfl, _, hcI⟩ := hins
  clear hN T
  generalize hP : waitsL S.tasks ins b = P
  have HP : Hid (waitsL S.tasks ins b = P) := hP
  clear hP
  obtain ⟨bi, oi, hcell⟩ : ∃ b off, ∀ i (h : i < ins.length), aI = some ⟨b, off, none⟩ ∧ w.cell? ⟨b, off + i, none⟩ = some (.string ins[i]) := by
    rcases hcI with rfl | ⟨b, off, h, hcell⟩
    · exact ⟨0, 0, fun i h => by simp at h⟩
    · exact ⟨b, off, fun i h' => ⟨h, hcell i h'⟩⟩
  clear hcI
  go_enter Tryd.func49, Tryd.ntmps49
  go_wp2
  go_loop [6, 7, 8] (fun _ i _ => ∃ k : Nat, k ≤ ins.length ∧ i = .int .i64 k ∧ waitsTo S.tasks ins b k) (fun _ i _ => ins.length - (intOf i).toNat)
  case atStart => exact ⟨0, Nat.zero_le _, rfl, fun i hi h => by omega⟩
  case round =>
    obtain ⟨k, hk, rfl, hno⟩ := hrel
    by_cases hlt : k < ins.length
    · have hc := (hcell k hlt).2
      have hai := (hcell k hlt).1
      subst hai
      obtain ⟨q, hq⟩ : ∃ q, makerI S.tasks ins[k] = q := ⟨_, rfl⟩
      have HQ : Hid (makerI S.tasks ins[k] = q) := hq
      clear hq
      cases h0 : (q == b)
      · have H0 : Hid ((q == b) = false) := h0
        go_wp2_with (go_at_call 65; refine (ref_Maker _ _ pb M S _ vP vD cT R).mono ?_; rintro e w1 ⟨rfl, hw⟩; rw [HQ.out]; subst hw)
        go_round
        case rel => exact ⟨k + 1, by omega, by go_num, waitsTo_succ hno hlt (by rw [HQ.out]; exact H0.out)⟩
        case measure => simp [intOf]; omega
      · have H0 : Hid ((q == b) = true) := h0
        go_wp2_with (go_at_call 65; refine (ref_Maker _ _ pb M S _ vP vD cT R).mono ?_; rintro e w1 ⟨rfl, hw⟩; rw [HQ.out]; subst hw)
        go_ret
        exact ⟨ret_bool (by rw [← HP.out, waits_hit hlt (by rw [HQ.out]; exact H0.out)]), rfl⟩
    · go_wp2
      go_ret
      exact ⟨ret_bool (by rw [← HP.out, waits_miss (by rw [show ins.length = k by omega]; exact hno)]), rfl⟩
end Go.Proofs.YtoabakgmjcnodaaDoor
