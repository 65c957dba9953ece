import Derived.Test.YtoabakgmjcnodaaLkB
namespace Go.Proofs.Ytoabakgmjcnodaa
open Go.ChangeShapes Go.WideShapes Go.ChangeAt Go.RowKit

theorem outsOf_le (t : List UInt8) : outsOfL t ≤ 2 := by
  unfold outsOfL
  split
  · split
    · rename_i h; exact h.2
    · omega
  · omega
theorem recL_none {t : List UInt8} (h : outsOfL t = 0 ∨ t.length < 22 + 16 * outsOfL t) : recL t = none := by
  match t, h with
  | [], _ => rfl
  | [_], _ => rfl
  | c :: d :: r, h =>
    unfold outsOfL at h
    simp only at h
    unfold recL
    simp only
    rw [if_neg]
    rintro ⟨hc, hd, hl, _⟩
    have hd2 : d.toNat = 1 ∨ d.toNat = 2 := by rcases hd with rfl | rfl <;> simp
    rw [if_pos ⟨hc, by omega⟩] at h
    omega
theorem recL_some {t : List UInt8} {k : Nat} (hk : outsOfL t = k) (h0 : k ≠ 0) (hl : 22 + 16 * k ≤ t.length) :
    recL t = if numL ((t.drop (18 + 16 * k)).take 4) = sealL (t.take (18 + 16 * k)) then some (rcOf t k, 22 + 16 * k) else none := by
  match t, hk, hl with
  | [], hk, hl => exact absurd hk.symm h0
  | [_], hk, hl => exact absurd hk.symm h0
  | c :: d :: r, hk, hl =>
    unfold outsOfL at hk
    simp only at hk
    split at hk
    · rename_i hc
      have hd2 : d = 1 ∨ d = 2 := by
        have : d.toNat = 1 ∨ d.toNat = 2 := by omega
        rcases this with h | h
        · exact .inl (UInt8.toNat_inj.1 h)
        · exact .inr (UInt8.toNat_inj.1 h)
      subst hk
      exact recL_seal hc.1 hd2 hl
    · exact absurd hk.symm h0

/-- Where the list of outputs stands: the first j are read, the others are noughts. -/
def half (outs : List (Nat × Nat)) (k j : Nat) : List Value := flatD (outs.take j) ++ flatD (List.replicate (k - j) (0, 0))
theorem flatD_len (l : List (Nat × Nat)) : (flatD l).length = 2 * l.length := by
  induction l with
  | nil => rfl
  | cons d l ih => simp only [flatD, List.flatMap_cons, List.length_append, List.length_cons, List.length_nil] at *; omega
theorem half_step {outs : List (Nat × Nat)} {k j x0 x1 : Nat} (hk : outs.length = k) (hj : j < k) (hx : outs[j]? = some (x0, x1)) :
    ((half outs k j).set (j * 2) (.int .u64 (x0 : Nat))).set (j * 2 + 1) (.int .u64 (x1 : Nat)) = half outs k (j + 1) := by
  obtain ⟨hm, he⟩ := List.getElem?_eq_some_iff.1 hx
  have hl : (flatD (outs.take j)).length = j * 2 := by rw [flatD_len, List.length_take]; omega
  unfold half
  rw [List.take_succ_eq_append_getElem hm, he, flatD_snoc]
  obtain ⟨d, hd⟩ : ∃ d, k - j = d + 1 := ⟨k - j - 1, by omega⟩
  have hd2 : k - (j + 1) = d := by omega
  rw [hd, hd2, List.replicate_succ]
  have e : flatD ((0, 0) :: List.replicate d (0, 0)) = .int .u64 ((0 : Nat) : Int) :: .int .u64 ((0 : Nat) : Int) :: flatD (List.replicate d (0, 0)) := by simp [flatD]
  rw [e, ← hl]
  simp
theorem half_end {outs : List (Nat × Nat)} {k : Nat} (hk : outs.length = k) : half outs k k = flatD outs := by
  unfold half
  rw [Nat.sub_self, List.take_of_length_le (by omega)]
  simp [flatD]

theorem run_make_dig (outs : List (Nat × Nat)) (k : Nat) (hk : k ≤ 2) (w : World) : (Instr.makeSlice 35 (.int .i64 (k : Int)) (.int .i64 (k : Int))).run Try.prog w = .ok (.slice (some ⟨w.heap.size, 0, none⟩) k k) (w.alloc (.cells (half outs k 0).toArray 24)) := by
  obtain ⟨iD, hiD, hD0, hD1, hD2⟩ := info_parts Try.infoDg
  have hr := run_make (P := Try.prog) w 35 24 iD _ Try.underlying35 hiD hD0 .i64 .i64 (k : Int) (k : Int) (by omega) (Int.le_refl _) (by rw [hD2]; omega) (by omega)
  have e : madeCells (Value.cells (.agg #[.int .u64 0, .int .u64 0])) (k * iD.size) = (half outs k 0).toArray := by
    rw [hD1]
    unfold half
    rcases (show k = 0 ∨ k = 1 ∨ k = 2 by omega) with rfl | rfl | rfl <;> simp [madeCells, flatD, Value.cells, List.replicate, Array.range, Array.ofFn_succ]
  simp only [Int.toNat_natCast] at hr
  rw [e] at hr
  exact hr

/-- Where the new record lies. -/
def FA (wc wx : World) (k : Nat) (L : Array Value) (p0 p1 : Nat) (p : Value) : Prop :=
  ∃ b7 bs, p = .pointer (some ⟨b7, 0, none⟩) ∧ wx.heap[b7]? = some (.cells #[.int .u64 (p0 : Nat), .int .u64 (p1 : Nat), .slice (some ⟨bs, 0, none⟩) k k] 37 (0, 0)) ∧ wx.heap[bs]? = some (.cells L 24 (0, 0)) ∧ bs ≠ b7 ∧ wc.heap.size ≤ bs ∧ wc.heap.size ≤ b7 ∧ Below wc.heap.size wc wx
theorem set3_same {w : World} {b : Nat} {t : TypeId} {a0 a1 a2 : Value} (h : w.heap[b]? = some (.cells #[a0, a1, a2] t (0, 0))) (x y z : Value) :
    (((w.setCell ⟨b, 0, none⟩ x).setCell ⟨b, 1, none⟩ y).setCell ⟨b, 2, none⟩ z).heap[b]? = some (.cells #[x, y, z] t (0, 0)) := by
  have h1 := heap_setCell_same w b 0 _ t x h
  have h2 := heap_setCell_same _ b 1 _ t y h1
  have h3 := heap_setCell_same _ b 2 _ t z h2
  rw [h3]; rfl
theorem set3_other {w : World} {b q : Nat} (hq : q ≠ b) (x y z : Value) :
    (((w.setCell ⟨b, 0, none⟩ x).setCell ⟨b, 1, none⟩ y).setCell ⟨b, 2, none⟩ z).heap[q]? = w.heap[q]? :=
  (heap_setCell_other _ _ _ _ hq).trans ((heap_setCell_other _ _ _ _ hq).trans (heap_setCell_other _ _ _ _ hq))
theorem set3_below {w0 w : World} {B b : Nat} (h : Below B w0 w) (hb : B ≤ b) (x y z : Value) : Below B w0 (((w.setCell ⟨b, 0, none⟩ x).setCell ⟨b, 1, none⟩ y).setCell ⟨b, 2, none⟩ z) :=
  ((h.setCell hb _).setCell hb _).setCell hb _
theorem below_drew {w w1 : World} (h : Below w.drew.heap.size w.drew w1) : Below w.heap.size w w1 := (Below.refl _ w).drew.trans (h.mono (by simp))
section
variable {wc wA : World} {k p0 p1 : Nat} {L : Array Value}
theorem fa1 (hA : Below wc.drew.heap.size wc.drew wA) : FA wc ((wA.alloc (.cells L 24)).alloc (.cells #[.int .u64 (p0 : Nat), .int .u64 (p1 : Nat), .slice (some ⟨wA.heap.size, 0, none⟩) k k] 37)) k L p0 p1 (.pointer (some ⟨wA.heap.size + 1, 0, none⟩)) := by
  have h := below_drew hA
  have hs := h.size
  exact ⟨_, _, rfl, alloc2_new _ _ _, (Below.heap_alloc _ _ _ (by simp)).trans (heap_alloc_new _ _), by omega, hs, by omega, (h.alloc hs _).alloc (by simp; omega) _⟩
theorem fa2 (hA : Below wc.drew.heap.size wc.drew wA) : FA wc ((wA.alloc (.cells #[.int .u64 (p0 : Nat), .int .u64 (p1 : Nat), .slice (some ⟨wA.heap.size + 1, 0, none⟩) k k] 37)).alloc (.cells L 24)) k L p0 p1 (.pointer (some ⟨wA.heap.size, 0, none⟩)) := by
  have h := below_drew hA
  have hs := h.size
  exact ⟨_, _, rfl, (Below.heap_alloc _ _ _ (by simp)).trans (heap_alloc_new _ _), alloc2_new _ _ _, by omega, by omega, hs, (h.alloc hs _).alloc (by simp; omega) _⟩
theorem fa3 (hA : Below (wc.alloc (.cells L 24)).drew.heap.size (wc.alloc (.cells L 24)).drew wA) : FA wc (wA.alloc (.cells #[.int .u64 (p0 : Nat), .int .u64 (p1 : Nat), .slice (some ⟨wc.heap.size, 0, none⟩) k k] 37)) k L p0 p1 (.pointer (some ⟨wA.heap.size, 0, none⟩)) := by
  have h := below_drew hA
  have hs := h.size
  simp at hs
  have h2 := ((Below.refl wc.heap.size wc).alloc (Nat.le_refl _) (.cells L 24)).trans (h.mono (by simp))
  exact ⟨_, _, rfl, heap_alloc_new _ _, (Below.heap_alloc _ _ _ (by omega)).trans ((h.block _ (by simp)).trans (heap_alloc_new _ _)), by omega, by omega, by omega, h2.alloc (by omega) _⟩
theorem fa4 {o0 o1 o2 : Value} (hA : Below ((wc.alloc (.cells L 24)).alloc (.cells #[o0, o1, o2] 37)).drew.heap.size ((wc.alloc (.cells L 24)).alloc (.cells #[o0, o1, o2] 37)).drew wA) :
    FA wc (((wA.setCell ⟨wc.heap.size + 1, 0, none⟩ (.int .u64 (p0 : Nat))).setCell ⟨wc.heap.size + 1, 1, none⟩ (.int .u64 (p1 : Nat))).setCell ⟨wc.heap.size + 1, 2, none⟩ (.slice (some ⟨wc.heap.size, 0, none⟩) k k)) k L p0 p1 (.pointer (some ⟨wc.heap.size + 1, 0, none⟩)) := by
  have h := below_drew hA
  have hs := h.size
  simp at hs
  have h2 := (((Below.refl wc.heap.size wc).alloc (Nat.le_refl _) (.cells L 24)).alloc (by simp) (.cells #[o0, o1, o2] 37)).trans (h.mono (by simp; omega))
  exact ⟨_, _, rfl, set3_same ((h.block _ (by simp)).trans (alloc2_new _ _ _)) _ _ _, (set3_other (by omega) _ _ _).trans ((h.block _ (by simp; omega)).trans ((Below.heap_alloc _ _ _ (by simp)).trans (heap_alloc_new _ _))), by omega, by omega, by omega, set3_below h2 (by omega) _ _ _⟩
theorem fa5 {o0 o1 o2 : Value} (hA : Below (wc.alloc (.cells #[o0, o1, o2] 37)).drew.heap.size (wc.alloc (.cells #[o0, o1, o2] 37)).drew wA) :
    FA wc ((((wA.setCell ⟨wc.heap.size, 0, none⟩ (.int .u64 (p0 : Nat))).setCell ⟨wc.heap.size, 1, none⟩ (.int .u64 (p1 : Nat))).setCell ⟨wc.heap.size, 2, none⟩ (.slice (some ⟨wA.heap.size, 0, none⟩) k k)).alloc (.cells L 24)) k L p0 p1 (.pointer (some ⟨wc.heap.size, 0, none⟩)) := by
  have h := below_drew hA
  have hs := h.size
  simp at hs
  have h2 := ((Below.refl wc.heap.size wc).alloc (Nat.le_refl _) (.cells #[o0, o1, o2] 37)).trans (h.mono (by simp))
  have hn := heap_alloc_new (((wA.setCell ⟨wc.heap.size, 0, none⟩ (.int .u64 (p0 : Nat))).setCell ⟨wc.heap.size, 1, none⟩ (.int .u64 (p1 : Nat))).setCell ⟨wc.heap.size, 2, none⟩ (.slice (some ⟨wA.heap.size, 0, none⟩) k k)) (.cells L 24)
  simp only [World.size_setCell] at hn
  exact ⟨_, _, rfl, (Below.heap_alloc _ _ _ (by simp; omega)).trans (set3_same ((h.block _ (by simp)).trans (heap_alloc_new _ _)) _ _ _), hn, by omega, by omega, by omega, (set3_below h2 (by omega) _ _ _).alloc (by simp; omega) _⟩
theorem fa6 {o0 o1 o2 : Value} (hA : Below ((wc.alloc (.cells #[o0, o1, o2] 37)).alloc (.cells L 24)).drew.heap.size ((wc.alloc (.cells #[o0, o1, o2] 37)).alloc (.cells L 24)).drew wA) :
    FA wc (((wA.setCell ⟨wc.heap.size, 0, none⟩ (.int .u64 (p0 : Nat))).setCell ⟨wc.heap.size, 1, none⟩ (.int .u64 (p1 : Nat))).setCell ⟨wc.heap.size, 2, none⟩ (.slice (some ⟨wc.heap.size + 1, 0, none⟩) k k)) k L p0 p1 (.pointer (some ⟨wc.heap.size, 0, none⟩)) := by
  have h := below_drew hA
  have hs := h.size
  simp at hs
  have h2 := (((Below.refl wc.heap.size wc).alloc (Nat.le_refl _) (.cells #[o0, o1, o2] 37)).alloc (by simp) (.cells L 24)).trans (h.mono (by simp; omega))
  exact ⟨_, _, rfl, set3_same ((h.block _ (by simp; omega)).trans ((Below.heap_alloc _ _ _ (by simp)).trans (heap_alloc_new _ _))) _ _ _, (set3_other (by omega) _ _ _).trans ((h.block _ (by simp)).trans (alloc2_new _ _ _)), by omega, by omega, by omega, set3_below h2 (by omega) _ _ _⟩
end

theorem fst_next {wd wr wA : World} {b7 bs k j x0 x1 : Nat} {outs : List (Nat × Nat)} {o7 : Obj} (h7 : wr.heap[b7]? = some o7) (hbs : wr.heap[bs]? = some (.cells (half outs k j).toArray 24 (0, 0))) (hne : bs ≠ b7) (hl : wd.heap.size ≤ bs)
    (hbr : Below wd.heap.size wd wr) (hA : Below wr.drew.heap.size wr.drew wA) (hk : outs.length = k) (hj : j < k) (hx : outs[j]? = some (x0, x1)) :
    ((wA.setCell ⟨bs, j * 2, none⟩ (.int .u64 (x0 : Nat))).setCell ⟨bs, j * 2 + 1, none⟩ (.int .u64 (x1 : Nat))).heap[b7]? = some o7 ∧
    ((wA.setCell ⟨bs, j * 2, none⟩ (.int .u64 (x0 : Nat))).setCell ⟨bs, j * 2 + 1, none⟩ (.int .u64 (x1 : Nat))).heap[bs]? = some (.cells (half outs k (j + 1)).toArray 24 (0, 0)) ∧
    Below wd.heap.size wd ((wA.setCell ⟨bs, j * 2, none⟩ (.int .u64 (x0 : Nat))).setCell ⟨bs, j * 2 + 1, none⟩ (.int .u64 (x1 : Nat))) := by
  have h := below_drew hA
  have e7 := (h.block _ (blk_lt' h7)).trans h7
  have es := (h.block _ (blk_lt' hbs)).trans hbs
  refine ⟨?_, ?_, ?_⟩
  · exact (heap_setCell_other _ _ _ _ (fun e => hne e.symm)).trans ((heap_setCell_other _ _ _ _ (fun e => hne e.symm)).trans e7)
  · have h1 := heap_setCell_same wA bs (j * 2) _ 24 (.int .u64 (x0 : Nat)) es
    have h2 := heap_setCell_same _ bs (j * 2 + 1) _ 24 (.int .u64 (x1 : Nat)) h1
    rw [h2, ← half_step hk hj hx]
    simp [List.setIfInBounds_toArray]
  · exact ((hbr.trans (h.mono hbr.size)).setCell hl _).setCell hl _
theorem ds_row {w : World} {bs k : Nat} {outs : List (Nat × Nat)} (h : w.heap[bs]? = some (.cells (flatD outs).toArray 24 (0, 0))) (hk : outs.length = k) (hU : ∀ d ∈ outs, U64 d.1 ∧ U64 d.2) : Ds w (.slice (some ⟨bs, 0, none⟩) k k) outs := by
  subst hk
  refine ⟨_, _, rfl, Nat.le_refl _, hU, .inr ⟨bs, 0, rfl, fun i hi => ?_⟩⟩
  obtain ⟨f0, f1⟩ := flatD_at hi
  rw [cell_of_row w _ _ _ 24 (0, 0) h, cell_of_row w _ _ _ 24 (0, 0) h]
  rw [Nat.zero_add]
  simp only [List.getElem?_toArray]
  exact ⟨f0, f1⟩

set_option maxRecDepth 10000 in
set_option maxHeartbeats 4000000 in
theorem own_first (s : ByteArray) (w : World) (hs : s.size ≤ 140737488351232) :
    Calls Try.prog 27 #[.string s] w fun e w' => RecPost w w' e (recL s.data.toList) := by
  have hk2 := outsOf_le s.data.toList
  have HC := own_outsOf s
  obtain ⟨k, hk⟩ : ∃ k, outsOfL s.data.toList = k := ⟨_, rfl⟩
  have hlen : s.data.toList.length = s.size := by simp
  have HCO : Hid (∀ w, Calls Try.prog 38 #[.string s] w fun e w' => e = .returned (.int .i64 (k : Nat)) ∧ w' = w) := by
    intro w
    have h := own_outsOf s w hs
    rw [hk] at h
    exact h
  clear HC
  obtain ⟨o, ho⟩ : ∃ o, recL s.data.toList = o := ⟨_, rfl⟩
  rw [ho]
  rw [hk] at hk2
  by_cases h0 : k = 0
  · have HE : Hid (o = none) := by rw [Hid, ← ho]; exact recL_none (.inl (by omega))
    subst h0
    clear ho hk
    go_enter Try.func27, Try.ntmps27
    go_wp2_with fail
    refine (HCO.out _).mono ?_
    rintro e w1 ⟨rfl, rfl⟩
    go_wp2
    exact bodyPost_ret (v := .tuple #[.agg #[.int .u64 0, .int .u64 0, .slice none 0 0], .int .i64 0]) (by simp [results, Try.results27, go_sem]) rfl (by
      rw [HE.out]
      exact ⟨rfl, (Below.refl w.heap.size w).alloc (Nat.le_refl _) _⟩)
  · have h0' : ((k : Int) == 0) = false := by rw [beq_eq_false_iff_ne]; omega
    by_cases hfit : s.size < 22 + 16 * k
    · have HE : Hid (o = none) := by rw [Hid, ← ho]; exact recL_none (.inr (by omega))
      clear ho hk
      have t1 : ((s.size : Int) < 2 + 16 * (1 + (k : Int)) + 4) := by omega
      go_enter Try.func27, Try.ntmps27
      go_wp2_with fail
      refine (HCO.out _).mono ?_
      rintro e w1 ⟨rfl, rfl⟩
      go_wp2
      exact bodyPost_ret (v := .tuple #[.agg #[.int .u64 0, .int .u64 0, .slice none 0 0], .int .i64 0]) (by simp [results, Try.results27, go_sem]) rfl (by
        rw [HE.out]
        exact ⟨rfl, (Below.refl w.heap.size w).alloc (Nat.le_refl _) _⟩)
    · have t1 : ¬ ((s.size : Int) < 2 + 16 * (1 + (k : Int)) + 4) := by omega
      have hrec := recL_some hk h0 (by omega)
      rw [ho] at hrec
      obtain ⟨T, hT⟩ : ∃ T, s.data.toList = T := ⟨_, rfl⟩
      rw [hT] at hrec
      have c1 : Hid (∀ w, Calls Try.prog 39 #[.string (s.extract (18 + 16 * k) (22 + 16 * k))] w fun e w' => e = .returned (.int .u64 (numL ((T.drop (18 + 16 * k)).take 4) : Nat)) ∧ w' = w) := by
        intro w
        have h := own_readNumber (s.extract (18 + 16 * k) (22 + 16 * k)) w (by rw [ByteArray.size_extract]; omega)
        rw [ext_list, show 22 + 16 * k - (18 + 16 * k) = 4 by omega, hT] at h
        exact h
      have c2 : Hid (∀ w, Calls Try.prog 37 #[.string (s.extract 0 (18 + 16 * k))] w fun e w' => e = .returned (.int .u32 (sealL (T.take (18 + 16 * k)) : Nat)) ∧ Below w.heap.size w w') := by
        intro w
        have h := own_seal (s.extract 0 (18 + 16 * k)) w (by rw [ByteArray.size_extract]; unfold maxLen; omega)
        rw [ext_list, Nat.sub_zero, List.drop_zero, hT] at h
        exact h
      have hsl := seal_lt (T.take (18 + 16 * k))
      have s1 : ∀ w, Sem.run Try.prog (Instr.slice 9 (.string s) (some (.int .i64 (2 + 16 * (1 + (k : Int))))) (some (.int .i64 (2 + 16 * (1 + (k : Int)) + 4))) none) w = .ok (.string (s.extract (18 + 16 * k) (22 + 16 * k))) w := by
        intro w
        have h := str_slice s (18 + 16 * k) (22 + 16 * k) (by omega) (by omega) hs w
        have e1 : ((18 + 16 * k : Nat) : Int) = 2 + 16 * (1 + (k : Int)) := by omega
        have e2 : ((22 + 16 * k : Nat) : Int) = 2 + 16 * (1 + (k : Int)) + 4 := by omega
        rw [e1, e2] at h
        exact h
      have s2 : ∀ w, Sem.run Try.prog (Instr.slice 9 (.string s) none (some (.int .i64 (2 + 16 * (1 + (k : Int))))) none) w = .ok (.string (s.extract 0 (18 + 16 * k))) w := by
        intro w
        have h := str_to s (18 + 16 * k) (by omega) hs w
        have e1 : ((18 + 16 * k : Nat) : Int) = 2 + 16 * (1 + (k : Int)) := by omega
        rw [e1] at h
        exact h
      have HDA : Hid (∀ (j : Nat) (z : Int) (w : World), z = (j : Int) → j ≤ k → Calls Try.prog 40 #[.string s, .int .i64 z] w fun e w' => e = .returned (.agg #[.int .u64 (numL ((T.drop (2 + 16 * j)).take 8) : Nat), .int .u64 (numL ((T.drop (10 + 16 * j)).take 8) : Nat)]) ∧ Below w.heap.size w w') := by
        intro j z w hz hj
        have h := own_digestAt s j w hs (by omega)
        rw [hT] at h
        rw [hz]
        exact h
      have HOU : Hid ((rcOf T k).outs.length = k) := by rw [Hid]; simp [rcOf]
      have HOA : Hid (∀ m, m < k → (rcOf T k).outs[m]? = some (numL ((T.drop (2 + 16 * (1 + m))).take 8), numL ((T.drop (10 + 16 * (1 + m))).take 8))) := by
        intro m hm
        unfold rcOf
        simp only
        rw [List.getElem?_map, List.getElem?_range hm, show 2 + 16 * (1 + m) = 18 + 16 * m by omega, show 10 + 16 * (1 + m) = 26 + 16 * m by omega]; rfl
      have HRC : Hid (rcOf T k = ⟨numL ((T.drop 2).take 8), numL ((T.drop 10).take 8), (rcOf T k).outs⟩) := rfl
      have u0 := num8 T 2
      have u1 := num8 T 10
      have HUU : Hid (∀ d ∈ (rcOf T k).outs, U64 d.1 ∧ U64 d.2) := by
        intro d hd
        unfold rcOf at hd
        simp only [List.mem_map] at hd
        obtain ⟨j, _, rfl⟩ := hd
        exact ⟨num8 T _, num8 T _⟩
      have HRE : Hid (o = if numL ((T.drop (18 + 16 * k)).take 4) = sealL (T.take (18 + 16 * k)) then some (rcOf T k, 22 + 16 * k) else none) := hrec
      have HWB : Hid (IntKind.u64.wrap (sealL (T.take (18 + 16 * k)) : Nat) = (sealL (T.take (18 + 16 * k)) : Nat)) := by rw [Hid, IntKind.wrap_u64]; omega
      clear hrec ho hk hT hlen
      generalize numL ((T.drop (18 + 16 * k)).take 4) = A at *
      generalize sealL (T.take (18 + 16 * k)) = B at *
      generalize s.extract (18 + 16 * k) (22 + 16 * k) = S1 at *
      generalize s.extract 0 (18 + 16 * k) = S2 at *
      go_enter Try.func27, Try.ntmps27
      go_wp2_with fail
      refine (HCO.out _).mono ?_
      rintro e w1 ⟨rfl, rfl⟩
      go_upto_region 6 with fail
      obtain ⟨W, hW⟩ : ∃ W, w.alloc (.cells #[.int .u64 0, .int .u64 0, .slice none 0 0] 37) = W := ⟨_, rfl⟩
      have hbW : Below w.heap.size w W := by rw [← hW]; exact (Below.refl _ _).alloc (Nat.le_refl _) _
      have hWb : W.heap[w.heap.size]? = some (.cells #[.int .u64 0, .int .u64 0, .slice none 0 0] 37 (0, 0)) := by rw [← hW]; exact heap_alloc_new w _
      have hWs := blk_lt' hWb
      have hWz : W.heap.size = w.heap.size + 1 := by rw [← hW]; simp
      rw [hW]
      clear hW
      go_cut [36] (fun b wx => b = .bool ((A : Int) != (B : Int)) ∧ Below W.heap.size W wx)
      case first =>
        go_region_with (first
          | (go_at_call_of 39 (Value.string S1); refine (c1.out _).mono ?_; rintro e wA ⟨rfl, rfl⟩)
          | (go_at_call_of 37 (Value.string S2); refine (c2.out _).mono ?_; rintro e wB ⟨rfl, hBB⟩))
        all_goals (try go_wp2_with fail)
        all_goals go_meet
        all_goals exact ⟨by rw [HWB.out], (Below.refl _ W).drew.trans (hBB.mono (by simp))⟩
      case rest =>
        obtain ⟨rfl, hbc⟩ := hcut
        obtain ⟨g0, g1, g2, gf⟩ := three' ((hbc.block _ hWs).trans hWb)
        have hbw := hbW.trans (hbc.mono hbW.size)
        obtain ⟨wd, rfl⟩ : ∃ wd, wd = wc := ⟨wc, rfl⟩
        by_cases hAB : A = B
        · have tAB : ((A : Int) != (B : Int)) = false := by simp [hAB]
          have HE : Hid (o = some (rcOf T k, 22 + 16 * k)) := by rw [Hid, HRE.out, if_pos hAB]
          have HD0 : Hid (∀ w, Calls Try.prog 40 #[.string s, .int .i64 0] w fun e w' => e = .returned (.agg #[.int .u64 (numL ((T.drop 2).take 8) : Nat), .int .u64 (numL ((T.drop 10).take 8) : Nat)]) ∧ Below w.heap.size w w') := fun w => HDA.out 0 0 w rfl (Nat.zero_le _)
          generalize numL ((T.drop 2).take 8) = p0 at *
          generalize numL ((T.drop 10).take 8) = p1 at *
          generalize (rcOf T k).outs = outs at *
          have hmk := run_make_dig outs k hk2
          go_upto_region 8 with fail
          go_cut [7] (fun p wx => FA wd wx k (half outs k 0).toArray p0 p1 p)
          case first =>
            go_region_with (go_at_call_of 40 (Value.string s); refine (HD0.out _).mono ?_; rintro e wA ⟨rfl, hA⟩; obtain ⟨hc, hf⟩ := bcell hA; have hz := hA.size; simp at hz; try (have hz1 : wd.heap.size < wA.heap.size := by omega))
            all_goals (try go_wp2_with fail)
            all_goals go_meet
            · exact fa1 hA
            · exact fa2 hA
            · exact fa3 hA
            · exact fa4 hA
            · exact fa5 hA
            · exact fa6 hA
          case rest =>
            obtain ⟨b7, bs, rfl, h7, hbs, hne, hl1, hl2, hbx⟩ := hcut
            obtain ⟨q0, q1, q2, qf⟩ := three' h7
            go_wp2_with fail
            go_loopw [8, 46] (fun _ i wr => ∃ j : Nat, j ≤ k ∧ i = .int .i64 (j : Int) ∧ wr.heap[b7]? = some (.cells #[.int .u64 (p0 : Nat), .int .u64 (p1 : Nat), .slice (some ⟨bs, 0, none⟩) k k] 37 (0, 0)) ∧ wr.heap[bs]? = some (.cells (half outs k j).toArray 24 (0, 0)) ∧ Below wd.heap.size wd wr) (fun _ i _ => k - (intOf i).toNat)
            case atStart => exact ⟨0, Nat.zero_le _, rfl, h7, hbs, hbx⟩
            case round =>
              clear h7 hbs hbx q0 q1 q2 qf
              obtain ⟨j, hj, rfl, h7, hbs, hbr⟩ := hrel
              obtain ⟨q0, q1, q2, qf⟩ := three' h7
              have hjl : (half outs k j).length = k * 2 := by
                have := HOU.out
                unfold half
                rw [List.length_append, flatD_len, flatD_len, List.length_take, List.length_replicate]; omega
              have hfz : ∀ i, wr.frozen? ⟨bs, i, none⟩ = false := fun i => by simp [World.frozen?, hbs]
              have hsz := hbr.size
              have hlt7 := blk_lt' h7
              have hlts := blk_lt' hbs
              by_cases hlt : j < k
              · have hcl : ∀ i, i < k * 2 → ∃ v, wr.cell? ⟨bs, i, none⟩ = some v := fun i hi => by
                  rw [cell_of_row wr _ _ _ 24 (0, 0) hbs]
                  exact ⟨(half outs k j)[i]'(by omega), by simp⟩
                obtain ⟨v0, hv0⟩ := hcl (j * 2) (by omega)
                obtain ⟨v1, hv1⟩ := hcl (j * 2 + 1) (by omega)
                clear hcl
                have HA := HOA.out j hlt
                have HDJ : Hid (∀ (z : Int) w, z = 1 + (j : Int) → Calls Try.prog 40 #[.string s, .int .i64 z] w fun e w' => e = .returned (.agg #[.int .u64 (numL ((T.drop (2 + 16 * (1 + j))).take 8) : Nat), .int .u64 (numL ((T.drop (10 + 16 * (1 + j))).take 8) : Nat)]) ∧ Below w.heap.size w w') := fun z w hz => HDA.out (1 + j) z w (by omega) (by omega)
                generalize numL ((T.drop (2 + 16 * (1 + j))).take 8) = x0 at *
                generalize numL ((T.drop (10 + 16 * (1 + j))).take 8) = x1 at *
                have HAT : Hid (outs[j]? = some (x0, x1)) := HA
                clear HA
                go_upto_region 12 with fail
                go_region_with (go_at_call_of 40 (Value.string s); refine (HDJ.out _ _ (by first | omega | (rw [IntKind.wrap_i64]; omega))).mono ?_; rintro e wA ⟨rfl, hA⟩; obtain ⟨hc, hf⟩ := bcell (below_drew hA); have hz := hA.size; simp at hz)
                all_goals (try go_wp2_with fail)
                all_goals
                  obtain ⟨n7, ns, nb⟩ := fst_next h7 hbs hne hl1 hbr hA HOU.out hlt HAT.out
                  have HN7 : Hid _ := n7
                  have HNS : Hid _ := ns
                  clear n7 ns
                  go_roundw
                  case rel => exact ⟨j + 1, by omega, by go_num, HN7.out, HNS.out, nb⟩
                  case measure => simp [intOf]; omega
              · have hjk : j = k := by omega
                subst hjk
                rw [half_end HOU.out] at hbs
                have hds := ds_row hbs HOU.out HUU.out
                have hDS : Hid (Ds wr (.slice (some ⟨bs, 0, none⟩) j j) outs) := hds
                have hres := (hbr.block _ (by have := hbc.size; omega)).trans ((hbc.block _ hWs).trans hWb)
                obtain ⟨r0, r1, r2, rf⟩ := three' hres
                have hbb := hbw.trans (hbr.mono hbw.size)
                have HN : Hid (((22 + 16 * j : Nat) : Int) = 2 + 16 * (1 + (j : Int)) + 4) := by rw [Hid]; omega
                have hlw := hbw.size
                clear hds
                go_wp2
                exact bodyPost_ret (v := .tuple #[.agg #[.int .u64 (p0 : Nat), .int .u64 (p1 : Nat), .slice (some ⟨bs, 0, none⟩) j j], .int .i64 (2 + 16 * (1 + (j : Int)) + 4)]) (by simp [results, Try.results27, go_sem, r0, r1, r2]) rfl (by
                  rw [HE.out, HRC.out]
                  refine ⟨_, by rw [HN.out], ds_set hDS.out (fun q hq => ?_) _ _ _, fun q hq => ?_, below_three' hbb rfl _ _ _⟩
                  · have : bs = q := by simpa [Value.ownBlock] using hq
                    have := hbc.size
                    omega
                  · have : bs = q := by simpa [Value.ownBlock] using hq
                    omega)
        · have tAB : ((A : Int) != (B : Int)) = true := by simp; omega
          have HE : Hid (o = none) := by rw [Hid, HRE.out, if_neg hAB]
          go_wp2
          exact bodyPost_ret (v := .tuple #[.agg #[.int .u64 0, .int .u64 0, .slice none 0 0], .int .i64 0]) (by simp [results, Try.results27, go_sem, g0, g1, g2]) rfl (by
            rw [HE.out]
            exact ⟨rfl, below_three' hbw rfl _ _ _⟩)
end Go.Proofs.Ytoabakgmjcnodaa
