import Derived.Test.YtoabakgmjcnodaaDoorRefTask
namespace Go.Proofs.YtoabakgmjcnodaaDoor
open Go.ChangeShapes Go.WideShapes Go.ChangeAt Go.RowKit

/-- What a line leaves. -/
def LinePost (w w1 : World) (pb : Nat) (M : Nat → Prop) (S1 : PS) : Prop :=
  ∃ M1 vT1 vP1 vD1 cT1, RPlan w1 pb M1 S1 vT1 vP1 vD1 cT1 ∧ Same M w w1 ∧ ∀ k, M1 k → M k ∨ w.heap.size ≤ k

theorem TaskPost.line {w w1 : World} {pb : Nat} {M : Nat → Prop} {S1 : PS} {vP vD : Value} (h : TaskPost w w1 pb M S1 vP vD) : LinePost w w1 pb M S1 := by
  obtain ⟨M1, vT1, cT1, h⟩ := h; exact ⟨M1, vT1, vP, vD, cT1, h⟩
theorem LinePost.none {w w1 : World} {pb : Nat} {M : Nat → Prop} {S : PS} {vT vP vD : Value} {cT : List Value} (R : RPlan w pb M S vT vP vD cT) (h : Below w.heap.size w w1) : LinePost w w1 pb M S :=
  (TaskPost.none R h).line
theorem LinePost.after {w w0 w1 : World} {pb : Nat} {M : Nat → Prop} {S1 : PS} (h0 : Below w.heap.size w w0) (h : LinePost w0 w1 pb M S1) : LinePost w w1 pb M S1 := by
  obtain ⟨M1, vT1, vP1, vD1, cT1, R, hs, hM⟩ := h
  refine ⟨M1, vT1, vP1, vD1, cT1, R, ?_, fun k hk => (hM k hk).elim .inl (fun h => .inr (by have := h0.size; omega))⟩
  exact Same.trans ⟨h0.os, h0.tape, h0.output, h0.size, fun k hk _ => h0.block k hk⟩ hs

theorem LinePost.two {w W W2 W3 : World} {pb : Nat} {M M1 M2 : Nat → Prop} {S : PS} {vT vP vD : Value} {cT : List Value} (hb : Below w.heap.size w W) (hS2 : Same M W W2) (hM1 : ∀ k, M1 k → M k ∨ W.heap.size ≤ k)
    (R3 : RPlan W3 pb M2 S vT vP vD cT) (hS3 : Same M1 W2 W3) (hM2 : ∀ k, M2 k → M1 k ∨ W2.heap.size ≤ k) : LinePost w W3 pb M S := by
  have hbs := hb.size
  have hs2 := hS2.size
  refine ⟨M2, vT, vP, vD, cT, R3, ?_, ?_⟩
  · have h1 : Same M w W2 := Same.trans ⟨hb.os, hb.tape, hb.output, hb.size, fun k hk _ => hb.block k hk⟩ hS2
    refine ⟨hS3.os.trans h1.os, hS3.tape.trans h1.tape, hS3.output.trans h1.output, Nat.le_trans h1.size hS3.size, fun k hk hn => ?_⟩
    exact (hS3.block k (by omega) (fun h => (hM1 k h).elim hn (fun h => by omega))).trans (h1.block k hk hn)
  · intro k hk
    rcases hM2 k hk with h | h
    · rcases hM1 k h with h | h
      · exact .inl h
      · right; omega
    · right; omega

section
variable {w w1 Wb : World} {pb : Nat} {M : Nat → Prop} {S : PS} {vT vP vD : Value} {cT : List Value} {gg cap : Nat}

/-- Behind the append of a pool's name. -/
theorem app_pools {x : ByteArray} (R : RPlan w pb M S vT vP vD cT) (hWb : Below w.heap.size w Wb) (h6 : S.pools.length ≤ 5)
    (hown : w1.ownsRow (pb + 1) 9 1 (.slice (some ⟨gg, 0, none⟩) (S.pools.length + 1) cap) (S.pools.length + 1) (S.pools.map Value.string ++ [Value.string x]))
    (hg : Wb.grownBy w1 vP.ownBlock) (hat : vP.ownBlock = some gg ∨ w.heap.size ≤ gg) :
    ∃ M1, RPlan (w1.setCell ⟨pb, 1, none⟩ (.slice (some ⟨gg, 0, none⟩) (S.pools.length + 1) cap)) pb M1 { S with pools := S.pools ++ [x] } vT (.slice (some ⟨gg, 0, none⟩) (S.pools.length + 1) cap) vD cT ∧
      Same M w (w1.setCell ⟨pb, 1, none⟩ (.slice (some ⟨gg, 0, none⟩) (S.pools.length + 1) cap)) ∧ ∀ k, M1 k → M k ∨ w.heap.size ≤ k := by
  have hpl := blk_lt R.blk
  have hbs := hWb.size
  have hgs := hg.size
  have hlow : ∀ k, vP.ownBlock = some k → pb + 1 ≤ k := fun k hk => (R.pools.lt k hk).1
  have hb : ∀ k, k < w.heap.size → vP.ownBlock ≠ some k → w1.heap[k]? = w.heap[k]? := fun k hk hne =>
    (hg.block k (by omega) (fun e => hne e.symm)).trans (hWb.block k hk)
  have hS : Same (fun k => k = pb ∨ vP.ownBlock = some k) w (w1.setCell ⟨pb, 1, none⟩ (.slice (some ⟨gg, 0, none⟩) (S.pools.length + 1) cap)) :=
    ((⟨hWb.os, hWb.tape, hWb.output, hWb.size, fun k hk _ => hWb.block k hk⟩ : Same _ w Wb).grown hg (fun k hk _ => .inr hk)).setCell (fun _ => .inl rfl) _
  have hM : ∀ k, (k = pb ∨ vP.ownBlock = some k) → M k := fun k h => h.elim (fun e => e ▸ R.mine) (R.mP k)
  have hnew : ∀ k, ¬ M k → k < w.heap.size → ¬ (M k ∨ k = gg) := by
    intro k hk hlt h
    rcases h with h | h
    · exact hk h
    · rcases hat with e | e
      · exact hk (R.mP k (by rw [e, h]))
      · omega
  refine ⟨fun k => M k ∨ k = gg, ⟨blk_set ((hb pb hpl (fun e => by have := hlow _ e; omega)).trans R.blk) rfl, .inl R.mine, ?_, ?_, ?_, ?_, ?_, ?_, ?_, ?_, ?_⟩, hS.mono (fun k _ h => hM k h), ?_⟩
  · exact hS.owns R.tasks (fun k hk h => h.elim (fun e => by have := (R.tasks.lt k hk).1; omega) (fun e => owns_ne R.tasks R.pools (by decide) k hk e))
  · refine ownsRow_setCell_below ?_ (by simp) _
    simpa using hown
  · exact hS.owns R.depth (fun k hk h => h.elim (fun e => by have := (R.depth.lt k hk).1; omega) (fun e => owns_ne R.depth R.pools (by decide) k hk e))
  · exact fun k hk => .inl (R.mT k hk)
  · intro k hk; right; simpa [Value.ownBlock] using hk.symm
  · exact fun k hk => .inl (R.mD k hk)
  · intro i hi
    obtain ⟨uO, uI, U⟩ := R.each i hi
    exact ⟨uO, uI, U.c0, U.c1, U.c2, U.c3, U.c4, U.c5, U.outs.same hS (fun k hk hh => (U.aO k hk).1 (hM k hh)), U.ins.same hS (fun k hk hh => (U.aI k hk).1 (hM k hh)),
      fun k hk => ⟨hnew k (U.aO k hk).1 (U.aO k hk).2, by have := (U.aO k hk).2; simp; omega⟩, fun k hk => ⟨hnew k (U.aI k hk).1 (U.aI k hk).2, by have := (U.aI k hk).2; simp; omega⟩, U.lO, U.lI⟩
  · have := R.few; simp; omega
  · intro k hk
    rcases hk with h | h
    · have := R.old k h; simp; omega
    · have := (hown.lt gg rfl).2; rw [h]; simpa using this
  · intro k hk
    rcases hk with h | h
    · exact .inl h
    · rcases hat with e | e
      · exact .inl (R.mP k (by rw [e, h]))
      · right; omega

/-- Behind the append of a pool's depth. -/
theorem app_depth {n : Nat} (R : RPlan w pb M S vT vP vD cT) (hWb : Below w.heap.size w Wb) (h6 : S.depth.length ≤ 5)
    (hown : w1.ownsRow (pb + 1) 3 1 (.slice (some ⟨gg, 0, none⟩) (S.depth.length + 1) cap) (S.depth.length + 1) ((S.depth.map fun (n : Nat) => Value.int .i64 (n : Int)) ++ [Value.int .i64 n]))
    (hg : Wb.grownBy w1 vD.ownBlock) (hat : vD.ownBlock = some gg ∨ w.heap.size ≤ gg) :
    ∃ M1, RPlan (w1.setCell ⟨pb, 2, none⟩ (.slice (some ⟨gg, 0, none⟩) (S.depth.length + 1) cap)) pb M1 { S with depth := S.depth ++ [n] } vT vP (.slice (some ⟨gg, 0, none⟩) (S.depth.length + 1) cap) cT ∧
      Same M w (w1.setCell ⟨pb, 2, none⟩ (.slice (some ⟨gg, 0, none⟩) (S.depth.length + 1) cap)) ∧ ∀ k, M1 k → M k ∨ w.heap.size ≤ k := by
  have hpl := blk_lt R.blk
  have hbs := hWb.size
  have hgs := hg.size
  have hlow : ∀ k, vD.ownBlock = some k → pb + 1 ≤ k := fun k hk => (R.depth.lt k hk).1
  have hb : ∀ k, k < w.heap.size → vD.ownBlock ≠ some k → w1.heap[k]? = w.heap[k]? := fun k hk hne =>
    (hg.block k (by omega) (fun e => hne e.symm)).trans (hWb.block k hk)
  have hS : Same (fun k => k = pb ∨ vD.ownBlock = some k) w (w1.setCell ⟨pb, 2, none⟩ (.slice (some ⟨gg, 0, none⟩) (S.depth.length + 1) cap)) :=
    ((⟨hWb.os, hWb.tape, hWb.output, hWb.size, fun k hk _ => hWb.block k hk⟩ : Same _ w Wb).grown hg (fun k hk _ => .inr hk)).setCell (fun _ => .inl rfl) _
  have hM : ∀ k, (k = pb ∨ vD.ownBlock = some k) → M k := fun k h => h.elim (fun e => e ▸ R.mine) (R.mD k)
  have hnew : ∀ k, ¬ M k → k < w.heap.size → ¬ (M k ∨ k = gg) := by
    intro k hk hlt h
    rcases h with h | h
    · exact hk h
    · rcases hat with e | e
      · exact hk (R.mD k (by rw [e, h]))
      · omega
  refine ⟨fun k => M k ∨ k = gg, ⟨blk_set ((hb pb hpl (fun e => by have := hlow _ e; omega)).trans R.blk) rfl, .inl R.mine, ?_, ?_, ?_, ?_, ?_, ?_, ?_, ?_, ?_⟩, hS.mono (fun k _ h => hM k h), ?_⟩
  · exact hS.owns R.tasks (fun k hk h => h.elim (fun e => by have := (R.tasks.lt k hk).1; omega) (fun e => owns_ne R.tasks R.depth (by decide) k hk e))
  · exact hS.owns R.pools (fun k hk h => h.elim (fun e => by have := (R.pools.lt k hk).1; omega) (fun e => owns_ne R.pools R.depth (by decide) k hk e))
  · refine ownsRow_setCell_below ?_ (by simp) _
    simpa using hown
  · exact fun k hk => .inl (R.mT k hk)
  · exact fun k hk => .inl (R.mP k hk)
  · intro k hk; right; simpa [Value.ownBlock] using hk.symm
  · intro i hi
    obtain ⟨uO, uI, U⟩ := R.each i hi
    exact ⟨uO, uI, U.c0, U.c1, U.c2, U.c3, U.c4, U.c5, U.outs.same hS (fun k hk hh => (U.aO k hk).1 (hM k hh)), U.ins.same hS (fun k hk hh => (U.aI k hk).1 (hM k hh)),
      fun k hk => ⟨hnew k (U.aO k hk).1 (U.aO k hk).2, by have := (U.aO k hk).2; simp; omega⟩, fun k hk => ⟨hnew k (U.aI k hk).1 (U.aI k hk).2, by have := (U.aI k hk).2; simp; omega⟩, U.lO, U.lI⟩
  · have := R.few; simp; omega
  · intro k hk
    rcases hk with h | h
    · have := R.old k h; simp; omega
    · have := (hown.lt gg rfl).2; rw [h]; simpa using this
  · intro k hk
    rcases hk with h | h
    · exact .inl h
    · rcases hat with e | e
      · exact .inl (R.mD k (by rw [e, h]))
      · right; omega
end

theorem Tryd.info3 : (Tryd.prog.info? 3).map (fun i => (i.zero, i.size, i.bytes)) = some (some (.int .i64 0), 1, 8) := by kernel_rfl

/-- The words of a line. -/
def wordsOf (s : ByteArray) : List ByteArray := (pcs s 32 (s.size + 1)).1
theorem words_pos (s : ByteArray) : 0 < (wordsOf s).length := by
  unfold wordsOf; rw [pcs_cut (.inl rfl)]; simp
theorem words_le (s : ByteArray) : (wordsOf s).length ≤ s.size + 1 := (pcs_le s 32 (s.size + 1)).1
theorem pcs_size (s : ByteArray) (c : UInt8) (k : Nat) : ∀ x ∈ (pcs s c k).1, x.size ≤ s.size := by
  induction k with
  | zero => intro x hx; simp [pcs] at hx
  | succ k ih =>
    intro x hx
    by_cases h : k = s.size ∨ s.data.toList[k]? = some c
    · rw [pcs_cut h] at hx
      simp only [List.mem_append, List.mem_singleton] at hx
      rcases hx with hx | hx
      · exact ih x hx
      · rw [hx, ByteArray.size_extract]; omega
    · rw [pcs_on h] at hx; exact ih x hx
theorem words_size (s : ByteArray) : ∀ x ∈ wordsOf s, x.size ≤ s.size := pcs_size s 32 _

/-- A line that says nothing. -/
def isNote (s : ByteArray) : Bool := decide (s.size = 0) || (s.data.toList.head? == some 35)
def isTask (x : ByteArray) : Bool := x.toList == [116, 97, 115, 107]
def poolLine (S : PS) (l : List ByteArray) : PS × Nat :=
  if l.length ≠ 3 then (S, 2)
  else if nameB (l.getD 1 ByteArray.empty).data.toList = false ∨ digN (l.getD 2 ByteArray.empty).data.toList = 0 then (S, 2)
  else if 0 ≤ placeI S.pools (l.getD 1 ByteArray.empty) then (S, 3)
  else if S.pools.length = 6 then (S, 1)
  else ({ S with pools := S.pools ++ [l.getD 1 ByteArray.empty], depth := S.depth ++ [digN (l.getD 2 ByteArray.empty).data.toList] }, 0)
def taskLine (S : PS) (l : List ByteArray) : PS × Nat := match frun fs0 l with
  | none => (S, 2)
  | some t => if fwhole t = false then (S, 2) else refTask S t
/-- One more line. -/
def refLine (S : PS) (s : ByteArray) : PS × Nat :=
  if isNote s = true then (S, 0)
  else if isPool ((wordsOf s).getD 0 ByteArray.empty) = true then poolLine S (wordsOf s)
  else if isTask ((wordsOf s).getD 0 ByteArray.empty) = false then (S, 2)
  else taskLine S ((wordsOf s).drop 1)

theorem refLine_eq (S : PS) {s : ByteArray} {L : List ByteArray} {x : ByteArray} (h : isNote s = false) (hL : wordsOf s = L) (hx : L.getD 0 ByteArray.empty = x) :
    refLine S s = if isPool x = true then poolLine S L else if isTask x = false then (S, 2) else taskLine S (L.drop 1) := by
  unfold refLine; rw [if_neg (by rw [h]; simp), hL, hx]
theorem fstep_nine {t t1 : FS} {x : ByteArray} (h : fstep t x = some t1) (h0 : t.cost ≤ 9 ∧ t.jobs ≤ 9) : t1.cost ≤ 9 ∧ t1.jobs ≤ 9 := by
  have h9 := digN_le x.data.toList
  unfold fstep at h
  split at h
  all_goals (repeat' split at h)
  all_goals first
    | (injection h with h; subst h; simp only; omega)
    | cases h
theorem frun_nine' (l : List ByteArray) : ∀ (t t1 : FS), frun t l = some t1 → t.cost ≤ 9 ∧ t.jobs ≤ 9 → t1.cost ≤ 9 ∧ t1.jobs ≤ 9 := by
  induction l with
  | nil => intro t t1 h h0; injection h with h; subst h; exact h0
  | cons x r ih =>
    intro t t1 h h0
    simp only [frun] at h
    cases hs : fstep t x with
    | none => rw [hs] at h; cases h
    | some t2 => rw [hs] at h; exact ih t2 t1 h (fstep_nine hs h0)
theorem frun_nine {l : List ByteArray} {t : FS} (h : frun fs0 l = some t) : t.cost ≤ 9 ∧ t.jobs ≤ 9 := frun_nine' l fs0 t h ⟨by simp [fs0], by simp [fs0]⟩
theorem taskLine_none (S : PS) {l : List ByteArray} (h : frun fs0 l = none) : taskLine S l = (S, 2) := by unfold taskLine; rw [h]
theorem taskLine_part (S : PS) {l : List ByteArray} {t : FS} (h : frun fs0 l = some t) (h1 : fwhole t = false) : taskLine S l = (S, 2) := by unfold taskLine; rw [h]; simp [h1]
theorem taskLine_whole (S : PS) {l : List ByteArray} {t : FS} (h : frun fs0 l = some t) (h1 : fwhole t = true) : taskLine S l = refTask S t := by unfold taskLine; rw [h]; simp [h1]
theorem owns_at {w : World} {B : Nat} {v : Value} {L : List ByteArray} (h : w.ownsRow B 9 1 v L.length (L.map Value.string)) (hp : 0 < L.length) :
    ∃ g c, v = .slice (some ⟨g, 0, none⟩) L.length c ∧ B ≤ g ∧ g < w.heap.size ∧ L.length ≤ c ∧ ∀ i x, L[i]? = some x → w.cell? ⟨g, i, none⟩ = some (.string x) := by
  rcases h.2 with ⟨_, h0⟩ | ⟨g, cap, cur, e, hB, hg, hle, _⟩
  · omega
  · refine ⟨g, cap, e, hB, blk_lt hg, hle, fun i x hx => ?_⟩
    have := h.cells (g := g) (by rw [e]; rfl) i (.string x) (by simp [hx])
    rwa [addr_add] at this
theorem getD_some {L : List ByteArray} {i : Nat} {x : ByteArray} (hi : i < L.length) (h : L.getD i ByteArray.empty = x) : L[i]? = some x := by
  rw [List.getElem?_eq_getElem hi, ← h]; simp [hi]

set_option maxRecDepth 10000 in
set_option maxHeartbeats 4000000 in
theorem ref_line (s : ByteArray) (w : World) (pb : Nat) (M : Nat → Prop) (S : PS) (vT vP vD : Value) (cT : List Value) (R : RPlan w pb M S vT vP vD cT) (hs : s.size ≤ 2000) (hd : S.depth.length = S.pools.length) :
    Calls Tryd.prog 30 #[.pointer (some ⟨pb, 0, none⟩), .string s] w fun e w' => e = .returned (.int .i64 (refLine S s).2) ∧ LinePost w w' pb M (refLine S s).1 := by
  have HD : Hid (S.depth.length = S.pools.length) := hd
  clear hd
  have hsm : s.size ≤ maxLen := by unfold maxLen; omega
  obtain ⟨i0, hi, hz0, hz1, hz2⟩ := info_parts Tryd.info9
  obtain ⟨i3, hj, hy0, hy1, hy2⟩ := info_parts Tryd.info3
  obtain ⟨RT, hRT⟩ : ∃ RT, refLine S s = RT := ⟨_, rfl⟩
  rw [hRT]
  have HR : Hid (refLine S s = RT) := hRT
  clear hRT
  by_cases h0 : s.size = 0
  · have he : s.toList.isEmpty = true := by rw [toList_isEmpty]; simpa using h0
    have HE : Hid (RT = (S, 0)) := by rw [← HR.out]; simp [Hid, refLine, isNote, h0]
    clear HR h0
    go_enter Tryd.func30, Tryd.ntmps30
    go_wp2
    all_goals
      go_ret
      rw [HE.out]
      exact ⟨ret_int rfl, LinePost.none R (Below.refl _ _)⟩
  have he : s.toList.isEmpty = false := by rw [toList_isEmpty]; simpa using h0
  have hpos : 0 < s.size := by omega
  cases h35 : ((s[0].toNat : Int) == 35)
  · have HNN : Hid (isNote s = false) := by
      have h2 : s.data.toList.head? = some s[0] := by
        rw [List.head?_eq_getElem?, List.getElem?_eq_getElem (by simpa using hpos)]; rfl
      have h3 : (s[0] == 35) = false := by
        rw [beq_eq_false_iff_ne]; intro e; rw [e] at h35; simp at h35
      show isNote s = false
      rw [isNote, h2]; simp [h0, h3]
    have hpc : Calls Tryd.prog 29 #[.string s, .int .u8 32] w fun e w' => ∃ v, e = .returned v ∧ w'.ownsRow w.heap.size 9 1 v (wordsOf s).length ((wordsOf s).map Value.string) ∧ Below w.heap.size w w' :=
      ref_pieces s 32 w (by omega)
    have hwp := words_pos s
    have hwl := words_le s
    have hws := words_size s
    obtain ⟨L, hL⟩ : ∃ L, wordsOf s = L := ⟨_, rfl⟩
    have HL : Hid (wordsOf s = L) := hL
    rw [hL] at hpc hwp hwl hws
    have HPC : Hid (Calls Tryd.prog 29 #[.string s, .int .u8 32] w fun e w' => ∃ v, e = .returned v ∧ w'.ownsRow w.heap.size 9 1 v L.length (L.map Value.string) ∧ Below w.heap.size w w') := hpc
    clear hpc hL
    obtain ⟨x0, hx0⟩ : ∃ x, L.getD 0 ByteArray.empty = x := ⟨_, rfl⟩
    have HX0 : Hid (L.getD 0 ByteArray.empty = x0) := hx0
    clear hx0
    clear h0
    by_cases hp : isPool x0 = true
    · have hb : (x0.toList == [112, 111, 111, 108]) = true := hp
      have HR2 : Hid (poolLine S L = RT) := by
        have := HR.out; rw [refLine_eq S HNN.out HL.out HX0.out] at this; simpa [Hid, hp] using this
      clear HR
      by_cases h3 : L.length = 3
      · have hb3 : ((L.length : Int) != 3) = false := by rw [h3]; rfl
        have h1l : (1 : Int) < (L.length : Int) := by omega
        have h2l : (2 : Int) < (L.length : Int) := by omega
        obtain ⟨x1, hx1⟩ : ∃ x, L.getD 1 ByteArray.empty = x := ⟨_, rfl⟩
        obtain ⟨x2, hx2⟩ : ∃ x, L.getD 2 ByteArray.empty = x := ⟨_, rfl⟩
        have HX1 : Hid (L.getD 1 ByteArray.empty = x1) := hx1
        have HX2 : Hid (L.getD 2 ByteArray.empty = x2) := hx2
        have hi1 : L[1]? = some x1 := getD_some (by omega) hx1
        have hi2 : L[2]? = some x2 := getD_some (by omega) hx2
        have hs1 : x1.size ≤ maxLen := by have := hws x1 (List.mem_of_getElem? hi1); unfold maxLen; omega
        have HI1 : Hid (L[1]? = some x1) := hi1
        have HI2 : Hid (L[2]? = some x2) := hi2
        obtain ⟨nb, hnb⟩ : ∃ nb, nameB x1.data.toList = nb := ⟨_, rfl⟩
        obtain ⟨d, hdd⟩ : ∃ d, digN x2.data.toList = d := ⟨_, rfl⟩
        have HNB : Hid (nameB x1.data.toList = nb) := hnb
        have HDG : Hid (digN x2.data.toList = d) := hdd
        have hd9 := digN_le x2.data.toList
        rw [hdd] at hd9
        have HP3 : Hid (poolLine S L = if nb = false ∨ d = 0 then (S, 2) else if 0 ≤ placeI S.pools x1 then (S, 3) else if S.pools.length = 6 then (S, 1)
            else ({ S with pools := S.pools ++ [x1], depth := S.depth ++ [d] }, 0)) := by
          show poolLine S L = _
          unfold poolLine; rw [hx1, hx2, hnb, hdd, if_neg (by omega)]
        have H3 : Hid (L.length = 3) := h3
        clear hx1 hx2 hi1 hi2 hnb hdd h3
        cases nb
        · have HE : Hid (RT = (S, 2)) := by rw [← HR2.out, HP3.out]; rfl
          clear HR2 HP3
          go_enter Tryd.func30, Tryd.ntmps30
          go_wp2_with fail
          refine HPC.out.mono ?_
          rintro e w1 ⟨v, rfl, hown, hbel⟩
          obtain ⟨g, cw, rfl, hBg, hgl, hcw, hcells⟩ := owns_at hown hwp
          have hc0 := hcells 0 x0 (getD_some hwp HX0.out)
          have HCL : Hid (∀ i x, L[i]? = some x → w1.cell? ⟨g, i, none⟩ = some (.string x)) := hcells
          clear hcells
          have hc1 := HCL.out 1 x1 HI1.out
          have hc2 := HCL.out 2 x2 HI2.out
          have R1 := R.same hbel
          have hbs := hbel.size
          go_wp2_with (first
            | (go_at_call 44; refine (ref_Name x1 _ hs1).mono ?_; rintro e w2 ⟨rfl, hw⟩; rw [HNB.out]; subst hw)
            | (go_at_call 45; refine (ref_number x2 _).mono ?_; rintro e w2 ⟨rfl, hw⟩; rw [HDG.out]; subst hw))
          go_ret
          rw [HE.out]
          exact ⟨ret_int rfl, LinePost.none R hbel⟩
        · by_cases hd0 : d = 0
          · have HE : Hid (RT = (S, 2)) := by rw [← HR2.out, HP3.out]; simp [Hid, hd0]
            have hbd : ((d : Int) == 0) = true := by rw [hd0]; rfl
            clear hd0
            clear HR2 HP3
            go_enter Tryd.func30, Tryd.ntmps30
            go_wp2_with fail
            refine HPC.out.mono ?_
            rintro e w1 ⟨v, rfl, hown, hbel⟩
            obtain ⟨g, cw, rfl, hBg, hgl, hcw, hcells⟩ := owns_at hown hwp
            have hc0 := hcells 0 x0 (getD_some hwp HX0.out)
            have HCL : Hid (∀ i x, L[i]? = some x → w1.cell? ⟨g, i, none⟩ = some (.string x)) := hcells
            clear hcells
            have hc1 := HCL.out 1 x1 HI1.out
            have hc2 := HCL.out 2 x2 HI2.out
            have R1 := R.same hbel
            have hbs := hbel.size
            go_wp2_with (first
              | (go_at_call 44; refine (ref_Name x1 _ hs1).mono ?_; rintro e w2 ⟨rfl, hw⟩; rw [HNB.out]; subst hw)
              | (go_at_call 45; refine (ref_number x2 _).mono ?_; rintro e w2 ⟨rfl, hw⟩; rw [HDG.out]; subst hw))
            go_ret
            rw [HE.out]
            exact ⟨ret_int rfl, LinePost.none R hbel⟩
          · have hbd : ((d : Int) == 0) = false := by rw [beq_eq_false_iff_ne]; omega
            obtain ⟨pi, hpi⟩ : ∃ pi, placeI S.pools x1 = pi := ⟨_, rfl⟩
            have HPI : Hid (placeI S.pools x1 = pi) := hpi
            have HP4 : Hid (RT = if 0 ≤ pi then (S, 3) else if S.pools.length = 6 then (S, 1) else ({ S with pools := S.pools ++ [x1], depth := S.depth ++ [d] }, 0)) := by
              rw [← HR2.out, HP3.out, hpi]; simp [Hid, hd0]
            clear hpi hd0
            clear HR2 HP3
            go_enter Tryd.func30, Tryd.ntmps30
            go_wp2_with fail
            refine HPC.out.mono ?_
            rintro e w1 ⟨v, rfl, hown, hbel⟩
            obtain ⟨g, cw, rfl, hBg, hgl, hcw, hcells⟩ := owns_at hown hwp
            have hc0 := hcells 0 x0 (getD_some hwp HX0.out)
            have HCL : Hid (∀ i x, L[i]? = some x → w1.cell? ⟨g, i, none⟩ = some (.string x)) := hcells
            clear hcells
            have hc1 := HCL.out 1 x1 HI1.out
            have hc2 := HCL.out 2 x2 HI2.out
            have R1 := R.same hbel
            have hbs := hbel.size
            obtain ⟨aP, qP, hvP⟩ := owns_shape R1.pools
            subst hvP
            obtain ⟨p0, p1, p2, pf⟩ := three R1.blk
            have CPL : Hid (∀ n, Calls Tryd.prog 46 #[.slice aP S.pools.length qP, .string x1] (w1.drewN n) fun e w' => e = .returned (.int .i64 pi) ∧ w' = w1.drewN n) := by
              intro n
              have h := ref_place _ S.pools x1 (w1.drewN n) ((Strs.owned R1.pools).heap (drewN_heap _ _)) (by have := R1.few; unfold maxLen; omega)
              rwa [HPI.out] at h
            go_wp2_with (first
              | (go_at_call 44; refine (ref_Name x1 _ hs1).mono ?_; rintro e w2 ⟨rfl, hw⟩; rw [HNB.out]; subst hw)
              | (go_at_call 45; refine (ref_number x2 _).mono ?_; rintro e w2 ⟨rfl, hw⟩; rw [HDG.out]; subst hw))
            go_quiet ((go_at_call 46; exact Calls.quiet_of_same (CPL.out _)))
            have hbW := below_drewN hbel nq
            have RW := R1.same (below_drewN (Below.refl _ _) nq)
            have hcW : (w2.drewN nq).cell? ⟨g, 1, none⟩ = some (.string x1) := by simpa using hc1
            generalize w2.drewN nq = W at *
            clear CPL hc0 hc1 hc2 R1 p0 p1 p2 pf HCL
            by_cases hpi : 0 ≤ pi
            · have HE : Hid (RT = (S, 3)) := by rw [HP4.out]; simp [Hid, hpi]
              go_wp2
              go_ret
              rw [HE.out]
              exact ⟨ret_int rfl, LinePost.none R hbW⟩
            · obtain ⟨p0, p1, p2, pf⟩ := three RW.blk
              by_cases h6 : S.pools.length = 6
              · have HE : Hid (RT = (S, 1)) := by rw [HP4.out]; simp [Hid, hpi, h6]
                have hb6 : ((S.pools.length : Int) == 6) = true := by rw [h6]; rfl
                clear h6
                go_wp2
                go_ret
                rw [HE.out]
                exact ⟨ret_int rfl, LinePost.none R hbW⟩
              · have HE : Hid (RT = ({ S with pools := S.pools ++ [x1], depth := S.depth ++ [d] }, 0)) := by rw [HP4.out]; simp [Hid, hpi, h6]
                have hb6 : ((S.pools.length : Int) == 6) = false := by rw [beq_eq_false_iff_ne]; omega
                have hfew := RW.few
                have hown1 := RW.pools
                have hpl := blk_lt RW.blk
                have hgW : g < W.heap.size := block_lt_of_cell hcW
                have hqf : ∀ o, (W.alloc o).frozen? ⟨pb, 1, none⟩ = false := fun o => (World.frozen?_of_block (Below.heap_alloc _ _ _ hpl)).trans (pf 1)
                have hqc : ∀ o, (W.alloc o).cell? ⟨pb, 1, none⟩ = some (.slice aP S.pools.length qP) := fun o => (World.cell?_of_block (Below.heap_alloc _ _ _ hpl)).trans p1
                have hne1 : some pb ≠ (Value.slice aP S.pools.length qP).ownBlock := fun e => by have := (RW.pools.lt pb e.symm).1; omega
                go_wp2_with fail
                go_region_law
                  ((refine step_append_lies _ (by rfl) _ _ _ (by rfl) (pb + 1) 9 i0 _ 1 16 Tryd.underlying36 hi hz0 hz1 hz2 rfl (by omega) _ S.pools.length (S.pools.map Value.string) (by rfl) ((hown1.alloc _).drew)
                      ⟨W.heap.size, 0, none⟩ 1 1 [.string x1] (by rfl) (by rfl) (World.news_of_block (cs := #[.string x1]) (t := 9) (fr := (0, 0)) (alloc_drew_new W _ _ (by simp))) (by simp [Value.oneCell'])
                      (by omega) (by unfold maxLen; omega) (by omega) (by simp; omega) (W.heap.size + 1) (by simp) ?_; intro gg cap w3 hown2 hgrow hat hlt1; have hfz : w3.frozen? ⟨pb, 1, none⟩ = false := (hgrow.frozen_far _ (by simp; omega) hne1).trans (by simpa using hqf _); have hcz : w3.cell? ⟨pb, 1, none⟩ = some (.slice aP S.pools.length qP) := (hgrow.cell_far _ (by simp; omega) hne1).trans (by simpa using hqc _)))
                all_goals
                  obtain ⟨M1, R2, hS2, hM1⟩ := app_pools RW (((Below.refl _ _).alloc (Nat.le_refl _) _).drew) (by omega) hown2 hgrow (hat.imp id (fun h => by omega))
                  clear hown2 hgrow hat hlt1 hfz hcz
                  obtain ⟨q0, q1, q2, qf⟩ := three R2.blk
                  have hbs2 := hS2.size
                  generalize (w3.setCell ⟨pb, 1, none⟩ (.slice (some ⟨gg, 0, none⟩) (S.pools.length + 1) cap)) = W2 at *
                  obtain ⟨aD, qD, hvD⟩ := owns_shape R2.depth
                  subst hvD
                  have hown3 := R2.depth
                  have hpl2 := blk_lt R2.blk
                  have hqf2 : ∀ o, (W2.alloc o).frozen? ⟨pb, 2, none⟩ = false := fun o => (World.frozen?_of_block (Below.heap_alloc _ _ _ hpl2)).trans (qf 2)
                  have hqc2 : ∀ o, (W2.alloc o).cell? ⟨pb, 2, none⟩ = some (.slice aD S.depth.length qD) := fun o => (World.cell?_of_block (Below.heap_alloc _ _ _ hpl2)).trans q2
                  have hne2 : some pb ≠ (Value.slice aD S.depth.length qD).ownBlock := fun e => by have := (R2.depth.lt pb e.symm).1; omega
                  go_wp2_with (at_builtin; (refine wpList_append_lies _ rfl _ _ 29 rfl (pb + 1) 3 i3 _ 1 8 Tryd.underlying29 hj hy0 hy1 hy2 rfl (by decide) _ S.depth.length (S.depth.map fun (n : Nat) => Value.int .i64 (n : Int)) rfl (hown3.alloc _) ⟨W2.heap.size, 0, none⟩ 1 1 [.int .i64 d] rfl rfl (Go.cell_one_new _ _ _) (by simp [Value.oneCell']) (by omega) (by unfold maxLen; omega) (by omega) (by simp; omega) (W2.heap.size + 1) (by simp) ?_))
                  intro g2 c2 w4 hown4 hgrow2 hat2 hlt2
                  have hfz2 : w4.frozen? ⟨pb, 2, none⟩ = false := (hgrow2.frozen_far _ (by simp; omega) hne2).trans (hqf2 _)
                  have hcz2 : w4.cell? ⟨pb, 2, none⟩ = some (.slice aD S.depth.length qD) := (hgrow2.cell_far _ (by simp; omega) hne2).trans (hqc2 _)
                  obtain ⟨M2, R3, hS3, hM2⟩ := app_depth R2 ((Below.refl _ _).alloc (Nat.le_refl _) _) (show S.depth.length ≤ 5 by rw [HD.out]; omega) hown4 hgrow2 (hat2.imp id (fun h => by omega))
                  clear hown4 hgrow2 hat2 hlt2
                  go_wp2
                  go_ret
                  rw [HE.out]
                  exact ⟨ret_int rfl, LinePost.two hbW hS2 hM1 R3 hS3 hM2⟩
      · have hb3 : ((L.length : Int) != 3) = true := by rw [bne_iff_ne]; omega
        have HE : Hid (RT = (S, 2)) := by rw [← HR2.out]; simp [Hid, poolLine, h3]
        clear HR2 h3
        go_enter Tryd.func30, Tryd.ntmps30
        go_wp2_with fail
        refine HPC.out.mono ?_
        rintro e w1 ⟨v, rfl, hown, hbel⟩
        obtain ⟨g, cw, rfl, hBg, hgl, hcw, hcells⟩ := owns_at hown hwp
        have hc0 := hcells 0 x0 (getD_some hwp HX0.out)
        have HCL : Hid (∀ i x, L[i]? = some x → w1.cell? ⟨g, i, none⟩ = some (.string x)) := hcells
        clear hcells
        go_wp2
        go_ret
        rw [HE.out]
        exact ⟨ret_int rfl, LinePost.none R hbel⟩
    · have hb : (x0.toList == [112, 111, 111, 108]) = false := strNe _ _ hp
      by_cases ht : isTask x0 = true
      · have hb2 : (x0.toList == [116, 97, 115, 107]) = true := ht
        have HR2 : Hid (taskLine S (L.drop 1) = RT) := by
          have := HR.out; rw [refLine_eq S HNN.out HL.out HX0.out] at this; simpa [Hid, hp, ht] using this
        clear HR
        go_enter Tryd.func30, Tryd.ntmps30
        go_wp2_with fail
        refine HPC.out.mono ?_
        rintro e w1 ⟨v, rfl, hown, hbel⟩
        obtain ⟨g, cw, rfl, hBg, hgl, hcw, hcells⟩ := owns_at hown hwp
        have hc0 := hcells 0 x0 (getD_some hwp HX0.out)
        have HCL : Hid (∀ i x, L[i]? = some x → w1.cell? ⟨g, i, none⟩ = some (.string x)) := hcells
        clear hcells
        have R1 := R.same hbel
        have hbs := hbel.size
        by_cases hcw1 : cw = 1
        · have hL1 : L.drop 1 = [] := List.eq_nil_of_length_eq_zero (by rw [List.length_drop]; omega)
          have hst : Strs w1 (.slice (some ⟨g, 0, none⟩) (L.length - 1) 0) (L.drop 1) := by
            have : L.length - 1 = 0 := by omega
            rw [hL1, this]; exact ⟨_, _, rfl, Nat.le_refl _, .inl rfl⟩
          have HST : Hid (Strs w1 (.slice (some ⟨g, 0, none⟩) (L.length - 1) 0) (L.drop 1)) := hst
          clear hst hL1
          have hsz1 : ∀ x ∈ L.drop 1, x.size ≤ maxLen := fun x hx => by have := hws x (List.mem_of_mem_drop hx); unfold maxLen; omega
          have hln1 : (L.drop 1).length ≤ 4000000000 := by rw [List.length_drop]; omega
          have HF1 : Hid (∀ x ∈ L.drop 1, x.size ≤ maxLen) := hsz1
          have HF2 : Hid ((L.drop 1).length ≤ 4000000000) := hln1
          clear hsz1 hln1
          go_wp2_with fail
          refine (ref_form _ (L.drop 1) _ HST.out HF2.out HF1.out).mono ?_
          rintro e w2 (⟨t, vO, vI, hft, rfl, hoO, hoI, hap, hb2⟩ | ⟨hft, aO, nO, cO, act, aI, nI, cI, cost, jobs, pp, rfl, hb2⟩)
          · have hlen := frun_len _ _ _ hft
            have hd9 := frun_nine hft
            have hb2s := hb2.size
            obtain ⟨fwb, hfw⟩ : ∃ b, fwhole t = b := ⟨_, rfl⟩
            have HFW : Hid (fwhole t = fwb) := hfw
            rw [hfw]
            cases fwb
            · have HE : Hid (RT = (S, 2)) := by rw [← HR2.out, taskLine_part S hft hfw]; rfl
              obtain ⟨yO, zO, rfl⟩ := owns_shape hoO
              obtain ⟨yI, zI, rfl⟩ := owns_shape hoI
              clear HR2 hft hfw
              go_wp2
              go_ret
              rw [HE.out]
              exact ⟨ret_int rfl, LinePost.none R ((hbel.trans (hb2.mono hbs)).alloc (by omega) _)⟩
            · have HE : Hid (RT = refTask S t) := by rw [← HR2.out, taskLine_whole S hft hfw]; rfl
              have hbA := (Below.refl w2.heap.size w2).alloc (Nat.le_refl _) (.cells #[vO, .string t.act, vI, .int .i64 t.cost, .int .i64 t.jobs, .int .i64 (-1)] 97)
              have R3 := (R1.same hb2).same hbA
              have sO := (Strs.owned hoO).below hbA
              have sI := (Strs.owned hoI).below hbA
              have aO : ∀ k, vO.ownBlock = some k → ¬ M k ∧ k < (w2.alloc (.cells #[vO, .string t.act, vI, .int .i64 t.cost, .int .i64 t.jobs, .int .i64 (-1)] 97)).heap.size := fun k hk => by
                have h1 := hoO.lt k hk
                exact ⟨fun h => by have := R1.old k h; omega, by simp; omega⟩
              have aI : ∀ k, vI.ownBlock = some k → ¬ M k ∧ k < (w2.alloc (.cells #[vO, .string t.act, vI, .int .i64 t.cost, .int .i64 t.jobs, .int .i64 (-1)] 97)).heap.size := fun k hk => by
                have h1 := hoI.lt k hk
                exact ⟨fun h => by have := R1.old k h; omega, by simp; omega⟩
              have hCT : Hid (Calls Tryd.prog 48 #[.pointer (some ⟨pb, 0, none⟩), .agg #[vO, .string t.act, vI, .int .i64 t.cost, .int .i64 t.jobs, .int .i64 (-1)], .string t.pool] (w2.alloc (.cells #[vO, .string t.act, vI, .int .i64 t.cost, .int .i64 t.jobs, .int .i64 (-1)] 97))
                fun e w' => e = .returned (.int .i64 (refTask S t).2) ∧ TaskPost (w2.alloc (.cells #[vO, .string t.act, vI, .int .i64 t.cost, .int .i64 t.jobs, .int .i64 (-1)] 97)) w' pb M (refTask S t).1 vP vD) :=
                ref_task _ pb M S vT vP vD cT t vO vI R3 sO sI aO aI (by simp [fs0] at hlen; omega) (by simp [fs0] at hlen; omega) hd9.1 hd9.2
              obtain ⟨yO, zO, rfl⟩ := owns_shape hoO
              obtain ⟨yI, zI, rfl⟩ := owns_shape hoI
              clear HR2 hft hfw R3 sO sI aO aI hbA
              go_wp2_with fail
              refine hCT.out.mono ?_
              rintro e w3 ⟨rfl, hp3⟩
              go_wp2
              go_ret
              rw [HE.out]
              exact ⟨rfl, LinePost.after ((hbel.trans (hb2.mono hbs)).alloc (by omega) _) hp3.line⟩
          · have HE : Hid (RT = (S, 2)) := by rw [← HR2.out, taskLine_none S hft]; rfl
            clear HR2 hft
            go_wp2
            go_ret
            rw [HE.out]
            exact ⟨ret_int rfl, LinePost.none R ((hbel.trans (hb2.mono hbs)).alloc (by have := hb2.size; omega) _)⟩
        · have hst : Strs w1 (.slice (some ⟨g, 1, none⟩) (L.length - 1) (cw - 1)) (L.drop 1) := by
            refine ⟨_, _, by rw [List.length_drop], by rw [List.length_drop]; omega, .inr ⟨g, 1, rfl, fun i hi => ?_⟩⟩
            rw [List.length_drop] at hi
            have := HCL.out (1 + i) (L.drop 1)[i] (by rw [List.getElem_drop]; exact List.getElem?_eq_getElem (by omega))
            exact this
          have HST : Hid (Strs w1 (.slice (some ⟨g, 1, none⟩) (L.length - 1) (cw - 1)) (L.drop 1)) := hst
          clear hst
          have hsz1 : ∀ x ∈ L.drop 1, x.size ≤ maxLen := fun x hx => by have := hws x (List.mem_of_mem_drop hx); unfold maxLen; omega
          have hln1 : (L.drop 1).length ≤ 4000000000 := by rw [List.length_drop]; omega
          have HF1 : Hid (∀ x ∈ L.drop 1, x.size ≤ maxLen) := hsz1
          have HF2 : Hid ((L.drop 1).length ≤ 4000000000) := hln1
          clear hsz1 hln1
          go_wp2_with fail
          refine (ref_form _ (L.drop 1) _ HST.out HF2.out HF1.out).mono ?_
          rintro e w2 (⟨t, vO, vI, hft, rfl, hoO, hoI, hap, hb2⟩ | ⟨hft, aO, nO, cO, act, aI, nI, cI, cost, jobs, pp, rfl, hb2⟩)
          · have hlen := frun_len _ _ _ hft
            have hd9 := frun_nine hft
            have hb2s := hb2.size
            obtain ⟨fwb, hfw⟩ : ∃ b, fwhole t = b := ⟨_, rfl⟩
            have HFW : Hid (fwhole t = fwb) := hfw
            rw [hfw]
            cases fwb
            · have HE : Hid (RT = (S, 2)) := by rw [← HR2.out, taskLine_part S hft hfw]; rfl
              obtain ⟨yO, zO, rfl⟩ := owns_shape hoO
              obtain ⟨yI, zI, rfl⟩ := owns_shape hoI
              clear HR2 hft hfw
              go_wp2
              go_ret
              rw [HE.out]
              exact ⟨ret_int rfl, LinePost.none R ((hbel.trans (hb2.mono hbs)).alloc (by omega) _)⟩
            · have HE : Hid (RT = refTask S t) := by rw [← HR2.out, taskLine_whole S hft hfw]; rfl
              have hbA := (Below.refl w2.heap.size w2).alloc (Nat.le_refl _) (.cells #[vO, .string t.act, vI, .int .i64 t.cost, .int .i64 t.jobs, .int .i64 (-1)] 97)
              have R3 := (R1.same hb2).same hbA
              have sO := (Strs.owned hoO).below hbA
              have sI := (Strs.owned hoI).below hbA
              have aO : ∀ k, vO.ownBlock = some k → ¬ M k ∧ k < (w2.alloc (.cells #[vO, .string t.act, vI, .int .i64 t.cost, .int .i64 t.jobs, .int .i64 (-1)] 97)).heap.size := fun k hk => by
                have h1 := hoO.lt k hk
                exact ⟨fun h => by have := R1.old k h; omega, by simp; omega⟩
              have aI : ∀ k, vI.ownBlock = some k → ¬ M k ∧ k < (w2.alloc (.cells #[vO, .string t.act, vI, .int .i64 t.cost, .int .i64 t.jobs, .int .i64 (-1)] 97)).heap.size := fun k hk => by
                have h1 := hoI.lt k hk
                exact ⟨fun h => by have := R1.old k h; omega, by simp; omega⟩
              have hCT : Hid (Calls Tryd.prog 48 #[.pointer (some ⟨pb, 0, none⟩), .agg #[vO, .string t.act, vI, .int .i64 t.cost, .int .i64 t.jobs, .int .i64 (-1)], .string t.pool] (w2.alloc (.cells #[vO, .string t.act, vI, .int .i64 t.cost, .int .i64 t.jobs, .int .i64 (-1)] 97))
                fun e w' => e = .returned (.int .i64 (refTask S t).2) ∧ TaskPost (w2.alloc (.cells #[vO, .string t.act, vI, .int .i64 t.cost, .int .i64 t.jobs, .int .i64 (-1)] 97)) w' pb M (refTask S t).1 vP vD) :=
                ref_task _ pb M S vT vP vD cT t vO vI R3 sO sI aO aI (by simp [fs0] at hlen; omega) (by simp [fs0] at hlen; omega) hd9.1 hd9.2
              obtain ⟨yO, zO, rfl⟩ := owns_shape hoO
              obtain ⟨yI, zI, rfl⟩ := owns_shape hoI
              clear HR2 hft hfw R3 sO sI aO aI hbA
              go_wp2_with fail
              refine hCT.out.mono ?_
              rintro e w3 ⟨rfl, hp3⟩
              go_wp2
              go_ret
              rw [HE.out]
              exact ⟨rfl, LinePost.after ((hbel.trans (hb2.mono hbs)).alloc (by omega) _) hp3.line⟩
          · have HE : Hid (RT = (S, 2)) := by rw [← HR2.out, taskLine_none S hft]; rfl
            clear HR2 hft
            go_wp2
            go_ret
            rw [HE.out]
            exact ⟨ret_int rfl, LinePost.none R ((hbel.trans (hb2.mono hbs)).alloc (by have := hb2.size; omega) _)⟩
      · have hb2 : (x0.toList == [116, 97, 115, 107]) = false := strNe _ _ ht
        have HE : Hid (RT = (S, 2)) := by rw [← HR.out, refLine_eq S HNN.out HL.out HX0.out]; simp [Hid, hp, ht]
        clear HR
        go_enter Tryd.func30, Tryd.ntmps30
        go_wp2_with fail
        refine HPC.out.mono ?_
        rintro e w1 ⟨v, rfl, hown, hbel⟩
        obtain ⟨g, cw, rfl, hBg, hgl, hcw, hcells⟩ := owns_at hown hwp
        have hc0 := hcells 0 x0 (getD_some hwp HX0.out)
        have HCL : Hid (∀ i x, L[i]? = some x → w1.cell? ⟨g, i, none⟩ = some (.string x)) := hcells
        clear hcells
        go_wp2
        go_ret
        rw [HE.out]
        exact ⟨ret_int rfl, LinePost.none R hbel⟩
  · have HE : Hid (RT = (S, 0)) := by
      have h1 : s[0] = 35 := by rw [beq_iff_eq] at h35; exact UInt8.toNat_inj.1 (by simp; omega)
      have h2 : s.data.toList.head? = some 35 := by
        rw [List.head?_eq_getElem?, List.getElem?_eq_getElem (by simpa using hpos)]; exact congrArg some h1
      rw [← HR.out]; simp [Hid, refLine, isNote, h2]
    clear HR h0
    go_enter Tryd.func30, Tryd.ntmps30
    go_wp2
    all_goals
      go_ret
      rw [HE.out]
      exact ⟨ret_int rfl, LinePost.none R (Below.refl _ _)⟩
end Go.Proofs.YtoabakgmjcnodaaDoor
