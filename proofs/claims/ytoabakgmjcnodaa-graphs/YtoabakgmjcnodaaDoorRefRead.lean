import Derived.Test.YtoabakgmjcnodaaDoorRefRing
namespace Go.Proofs.YtoabakgmjcnodaaDoor
open Go.ChangeShapes Go.WideShapes Go.ChangeAt Go.RowKit

/-- The lines of a text. -/
def linesOf (s : ByteArray) : List ByteArray := (pcs s 10 (s.size + 1)).1
theorem lines_size (s : ByteArray) : ∀ x ∈ linesOf s, x.size ≤ s.size := pcs_size s 10 _
theorem lines_le (s : ByteArray) : (linesOf s).length ≤ s.size + 1 := (pcs_le s 10 (s.size + 1)).1
theorem lines_pos (s : ByteArray) : 0 < (linesOf s).length := by
  unfold linesOf; rw [pcs_cut (.inl rfl)]; simp

def ps0 : PS := ⟨[], [], []⟩
/-- The lines one after the other: the plan, the first wrong line and its error. -/
def refRun (S : PS) : Nat → List ByteArray → PS × Option (Nat × Nat)
  | _, [] => (S, none)
  | i, x :: r => if (refLine S x).2 = 0 then refRun (refLine S x).1 (i + 1) r else ((refLine S x).1, some (i, (refLine S x).2))
def refRead (s : ByteArray) : PS × Nat × Nat :=
  if 2000 < s.size then (ps0, 0, 1)
  else match refRun ps0 0 (linesOf s) with
    | (S, some (i, e)) => (S, i, e)
    | (S, none) => if ringB (waitsM S.tasks) S.tasks.length = true then (S, (linesOf s).length, 6) else (S, S.tasks.length, 0)

theorem refRun_snoc (x : ByteArray) (l : List ByteArray) : ∀ (S S1 : PS) (i : Nat), refRun S i l = (S1, none) →
    refRun S i (l ++ [x]) = if (refLine S1 x).2 = 0 then ((refLine S1 x).1, none) else ((refLine S1 x).1, some (i + l.length, (refLine S1 x).2)) := by
  induction l with
  | nil =>
    intro S S1 i h
    injection h with h _; subst h
    simp only [List.nil_append, refRun, List.length_nil, Nat.add_zero]
  | cons y r ih =>
    intro S S1 i h
    simp only [refRun] at h
    split at h
    · rename_i h0
      simp only [List.cons_append, refRun, h0, if_true]
      rw [ih _ _ _ h, List.length_cons, Nat.add_assoc, Nat.add_comm 1]
    · injection h with _ h; cases h
theorem refRun_stop (l r : List ByteArray) : ∀ (S S1 : PS) (i : Nat) (o : Nat × Nat), refRun S i l = (S1, some o) → refRun S i (l ++ r) = (S1, some o) := by
  induction l with
  | nil => intro S S1 i o h; injection h with _ h; cases h
  | cons y q ih =>
    intro S S1 i o h
    simp only [refRun, List.cons_append] at h ⊢
    split at h
    · rename_i h0; simp only [h0, if_true]; exact ih _ _ _ _ h
    · rename_i h0; simp only [h0, if_false]; exact h
theorem depth_task (S : PS) (f : FS) : (refTask S f).1.depth = S.depth ∧ (refTask S f).1.pools = S.pools := by
  unfold refTask; repeat' split
  all_goals exact ⟨rfl, rfl⟩
theorem depth_line (S : PS) (x : ByteArray) (h : S.depth.length = S.pools.length) : (refLine S x).1.depth.length = (refLine S x).1.pools.length := by
  unfold refLine
  split
  · exact h
  · split
    · unfold poolLine
      repeat' split
      all_goals first
        | exact h
        | (simp; exact h)
    · split
      · exact h
      · unfold taskLine
        split
        · exact h
        · split
          · exact h
          · rw [(depth_task S _).1, (depth_task S _).2]; exact h
theorem depth_run (l : List ByteArray) : ∀ (S S1 : PS) (i : Nat) (o : Option (Nat × Nat)), S.depth.length = S.pools.length → refRun S i l = (S1, o) → S1.depth.length = S1.pools.length := by
  induction l with
  | nil => intro S S1 i o h h1; injection h1 with h1 _; subst h1; exact h
  | cons y q ih =>
    intro S S1 i o h h1
    simp only [refRun] at h1
    split at h1
    · exact ih _ _ _ _ (depth_line S y h) h1
    · injection h1 with h1 _; subst h1; exact depth_line S y h

/-- What Read leaves. -/
def ReadPost (w w1 : World) (pb : Nat) (S : PS) : Prop := ∃ M vT vP vD cT, RPlan w1 pb M S vT vP vD cT ∧ Below w.heap.size w w1 ∧ (∀ k, M k → w.heap.size ≤ k)
theorem ReadPost.below {w w1 w2 : World} {pb : Nat} {S : PS} (h : ReadPost w w1 pb S) (hb : Below w1.heap.size w1 w2) : ReadPost w w2 pb S := by
  obtain ⟨M, vT, vP, vD, cT, R, hbel, hM⟩ := h
  exact ⟨M, vT, vP, vD, cT, R.same hb, hbel.trans (hb.mono hbel.size), hM⟩

theorem plan0 (w : World) : RPlan (w.alloc (.cells #[.slice none 0 0, .slice none 0 0, .slice none 0 0] 72)) w.heap.size (fun k => k = w.heap.size) ps0 (.slice none 0 0) (.slice none 0 0) (.slice none 0 0) [] :=
  ⟨heap_alloc_new _ _, rfl, World.ownsRow_nil _ _ _ _, World.ownsRow_nil _ _ _ _, World.ownsRow_nil _ _ _ _, fun k hk => by simp [Value.ownBlock] at hk, fun k hk => by simp [Value.ownBlock] at hk, fun k hk => by simp [Value.ownBlock] at hk,
    fun i hi => by simp [ps0] at hi, by simp [ps0], fun k hk => by simp [hk]⟩

/-- The lines in memory stay what they are, and the plan grows. -/
structure LRel (w wr : World) (g : Nat) (L : List ByteArray) (S : PS) (M : Nat → Prop) (vT vP vD : Value) (cT : List Value) : Prop where
  plan : RPlan wr w.heap.size M S vT vP vD cT
  cells : ∀ i x, L[i]? = some x → wr.cell? ⟨g, i, none⟩ = some (.string x)
  notM : ¬ M g
  lt : g < wr.heap.size
  bel : Below w.heap.size w wr
  low : ∀ k, M k → w.heap.size ≤ k
theorem LRel.next {w wr w1 : World} {g : Nat} {L : List ByteArray} {S S1 : PS} {M : Nat → Prop} {vT vP vD : Value} {cT : List Value} (h : LRel w wr g L S M vT vP vD cT) (h1 : LinePost wr w1 w.heap.size M S1) :
    ∃ M1 vT1 vP1 vD1 cT1, LRel w w1 g L S1 M1 vT1 vP1 vD1 cT1 := by
  obtain ⟨M1, vT1, vP1, vD1, cT1, R, hs, hM⟩ := h1
  have hbs := h.bel.size
  refine ⟨M1, vT1, vP1, vD1, cT1, R, fun i x hx => ?_, fun hg => (hM g hg).elim h.notM (fun e => by have := h.lt; omega), Nat.lt_of_lt_of_le h.lt hs.size, ?_, ?_⟩
  · exact (World.cell?_of_block (hs.block g h.lt h.notM)).trans (h.cells i x hx)
  · exact h.bel.trans (hs.below h.bel.size h.low)
  · intro k hk
    rcases hM k hk with h2 | h2
    · exact h.low k h2
    · omega

set_option maxRecDepth 10000 in
set_option maxHeartbeats 4000000 in
theorem ref_Read (s : ByteArray) (w : World) (_hs : s.size ≤ maxLen) :
    Calls Tryd.prog 16 #[.string s] w fun e w' => e = .returned (.tuple #[.pointer (some ⟨w.heap.size, 0, none⟩), .int .i64 (refRead s).2.1, .int .i64 (refRead s).2.2]) ∧ ReadPost w w' w.heap.size (refRead s).1 := by
  by_cases hl : 2000 < s.size
  · have HE : Hid (refRead s = (ps0, 0, 1)) := by simp [Hid, refRead, hl]
    have hl' : (2000 : Int) < (s.size : Int) := by omega
    rw [HE.out]
    go_enter Tryd.func16, Tryd.ntmps16
    go_wp2
    go_ret3
    exact ⟨rfl, _, _, _, _, _, plan0 w, (Below.refl _ _).alloc (Nat.le_refl _) _, fun k hk => by rw [hk]; exact Nat.le_refl _⟩
  · have hl' : ¬ (2000 : Int) < (s.size : Int) := by omega
    have hpc : Calls Tryd.prog 29 #[.string s, .int .u8 10] (w.alloc (.cells #[.slice none 0 0, .slice none 0 0, .slice none 0 0] 72)) fun e w' => ∃ v, e = .returned v ∧ w'.ownsRow (w.heap.size + 1) 9 1 v (linesOf s).length ((linesOf s).map Value.string) ∧ Below (w.heap.size + 1) (w.alloc (.cells #[.slice none 0 0, .slice none 0 0, .slice none 0 0] 72)) w' := by
      have h := ref_pieces s 10 (w.alloc (.cells #[.slice none 0 0, .slice none 0 0, .slice none 0 0] 72)) (by omega)
      simp only [World.size_alloc] at h
      exact h
    have hwp := lines_pos s
    have hwl := lines_le s
    have hws := lines_size s
    obtain ⟨RT, hRT⟩ : ∃ RT, refRead s = RT := ⟨_, rfl⟩
    have HRT : Hid (RT = match refRun ps0 0 (linesOf s) with
      | (S, some (i, e)) => (S, i, e)
      | (S, none) => if ringB (waitsM S.tasks) S.tasks.length = true then (S, (linesOf s).length, 6) else (S, S.tasks.length, 0)) := by
      rw [← hRT]; simp only [Hid, refRead, hl, if_false]
    rw [hRT]
    clear hRT
    obtain ⟨L, hL⟩ : ∃ L, linesOf s = L := ⟨_, rfl⟩
    rw [hL] at hpc hwp hwl hws HRT
    clear hL
    go_enter Tryd.func16, Tryd.ntmps16
    go_wp2_with fail
    refine hpc.mono ?_
    rintro e w1 ⟨v, rfl, hown, hbel⟩
    obtain ⟨g, cw, rfl, hBg, hgl, hcw, hcells⟩ := owns_at hown hwp
    have hb0 := (Below.refl w.heap.size w).alloc (Nat.le_refl _) (.cells #[.slice none 0 0, .slice none 0 0, .slice none 0 0] 72)
    have LR : LRel w w1 g L ps0 (fun k => k = w.heap.size) (.slice none 0 0) (.slice none 0 0) (.slice none 0 0) [] :=
      ⟨(plan0 w).same (by simpa using hbel), hcells, by omega, hgl, hb0.trans (hbel.mono (by omega)), fun k hk => by rw [hk]; exact Nat.le_refl _⟩
    clear hown hbel hcells hpc hb0
    go_wp2_with fail
    go_loopw [7, 8] (fun i _ wr => ∃ (k : Nat) (S : PS) (M : Nat → Prop) (vT vP vD : Value) (cT : List Value), k ≤ L.length ∧ i = .int .i64 k ∧ refRun ps0 0 (L.take k) = (S, none) ∧ LRel w wr g L S M vT vP vD cT) (fun i _ _ => L.length - (intOf i).toNat)
    case atStart => exact ⟨0, ps0, _, _, _, _, _, Nat.zero_le _, rfl, rfl, LR⟩
    case round =>
      clear LR
      obtain ⟨k, S, M, vT, vP, vD, cT, hk, rfl, hrun, LR⟩ := hrel
      have HRUN : Hid (refRun ps0 0 (L.take k) = (S, none)) := hrun
      have hdp : S.depth.length = S.pools.length := depth_run _ _ _ _ _ rfl hrun
      have HDP : Hid (S.depth.length = S.pools.length) := hdp
      clear hrun hdp
      by_cases hlt : k < L.length
      · have hc := LR.cells k L[k] (List.getElem?_eq_getElem hlt)
        obtain ⟨x, hx⟩ : ∃ x, L[k] = x := ⟨_, rfl⟩
        rw [hx] at hc
        have hxs : x.size ≤ 2000 := by have := hws _ (List.getElem_mem hlt); rw [hx] at this; omega
        have HSN : Hid (refRun ps0 0 (L.take (k + 1)) = if (refLine S x).2 = 0 then ((refLine S x).1, none) else ((refLine S x).1, some (k, (refLine S x).2))) := by
          show refRun ps0 0 (L.take (k + 1)) = _
          rw [List.take_succ_eq_append_getElem hlt, hx, refRun_snoc _ _ _ _ _ HRUN.out]
          simp only [List.length_take, Nat.zero_add, show min k L.length = k by omega]
        clear hx
        have hcl := ref_line x wr w.heap.size M S vT vP vD cT LR.plan hxs HDP.out
        obtain ⟨S1, er, hSE⟩ : ∃ S1 er, refLine S x = (S1, er) := ⟨_, _, rfl⟩
        rw [hSE] at hcl HSN
        have HCL : Hid (Calls Tryd.prog 30 #[.pointer (some ⟨w.heap.size, 0, none⟩), .string x] wr fun e w' => e = .returned (.int .i64 er) ∧ LinePost wr w' w.heap.size M S1) := hcl
        clear hcl hSE
        by_cases he0 : er = 0
        · have hb0 : ((er : Int) != 0) = false := by rw [he0]; rfl
          go_wp2_with (go_at_call 30; refine HCL.out.mono ?_; rintro e w2 ⟨rfl, hp2⟩)
          obtain ⟨M1, vT1, vP1, vD1, cT1, LR1⟩ := LR.next hp2
          go_roundw
          case rel => exact ⟨k + 1, S1, M1, vT1, vP1, vD1, cT1, by omega, by go_num, by rw [HSN.out]; simp [he0], LR1⟩
          case measure => simp [intOf]; omega
        · have hb0 : ((er : Int) != 0) = true := by rw [bne_iff_ne]; omega
          have HE : Hid (RT = (S1, k, er)) := by
            have h := HSN.out
            simp only [he0, if_false] at h
            have h2 := refRun_stop (L.take (k + 1)) (L.drop (k + 1)) _ _ _ _ h
            rw [List.take_append_drop] at h2
            rw [HRT.out, h2]; rfl
          clear he0
          go_wp2_with (go_at_call 30; refine HCL.out.mono ?_; rintro e w2 ⟨rfl, hp2⟩)
          obtain ⟨M1, vT1, vP1, vD1, cT1, LR1⟩ := LR.next hp2
          go_ret3
          rw [HE.out]
          exact ⟨rfl, M1, vT1, vP1, vD1, cT1, LR1.plan, LR1.bel, LR1.low⟩
      · have hkn : k = L.length := by omega
        have HE : Hid (RT = if ringB (waitsM S.tasks) S.tasks.length = true then (S, L.length, 6) else (S, S.tasks.length, 0)) := by
          have h := HRUN.out
          rw [hkn, List.take_length] at h
          rw [HRT.out, h]; rfl
        clear hkn
        have hcr := ref_ring wr w.heap.size M S vT vP vD cT LR.plan
        obtain ⟨rb, hrb⟩ : ∃ rb, ringB (waitsM S.tasks) S.tasks.length = rb := ⟨_, rfl⟩
        rw [hrb] at hcr HE
        have HCR : Hid (Calls Tryd.prog 31 #[.pointer (some ⟨w.heap.size, 0, none⟩)] wr fun e w' => e = .returned (.bool rb) ∧ Below wr.heap.size wr w') := hcr
        clear hcr hrb
        cases rb
        · go_wp2_with (go_at_call 31; refine HCR.out.mono ?_; rintro e w2 ⟨rfl, hb2⟩)
          have R2 := LR.plan.same hb2
          have hbw := LR.bel.trans (hb2.mono LR.bel.size)
          obtain ⟨p0, p1, p2, pf⟩ := three R2.blk
          obtain ⟨aT, qT, hvT⟩ := owns_shape R2.tasks
          subst hvT
          go_quiet (fail)
          go_wp2
          go_ret3
          rw [HE.out]
          exact ⟨rfl, _, _, _, _, _, R2.same (below_drewN (Below.refl _ _) _), below_drewN hbw _, LR.low⟩
        · go_wp2_with (go_at_call 31; refine HCR.out.mono ?_; rintro e w2 ⟨rfl, hb2⟩)
          go_ret3
          rw [HE.out]
          exact ⟨rfl, _, _, _, _, _, LR.plan.same hb2, LR.bel.trans (hb2.mono LR.bel.size), LR.low⟩

theorem ref_Check (s : ByteArray) (w : World) (hs : s.size ≤ maxLen) :
    Calls Tryd.prog 7 #[.string s] w fun e w' => e = .returned (.tuple #[.int .i64 (refRead s).2.1, .int .i64 (refRead s).2.2]) ∧ Below w.heap.size w w' := by
  go_enter Tryd.func7, Tryd.ntmps7
  go_wp2_with fail
  refine (ref_Read s w hs).mono ?_
  rintro e w1 ⟨rfl, M, vT, vP, vD, cT, R, hb, hM⟩
  go_wp2
  go_ret2
  exact ⟨rfl, hb⟩
end Go.Proofs.YtoabakgmjcnodaaDoor
