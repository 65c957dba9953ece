import Derived.Test.YtoabakgmjcnodaaDoorOwnWeigh
import Derived.Test.YtoabakgmjcnodaaDoorPureC
import Derived.Test.YtoabakgmjcnodaaDoorLawInts
namespace Go.Proofs.YtoabakgmjcnodaaDoor
open Go.ChangeShapes Go.WideShapes Go.ChangeAt Go.RowKit

theorem Ints.row {w : World} {b n : Nat} {f : Nat → Nat} (h : w.rowIs b 3 n (fun i => .int .i64 (f i))) : Ints w (.slice (some ⟨b, 0, none⟩) n n) ((List.range n).map f) := by
  refine ⟨_, _, by rw [List.length_map, List.length_range], by rw [List.length_map, List.length_range]; exact Nat.le_refl _, .inr ⟨b, 0, rfl, fun i hi => ?_⟩⟩
  rw [List.length_map, List.length_range] at hi
  rw [Nat.zero_add, h.cell hi]; simp
theorem ownRun_ne : ∀ (l : List ByteArray) (S S1 : OS) (i j e : Nat), ownRun S i l = (S1, some (j, e)) → e ≠ 0
  | [], S, S1, i, j, e, h => by injection h with _ h; cases h
  | x :: r, S, S1, i, j, e, h => by
    simp only [ownRun] at h
    split at h
    · exact ownRun_ne r _ _ _ _ _ h
    · rename_i hc; injection h with _ h; injection h with h; injection h with _ h; subst h; exact hc
theorem read_ring {s : ByteArray} (h : (ownRead s).2.2 = 0) : ownRing (ownRead s).1 = false ∧ OInv (ownRead s).1 ∧ (ownRead s).2.1 = (ownRead s).1.tasks.length := by
  unfold ownRead at h ⊢
  by_cases hl : 2000 < s.size
  · rw [if_pos hl] at h; cases h
  rw [if_neg hl] at h ⊢
  have hinv := fun S1 => OInv.run (linesOf s) os0 S1 0 OInv.zero (fun x hx => by have := lines_size s x hx; omega)
  rcases ho : ownRun os0 0 (linesOf s) with ⟨S, oo⟩
  rw [ho] at h
  cases oo with
  | some p => exact absurd h (ownRun_ne _ _ _ _ _ _ ho)
  | none =>
    simp only at h ⊢
    by_cases hg : ownRing S = true
    · rw [if_pos hg] at h; cases h
    · rw [if_neg hg]; exact ⟨by simpa using hg, hinv S ho, rfl⟩
/-- No task costs more than nine. -/
theorem nine_line {P : PS} (h : ∀ t ∈ P.tasks, t.cost ≤ 9) (x : ByteArray) : ∀ t ∈ (refLine P x).1.tasks, t.cost ≤ 9 := by
  unfold refLine
  split
  · exact h
  split
  · unfold poolLine
    repeat' split
    all_goals exact h
  split
  · exact h
  unfold taskLine
  split
  · exact h
  · rename_i f hf
    split
    · exact h
    · have h9 := frun_nine hf
      unfold refTask
      repeat' split
      all_goals first
        | exact h
        | (intro t ht
           simp only [List.mem_append, List.mem_singleton] at ht
           rcases ht with ht | ht
           · exact h t ht
           · rw [ht]; simp only [newTask]; split <;> omega)
theorem nine_run (l : List ByteArray) : ∀ (P : PS) (i : Nat), (∀ t ∈ P.tasks, t.cost ≤ 9) → ∀ t ∈ (refRun P i l).1.tasks, t.cost ≤ 9 := by
  induction l with
  | nil => intro P i h; exact h
  | cons x r ih =>
    intro P i h
    simp only [refRun]
    split
    · exact ih _ _ (nine_line h x)
    · exact nine_line h x
theorem nine_read (s : ByteArray) : ∀ t ∈ (refRead s).1.tasks, t.cost ≤ 9 := by
  unfold refRead
  split
  · intro t ht; simp [ps0] at ht
  · have h := nine_run (linesOf s) ps0 0 (fun t ht => by simp [ps0] at ht)
    rcases hr : refRun ps0 0 (linesOf s) with ⟨P, oo⟩
    rw [hr] at h
    cases oo with
    | some p => exact h
    | none => simp only; split <;> exact h
theorem cost_nine {l : List TS} (h : ∀ t ∈ l, t.cost ≤ 9) (a : Nat) : costT l a ≤ 9 := by
  unfold costT
  by_cases ha : a < l.length
  · have : l.getD a ⟨[], ByteArray.empty, [], 0, 0, 0⟩ = l[a] := by simp [ha]
    rw [this]; exact h _ (List.getElem_mem ha)
  · have : l.getD a ⟨[], ByteArray.empty, [], 0, 0, 0⟩ = ⟨[], ByteArray.empty, [], 0, 0, 0⟩ := by simp [List.getD_eq_getElem?_getD, List.getElem?_eq_none (Nat.le_of_not_lt ha)]
    rw [this]; exact Nat.zero_le _

/-- The weights of a manifest; none where it is wrong. -/
def weighL (s : ByteArray) : List Nat := if (refRead s).2.2 = 0 then (List.range (refRead s).1.tasks.length).map (wRounds (costT (refRead s).1.tasks) (waitsM (refRead s).1.tasks) (refRead s).1.tasks.length ((refRead s).1.tasks.length + 1)) else []

set_option maxHeartbeats 1000000 in
theorem ref_Weights (s : ByteArray) (w : World) (hs : s.size ≤ maxLen) :
    Calls Tryd.prog 17 #[.string s] w fun e w' => ∃ v, e = .returned (.tuple #[v, .int .i64 (refRead s).2.2]) ∧ Ints w' v (weighL s) ∧ Below w.heap.size w w' ∧ (weighL s).length ≤ 24 := by
  have HRD : Hid (Calls Tryd.prog 16 #[.string s] w fun e w' => e = .returned (.tuple #[.pointer (some ⟨w.heap.size, 0, none⟩), .int .i64 (refRead s).2.1, .int .i64 (refRead s).2.2]) ∧ ReadPost w w' w.heap.size (refRead s).1) := ref_Read s w hs
  have HC9 : Hid (∀ a, costT (refRead s).1.tasks a ≤ 9) := cost_nine (nine_read s)
  obtain ⟨WL, hWL⟩ : ∃ WL, weighL s = WL := ⟨_, rfl⟩
  rw [hWL]
  have HWL : Hid (weighL s = WL) := hWL
  clear hWL
  obtain ⟨RT, hRT⟩ : ∃ RT, refRead s = RT := ⟨_, rfl⟩
  have HRT : Hid (WL = if RT.2.2 = 0 then (List.range RT.1.tasks.length).map (wRounds (costT RT.1.tasks) (waitsM RT.1.tasks) RT.1.tasks.length (RT.1.tasks.length + 1)) else []) := by rw [← HWL.out, ← hRT]; rfl
  rw [hRT] at HRD HC9 ⊢
  clear hRT HWL
  obtain ⟨P, n, er⟩ := RT
  simp only at HRD HC9 HRT ⊢
  by_cases he : er = 0
  · have hb0 : ((er : Int) != 0) = false := by rw [he]; rfl
    have HE : Hid (WL = (List.range P.tasks.length).map (wRounds (costT P.tasks) (waitsM P.tasks) P.tasks.length (P.tasks.length + 1))) := by rw [HRT.out, if_pos he]; rfl
    have HEr : Hid (er = 0) := he
    clear he HRT
    go_enter Tryd.func17, Tryd.ntmps17
    go_wp2_with fail
    refine HRD.out.mono ?_
    rintro e w1 ⟨rfl, M, vT, vP, vD, cT, R, hb, hM⟩
    have HWG : Hid (Calls Tryd.prog 32 #[.pointer (some ⟨w.heap.size, 0, none⟩)] w1 fun e w' => e = .returned (.slice (some ⟨w1.heap.size, 0, none⟩) P.tasks.length P.tasks.length) ∧
      w'.rowIs w1.heap.size 3 P.tasks.length (fun i => .int .i64 (wRounds (costT P.tasks) (waitsM P.tasks) P.tasks.length (P.tasks.length + 1) i)) ∧ Below w1.heap.size w1 w') := ref_Weigh w1 w.heap.size M P vT vP vD cT R HC9.out
    go_wp2_with fail
    refine HWG.out.mono ?_
    rintro e w2 ⟨rfl, hrow, hb2⟩
    go_wp2
    go_ret2
    refine ⟨.slice (some ⟨w1.heap.size, 0, none⟩) P.tasks.length P.tasks.length, by rw [HEr.out]; rfl, ?_, hb.trans (hb2.mono hb.size), ?_⟩
    · rw [HE.out]; exact Ints.row hrow
    · rw [HE.out, List.length_map, List.length_range]; exact R.few.1
  · have hb0 : ((er : Int) != 0) = true := by rw [bne_iff_ne]; omega
    have HE : Hid (WL = []) := by rw [HRT.out, if_neg he]; rfl
    clear he HRT
    go_enter Tryd.func17, Tryd.ntmps17
    go_wp2_with fail
    refine HRD.out.mono ?_
    rintro e w1 ⟨rfl, M, vT, vP, vD, cT, R, hb, hM⟩
    go_wp2
    go_ret2
    refine ⟨.slice none 0 0, rfl, ?_, hb, ?_⟩
    · rw [HE.out]; exact ⟨_, _, rfl, Nat.le_refl _, .inl rfl⟩
    · rw [HE.out]; simp

set_option maxHeartbeats 1000000 in
theorem own_Weights (s : ByteArray) (w : World) (hV : Vars w) (hs : s.size ≤ maxLen) :
    Calls Tryd.prog 12 #[.string s] w fun e w' => ∃ v, e = .returned (.tuple #[v, .int .i64 (refRead s).2.2]) ∧ Ints w' v (weighL s) ∧ Below w.heap.size w w' := by
  have HRD : Hid (Calls Tryd.prog 15 #[.string s] w fun e w' => ORPost w w' e (ownRead s)) := own_Read s w hV hs
  have HC9 : Hid (∀ a, costT (refRead s).1.tasks a ≤ 9) := cost_nine (nine_read s)
  have hsame := read_same s
  have hring := read_ring (s := s)
  have HWL : Hid (weighL s = if (refRead s).2.2 = 0 then (List.range (refRead s).1.tasks.length).map (wRounds (costT (refRead s).1.tasks) (waitsM (refRead s).1.tasks) (refRead s).1.tasks.length ((refRead s).1.tasks.length + 1)) else []) := rfl
  obtain ⟨WL, hWL⟩ : ∃ WL, weighL s = WL := ⟨_, rfl⟩
  rw [hWL] at HWL ⊢
  clear hWL
  obtain ⟨⟨S, n, er⟩, hRT⟩ : ∃ RT, ownRead s = RT := ⟨_, rfl⟩
  obtain ⟨⟨P, n1, er1⟩, hRP⟩ : ∃ RT, refRead s = RT := ⟨_, rfl⟩
  rw [hRT, hRP] at hsame
  rw [hRT] at HRD hring
  rw [hRP] at HC9 HWL ⊢
  simp only at hsame hring HC9 HWL ⊢
  obtain ⟨hs1, hsim⟩ := hsame
  injection hs1 with hs1 hs2
  subst hs1 hs2
  clear hRT hRP hV
  by_cases he : er = 0
  · have hb0 : ((er : Int) != 0) = false := by rw [he]; rfl
    have hS := hsim he
    obtain ⟨hrg, hinv, _⟩ := hring he
    have hl := hS.len
    have HE : Hid (WL = (List.range P.tasks.length).map (wRounds (costT P.tasks) (waitsM P.tasks) P.tasks.length (P.tasks.length + 1))) := by rw [HWL.out, if_pos he]; rfl
    have hlw : (ownWaits S).length = S.tasks.length := by simp [ownWaits]
    have HEQ : Hid (∀ a, a < S.tasks.length → wRounds (costT P.tasks) (waitsM P.tasks) P.tasks.length (P.tasks.length + 1) a = oRun (costT P.tasks) (ownWaits S) (ordIter (ownWaits S) S.tasks.length (S.tasks.length + 1)) a) := by
      unfold ownRing at hrg
      rw [hlw] at hrg
      have h1 : (ordIter (ownWaits S) S.tasks.length (S.tasks.length + 1)).length ≤ S.tasks.length := by rw [ordIter_len]; exact cnt_le _ _
      have h2 : (ordIter (ownWaits S) S.tasks.length (S.tasks.length + 1)).length = S.tasks.length := by
        have := of_decide_eq_false hrg; omega
      rw [← hl]
      exact weigh_same (good_iter _ _ _) (iter_full h2) (fun a b ha => waits_eq hS (by rw [← hl]; exact ha)) (ordIter_lt _ _ _) (by omega)
    have HS : Hid (Sim S P) := hS
    have HI : Hid (OInv S) := hinv
    have HL : Hid (S.tasks.length = P.tasks.length) := hl
    have HLW : Hid ((ownWaits S).length = S.tasks.length) := hlw
    have HEr : Hid (er = 0) := he
    clear hsim hring hrg hS hinv hl hlw he
    go_enter Tryd.func12, Tryd.ntmps12
    go_wp2_with fail
    refine HRD.out.mono ?_
    rintro e w1 ⟨h1, hb, h2⟩
    obtain ⟨aP, nP, qP, B, vT, cT, ab, vs, ls, rfl, hown, hcost, hfew, hlens, hrows, hls, _⟩ := h2 HEr.out
    clear h1 h2
    obtain ⟨aT, qT, hvT⟩ := owns_shape hown
    subst hvT
    simp only at hown hcost hfew hlens hrows hls hb
    have hbA := (Below.refl w1.heap.size w1).alloc (Nat.le_refl _) (.cells #[.slice aP nP qP, .slice aT S.tasks.length qT, .slice (some ⟨ab, 0, none⟩) S.tasks.length S.tasks.length] 49)
    have hWt : Wts w1 ab (ownWaits S) := NRows.wts hrows hls
    have hownA := hown.alloc (.cells #[.slice aP nP qP, .slice aT S.tasks.length qT, .slice (some ⟨ab, 0, none⟩) S.tasks.length S.tasks.length] 49)
    have hWO := own_WeightsOf _ aP nP qP B _ cT ab S.tasks.length (ownWaits S) (costT P.tasks) hownA (fun i hi => by
      have h3 := hcost i S.tasks[i] (List.getElem?_eq_getElem hi)
      have h4 : S.tasks[i].cost = costT P.tasks i := by
        have hi2 : i < P.tasks.length := by rw [← HL.out]; exact hi
        have h5 := congrArg (fun l => l[i]?) HS.out.tasks
        simp [hi, hi2] at h5
        unfold costT
        have : P.tasks.getD i ⟨[], ByteArray.empty, [], 0, 0, 0⟩ = P.tasks[i] := by simp [hi2]
        rw [this]; exact h5.2.2
      rw [h4] at h3; exact h3) hfew HC9.out HLW.out (hWt.below hbA) (HI.out.waits hlens)
    have HWO : Hid (Calls Tryd.prog 23 #[.agg #[.slice aP nP qP, .slice aT S.tasks.length qT, .slice (some ⟨ab, 0, none⟩) S.tasks.length S.tasks.length]] (w1.alloc (.cells #[.slice aP nP qP, .slice aT S.tasks.length qT, .slice (some ⟨ab, 0, none⟩) S.tasks.length S.tasks.length] 49))
      fun e w' => ∃ b, e = .returned (.slice (some ⟨b, 0, none⟩) S.tasks.length S.tasks.length) ∧ w'.rowIs b 3 S.tasks.length (fun i => .int .i64 (oRun (costT P.tasks) (ownWaits S) (ordIter (ownWaits S) S.tasks.length (S.tasks.length + 1)) i)) ∧ Below w.heap.size w w') := by
      refine hWO.mono ?_
      rintro e w' ⟨he, hr, hbb⟩
      exact ⟨_, he, hr, (hb.alloc hb.size _).trans (hbb.mono (by have := hb.size; simp; omega))⟩
    clear hWO hownA hbA hWt hcost hls hlens hown hrows
    go_wp2_with fail
    refine HWO.out.mono ?_
    rintro e w2 ⟨b, rfl, hrow, hb2⟩
    go_wp2
    go_ret2
    refine ⟨.slice (some ⟨b, 0, none⟩) S.tasks.length S.tasks.length, by rw [HEr.out]; rfl, ?_, hb2⟩
    rw [HE.out, ← HL.out]
    refine Ints.row (hrow.congr (fun i hi => ?_))
    have := HEQ.out i hi
    rw [← HL.out] at this
    rw [this]
  · have hb0 : ((er : Int) != 0) = true := by rw [bne_iff_ne]; omega
    have HE : Hid (WL = []) := by rw [HWL.out, if_neg he]; rfl
    have HER : Hid (er ≠ 0) := he
    clear hsim hring he HWL
    go_enter Tryd.func12, Tryd.ntmps12
    go_wp2_with fail
    refine HRD.out.mono ?_
    rintro e w1 ⟨h1, hb, h2⟩
    have h3 := h1 HER.out
    subst h3
    clear h1 h2
    go_wp2
    go_ret2
    refine ⟨.slice none 0 0, rfl, ?_, hb.alloc hb.size _⟩
    rw [HE.out]; exact ⟨_, _, rfl, Nat.le_refl _, .inl rfl⟩

set_option maxHeartbeats 1000000 in
theorem law_weighs (s : ByteArray) (w : World) (hV : Vars w) (hs : s.size ≤ maxLen) :
    Calls Tryd.prog 9 #[.string s] w fun e w' => ∃ v, e = .returned (.tuple #[v, .bool true]) ∧ (∃ a n c, v = .slice a n c) ∧ Below w.heap.size w w' := by
  have HO : Hid (Calls Tryd.prog 12 #[.string s] w fun e w' => ∃ v, e = .returned (.tuple #[v, .int .i64 (refRead s).2.2]) ∧ Ints w' v (weighL s) ∧ Below w.heap.size w w') := own_Weights s w hV hs
  have HR : Hid (∀ w, Calls Tryd.prog 17 #[.string s] w fun e w' => ∃ v, e = .returned (.tuple #[v, .int .i64 (refRead s).2.2]) ∧ Ints w' v (weighL s) ∧ Below w.heap.size w w' ∧ (weighL s).length ≤ 24) := fun w => ref_Weights s w hs
  obtain ⟨er, her⟩ : ∃ er, (refRead s).2.2 = er := ⟨_, rfl⟩
  rw [her] at HO HR
  clear her hV
  have h2 : ((er : Int) == er) = true := by simp
  go_enter Tryd.func9, Tryd.ntmps9
  go_wp2_with fail
  refine HO.out.mono ?_
  rintro e w1 ⟨v, rfl, hi1, hb1⟩
  obtain ⟨a, c, rfl, _, _⟩ := id hi1
  go_wp2_with fail
  refine (HR.out w1).mono ?_
  rintro e w2 ⟨v2, rfl, hi2, hb2, h24⟩
  obtain ⟨a2, c2, rfl, _, _⟩ := id hi2
  have HSI : Hid (Calls Tryd.prog 18 #[.slice a (weighL s).length c, .slice a2 (weighL s).length c2] w2 fun e w' => e = .returned (.bool true) ∧ Below w2.heap.size w2 w') := law_sameInts _ _ (weighL s) w2 (hi1.below hb2) hi2 (by omega)
  go_wp2_with fail
  refine HSI.out.mono ?_
  rintro e w3 ⟨rfl, hb3⟩
  have hbel := (hb1.trans (hb2.mono hb1.size)).trans (hb3.mono (by have := hb1.size; have := hb2.size; omega))
  clear hi1 hi2 hb1 hb2 hb3 HSI HO HR
  go_wp2_with fail
  refine (law_num er _).mono ?_
  rintro e w4 ⟨rfl, hw⟩
  subst hw
  go_wp2
  go_ret2
  exact ⟨_, rfl, ⟨_, _, _, rfl⟩, hbel⟩

theorem law_Weighs (s : ByteArray) (w : World) (hV : Vars w) (hs : s.size ≤ maxLen) :
    Calls Tryd.prog 4 #[.string s] w fun e w' => e = .returned (.bool true) ∧ Below w.heap.size w w' := by
  go_enter Tryd.func4, Tryd.ntmps4
  go_wp2_with fail
  refine (law_weighs s w hV hs).mono ?_
  rintro e w1 ⟨v, rfl, ⟨a, n, c, rfl⟩, hb⟩
  go_wp2
  go_ret
  exact ⟨rfl, hb⟩
end Go.Proofs.YtoabakgmjcnodaaDoor
