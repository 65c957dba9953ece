import Derived.Test.YtoabakgmjcnodaaDoorOwnI
namespace Go.Proofs.YtoabakgmjcnodaaDoor
open Go.ChangeShapes Go.WideShapes Go.ChangeAt Go.RowKit

/-- The words behind pool. -/
def ownPoolLine (S : OS) (ws : List ByteArray) : OS × Nat :=
  if ws.length = 2 ∧ nameB (ws.getD 0 ByteArray.empty).data.toList = true ∧ digN (ws.getD 1 ByteArray.empty).data.toList ≠ 0 then ownPool S (ws.getD 0 ByteArray.empty) (digN (ws.getD 1 ByteArray.empty).data.toList) else (S, 2)
/-- The words behind task. -/
def ownTaskLine (S : OS) (ws : List ByteArray) : OS × Nat := match ownTask ws with
  | none => (S, 2)
  | some t => ownAdd S t
/-- One more line. -/
def ownLine (S : OS) (s : ByteArray) : OS × Nat :=
  if isNote s = true then (S, 0)
  else if isPool ((wordsOf s).getD 0 ByteArray.empty) = true then ownPoolLine S ((wordsOf s).drop 1)
  else if isTask ((wordsOf s).getD 0 ByteArray.empty) = false then (S, 2)
  else ownTaskLine S ((wordsOf s).drop 1)
theorem ownLine_eq (S : OS) {s : ByteArray} {L : List ByteArray} {x : ByteArray} (h : isNote s = false) (hL : wordsOf s = L) (hx : L.getD 0 ByteArray.empty = x) :
    ownLine S s = if isPool x = true then ownPoolLine S (L.drop 1) else if isTask x = false then (S, 2) else ownTaskLine S (L.drop 1) := by
  unfold ownLine; rw [if_neg (by rw [h]; simp), hL, hx]
theorem ownFin_mem {outs rest : List ByteArray} {o : Opt} {t : OT} (h : ownFin outs rest o = some t) : t.outs = outs ∧ t.ins = rest.drop 1 := by
  unfold ownFin at h
  split at h
  · injection h with h; subst h; exact ⟨rfl, rfl⟩
  · cases h
theorem ownTask_mem {ws : List ByteArray} {t : OT} (h : ownTask ws = some t) : t.outs.length ≤ ws.length ∧ t.ins.length ≤ ws.length ∧ (∀ x ∈ t.outs, x ∈ ws) ∧ (∀ x ∈ t.ins, x ∈ ws) := by
  unfold ownTask at h
  split at h
  · cases h
  · unfold ownRest at h
    split at h
    · obtain ⟨h1, h2⟩ := ownFin_mem h
      rw [h1, h2]
      refine ⟨by rw [List.length_take]; omega, by rw [List.length_drop, List.length_drop]; omega, fun x hx => List.mem_of_mem_take hx, fun x hx => List.mem_of_mem_drop (List.mem_of_mem_drop hx)⟩
    · rw [Option.bind_eq_some_iff] at h
      obtain ⟨o, _, h⟩ := h
      obtain ⟨h1, h2⟩ := ownFin_mem h
      rw [h1, h2]
      refine ⟨by rw [List.length_take]; omega, by rw [List.length_drop, List.length_take, List.length_drop]; omega, fun x hx => List.mem_of_mem_take hx, fun x hx => List.mem_of_mem_drop (List.mem_of_mem_take (List.mem_of_mem_drop hx))⟩

set_option maxRecDepth 10000 in
set_option maxHeartbeats 4000000 in
theorem take_pool (s : ByteArray) (w : World) (rb mb : Nat) (M : Nat → Prop) (S : OS) (vP vT : Value) (cP cT : List Value) (D : DataW Unit) (R : OPlan w rb mb M S vP vT cP cT D) (HV : Hid (Vars w)) (_hs : s.size ≤ 2000) (_HCL : Hid (S.claims.length ≤ 900000))
    (L : List ByteArray) (x0 : ByteArray) (RT : OS × Nat) (HNT : Hid (isNote s = false)) (hwp : 0 < L.length) (_hwl : L.length ≤ s.size + 1) (_hws : ∀ x ∈ L, x.size ≤ s.size) (HX0 : Hid (L[0] = x0)) (HF1 : Hid (∀ x ∈ L.drop 1, x.size ≤ maxLen)) (HN3 : Hid ((L.drop 1).length ≤ 3000)) (hl1 : (1 : Int) ≤ (L.length : Int))
    (HSW : Hid (Calls Tryd.prog 38 #[.string s] w fun e w' => e = .returned (.slice (some ⟨w.heap.size, 0, none⟩) L.length L.length) ∧ w' = w.alloc (.cells (L.map Value.string).toArray 9)))
    (hb : (x0.toList == [112, 111, 111, 108]) = true) (HR2 : Hid (ownPoolLine S (L.drop 1) = RT)) :
    Calls Tryd.prog 26 #[.pointer (some ⟨rb, 0, none⟩), .string s] w fun e w' => e = .returned (.int .i64 RT.2) ∧ OPost w w' rb mb M RT.1 := by
  go_enter Tryd.func26, Tryd.ntmps26
  go_wp2_with fail
  refine (own_saysNothing s _).mono ?_
  rintro e w1 ⟨rfl, hw⟩
  rw [HNT.out]
  subst hw
  go_wp2_with fail
  refine HSW.out.mono ?_
  rintro e w2 ⟨rfl, hw⟩
  have hbA := (Below.refl w1.heap.size w1).alloc (Nat.le_refl _) (.cells (L.map Value.string).toArray 9)
  have hgW := heap_alloc_new w1 (.cells (L.map Value.string).toArray 9)
  have hsW : Strs (w1.alloc (.cells (L.map Value.string).toArray 9)) (.slice (some ⟨w1.heap.size, 0, none⟩) L.length L.length) L := strs_words L
  rw [← hw] at hbA hgW hsW
  clear hw
  have hgl := blk_lt hgW
  obtain ⟨b0, o0, h0, hc0⟩ := strs_at hsW hwp
  injection h0 with h0; injection h0 with h0 h3
  subst h0 h3
  rw [HX0.out, Nat.add_zero] at hc0
  obtain ⟨cb, hcb⟩ : ∃ cb, decide ((L.drop 1).length = 2 ∧ nameB ((L.drop 1).getD 0 ByteArray.empty).data.toList = true ∧ digN ((L.drop 1).getD 1 ByteArray.empty).data.toList ≠ 0) = cb := ⟨_, rfl⟩
  have HC : Hid (decide ((L.drop 1).length = 2 ∧ nameB ((L.drop 1).getD 0 ByteArray.empty).data.toList = true ∧ digN ((L.drop 1).getD 1 ByteArray.empty).data.toList ≠ 0) = cb) := hcb
  clear hcb
  by_cases hcw1 : L.length = 1
  · have h1 : L.drop 1 = [] := List.eq_nil_of_length_eq_zero (by rw [List.length_drop]; omega)
    have HE : Hid (RT = (S, 2)) := by rw [← HR2.out, h1]; rfl
    have HRP : Hid (Calls Tryd.prog 39 #[.slice (some ⟨w1.heap.size, 0, none⟩) 0 0] w2 fun e w' => ∃ x n, e = .returned (.tuple #[.agg #[.string x, .int .i64 (n : Nat)], .bool false]) ∧ Below w2.heap.size w2 w') := by
      refine (own_readPool _ [] w2 ⟨_, _, rfl, Nat.le_refl _, .inl rfl⟩ (by simp) (fun x hx => by simp at hx)).mono ?_
      rintro e w' ⟨x, n, rfl, _, hb⟩
      exact ⟨x, n, rfl, hb⟩
    clear h1 HR2 HC
    go_wp2_with fail
    refine HRP.out.mono ?_
    rintro e w3 ⟨x, n, rfl, hb3⟩
    have hb3s := hb3.size
    have hbB := hbA.trans (hb3.mono hbA.size)
    go_wp2
    go_ret
    rw [HE.out]
    exact ⟨ret_int rfl, OPost.none R (hbB.alloc (by omega) _)⟩
  · have hst : Strs w2 (.slice (some ⟨w1.heap.size, 1, none⟩) (L.length - 1) (L.length - 1)) (L.drop 1) := by
      have := strs_tail hsW hcw1
      rwa [Nat.zero_add] at this
    have HRP : Hid (Calls Tryd.prog 39 #[.slice (some ⟨w1.heap.size, 1, none⟩) (L.length - 1) (L.length - 1)] w2 fun e w' => ∃ x n, e = .returned (.tuple #[.agg #[.string x, .int .i64 (n : Nat)], .bool (decide ((L.drop 1).length = 2 ∧ nameB ((L.drop 1).getD 0 ByteArray.empty).data.toList = true ∧ digN ((L.drop 1).getD 1 ByteArray.empty).data.toList ≠ 0))]) ∧
          ((L.drop 1).length = 2 ∧ nameB ((L.drop 1).getD 0 ByteArray.empty).data.toList = true → x = (L.drop 1).getD 0 ByteArray.empty ∧ n = digN ((L.drop 1).getD 1 ByteArray.empty).data.toList) ∧ Below w2.heap.size w2 w') := own_readPool _ (L.drop 1) w2 hst HN3.out HF1.out
    clear hst
    go_wp2_with fail
    refine HRP.out.mono ?_
    rintro e w3 ⟨x, n, rfl, hxn, hb3⟩
    rw [HC.out]
    have hb3s := hb3.size
    have hbB := hbA.trans (hb3.mono hbA.size)
    have hbC := hbB.alloc (by omega) (.cells #[.string x, .int .i64 n] 86)
    by_cases hok : (L.drop 1).length = 2 ∧ nameB ((L.drop 1).getD 0 ByteArray.empty).data.toList = true ∧ digN ((L.drop 1).getD 1 ByteArray.empty).data.toList ≠ 0
    · obtain ⟨hx1, hn1⟩ := hxn ⟨hok.1, hok.2.1⟩
      have HE : Hid (RT = ownPool S x n) := by rw [← HR2.out, hx1, hn1]; simp only [Hid, ownPoolLine]; rw [if_pos hok]
      have hcb : cb = true := by rw [← HC.out]; exact decide_eq_true hok
      have hcall : Hid (Calls Tryd.prog 40 #[.pointer (some ⟨rb, 0, none⟩), .agg #[.string x, .int .i64 n]] (w3.alloc (.cells #[.string x, .int .i64 n] 86)) fun e w' => e = .returned (.int .i64 (ownPool S x n).2) ∧ OPost (w3.alloc (.cells #[.string x, .int .i64 n] 86)) w' rb mb M (ownPool S x n).1) :=
        own_addPool _ rb mb M S vP vT cP cT D (R.same hbC) x n
      subst hcb
      clear hxn hok hx1 hn1 HR2 HC
      go_wp2_with fail
      refine hcall.out.mono ?_
      rintro e w4 ⟨rfl, hp4⟩
      go_wp2
      go_ret
      rw [HE.out]
      exact ⟨rfl, OPost.after hbC hp4⟩
    · have HE : Hid (RT = (S, 2)) := by rw [← HR2.out]; simp only [Hid, ownPoolLine]; rw [if_neg hok]
      have hcb : cb = false := by rw [← HC.out]; exact decide_eq_false hok
      subst hcb
      clear hxn hok HR2 HC
      go_wp2
      go_ret
      rw [HE.out]
      exact ⟨ret_int rfl, OPost.none R hbC⟩
set_option maxRecDepth 10000 in
set_option maxHeartbeats 4000000 in
theorem take_task (s : ByteArray) (w : World) (rb mb : Nat) (M : Nat → Prop) (S : OS) (vP vT : Value) (cP cT : List Value) (D : DataW Unit) (R : OPlan w rb mb M S vP vT cP cT D) (HV : Hid (Vars w)) (hs : s.size ≤ 2000) (HCL : Hid (S.claims.length ≤ 900000))
    (L : List ByteArray) (x0 : ByteArray) (RT : OS × Nat) (HNT : Hid (isNote s = false)) (hwp : 0 < L.length) (hwl : L.length ≤ s.size + 1) (hws : ∀ x ∈ L, x.size ≤ s.size) (HX0 : Hid (L[0] = x0)) (HF1 : Hid (∀ x ∈ L.drop 1, x.size ≤ maxLen)) (HN3 : Hid ((L.drop 1).length ≤ 3000)) (hl1 : (1 : Int) ≤ (L.length : Int))
    (HSW : Hid (Calls Tryd.prog 38 #[.string s] w fun e w' => e = .returned (.slice (some ⟨w.heap.size, 0, none⟩) L.length L.length) ∧ w' = w.alloc (.cells (L.map Value.string).toArray 9)))
    (hb : (x0.toList == [112, 111, 111, 108]) = false) (hb2 : (x0.toList == [116, 97, 115, 107]) = true) (HR2 : Hid (ownTaskLine S (L.drop 1) = RT)) :
    Calls Tryd.prog 26 #[.pointer (some ⟨rb, 0, none⟩), .string s] w fun e w' => e = .returned (.int .i64 RT.2) ∧ OPost w w' rb mb M RT.1 := by
  go_enter Tryd.func26, Tryd.ntmps26
  go_wp2_with fail
  refine (own_saysNothing s _).mono ?_
  rintro e w1 ⟨rfl, hw⟩
  rw [HNT.out]
  subst hw
  go_wp2_with fail
  refine HSW.out.mono ?_
  rintro e w2 ⟨rfl, hw⟩
  have hbA := (Below.refl w1.heap.size w1).alloc (Nat.le_refl _) (.cells (L.map Value.string).toArray 9)
  have hgW := heap_alloc_new w1 (.cells (L.map Value.string).toArray 9)
  have hsW : Strs (w1.alloc (.cells (L.map Value.string).toArray 9)) (.slice (some ⟨w1.heap.size, 0, none⟩) L.length L.length) L := strs_words L
  rw [← hw] at hbA hgW hsW
  clear hw
  have hgl := blk_lt hgW
  obtain ⟨b0, o0, h0, hc0⟩ := strs_at hsW hwp
  injection h0 with h0; injection h0 with h0 h3
  subst h0 h3
  rw [HX0.out, Nat.add_zero] at hc0
  by_cases hcw1 : L.length = 1
  · have h1 : L.drop 1 = [] := List.eq_nil_of_length_eq_zero (by rw [List.length_drop]; omega)
    have HE : Hid (RT = (S, 2)) := by rw [← HR2.out, h1]; rfl
    have HRP : Hid (Calls Tryd.prog 41 #[.slice (some ⟨w1.heap.size, 0, none⟩) 0 0] w2 fun e w' => e = .returned (.tuple #[.agg #[.slice none 0 0, .slice none 0 0, .string ⟨#[]⟩, .int .i64 0, .int .i64 0, .string ⟨#[]⟩], .bool false]) ∧ Below w2.heap.size w2 w') :=
      own_readTask _ [] w2 ⟨_, _, rfl, Nat.le_refl _, .inl rfl⟩ (by simp) (fun x hx => by simp at hx)
    clear h1 HR2
    go_wp2_with fail
    refine HRP.out.mono ?_
    rintro e w3 ⟨rfl, hb3⟩
    have hb3s := hb3.size
    have hbB := hbA.trans (hb3.mono hbA.size)
    go_wp2
    go_ret
    rw [HE.out]
    exact ⟨ret_int rfl, OPost.none R (hbB.alloc (by omega) _)⟩
  · have hst : Strs w2 (.slice (some ⟨w1.heap.size, 1, none⟩) (L.length - 1) (L.length - 1)) (L.drop 1) := by
      have := strs_tail hsW hcw1
      rwa [Nat.zero_add] at this
    have HST : Hid (Strs w2 (.slice (some ⟨w1.heap.size, 1, none⟩) (L.length - 1) (L.length - 1)) (L.drop 1)) := hst
    clear hst
    have hRT2 := own_readTask (some ⟨w1.heap.size, 1, none⟩) (L.drop 1) w2 (by rw [List.length_drop]; exact HST.out) HN3.out HF1.out
    rw [List.length_drop] at hRT2
    have HRT2 : Hid (Calls Tryd.prog 41 #[.slice (some ⟨w1.heap.size, 1, none⟩) (L.length - 1) (L.length - 1)] w2 fun e w' => RTPost w2 w' e (.slice (some ⟨w1.heap.size, 1, none⟩) (L.length - 1) (L.length - 1)) (ownTask (L.drop 1))) := hRT2
    clear hRT2
    go_wp2_with fail
    refine HRT2.out.mono ?_
    intro e w3 hpost
    cases hot : ownTask (L.drop 1) with
    | none =>
      have HE : Hid (RT = (S, 2)) := by rw [← HR2.out]; simp only [Hid, ownTaskLine, hot]
      rw [hot] at hpost
      obtain ⟨rfl, hb3⟩ := hpost
      have hb3s := hb3.size
      have hbB := hbA.trans (hb3.mono hbA.size)
      clear HR2 hot
      go_wp2
      go_ret
      rw [HE.out]
      exact ⟨ret_int rfl, OPost.none R (hbB.alloc (by omega) _)⟩
    | some t =>
      have HE : Hid (RT = ownAdd S t) := by rw [← HR2.out]; simp only [Hid, ownTaskLine, hot]
      rw [hot] at hpost
      obtain ⟨vO, vI, rfl, sO, sI, kO, kI, hb3⟩ := hpost
      obtain ⟨m1, m2, m3, m4⟩ := ownTask_mem hot
      have hb3s := hb3.size
      have hbB := hbA.trans (hb3.mono hbA.size)
      have hLd : (L.drop 1).length ≤ L.length := by rw [List.length_drop]; omega
      have hbC := hbB.alloc (by omega) (.cells #[vO, vI, .string t.act, .int .i64 t.cost, .int .i64 t.jobs, .string t.pool] 80)
      have hb1 := (Below.refl w3.heap.size w3).alloc (Nat.le_refl _) (.cells #[vO, vI, .string t.act, .int .i64 t.cost, .int .i64 t.jobs, .string t.pool] 80)
      have hcall : Hid (Calls Tryd.prog 42 #[.pointer (some ⟨rb, 0, none⟩), .agg #[vO, vI, .string t.act, .int .i64 t.cost, .int .i64 t.jobs, .string t.pool]] (w3.alloc (.cells #[vO, vI, .string t.act, .int .i64 t.cost, .int .i64 t.jobs, .string t.pool] 80)) fun e w' => e = .returned (.int .i64 (ownAdd S t).2) ∧ OPost (w3.alloc (.cells #[vO, vI, .string t.act, .int .i64 t.cost, .int .i64 t.jobs, .string t.pool] 80)) w' rb mb M (ownAdd S t).1) := by
        refine own_addTask _ rb mb M S vP vT cP cT D (R.same hbC) (HV.out.below hbC HV.out.two) t vO vI (sO.below hb1) (sI.below hb1) ?_ ?_ (by omega) (by omega) ?_ ?_ HCL.out
        · intro k hk
          have h1 := kO k hk
          simp [Value.ownBlock] at h1
          exact ⟨fun h => by have := R.old k h; omega, by simp; omega⟩
        · intro k hk
          have h1 := kI k hk
          simp [Value.ownBlock] at h1
          exact ⟨fun h => by have := R.old k h; omega, by simp; omega⟩
        · intro x hx; have := hws x (List.mem_of_mem_drop (m3 x hx)); omega
        · intro x hx; have := hws x (List.mem_of_mem_drop (m4 x hx)); omega
      obtain ⟨aO, cO, rfl, _, _⟩ := id sO
      obtain ⟨aI, cI, rfl, _, _⟩ := id sI
      clear HR2 hot kO kI m3 m4 sO sI hb1
      go_wp2_with fail
      refine hcall.out.mono ?_
      rintro e w4 ⟨rfl, hp4⟩
      go_wp2
      go_ret
      rw [HE.out]
      exact ⟨rfl, OPost.after hbC hp4⟩
set_option maxRecDepth 10000 in
set_option maxHeartbeats 4000000 in
theorem own_takeLine (s : ByteArray) (w : World) (rb mb : Nat) (M : Nat → Prop) (S : OS) (vP vT : Value) (cP cT : List Value) (D : DataW Unit) (R : OPlan w rb mb M S vP vT cP cT D) (hV : Vars w) (hs : s.size ≤ 2000) (hcl : S.claims.length ≤ 900000) :
    Calls Tryd.prog 26 #[.pointer (some ⟨rb, 0, none⟩), .string s] w fun e w' => e = .returned (.int .i64 (ownLine S s).2) ∧ OPost w w' rb mb M (ownLine S s).1 := by
  have HV : Hid (Vars w) := hV
  have HCL : Hid (S.claims.length ≤ 900000) := hcl
  obtain ⟨m, hm⟩ := hV.maxLen
  have hsw := own_splitWords s m w hs hm
  clear hV hcl hm
  obtain ⟨RT, hRT⟩ : ∃ RT, ownLine S s = RT := ⟨_, rfl⟩
  rw [hRT]
  have HR : Hid (ownLine S s = RT) := hRT
  clear hRT
  obtain ⟨nt, hnt⟩ : ∃ nt, isNote s = nt := ⟨_, rfl⟩
  have HNT : Hid (isNote s = nt) := hnt
  cases nt
  · have hwp := words_pos s
    have hwl := words_le s
    have hws := words_size s
    obtain ⟨L, hL⟩ : ∃ L, wordsOf s = L := ⟨_, rfl⟩
    have HL : Hid (wordsOf s = L) := hL
    rw [hL] at hsw hwp hwl hws
    have HSW : Hid (Calls Tryd.prog 38 #[.string s] w fun e w' => e = .returned (.slice (some ⟨w.heap.size, 0, none⟩) L.length L.length) ∧ w' = w.alloc (.cells (L.map Value.string).toArray 9)) := hsw
    clear hsw hL hnt
    obtain ⟨x0, hx0⟩ : ∃ x, L[0] = x := ⟨_, rfl⟩
    have HX0 : Hid (L[0] = x0) := hx0
    have HG0 : Hid (L.getD 0 ByteArray.empty = x0) := by rw [← hx0]; simp [Hid, hwp]
    clear hx0
    have hsz1 : ∀ x ∈ L.drop 1, x.size ≤ maxLen := fun x hx => by have := hws x (List.mem_of_mem_drop hx); unfold maxLen; omega
    have HF1 : Hid (∀ x ∈ L.drop 1, x.size ≤ maxLen) := hsz1
    have HN3 : Hid ((L.drop 1).length ≤ 3000) := by show (L.drop 1).length ≤ 3000; rw [List.length_drop]; omega
    have hl1 : (1 : Int) ≤ (L.length : Int) := by omega
    clear hsz1
    by_cases hp : isPool x0 = true
    · have hb : (x0.toList == [112, 111, 111, 108]) = true := hp
      have HR2 : Hid (ownPoolLine S (L.drop 1) = RT) := by
        have := HR.out; rw [ownLine_eq S HNT.out HL.out HG0.out] at this; simpa [Hid, hp] using this
      clear HR hp
      exact take_pool s w rb mb M S vP vT cP cT D R HV hs HCL L x0 RT HNT hwp hwl hws HX0 HF1 HN3 hl1 HSW hb HR2
    · have hb : (x0.toList == [112, 111, 111, 108]) = false := strNe _ _ hp
      by_cases ht : isTask x0 = true
      · have hb2 : (x0.toList == [116, 97, 115, 107]) = true := ht
        have HR2 : Hid (ownTaskLine S (L.drop 1) = RT) := by
          have := HR.out; rw [ownLine_eq S HNT.out HL.out HG0.out] at this; simpa [Hid, hp, ht] using this
        clear HR hp ht
        exact take_task s w rb mb M S vP vT cP cT D R HV hs HCL L x0 RT HNT hwp hwl hws HX0 HF1 HN3 hl1 HSW hb hb2 HR2
      · have hb2 : (x0.toList == [116, 97, 115, 107]) = false := strNe _ _ ht
        have HE : Hid (RT = (S, 2)) := by rw [← HR.out, ownLine_eq S HNT.out HL.out HG0.out]; simp [Hid, hp, ht]
        clear HR hp ht
        go_enter Tryd.func26, Tryd.ntmps26
        go_wp2_with fail
        refine (own_saysNothing s _).mono ?_
        rintro e w1 ⟨rfl, hw⟩
        rw [HNT.out]
        subst hw
        go_wp2_with fail
        refine HSW.out.mono ?_
        rintro e w2 ⟨rfl, hw⟩
        have hbA := (Below.refl w1.heap.size w1).alloc (Nat.le_refl _) (.cells (L.map Value.string).toArray 9)
        have hgW := heap_alloc_new w1 (.cells (L.map Value.string).toArray 9)
        have hsW : Strs (w1.alloc (.cells (L.map Value.string).toArray 9)) (.slice (some ⟨w1.heap.size, 0, none⟩) L.length L.length) L := strs_words L
        rw [← hw] at hbA hgW hsW
        clear hw
        have hgl := blk_lt hgW
        obtain ⟨b0, o0, h0, hc0⟩ := strs_at hsW hwp
        injection h0 with h0; injection h0 with h0 h3
        subst h0 h3
        rw [HX0.out, Nat.add_zero] at hc0
        go_wp2
        go_ret
        rw [HE.out]
        exact ⟨ret_int rfl, OPost.none R hbA⟩
  · have HE : Hid (RT = (S, 0)) := by rw [← HR.out]; simp [Hid, ownLine, hnt]
    clear HR hnt
    go_enter Tryd.func26, Tryd.ntmps26
    go_wp2_with (go_at_call 37; refine (own_saysNothing s _).mono ?_; rintro e w1 ⟨rfl, hw⟩; rw [HNT.out]; subst hw)
    go_ret
    rw [HE.out]
    exact ⟨ret_int rfl, OPost.none R (Below.refl _ _)⟩
end Go.Proofs.YtoabakgmjcnodaaDoor
