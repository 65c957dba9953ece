import Derived.Test.YtoabakgmjcnodaaDoorOwnC
namespace Go.Proofs.YtoabakgmjcnodaaDoor
open Go.ChangeShapes Go.WideShapes Go.ChangeAt Go.RowKit

theorem idx_place (ss : List ByteArray) (x : ByteArray) : Lib.idxOfS ss x = placeI ss x := by
  have hb : ∀ a b : ByteArray, (a.toList == b.toList) = true ↔ a = b := by
    intro a b
    rw [beq_iff_eq, ByteArray.toList_eq, ByteArray.toList_eq]
    exact ⟨WideShapes.bytes_inj, fun h => by rw [h]⟩
  unfold placeI
  cases h : ss.findIdx? (fun y => y.toList == x.toList) with
  | some k =>
    rw [List.findIdx?_eq_some_iff_getElem] at h
    obtain ⟨hk, h1, h2⟩ := h
    have := Lib.idxOfS_hit ss ss.length k x hk (Nat.le_refl _) (by simp [hk]; exact (hb _ _).1 h1) (fun j hj e => by
      have h3 := h2 j hj
      simp only [List.getD_eq_getElem?_getD, List.getElem?_eq_getElem (show j < ss.length by omega), Option.getD_some] at e
      rw [e] at h3; simp at h3)
    rwa [List.take_length] at this
  | none =>
    rw [List.findIdx?_eq_none_iff] at h
    have := Lib.idxOfS_miss ss ss.length x (fun j hj e => by
      have h3 := h ss[j] (List.getElem_mem hj)
      simp only [List.getD_eq_getElem?_getD, List.getElem?_eq_getElem hj, Option.getD_some] at e
      rw [e] at h3; simp at h3)
    rwa [List.take_length] at this

theorem own_Index (v : Value) (ss : List ByteArray) (x : ByteArray) (w : World) (hv : Strs w v ss) (hn : ss.length ≤ 4000) :
    Calls Tryd.prog 57 #[v, .string x] w fun e w' => e = .returned (.int .i64 (placeI ss x)) ∧ w' = w := by
  rw [← idx_place]
  obtain ⟨a, c, rfl, _, h | ⟨b, off, rfl, hc⟩⟩ := hv
  · subst h; exact Tryd.slices_Index_string_empty a c x w
  · have h := Tryd.slices_Index_string b off ss.length c ss x w (Nat.le_refl _) (by omega) (fun j hj => by rw [hc j hj]; simp [hj])
    rwa [List.take_length] at h
theorem place_bd (ss : List ByteArray) (x : ByteArray) : -1 ≤ placeI ss x ∧ placeI ss x < ss.length := by
  unfold placeI
  cases h : ss.findIdx? (fun y => y.toList == x.toList) with
  | some k =>
    rw [List.findIdx?_eq_some_iff_getElem] at h
    obtain ⟨hk, _⟩ := h
    simp only; omega
  | none => simp only; omega

set_option maxHeartbeats 1000000 in
theorem own_fillDefaults (tb : Nat) (o i a p : Value) (cost jobs : Nat) (w : World) (hb : w.heap[tb]? = some (.cells #[o, i, a, .int .i64 cost, .int .i64 jobs, p] 80 (0, 0))) :
    Calls Tryd.prog 60 #[.pointer (some ⟨tb, 0, none⟩)] w fun e w' => e = .returned (.tuple #[]) ∧ Same (fun k => k = tb) w w' ∧
      w'.heap[tb]? = some (.cells #[o, i, a, .int .i64 (max cost 1 : Nat), .int .i64 (max jobs 1 : Nat), p] 80 (0, 0)) := by
  obtain ⟨c0, c1, c2, c3, c4, c5, cf⟩ := six hb
  go_enter Tryd.func60, Tryd.ntmps60
  go_wp2
  go_end0
  refine ⟨rfl, (same_one _ _ _ _).trans (same_one _ _ _ _), ?_⟩
  refine (blk_set (blk_set hb rfl) ?_)
  simp
  omega

/-- A task as the program keeps it. -/
structure OT where
  outs : List ByteArray
  act : ByteArray
  ins : List ByteArray
  cost : Nat
  jobs : Nat
  pool : ByteArray
def eqS : ByteArray := ⟨#[61]⟩
def barS : ByteArray := ⟨#[124]⟩
def ownFin (outs rest : List ByteArray) (t : Opt) : Option OT :=
  if namesB outs = true ∧ namesB rest = true then some ⟨outs, rest.getD 0 ByteArray.empty, rest.drop 1, max t.cost 1, max t.jobs 1, t.pool⟩ else none
def ownRest (outs rest : List ByteArray) : Option OT :=
  if placeI rest barS < 0 then ownFin outs rest opt0
  else (optAll (rest.drop ((placeI rest barS).toNat + 1))).bind fun t => ownFin outs (rest.take (placeI rest barS).toNat) t
def ownTask (ws : List ByteArray) : Option OT :=
  if placeI ws eqS < 0 then none else ownRest (ws.take (placeI ws eqS).toNat) (ws.drop ((placeI ws eqS).toNat + 1))

/-- What readTask leaves. -/
def RTPost (w w1 : World) (e : Ending) (v : Value) (r : Option OT) : Prop := match r with
  | none => e = .returned (.tuple #[.agg #[.slice none 0 0, .slice none 0 0, .string ⟨#[]⟩, .int .i64 0, .int .i64 0, .string ⟨#[]⟩], .bool false]) ∧ Below w.heap.size w w1
  | some t => ∃ vO vI, e = .returned (.tuple #[.agg #[vO, vI, .string t.act, .int .i64 t.cost, .int .i64 t.jobs, .string t.pool], .bool true]) ∧ Strs w1 vO t.outs ∧ Strs w1 vI t.ins ∧
      (∀ k, vO.ownBlock = some k → v.ownBlock = some k) ∧ (∀ k, vI.ownBlock = some k → v.ownBlock = some k) ∧ Below w.heap.size w w1


def zT : Obj := .cells #[.slice none 0 0, .slice none 0 0, .string ⟨#[]⟩, .int .i64 0, .int .i64 0, .string ⟨#[]⟩] 80
theorem two_allocs (w : World) (n : Nat) : (((w.alloc zT).drewN n).alloc zT).heap[w.heap.size + 1]? = some zT ∧ (((w.alloc zT).drewN n).alloc zT).heap[w.heap.size]? = some zT ∧ Below w.heap.size w (((w.alloc zT).drewN n).alloc zT) :=
  ⟨heap_alloc2_new w zT zT, heap_alloc2_old w zT zT, (below_drewN ((Below.refl _ _).alloc (Nat.le_refl _) _) n).alloc (by simp) _⟩
theorem strs_tail {w : World} {b off c : Nat} {ss : List ByteArray} (h : Strs w (.slice (some ⟨b, off, none⟩) ss.length c) ss) (_hn : ss.length ≠ 1) : Strs w (.slice (some ⟨b, off + 1, none⟩) (ss.length - 1) (c - 1)) (ss.drop 1) := by
  obtain ⟨a, c1, e, hle, _⟩ := id h
  injection e with e1 e2 e3
  subst e3
  refine ⟨_, _, by rw [List.length_drop], by rw [List.length_drop]; omega, ?_⟩
  by_cases h0 : ss.length = 0
  · left; rw [List.eq_nil_of_length_eq_zero h0]; rfl
  · refine .inr ⟨b, off + 1, rfl, fun i hi => ?_⟩
    rw [List.length_drop] at hi
    obtain ⟨b1, o1, h1, h2⟩ := strs_at h (show 1 + i < ss.length by omega)
    injection h1 with h1; injection h1 with h1 h3
    subst h1 h3
    rw [List.getElem_drop, Nat.add_assoc]; exact h2
theorem store3 {W : World} {tb : Nat} {a0 a1 a2 a3 a4 a5 : Value} {t : TypeId} (h : W.heap[tb]? = some (.cells #[a0, a1, a2, a3, a4, a5] t (0, 0))) (x y z : Value) :
    (((W.setCell ⟨tb, 0, none⟩ x).setCell ⟨tb, 2, none⟩ y).setCell ⟨tb, 1, none⟩ z).heap[tb]? = some (.cells #[x, z, y, a3, a4, a5] t (0, 0)) := blk_set (blk_set (blk_set h rfl) rfl) rfl
theorem ownTask_some {ws : List ByteArray} {k : Nat} (h : placeI ws eqS = k) : ownTask ws = ownRest (ws.take k) (ws.drop (k + 1)) := by
  unfold ownTask; rw [h, if_neg (by omega)]; rfl
theorem ownRest_no {outs rest : List ByteArray} (h : placeI rest barS < 0) : ownRest outs rest = ownFin outs rest opt0 := by
  unfold ownRest; rw [if_pos h]
theorem ownRest_yes {outs rest : List ByteArray} {p : Nat} (h : placeI rest barS = p) : ownRest outs rest = (optAll (rest.drop (p + 1))).bind fun t => ownFin outs (rest.take p) t := by
  unfold ownRest; rw [h, if_neg (by omega)]; rfl

set_option maxRecDepth 10000 in
set_option maxHeartbeats 4000000 in
theorem own_readTask (a : Option Addr) (ws : List ByteArray) (w : World) (hv : Strs w (.slice a ws.length ws.length) ws) (hn : ws.length ≤ 3000) (hsz : ∀ s ∈ ws, s.size ≤ maxLen) :
    Calls Tryd.prog 41 #[.slice a ws.length ws.length] w fun e w' => RTPost w w' e (.slice a ws.length ws.length) (ownTask ws) := by
  obtain ⟨RT, hRT⟩ : ∃ RT, ownTask ws = RT := ⟨_, rfl⟩
  rw [hRT]
  have HR : Hid (ownTask ws = RT) := hRT
  clear hRT
  have hbd := place_bd ws eqS
  have hb0 := (Below.refl w.heap.size w).alloc (Nat.le_refl _) (.cells #[.slice none 0 0, .slice none 0 0, .string ⟨#[]⟩, .int .i64 0, .int .i64 0, .string ⟨#[]⟩] 80)
  have HC1 := own_Index _ ws eqS _ (hv.below hb0) (by omega)
  obtain ⟨e, he⟩ : ∃ e, placeI ws eqS = e := ⟨_, rfl⟩
  rw [he] at HC1 hbd
  have HE1 : Hid (placeI ws eqS = e) := he
  clear he
  have HC : Hid (Calls Tryd.prog 57 #[.slice a ws.length ws.length, .string ⟨#[61]⟩] (w.alloc (.cells #[.slice none 0 0, .slice none 0 0, .string ⟨#[]⟩, .int .i64 0, .int .i64 0, .string ⟨#[]⟩] 80)) fun e1 w' => e1 = .returned (.int .i64 e) ∧ w' = (w.alloc (.cells #[.slice none 0 0, .slice none 0 0, .string ⟨#[]⟩, .int .i64 0, .int .i64 0, .string ⟨#[]⟩] 80))) := HC1
  clear HC1
  by_cases hneg : e < 0
  · have HE : Hid (RT = none) := by rw [← HR.out]; simp [Hid, ownTask, HE1.out, hneg]
    clear HR
    go_enter Tryd.func41, Tryd.ntmps41
    go_wp2_with (go_at_call 57; refine HC.out.mono ?_; rintro e1 w1 ⟨rfl, hw⟩; subst hw)
    exact bodyPost_ret (v := .tuple #[.agg #[.slice none 0 0, .slice none 0 0, .string ⟨#[]⟩, .int .i64 0, .int .i64 0, .string ⟨#[]⟩], .bool false]) (by simp [results, Tryd.results41, go_sem, World.cell?_alloc_at]) rfl (by rw [HE.out]; exact ⟨rfl, hb0⟩)
  · obtain ⟨k, rfl⟩ : ∃ k : Nat, e = k := ⟨e.toNat, by omega⟩
    have hkl : k < ws.length := by omega
    have hkI : (k : Int) ≤ (ws.length : Int) := by omega
    have hkI1 : (k : Int) + 1 ≤ (ws.length : Int) := by omega
    have hw1 : IntKind.i64.wrap ((k : Int) + 1) = (k : Int) + 1 := IntWalk.i64_in _ (by omega)
    have ht1 : ((k : Int) + 1).toNat = k + 1 := by omega
    have hge : (0 : Int) ≤ (k : Int) + 1 := by omega
    have HR2 : Hid (ownRest (ws.take k) (ws.drop (k + 1)) = RT) := by rw [← ownTask_some HE1.out]; exact HR.out
    clear HR hneg hbd
    obtain ⟨b, off, hx, _⟩ := strs_at hv hkl
    subst hx
    go_enter Tryd.func41, Tryd.ntmps41
    go_wp2_with (go_at_call 57; refine HC.out.mono ?_; rintro e1 w1 ⟨rfl, hw⟩; subst hw)
    by_cases hnR : k + 1 = ws.length
    · have hd : ws.drop (k + 1) = [] := List.drop_eq_nil_of_le (by omega)
      have HE : Hid (RT = none) := by
        rw [← HR2.out, hd, ownRest_no (by decide +kernel)]; simp [Hid, ownFin, namesB]
      clear hd HR2
      go_quiet (fail)
      go_wp2_with fail
      obtain ⟨hWt, hWr, hWb⟩ := two_allocs w nq
      obtain ⟨W, hW⟩ : ∃ W, ((w.alloc zT).drewN nq).alloc zT = W := ⟨_, rfl⟩
      rw [hW] at hWt hWr hWb
      unfold zT at hW
      rw [hW]
      clear hW
      have hvO := (hv.below hWb).take k (by omega) ws.length (by omega)
      have hvW := hv.below hWb
      have HN0 : Hid (Calls Tryd.prog 57 #[.slice (some ⟨b, off, none⟩) 0 0, .string ⟨#[124]⟩] W fun e1 w' => e1 = .returned (.int .i64 (placeI [] barS)) ∧ w' = W) := own_Index _ [] barS W ⟨_, _, rfl, Nat.le_refl _, .inl rfl⟩ (by first | simp | (rw [List.length_drop]; omega))
      have HN2 : Hid (Calls Tryd.prog 59 #[.slice (some ⟨b, off, none⟩) 0 0] W fun e1 w' => e1 = .returned (.bool false) ∧ w' = W) := own_areNames _ [] W ⟨_, _, rfl, Nat.le_refl _, .inl rfl⟩ (by simp) (fun x hx => by simp at hx)
      have HN1 : Hid (Calls Tryd.prog 59 #[.slice (some ⟨b, off, none⟩) k ws.length] W fun e1 w' => e1 = .returned (.bool (namesB (ws.take k))) ∧ w' = W) := own_areNames _ _ W hvO (by rw [List.length_take]; omega) (fun x hx => hsz x (List.mem_of_mem_take hx))
      refine HN0.out.mono ?_
      rintro e1 w1 ⟨rfl, hw⟩
      subst hw
      go_wp2_with fail
      refine HN1.out.mono ?_
      rintro e1 w2 ⟨rfl, hw⟩
      subst hw
      cases namesB (ws.take k)
      · skip
        obtain ⟨r0, r1, r2, r3, r4, r5, rf⟩ := six hWr
        go_wp2
        exact bodyPost_ret (v := .tuple #[.agg #[.slice none 0 0, .slice none 0 0, .string ⟨#[]⟩, .int .i64 0, .int .i64 0, .string ⟨#[]⟩], .bool false]) (by simp [results, Tryd.results41, go_sem, r0, r1, r2, r3, r4, r5]) rfl (by rw [HE.out]; exact ⟨rfl, (below_six hWb rfl _ _ _ _ _ _)⟩)
      · go_wp2_with fail
        refine HN2.out.mono ?_
        rintro e1 w1 ⟨rfl, hw⟩
        subst hw
        obtain ⟨r0, r1, r2, r3, r4, r5, rf⟩ := six hWr
        go_wp2
        exact bodyPost_ret (v := .tuple #[.agg #[.slice none 0 0, .slice none 0 0, .string ⟨#[]⟩, .int .i64 0, .int .i64 0, .string ⟨#[]⟩], .bool false]) (by simp [results, Tryd.results41, go_sem, r0, r1, r2, r3, r4, r5]) rfl (by rw [HE.out]; exact ⟨rfl, (below_six hWb rfl _ _ _ _ _ _)⟩)
    · have hvr0 : ∀ X, Strs X (.slice (some ⟨b, off, none⟩) ws.length ws.length) ws → Strs X (.slice (some ⟨b, off + (k + 1), none⟩) (ws.length - (k + 1)) (ws.length - (k + 1))) (ws.drop (k + 1)) := by
        intro X hX
        refine ⟨_, _, by rw [List.length_drop], by rw [List.length_drop]; exact Nat.le_refl _, .inr ⟨b, off + (k + 1), rfl, fun i hi => ?_⟩⟩
        rw [List.length_drop] at hi
        obtain ⟨b1, o1, h1, h2⟩ := strs_at hX (show k + 1 + i < ws.length by omega)
        injection h1 with h1; injection h1 with h1 h3
        subst h1 h3
        rw [List.getElem_drop, Nat.add_assoc]; exact h2
      have HVR := hvr0
      obtain ⟨RL, hRL⟩ : ∃ RL, ws.drop (k + 1) = RL := ⟨_, rfl⟩
      have hRLn : RL.length = ws.length - (k + 1) := by rw [← hRL, List.length_drop]
      have hRsz : ∀ x ∈ RL, x.size ≤ maxLen := fun x hx => hsz x (List.mem_of_mem_drop (by rw [hRL]; exact hx))
      rw [hRL] at HVR HR2
      rw [← hRLn] at HVR
      have HVR2 : Hid (∀ X, Strs X (.slice (some ⟨b, off, none⟩) ws.length ws.length) ws → Strs X (.slice (some ⟨b, off + (k + 1), none⟩) RL.length RL.length) RL) := HVR
      have HRLN : Hid (RL.length = ws.length - (k + 1)) := hRLn
      have hRp : 0 < RL.length := by omega
      have hRm : RL.length ≤ 3000 := by omega
      have hpb := place_bd RL barS
      clear hvr0 HVR hRL
      go_quiet (fail)
      go_wp2_with fail
      obtain ⟨hWt, hWr, hWb⟩ := two_allocs w nq
      obtain ⟨W, hW⟩ : ∃ W, ((w.alloc zT).drewN nq).alloc zT = W := ⟨_, rfl⟩
      rw [hW] at hWt hWr hWb
      unfold zT at hW
      rw [hW]
      clear hW
      have hvO := (hv.below hWb).take k (by omega) ws.length (by omega)
      have hvW := hv.below hWb
      rw [← HRLN.out]
      have hvR := HVR2.out W hvW
      have HN0 := own_Index _ RL barS W hvR (by omega)
      obtain ⟨p0, hp0⟩ : ∃ p, placeI RL barS = p := ⟨_, rfl⟩
      have HP0 : Hid (placeI RL barS = p0) := hp0
      rw [hp0] at HN0 hpb
      have HN00 : Hid (Calls Tryd.prog 57 #[.slice (some ⟨b, off + (k + 1), none⟩) RL.length RL.length, .string ⟨#[124]⟩] W fun e1 w' => e1 = .returned (.int .i64 p0) ∧ w' = W) := HN0
      clear hp0 HN0 hRLn
      refine HN00.out.mono ?_
      rintro e1 w1 ⟨rfl, hw⟩
      subst hw
      by_cases hpn : p0 < 0
      · have HR3 : Hid (ownFin (ws.take k) RL opt0 = RT) := by rw [← ownRest_no (by rw [HP0.out]; exact hpn)]; exact HR2.out
        have HN1 : Hid (Calls Tryd.prog 59 #[.slice (some ⟨b, off, none⟩) k ws.length] w1 fun e1 w' => e1 = .returned (.bool (namesB (ws.take k))) ∧ w' = w1) := own_areNames _ _ w1 hvO (by rw [List.length_take]; omega) (fun x hx => hsz x (List.mem_of_mem_take hx))
        have HN2 : Hid (Calls Tryd.prog 59 #[.slice (some ⟨b, off + (k + 1), none⟩) RL.length RL.length] w1 fun e1 w' => e1 = .returned (.bool (namesB RL)) ∧ w' = w1) := own_areNames _ RL w1 hvR (by omega) hRsz
        go_wp2_with fail
        refine HN1.out.mono ?_
        rintro e1 w2 ⟨rfl, hw⟩
        subst hw
        cases hb1 : namesB (ws.take k)
        · have HE : Hid (RT = none) := by rw [← HR3.out]; simp [Hid, ownFin, hb1]
          obtain ⟨r0, r1, r2, r3, r4, r5, rf⟩ := six hWr
          go_wp2
          exact bodyPost_ret (v := .tuple #[.agg #[.slice none 0 0, .slice none 0 0, .string ⟨#[]⟩, .int .i64 0, .int .i64 0, .string ⟨#[]⟩], .bool false]) (by simp [results, Tryd.results41, go_sem, r0, r1, r2, r3, r4, r5]) rfl (by rw [HE.out]; exact ⟨rfl, (below_six hWb rfl _ _ _ _ _ _)⟩)
        · go_wp2_with fail
          refine HN2.out.mono ?_
          rintro e1 w1 ⟨rfl, hw⟩
          subst hw
          cases hb2 : namesB RL
          · have HE : Hid (RT = none) := by rw [← HR3.out]; simp [Hid, ownFin, hb2]
            obtain ⟨r0, r1, r2, r3, r4, r5, rf⟩ := six hWr
            go_wp2
            exact bodyPost_ret (v := .tuple #[.agg #[.slice none 0 0, .slice none 0 0, .string ⟨#[]⟩, .int .i64 0, .int .i64 0, .string ⟨#[]⟩], .bool false]) (by simp [results, Tryd.results41, go_sem, r0, r1, r2, r3, r4, r5]) rfl (by rw [HE.out]; exact ⟨rfl, (below_six hWb rfl _ _ _ _ _ _)⟩)
          · have HE : Hid (RT = some ⟨ws.take k, RL.getD 0 ByteArray.empty, RL.drop 1, 1, 1, ⟨#[]⟩⟩) := by rw [← HR3.out]; simp [Hid, ownFin, hb1, hb2, opt0]; rfl
            have hc0 := (strs_at hvR hRp)
            obtain ⟨b1, o1, h1, hc0⟩ := hc0
            injection h1 with h1; injection h1 with h1 h3
            subst h1 h3
            have hx0 : RL[0] = RL.getD 0 ByteArray.empty := by simp [hRp]
            rw [hx0, Nat.add_zero] at hc0
            generalize RL.getD 0 ByteArray.empty = x0 at *
            by_cases hc1 : RL.length = 1
            · have hRI : (1 : Int) ≤ (RL.length : Int) := by omega
              have hsI : Strs w (.slice (some ⟨b, off + (k + 1), none⟩) 0 0) (RL.drop 1) := by
                have : RL.drop 1 = [] := List.drop_eq_nil_of_le (by omega)
                rw [this]; exact ⟨_, _, rfl, Nat.le_refl _, .inl rfl⟩
              obtain ⟨t0, t1, t2, t3, t4, t5, tf⟩ := six hWt
              go_wp2_with fail
              go_region
              go_wp2_with fail
              refine (own_fillDefaults (w.heap.size + 1) (.slice (some ⟨b, off, none⟩) k ws.length) (.slice (some ⟨b, off + (k + 1), none⟩) 0 0) (.string x0) (.string ⟨#[]⟩) 0 0 _ (by exact store3 hWt _ _ _)).mono ?_
              rintro e1 w5 ⟨rfl, hS5, hb5⟩
              have hbel5 := hWb.trans (show Below w.heap.size _ w5 from ⟨hS5.os, hS5.tape, hS5.output, by simpa using hS5.size, fun q hq => (hS5.block q (by have := hWb.size; simp; omega) (by omega)).trans ((heap_setCell_other _ _ _ _ (by simp; omega)).trans ((heap_setCell_other _ _ _ _ (by simp; omega)).trans (heap_setCell_other _ _ _ _ (by simp; omega))))⟩)
              have hr5 := (hS5.block w.heap.size (by have := blk_lt hWr; simpa using this) (by omega)).trans ((heap_setCell_other _ _ _ _ (by simp)).trans ((heap_setCell_other _ _ _ _ (by simp)).trans ((heap_setCell_other _ _ _ _ (by simp)).trans hWr)))
              obtain ⟨r0, r1, r2, r3, r4, r5, rf⟩ := six hr5
              obtain ⟨s0, s1, s2, s3, s4, s5, sf⟩ := six hb5
              go_wp2
              exact bodyPost_ret (v := .tuple #[.agg #[.slice (some ⟨b, off, none⟩) k ws.length, (.slice (some ⟨b, off + (k + 1), none⟩) 0 0), .string x0, .int .i64 (max 0 1 : Nat), .int .i64 (max 0 1 : Nat), .string ⟨#[]⟩], .bool true]) (by simp [results, Tryd.results41, go_sem, r0, r1, r2, r3, r4, r5]) rfl (by
                rw [HE.out]
                have hfin := below_six hbel5 rfl (.slice (some ⟨b, off, none⟩) k ws.length) (.slice (some ⟨b, off + (k + 1), none⟩) 0 0) (.string x0) (.int .i64 (max 0 1 : Nat)) (.int .i64 (max 0 1 : Nat)) (.string ⟨#[]⟩)
                exact ⟨_, _, rfl, (hv.take k (by omega) ws.length (by omega)).below hfin, (hsI).below hfin, fun q hq => hq, fun q hq => hq, hfin⟩)
            · have hRI : (1 : Int) ≤ (RL.length : Int) := by omega
              have hsI : Strs w (.slice (some ⟨b, off + (k + 1) + 1, none⟩) (RL.length - 1) (RL.length - 1)) (RL.drop 1) := strs_tail (HVR2.out w hv) (by omega)
              obtain ⟨t0, t1, t2, t3, t4, t5, tf⟩ := six hWt
              go_wp2_with fail
              go_region
              go_wp2_with fail
              refine (own_fillDefaults (w.heap.size + 1) (.slice (some ⟨b, off, none⟩) k ws.length) (.slice (some ⟨b, off + (k + 1) + 1, none⟩) (RL.length - 1) (RL.length - 1)) (.string x0) (.string ⟨#[]⟩) 0 0 _ (by exact store3 hWt _ _ _)).mono ?_
              rintro e1 w5 ⟨rfl, hS5, hb5⟩
              have hbel5 := hWb.trans (show Below w.heap.size _ w5 from ⟨hS5.os, hS5.tape, hS5.output, by simpa using hS5.size, fun q hq => (hS5.block q (by have := hWb.size; simp; omega) (by omega)).trans ((heap_setCell_other _ _ _ _ (by simp; omega)).trans ((heap_setCell_other _ _ _ _ (by simp; omega)).trans (heap_setCell_other _ _ _ _ (by simp; omega))))⟩)
              have hr5 := (hS5.block w.heap.size (by have := blk_lt hWr; simpa using this) (by omega)).trans ((heap_setCell_other _ _ _ _ (by simp)).trans ((heap_setCell_other _ _ _ _ (by simp)).trans ((heap_setCell_other _ _ _ _ (by simp)).trans hWr)))
              obtain ⟨r0, r1, r2, r3, r4, r5, rf⟩ := six hr5
              obtain ⟨s0, s1, s2, s3, s4, s5, sf⟩ := six hb5
              go_wp2
              exact bodyPost_ret (v := .tuple #[.agg #[.slice (some ⟨b, off, none⟩) k ws.length, (.slice (some ⟨b, off + (k + 1) + 1, none⟩) (RL.length - 1) (RL.length - 1)), .string x0, .int .i64 (max 0 1 : Nat), .int .i64 (max 0 1 : Nat), .string ⟨#[]⟩], .bool true]) (by simp [results, Tryd.results41, go_sem, r0, r1, r2, r3, r4, r5]) rfl (by
                rw [HE.out]
                have hfin := below_six hbel5 rfl (.slice (some ⟨b, off, none⟩) k ws.length) (.slice (some ⟨b, off + (k + 1) + 1, none⟩) (RL.length - 1) (RL.length - 1)) (.string x0) (.int .i64 (max 0 1 : Nat)) (.int .i64 (max 0 1 : Nat)) (.string ⟨#[]⟩)
                exact ⟨_, _, rfl, (hv.take k (by omega) ws.length (by omega)).below hfin, (hsI).below hfin, fun q hq => hq, fun q hq => hq, hfin⟩)
      · obtain ⟨p, rfl⟩ : ∃ p : Nat, p0 = p := ⟨p0.toNat, by omega⟩
        have hpl : p < RL.length := by omega
        have hpI : (p : Int) ≤ (RL.length : Int) := by omega
        have hpI1 : (p : Int) + 1 ≤ (RL.length : Int) := by omega
        have HR3 : Hid (((optAll (RL.drop (p + 1))).bind fun t => ownFin (ws.take k) (RL.take p) t) = RT) := by rw [← ownRest_yes HP0.out]; exact HR2.out
        obtain ⟨Q, hQ⟩ : ∃ Q, RL.drop (p + 1) = Q := ⟨_, rfl⟩
        have hQn : Q.length = RL.length - (p + 1) := by rw [← hQ, List.length_drop]
        have hQsz : ∀ x ∈ Q, x.size ≤ maxLen := fun x hx => hRsz x (List.mem_of_mem_drop (by rw [hQ]; exact hx))
        rw [hQ] at HR3
        have hbne : b ≠ w.heap.size + 1 := by
          obtain ⟨b1, o1, h1, h2⟩ := strs_at hv hkl
          injection h1 with h1; injection h1 with h1 h3
          subst h1
          have := block_lt_of_cell h2
          simp at this; omega
        have hcb : b < w.heap.size := by
          obtain ⟨b1, o1, h1, h2⟩ := strs_at hv hkl
          injection h1 with h1; injection h1 with h1 h3
          subst h1
          exact block_lt_of_cell h2
        clear hpn
        by_cases hQ0 : p + 1 = RL.length
        · have hQe : Q = [] := List.eq_nil_of_length_eq_zero (by omega)
          subst hQe
          have HE : Hid (RT = none) := by rw [← HR3.out]; rfl
          have HOPT : Hid (Calls Tryd.prog 58 #[.pointer (some ⟨w.heap.size + 1, 0, none⟩), .slice (some ⟨b, off + (k + 1), none⟩) 0 0] w1 fun e w' => e = .returned (.bool false) ∧ OptPost w1 w' (w.heap.size + 1) (.slice none 0 0) (.slice none 0 0) (.string ⟨#[]⟩) none) :=
            own_readOptions (w.heap.size + 1) _ _ _ _ [] w1 hWt ⟨_, _, rfl, Nat.le_refl _, .inl rfl⟩ (fun q hq => by simp [Value.ownBlock] at hq; omega) (by simp) (fun x hx => by simp at hx)
          go_wp2_with fail
          refine HOPT.out.mono ?_
          rintro e1 w2 ⟨rfl, hS, _⟩
          have hWr2 := (hS.block w.heap.size (blk_lt hWr) (by omega)).trans hWr
          have hWb2 := hWb.trans (hS.below (B := w.heap.size) hWb.size (fun q hq => by omega))
          obtain ⟨r0, r1, r2, r3, r4, r5, rf⟩ := six hWr2
          go_wp2
          exact bodyPost_ret (v := .tuple #[.agg #[.slice none 0 0, .slice none 0 0, .string ⟨#[]⟩, .int .i64 0, .int .i64 0, .string ⟨#[]⟩], .bool false]) (by simp [results, Tryd.results41, go_sem, r0, r1, r2, r3, r4, r5]) rfl (by rw [HE.out]; exact ⟨rfl, (below_six hWb2 rfl _ _ _ _ _ _)⟩)
        · have hsQ : Strs w1 (.slice (some ⟨b, off + (k + 1) + (p + 1), none⟩) (RL.length - (p + 1)) (RL.length - (p + 1))) Q := by
            rw [← hQn]
            refine ⟨_, _, rfl, Nat.le_refl _, .inr ⟨b, off + (k + 1) + (p + 1), rfl, fun i hi => ?_⟩⟩
            obtain ⟨b1, o1, h1, h2⟩ := strs_at hvR (show p + 1 + i < RL.length by omega)
            injection h1 with h1; injection h1 with h1 h3
            subst h1 h3
            have hq : Q[i] = RL[p + 1 + i]'(by omega) := by simp only [← hQ]; rw [List.getElem_drop]
            rw [hq, Nat.add_assoc]; exact h2
          have hOP := own_readOptions (w.heap.size + 1) _ _ _ _ Q w1 hWt hsQ (fun q hq => by simp [Value.ownBlock] at hq; omega) (by omega) hQsz
          obtain ⟨ro, hro⟩ : ∃ ro, optAll Q = ro := ⟨_, rfl⟩
          rw [hro] at hOP HR3
          have HOPT : Hid (Calls Tryd.prog 58 #[.pointer (some ⟨w.heap.size + 1, 0, none⟩), .slice (some ⟨b, off + (k + 1) + (p + 1), none⟩) (RL.length - (p + 1)) (RL.length - (p + 1))] w1 fun e w' => e = .returned (.bool ro.isSome) ∧ OptPost w1 w' (w.heap.size + 1) (.slice none 0 0) (.slice none 0 0) (.string ⟨#[]⟩) ro) := hOP
          clear hOP hro hQ hQn hsQ
          go_wp2_with fail
          refine HOPT.out.mono ?_
          rintro e1 w2 ⟨rfl, hS, hO2⟩
          have hWr2 := (hS.block w.heap.size (blk_lt hWr) (by omega)).trans hWr
          have hWb2 := hWb.trans (hS.below (B := w.heap.size) hWb.size (fun q hq => by omega))
          cases ro with
          | none =>
            have HE : Hid (RT = none) := by rw [← HR3.out]; rfl
            obtain ⟨r0, r1, r2, r3, r4, r5, rf⟩ := six hWr2
            go_wp2
            exact bodyPost_ret (v := .tuple #[.agg #[.slice none 0 0, .slice none 0 0, .string ⟨#[]⟩, .int .i64 0, .int .i64 0, .string ⟨#[]⟩], .bool false]) (by simp [results, Tryd.results41, go_sem, r0, r1, r2, r3, r4, r5]) rfl (by rw [HE.out]; exact ⟨rfl, (below_six hWb2 rfl _ _ _ _ _ _)⟩)
          | some t =>
            have hWt2 := (hO2 t rfl).1
            clear hWt hWr hWb hvO hvR hvW HN00 hO2 hS HOPT
            have hWt := hWt2
            have hWr := hWr2
            have hWb := hWb2
            clear hWt2 hWr2 hWb2
            have hvO := (hv.below hWb).take k (by omega) ws.length (by omega)
            have hvR := (HVR2.out w2 (hv.below hWb)).take p (by omega) RL.length (by omega)
            have HR4 : Hid (ownFin (ws.take k) (RL.take p) t = RT) := HR3.out
            have HN1 : Hid (Calls Tryd.prog 59 #[.slice (some ⟨b, off, none⟩) k ws.length] w2 fun e1 w' => e1 = .returned (.bool (namesB (ws.take k))) ∧ w' = w2) := own_areNames _ _ w2 hvO (by rw [List.length_take]; omega) (fun x hx => hsz x (List.mem_of_mem_take hx))
            have HN2 : Hid (Calls Tryd.prog 59 #[.slice (some ⟨b, off + (k + 1), none⟩) p RL.length] w2 fun e1 w' => e1 = .returned (.bool (namesB (RL.take p))) ∧ w' = w2) := own_areNames _ _ w2 hvR (by rw [List.length_take]; omega) (fun x hx => hRsz x (List.mem_of_mem_take hx))
            go_wp2_with fail
            refine HN1.out.mono ?_
            rintro e1 w3 ⟨rfl, hw⟩
            subst hw
            cases hb1 : namesB (ws.take k)
            · have HE : Hid (RT = none) := by rw [← HR4.out]; simp [Hid, ownFin, hb1]
              obtain ⟨r0, r1, r2, r3, r4, r5, rf⟩ := six hWr
              go_wp2
              exact bodyPost_ret (v := .tuple #[.agg #[.slice none 0 0, .slice none 0 0, .string ⟨#[]⟩, .int .i64 0, .int .i64 0, .string ⟨#[]⟩], .bool false]) (by simp [results, Tryd.results41, go_sem, r0, r1, r2, r3, r4, r5]) rfl (by rw [HE.out]; exact ⟨rfl, (below_six hWb rfl _ _ _ _ _ _)⟩)
            · go_wp2_with fail
              refine HN2.out.mono ?_
              rintro e1 w4 ⟨rfl, hw⟩
              subst hw
              cases hb2 : namesB (RL.take p)
              · have HE : Hid (RT = none) := by rw [← HR4.out]; simp [Hid, ownFin, hb2]
                obtain ⟨r0, r1, r2, r3, r4, r5, rf⟩ := six hWr
                go_wp2
                exact bodyPost_ret (v := .tuple #[.agg #[.slice none 0 0, .slice none 0 0, .string ⟨#[]⟩, .int .i64 0, .int .i64 0, .string ⟨#[]⟩], .bool false]) (by simp [results, Tryd.results41, go_sem, r0, r1, r2, r3, r4, r5]) rfl (by rw [HE.out]; exact ⟨rfl, (below_six hWb rfl _ _ _ _ _ _)⟩)
              · have HE : Hid (RT = some ⟨ws.take k, (RL.take p).getD 0 ByteArray.empty, (RL.take p).drop 1, max t.cost 1, max t.jobs 1, t.pool⟩) := by rw [← HR4.out]; simp only [Hid, ownFin, hb1, hb2, and_self, if_true]
                have hp1 : 0 < p := by
                  rcases Nat.eq_zero_or_pos p with h | h
                  · rw [h] at hb2; simp [namesB] at hb2
                  · exact h
                have hltp : 0 < (RL.take p).length := by rw [List.length_take]; omega
                obtain ⟨b1, o1, h1, hc0⟩ := strs_at hvR hltp
                injection h1 with h1; injection h1 with h1 h3
                subst h1 h3
                have hx0 : (RL.take p)[0] = (RL.take p).getD 0 ByteArray.empty := by rw [List.getD_eq_getElem?_getD, List.getElem?_eq_getElem hltp]; rfl
                rw [hx0, Nat.add_zero] at hc0
                generalize (RL.take p).getD 0 ByteArray.empty = x0 at *
                have hRI : (1 : Int) ≤ (p : Int) := by omega
                have hR1 : RL.length ≠ 1 := by omega
                have hsI : Strs w (.slice (some ⟨b, off + (k + 1) + 1, none⟩) (p - 1) (RL.length - 1)) ((RL.take p).drop 1) := by
                  have h0 := (HVR2.out w hv).take p (by omega) RL.length (by omega)
                  by_cases h1 : p = 1
                  · have h2 : (RL.take p).drop 1 = [] := List.drop_eq_nil_of_le (by rw [List.length_take]; omega)
                    rw [h2, h1]; exact ⟨_, _, rfl, Nat.zero_le _, .inl rfl⟩
                  · have hl : (RL.take p).length = p := by rw [List.length_take]; omega
                    have h3 := strs_tail (ss := RL.take p) (c := RL.length) (by rw [hl]; exact h0) (by omega)
                    rwa [hl] at h3
                obtain ⟨cost, jobs, pool⟩ := t
                simp only at hWt HE
                clear hpI hpI1
                obtain ⟨t0, t1, t2, t3, t4, t5, tf⟩ := six hWt
                go_wp2_with fail
                go_region
                go_wp2_with fail
                refine (own_fillDefaults (w.heap.size + 1) (.slice (some ⟨b, off, none⟩) k ws.length) (.slice (some ⟨b, off + (k + 1) + 1, none⟩) (p - 1) (RL.length - 1)) (.string x0) (.string pool) cost jobs _ (by exact store3 hWt _ _ _)).mono ?_
                rintro e1 w5 ⟨rfl, hS5, hb5⟩
                have hbel5 := hWb.trans (show Below w.heap.size _ w5 from ⟨hS5.os, hS5.tape, hS5.output, by simpa using hS5.size, fun q hq => (hS5.block q (by have := hWb.size; simp; omega) (by omega)).trans ((heap_setCell_other _ _ _ _ (by simp; omega)).trans ((heap_setCell_other _ _ _ _ (by simp; omega)).trans (heap_setCell_other _ _ _ _ (by simp; omega))))⟩)
                have hr5 := (hS5.block w.heap.size (by have := blk_lt hWr; simpa using this) (by omega)).trans ((heap_setCell_other _ _ _ _ (by simp)).trans ((heap_setCell_other _ _ _ _ (by simp)).trans ((heap_setCell_other _ _ _ _ (by simp)).trans hWr)))
                obtain ⟨r0, r1, r2, r3, r4, r5, rf⟩ := six hr5
                obtain ⟨s0, s1, s2, s3, s4, s5, sf⟩ := six hb5
                go_wp2
                exact bodyPost_ret (v := .tuple #[.agg #[.slice (some ⟨b, off, none⟩) k ws.length, (.slice (some ⟨b, off + (k + 1) + 1, none⟩) (p - 1) (RL.length - 1)), .string x0, .int .i64 (max cost 1 : Nat), .int .i64 (max jobs 1 : Nat), .string pool], .bool true]) (by simp [results, Tryd.results41, go_sem, r0, r1, r2, r3, r4, r5]) rfl (by
                  rw [HE.out]
                  have hfin := below_six hbel5 rfl (.slice (some ⟨b, off, none⟩) k ws.length) (.slice (some ⟨b, off + (k + 1) + 1, none⟩) (p - 1) (RL.length - 1)) (.string x0) (.int .i64 (max cost 1 : Nat)) (.int .i64 (max jobs 1 : Nat)) (.string pool)
                  exact ⟨_, _, rfl, (hv.take k (by omega) ws.length (by omega)).below hfin, (hsI).below hfin, fun q hq => hq, fun q hq => hq, hfin⟩)
end Go.Proofs.YtoabakgmjcnodaaDoor
