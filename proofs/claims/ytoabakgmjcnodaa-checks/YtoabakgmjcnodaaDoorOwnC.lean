import Derived.Test.YtoabakgmjcnodaaDoorOwnB
namespace Go.Proofs.YtoabakgmjcnodaaDoor
open Go.ChangeShapes Go.WideShapes Go.ChangeAt Go.RowKit

/-- What stands behind the bar, so far. -/
structure Opt where
  cost : Nat
  jobs : Nat
  pool : ByteArray
def opt0 : Opt := ⟨0, 0, ByteArray.empty⟩
def optStep (t : Opt) (k v : ByteArray) : Option Opt :=
  if isCost k = true then (if digN v.data.toList ≠ 0 ∧ t.cost = 0 then some { t with cost := digN v.data.toList } else none)
  else if isJobs k = true then (if digN v.data.toList ≠ 0 ∧ t.jobs = 0 then some { t with jobs := digN v.data.toList } else none)
  else if isPool k = true then (if t.pool.size = 0 ∧ nameB v.data.toList = true then some { t with pool := v } else none)
  else none
def optRun (t : Opt) : List ByteArray → Option Opt
  | k :: v :: r => (optStep t k v).bind fun t1 => optRun t1 r
  | [] => some t
  | [_] => none
def OptPost (w w1 : World) (tb : Nat) (o i a : Value) (r : Option Opt) : Prop :=
  Same (fun k => k = tb) w w1 ∧ (∀ t, r = some t → w1.heap[tb]? = some (.cells #[o, i, a, .int .i64 t.cost, .int .i64 t.jobs, .string t.pool] 80 (0, 0)) ∧ t.cost ≤ 9 ∧ t.jobs ≤ 9)

theorem same_one (w : World) (tb j : Nat) (v : Value) : Same (fun k => k = tb) w (w.setCell ⟨tb, j, none⟩ v) :=
  Same.setCell (Same.refl (fun k => k = tb) w) (p := ⟨tb, j, none⟩) (fun _ => rfl) v
theorem OptPost.no {w : World} {tb : Nat} {o i a : Value} : OptPost w w tb o i a none := ⟨Same.refl _ _, fun t h => by cases h⟩
theorem OptPost.yes {w w1 : World} {tb : Nat} {o i a : Value} {t : Opt} (hs : Same (fun k => k = tb) w w1) (h : w1.heap[tb]? = some (.cells #[o, i, a, .int .i64 t.cost, .int .i64 t.jobs, .string t.pool] 80 (0, 0))) (h9 : t.cost ≤ 9 ∧ t.jobs ≤ 9) :
    OptPost w w1 tb o i a (some t) := ⟨hs, fun t1 h1 => by injection h1 with h1; subst h1; exact ⟨h, h9⟩⟩

set_option maxRecDepth 10000 in
set_option maxHeartbeats 2000000 in
theorem own_readOption (tb : Nat) (o i a : Value) (t : Opt) (k v : ByteArray) (w : World) (hb : w.heap[tb]? = some (.cells #[o, i, a, .int .i64 t.cost, .int .i64 t.jobs, .string t.pool] 80 (0, 0))) (hv : v.size ≤ maxLen) (h9 : t.cost ≤ 9 ∧ t.jobs ≤ 9) :
    Calls Tryd.prog 73 #[.pointer (some ⟨tb, 0, none⟩), .string k, .string v] w fun e w' => e = .returned (.bool (optStep t k v).isSome) ∧ OptPost w w' tb o i a (optStep t k v) := by
  obtain ⟨c0, c1, c2, c3, c4, c5, cf⟩ := six hb
  obtain ⟨cost, jobs, pool⟩ := t
  simp only at c3 c4 c5 hb h9
  have hd9 := digN_le v.data.toList
  obtain ⟨RT, hRT⟩ : ∃ RT, optStep ⟨cost, jobs, pool⟩ k v = RT := ⟨_, rfl⟩
  rw [hRT]
  have HR : Hid (optStep ⟨cost, jobs, pool⟩ k v = RT) := hRT
  clear hRT
  have f3 := cf 3
  have f4 := cf 4
  have f5 := cf 5
  by_cases e1 : isCost k = true
  · have h1 : (k.toList == [99, 111, 115, 116]) = true := e1
    have hro := own_readOnce tb 3 cost v w hv c3 f3 h9.1
    by_cases hz : digN v.data.toList ≠ 0 ∧ cost = 0
    · have HE : Hid (RT = some ⟨digN v.data.toList, jobs, pool⟩) := by rw [← HR.out]; simp [Hid, optStep, e1, hz]
      rw [if_pos hz, decide_eq_true hz] at hro
      have HRO : Hid (Calls Tryd.prog 80 #[.pointer (some ⟨tb, 3, none⟩), .string v] w fun e w' => e = .returned (.bool true) ∧ w' = w.setCell ⟨tb, 3, none⟩ (.int .i64 (digN v.data.toList))) := hro
      clear hro HR hz
      go_enter Tryd.func73, Tryd.ntmps73
      go_wp2_with (go_at_call 80; refine HRO.out.mono ?_; rintro e w1 ⟨rfl, hw⟩; subst hw)
      go_ret
      rw [HE.out]
      exact ⟨rfl, OptPost.yes (same_one _ _ _ _) (blk_set hb rfl) ⟨hd9, h9.2⟩⟩
    · have HE : Hid (RT = none) := by rw [← HR.out]; simp only [Hid, optStep, e1, if_true]; rw [if_neg hz]
      rw [if_neg hz, decide_eq_false hz] at hro
      have HRO : Hid (Calls Tryd.prog 80 #[.pointer (some ⟨tb, 3, none⟩), .string v] w fun e w' => e = .returned (.bool false) ∧ w' = w) := hro
      clear hro HR hz
      go_enter Tryd.func73, Tryd.ntmps73
      go_wp2_with (go_at_call 80; refine HRO.out.mono ?_; rintro e w1 ⟨rfl, hw⟩; subst hw)
      go_ret
      rw [HE.out]
      exact ⟨rfl, OptPost.no⟩
  have h1 : (k.toList == [99, 111, 115, 116]) = false := strNe _ _ e1
  by_cases e2 : isJobs k = true
  · have h2 : (k.toList == [106, 111, 98, 115]) = true := e2
    have hro := own_readOnce tb 4 jobs v w hv c4 f4 h9.2
    by_cases hz : digN v.data.toList ≠ 0 ∧ jobs = 0
    · have HE : Hid (RT = some ⟨cost, digN v.data.toList, pool⟩) := by rw [← HR.out]; simp [Hid, optStep, e1, e2, hz]
      rw [if_pos hz, decide_eq_true hz] at hro
      have HRO : Hid (Calls Tryd.prog 80 #[.pointer (some ⟨tb, 4, none⟩), .string v] w fun e w' => e = .returned (.bool true) ∧ w' = w.setCell ⟨tb, 4, none⟩ (.int .i64 (digN v.data.toList))) := hro
      clear hro HR hz
      go_enter Tryd.func73, Tryd.ntmps73
      go_wp2_with (go_at_call 80; refine HRO.out.mono ?_; rintro e w1 ⟨rfl, hw⟩; subst hw)
      go_ret
      rw [HE.out]
      exact ⟨rfl, OptPost.yes (same_one _ _ _ _) (blk_set hb rfl) ⟨h9.1, hd9⟩⟩
    · have HE : Hid (RT = none) := by rw [← HR.out]; simp only [Hid, optStep, e1, e2, if_true]; rw [if_neg hz]; simp
      rw [if_neg hz, decide_eq_false hz] at hro
      have HRO : Hid (Calls Tryd.prog 80 #[.pointer (some ⟨tb, 4, none⟩), .string v] w fun e w' => e = .returned (.bool false) ∧ w' = w) := hro
      clear hro HR hz
      go_enter Tryd.func73, Tryd.ntmps73
      go_wp2_with (go_at_call 80; refine HRO.out.mono ?_; rintro e w1 ⟨rfl, hw⟩; subst hw)
      go_ret
      rw [HE.out]
      exact ⟨rfl, OptPost.no⟩
  have h2 : (k.toList == [106, 111, 98, 115]) = false := strNe _ _ e2
  by_cases e3 : isPool k = true
  · have h3 : (k.toList == [112, 111, 111, 108]) = true := e3
    obtain ⟨nb, hnb⟩ : ∃ nb, nameB v.data.toList = nb := ⟨_, rfl⟩
    have HNB : Hid (nameB v.data.toList = nb) := hnb
    by_cases hp : pool.size = 0
    · have hb1 : pool.toList.isEmpty = true := by rw [toList_isEmpty]; simpa using hp
      cases nb
      · have HE : Hid (RT = none) := by rw [← HR.out]; simp [Hid, optStep, e1, e2, e3, hnb]
        clear HR hnb hp
        go_enter Tryd.func73, Tryd.ntmps73
        go_wp2_with (go_at_call 54; refine (own_IsName v _ hv).mono ?_; rintro e w1 ⟨rfl, hw⟩; rw [HNB.out]; subst hw)
        go_ret
        rw [HE.out]
        exact ⟨rfl, OptPost.no⟩
      · have HE : Hid (RT = some ⟨cost, jobs, v⟩) := by rw [← HR.out]; simp [Hid, optStep, e1, e2, e3, hnb, hp]
        clear HR hnb hp
        go_enter Tryd.func73, Tryd.ntmps73
        go_wp2_with (go_at_call 54; refine (own_IsName v _ hv).mono ?_; rintro e w1 ⟨rfl, hw⟩; rw [HNB.out]; subst hw)
        go_ret
        rw [HE.out]
        exact ⟨rfl, OptPost.yes (same_one _ _ _ _) (blk_set hb rfl) h9⟩
    · have hb1 : pool.toList.isEmpty = false := by rw [toList_isEmpty]; simpa using hp
      have HE : Hid (RT = none) := by rw [← HR.out]; simp [Hid, optStep, e1, e2, e3, hp]
      clear HR hnb hp
      go_enter Tryd.func73, Tryd.ntmps73
      go_wp2
      go_ret
      rw [HE.out]
      exact ⟨rfl, OptPost.no⟩
  have h3 : (k.toList == [112, 111, 111, 108]) = false := strNe _ _ e3
  have HE : Hid (RT = none) := by rw [← HR.out]; simp [Hid, optStep, e1, e2, e3]
  clear HR
  go_enter Tryd.func73, Tryd.ntmps73
  go_wp2
  go_ret
  rw [HE.out]
  exact ⟨rfl, OptPost.no⟩

theorem optRun_snoc (k v : ByteArray) : ∀ (n : Nat) (l : List ByteArray) (t : Opt), l.length = 2 * n → optRun t (l ++ [k, v]) = (optRun t l).bind fun t1 => optStep t1 k v
  | 0, l, t, h => by
    have : l = [] := List.eq_nil_of_length_eq_zero (by omega)
    subst this; simp [optRun]
  | n + 1, l, t, h => by
    match l, h with
    | a :: b :: r, h =>
      simp only [List.cons_append, optRun]
      cases optStep t a b with
      | none => rfl
      | some t1 => simp only [Option.bind_some]; exact optRun_snoc k v n r t1 (by simp at h; omega)
    | [_], h => simp at h; omega
    | [], h => simp at h
theorem optRun_stop : ∀ (n : Nat) (l r : List ByteArray) (t : Opt), l.length = 2 * n → optRun t l = none → optRun t (l ++ r) = none
  | 0, l, r, t, h, h0 => by
    have : l = [] := List.eq_nil_of_length_eq_zero (by omega)
    subst this; simp [optRun] at h0
  | n + 1, l, r, t, h, h0 => by
    match l, h, h0 with
    | a :: b :: q, h, h0 =>
      simp only [List.cons_append, optRun] at h0 ⊢
      cases hs : optStep t a b with
      | none => rfl
      | some t1 => rw [hs] at h0; simp only [Option.bind_some] at h0 ⊢; exact optRun_stop n q r t1 (by simp at h; omega) h0
    | [_], h, h0 => simp at h; omega
    | [], h, h0 => simp at h
theorem take_two {ws : List ByteArray} {k : Nat} (h : 2 * k + 1 < ws.length) : ws.take (2 * (k + 1)) = ws.take (2 * k) ++ [ws[2 * k], ws[2 * k + 1]] := by
  rw [show 2 * (k + 1) = 2 * k + 1 + 1 by omega, List.take_succ_eq_append_getElem h, List.take_succ_eq_append_getElem (by omega), List.append_assoc]
  rfl
/-- What is behind the bar: pairs, at least one. -/
def optAll (ws : List ByteArray) : Option Opt := if ws.length = 0 ∨ ws.length % 2 ≠ 0 then none else optRun opt0 ws

set_option maxRecDepth 10000 in
set_option maxHeartbeats 2000000 in
theorem own_readOptions (tb : Nat) (o i a : Value) (v : Value) (ws : List ByteArray) (w : World) (hb : w.heap[tb]? = some (.cells #[o, i, a, .int .i64 0, .int .i64 0, .string ByteArray.empty] 80 (0, 0)))
    (hv : Strs w v ws) (hvb : ∀ k, v.ownBlock = some k → k ≠ tb) (hn : ws.length ≤ 4000) (hsz : ∀ s ∈ ws, s.size ≤ maxLen) :
    Calls Tryd.prog 58 #[.pointer (some ⟨tb, 0, none⟩), v] w fun e w' => e = .returned (.bool (optAll ws).isSome) ∧ OptPost w w' tb o i a (optAll ws) := by
  have hv0 := hv
  obtain ⟨ad, c, rfl, _, _⟩ := hv0
  obtain ⟨RT, hRT⟩ : ∃ RT, optAll ws = RT := ⟨_, rfl⟩
  rw [hRT]
  have HR : Hid (optAll ws = RT) := hRT
  clear hRT
  by_cases h0 : ws.length = 0
  · have e0 : ((ws.length : Int) == 0) = true := by rw [h0]; rfl
    have HE : Hid (RT = none) := by rw [← HR.out]; simp [Hid, optAll, h0]
    clear h0
    go_enter Tryd.func58, Tryd.ntmps58
    go_wp2
    go_ret
    rw [HE.out]
    exact ⟨rfl, OptPost.no⟩
  have e0 : ((ws.length : Int) == 0) = false := by rw [beq_eq_false_iff_ne]; omega
  by_cases h2 : ws.length % 2 ≠ 0
  · have e1 : ((ws.length : Int) % 2 != 0) = true := by rw [bne_iff_ne]; omega
    have HE : Hid (RT = none) := by rw [← HR.out]; simp [Hid, optAll, h2]
    clear h2 h0
    go_enter Tryd.func58, Tryd.ntmps58
    go_wp2
    go_ret
    rw [HE.out]
    exact ⟨rfl, OptPost.no⟩
  have e1 : ((ws.length : Int) % 2 != 0) = false := by rw [bne_eq_false_iff_eq]; omega
  have HR2 : Hid (optRun opt0 ws = RT) := by
    have := HR.out; simp only [optAll, h0, false_or] at this; rwa [if_neg h2] at this
  obtain ⟨m, hm⟩ : ∃ m, ws.length = 2 * m := ⟨ws.length / 2, by omega⟩
  have HM : Hid (ws.length = 2 * m) := hm
  clear HR h0 h2 hm
  go_enter Tryd.func58, Tryd.ntmps58
  go_wp2
  go_loopw [4, 5] (fun _ i1 wr => ∃ (k : Nat) (t : Opt), 2 * k ≤ ws.length ∧ i1 = .int .i64 (2 * k : Nat) ∧ optRun opt0 (ws.take (2 * k)) = some t ∧ OptPost w wr tb o i a (some t)) (fun _ i1 _ => ws.length - (intOf i1).toNat)
  case atStart => exact ⟨0, opt0, by omega, rfl, rfl, OptPost.yes (Same.refl _ _) hb ⟨by simp [opt0], by simp [opt0]⟩⟩
  case round =>
    obtain ⟨k, t, hk, rfl, hrun, hp⟩ := hrel
    have HRUN : Hid (optRun opt0 (ws.take (2 * k)) = some t) := hrun
    clear hrun
    by_cases hlt : 2 * k < ws.length
    · have hl2 : 2 * k + 1 < ws.length := by have := HM.out; omega
      have hvr := hv.same hp.1 hvb
      obtain ⟨b, off, hx, hc⟩ := strs_at hvr hlt
      obtain ⟨b1, off1, hx1, hc1⟩ := strs_at hvr hl2
      subst hx
      injection hx1 with hx1; injection hx1 with hx1 hx2
      subst hx1 hx2
      have hsk := hsz _ (List.getElem_mem hl2)
      obtain ⟨x, hxx⟩ : ∃ x, ws[2 * k] = x := ⟨_, rfl⟩
      obtain ⟨y, hyy⟩ : ∃ y, ws[2 * k + 1] = y := ⟨_, rfl⟩
      rw [hxx] at hc
      rw [hyy] at hc1 hsk
      have HSN : Hid (optRun opt0 (ws.take (2 * (k + 1))) = optStep t x y) := by
        show optRun opt0 (ws.take (2 * (k + 1))) = _
        rw [take_two hl2, hxx, hyy, optRun_snoc x y k _ _ (by rw [List.length_take]; omega), HRUN.out]; rfl
      clear hxx hyy
      have hlt' : ((2 * k : Nat) : Int) < (ws.length : Int) := by omega
      have hl2' : ((2 * k : Nat) : Int) + 1 < (ws.length : Int) := by omega
      have hrt := hp.2 t rfl
      have HOP : Hid (Calls Tryd.prog 73 #[.pointer (some ⟨tb, 0, none⟩), .string x, .string y] wr.drew fun e w' => e = .returned (.bool (optStep t x y).isSome) ∧ OptPost wr.drew w' tb o i a (optStep t x y)) :=
        own_readOption tb o i a t x y wr.drew hrt.1 hsk hrt.2
      obtain ⟨rb, hrb⟩ : ∃ rb, optStep t x y = rb := ⟨_, rfl⟩
      rw [hrb] at HOP HSN
      clear hrb
      generalize h2k : 2 * k = kk at *
      have hw1 : IntKind.i64.wrap ((kk : Int) + 1) = (kk : Int) + 1 := IntWalk.i64_in _ (by omega)
      have ht1 : ((kk : Int) + 1).toNat = kk + 1 := by omega
      have hge : (0 : Int) ≤ (kk : Int) + 1 := by omega
      go_wp2_with fail
      go_region_with (go_at_call 73; refine HOP.out.mono ?_; rintro e w2 ⟨rfl, hp2⟩)
      all_goals
        have hS2 : Same (fun k => k = tb) w w2 := (hp.1.drew).trans hp2.1
        cases rb with
        | none =>
          have HE : Hid (RT = none) := by
            have h := optRun_stop (k + 1) (ws.take (2 * (k + 1))) (ws.drop (2 * (k + 1))) opt0 (by rw [List.length_take]; omega) HSN.out
            rw [List.take_append_drop] at h
            rw [← HR2.out]; exact h
          go_wp2
          go_ret
          rw [HE.out]
          exact ⟨rfl, hS2, fun t h => by cases h⟩
        | some t1 =>
          go_wp2
          go_roundw
          case rel => exact ⟨k + 1, t1, by omega, by simp only [← h2k]; go_num, HSN.out, hS2, hp2.2⟩
          case measure => simp [intOf]; omega
    · have HE : Hid (RT = some t) := by
        have h := HRUN.out
        rw [show 2 * k = ws.length by omega, List.take_length] at h
        rw [← HR2.out]; exact h
      go_wp2
      go_ret
      rw [HE.out]
      exact ⟨rfl, hp⟩
end Go.Proofs.YtoabakgmjcnodaaDoor
