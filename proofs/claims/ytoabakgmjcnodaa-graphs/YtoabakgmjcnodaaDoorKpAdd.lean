import Derived.Test.YtoabakgmjcnodaaDoorKpOne
import Derived.Test.YtoabakgmjcnodaaDoorRefTask
import Derived.Deep.DeepCutAuto
namespace Go.Proofs.YtoabakgmjcnodaaDoor
open Go.ChangeShapes Go.WideShapes Go.ChangeAt Go.RowKit

theorem Tryd.info36 : (Tryd.prog.info? 36).map (fun i => (i.zero, i.size, i.bytes)) = some (some (.slice none 0 0), 1, 24) := by kernel_rfl
theorem Tryd.info3i : (Tryd.prog.info? 3).map (fun i => (i.zero, i.size, i.bytes)) = some (some (.int .i64 0), 1, 8) := by kernel_rfl
def I64 (z : Int) : Prop := -9223372036854775808 ≤ z ∧ z ≤ 9223372036854775807
/-- A list of any numbers. -/
def Zs (w : World) (v : Value) (l : List Int) : Prop :=
  ∃ a c, v = .slice a l.length c ∧ l.length ≤ maxLen ∧ (∀ z ∈ l, I64 z) ∧ (l = [] ∨ ∃ b off, a = some ⟨b, off, none⟩ ∧ ∀ i (h : i < l.length), w.cell? ⟨b, off + i, none⟩ = some (.int .i64 l[i]))
theorem Zs.below {w w1 : World} {v : Value} {l : List Int} (h : Zs w v l) (hb : Below w.heap.size w w1) : Zs w1 v l := by
  obtain ⟨a, c, rfl, h1, h2, h⟩ := h
  refine ⟨a, c, rfl, h1, h2, ?_⟩
  rcases h with h | ⟨b, off, rfl, hc⟩
  · exact .inl h
  · refine .inr ⟨b, off, rfl, fun i hi => ?_⟩
    have h0 := hc i hi
    exact (World.cell?_of_block (hb.block b (block_lt_of_cell h0))).trans h0

theorem five {w : World} {b : Nat} {a0 a1 a2 a3 a4 : Value} {t : TypeId} (h : w.heap[b]? = some (.cells #[a0, a1, a2, a3, a4] t (0, 0))) :
    w.cell? ⟨b, 0, none⟩ = some a0 ∧ w.cell? ⟨b, 1, none⟩ = some a1 ∧ w.cell? ⟨b, 2, none⟩ = some a2 ∧ w.cell? ⟨b, 3, none⟩ = some a3 ∧ w.cell? ⟨b, 4, none⟩ = some a4 ∧ (∀ j, w.frozen? ⟨b, j, none⟩ = false) := by
  refine ⟨?_, ?_, ?_, ?_, ?_, ?_⟩
  all_goals first
    | (rw [cell_of_row w b _ _ t (0, 0) h]; rfl)
    | (intro j; simp [World.frozen?, h])
theorem add_world (w : World) (o1 o2 o3 : Obj) (q : Nat) : ∃ W, (((w.alloc o1).alloc o2).drewN q).alloc o3 = W ∧ Below w.heap.size w W ∧ W.heap[w.heap.size]? = some o1 ∧ W.heap[w.heap.size + 2]? = some o3 ∧ W.heap.size = w.heap.size + 3 := by
  refine ⟨_, rfl, (below_drewN (((Below.refl _ _).alloc (Nat.le_refl _) _).alloc (by simp) _) q).alloc (by rw [drewN_heap]; simp; omega) _, ?_, ?_, ?_⟩
  · rw [Below.heap_alloc _ _ _ (by rw [drewN_heap]; simp; omega), drewN_heap, Below.heap_alloc _ _ _ (by simp)]
    exact heap_alloc_new w _
  · have := heap_alloc_new (((w.alloc o1).alloc o2).drewN q) o3
    have e : (((w.alloc o1).alloc o2).drewN q).heap.size = w.heap.size + 2 := by rw [drewN_heap]; simp
    rw [e] at this; exact this
  · simp
theorem rows_eq (xs : Nat → List Value) (a b c : Value) (mc mj : Nat) (p : Value) :
    up (up (up (up (up (up xs 0 (xs 0 ++ [a])) 1 (xs 1 ++ [b])) 2 (xs 2 ++ [c])) 3 (xs 3 ++ [.int .i64 (1 + (mc : Int))])) 4 (xs 4 ++ [.int .i64 (1 + (mj : Int))])) 5 (xs 5 ++ [p]) =
    fun j => if j < 6 then xs j ++ [if j = 0 then a else if j = 1 then b else if j = 2 then c else if j = 3 then .int .i64 ((1 + mc : Nat) : Int) else if j = 4 then .int .i64 ((1 + mj : Nat) : Int) else p] else xs j := by
  funext j
  rcases (show j = 0 ∨ j = 1 ∨ j = 2 ∨ j = 3 ∨ j = 4 ∨ j = 5 ∨ 6 ≤ j by omega) with rfl | rfl | rfl | rfl | rfl | rfl | h
  · simp [up]
  · simp [up]
  · simp [up]
  · simp [up]
  · simp [up]
  · simp [up]
  · simp only [up, if_neg (show ¬ j < 6 by omega), if_neg (show ¬ j = 0 by omega), if_neg (show ¬ j = 1 by omega), if_neg (show ¬ j = 2 by omega), if_neg (show ¬ j = 3 by omega), if_neg (show ¬ j = 4 by omega), if_neg (show ¬ j = 5 by omega)]
def AddPost (w w1 : World) (pb : Nat) (M : Nat → Prop) (xs : Nat → List Value) (k : Nat) (paths : List ByteArray) (_n : Nat) : Prop :=
  ∃ t vO vI M1 v1, TW t k paths ∧ KR w1 pb M1 v1 (fun j => if j < 6 then xs j ++ [if j = 0 then .string t.act else if j = 1 then vO else if j = 2 then vI else if j = 3 then .int .i64 t.cost else if j = 4 then .int .i64 t.jobs else .int .i64 t.pool] else xs j) ∧
    Strs w1 vO t.outs ∧ Strs w1 vI t.ins ∧ (∀ q, vO.ownBlock = some q → w.heap.size ≤ q ∧ ¬ M1 q ∧ q < w1.heap.size) ∧ (∀ q, vI.ownBlock = some q → w.heap.size ≤ q ∧ ¬ M1 q ∧ q < w1.heap.size) ∧
    Same M w w1 ∧ (∀ q, M1 q → M q ∨ w.heap.size ≤ q)

theorem add_post {w W1 : World} {pb : Nat} {M M1 : Nat → Prop} {V1 : Nat → Value} {xs : Nat → List Value} {act : ByteArray} {vO vI : Value} {outs ins : List ByteArray} {mc mj mp wb k n : Nat} {raw : Obj} {paths : List ByteArray}
    (A : AS w W1 pb M M1 V1 (up (up (up (up (up (up xs 0 (xs 0 ++ [.string act])) 1 (xs 1 ++ [vO])) 2 (xs 2 ++ [vI])) 3 (xs 3 ++ [.int .i64 (1 + (mc : Int))])) 4 (xs 4 ++ [.int .i64 (1 + (mj : Int))])) 5 (xs 5 ++ [.int .i64 (mp : Int)])) wb raw vO outs vI ins)
    (ha : act ∈ acts5) (ho : outs = if act.toList == [104, 97, 108, 102] then [numB 116 k, numB 117 k] else [numB 116 k]) (hi : ∀ x ∈ ins, x ∈ paths) (hs : 1 ≤ ins.length ∧ ins.length ≤ 4)
    (h1 : (act.toList == [99, 97, 116]) = false → (act.toList == [99, 111, 117, 110, 116]) = false → ins.length = 1) (hmc : mc < 9) (hmj : mj < 9) (hmp : mp < 4)
    (hS : ∀ q, vO.ownBlock = some q → w.heap.size ≤ q) (hS2 : ∀ q, vI.ownBlock = some q → w.heap.size ≤ q) : AddPost w W1 pb M xs k paths n := by
  have hR := A.R
  rw [rows_eq] at hR
  exact ⟨⟨act, outs, ins, 1 + mc, 1 + mj, mp⟩, vO, vI, M1, V1, ⟨ha, ho, hi, hs, h1, ⟨by simp, by simp; omega⟩, ⟨by simp, by simp; omega⟩, by simp; omega⟩, hR, A.sO, A.sI, fun q hq => ⟨hS q hq, A.aO q hq⟩, fun q hq => ⟨hS2 q hq, A.aI q hq⟩, A.same, A.sub⟩
theorem zs_at {w : World} {a : Option Addr} {n c : Nat} {l : List Int} (h : Zs w (.slice a n c) l) {k : Nat} (hk : k < l.length) : ∃ b off, a = some ⟨b, off, none⟩ ∧ w.cell? ⟨b, off + k, none⟩ = some (.int .i64 l[k]) := by
  obtain ⟨a1, c1, e, _, _, h⟩ := h
  injection e with e1 e2 e3
  subst e1
  rcases h with h | ⟨b, off, h1, hc⟩
  · rw [h] at hk; simp at hk
  · exact ⟨b, off, h1, hc k hk⟩
theorem pick_nat (c : Int) {n : Nat} (hn : 1 ≤ n) : ∃ m : Nat, pickZ c n = m ∧ m < n := by
  have := pickZ_bd c (n := (n : Int)) (by omega)
  exact ⟨(pickZ c n).toNat, by omega, by omega⟩
set_option maxRecDepth 10000 in
set_option maxHeartbeats 4000000 in
theorem kp_add (w : World) (pb : Nat) (M : Nat → Prop) (v : Nat → Value) (xs : Nat → List Value) (R : KR w pb M v xs) (n : Nat) (hxn : ∀ j, j < 6 → (xs j).length = n) (hn : n < 12)
    (kind cost jobs pool : Int) (vI : Value) (zs : List Int) (hZ : Zs w vI zs) (hz : I64 kind ∧ I64 cost ∧ I64 jobs ∧ I64 pool) (k : Nat) (hk : k < 12)
    (vP : Value) (paths : List ByteArray) (hP : Strs w vP paths) (hp : 1 ≤ paths.length ∧ paths.length ≤ 1000) (aP : ∀ q, vP.ownBlock = some q → ¬ M q) :
    Calls Tryd.prog 20 #[.pointer (some ⟨pb, 0, none⟩), .agg #[.int .i64 kind, vI, .int .i64 cost, .int .i64 jobs, .int .i64 pool], .int .i64 k, vP] w
      fun e w' => e = .returned (.tuple #[]) ∧ AddPost w w' pb M xs k paths n := by
  have HXN : Hid (∀ j, j < 6 → (xs j).length = n) := hxn
  clear hxn
  obtain ⟨m, hm, hm5⟩ : ∃ m : Nat, pickZ kind 5 = m ∧ m < 5 := ⟨(pickZ kind 5).toNat, by have := pickZ_bd kind (n := 5) (by omega); omega, by have := pickZ_bd kind (n := 5) (by omega); omega⟩
  have HPK : Hid (∀ w, Calls Tryd.prog 33 #[.int .i64 kind, .int .i64 5] w fun e w' => e = .returned (.int .i64 m) ∧ w' = w) := fun w => by
    have := kp_pick kind 5 w hz.1 (by omega)
    rwa [hm] at this
  obtain ⟨act, hact⟩ : ∃ a, acts5[m]'hm5 = a := ⟨_, rfl⟩
  have HA : Hid (act ∈ acts5) := hact ▸ List.getElem_mem hm5
  have HM : Hid (pickZ kind 5 = m) := hm
  have HEQ : Hid (([Value.string ⟨#[99, 97, 116]⟩, .string ⟨#[114, 101, 118]⟩, .string ⟨#[104, 97, 108, 102]⟩, .string ⟨#[99, 111, 117, 110, 116]⟩, .string ⟨#[103, 97, 116, 101]⟩][m]'hm5) = .string act) := by
    rw [Hid, ← hact]
    rcases (show m = 0 ∨ m = 1 ∨ m = 2 ∨ m = 3 ∨ m = 4 by omega) with rfl | rfl | rfl | rfl | rfl <;> rfl
  clear hact hm
  obtain ⟨i0, hi, hz0, hz1, hz2⟩ := info_parts Tryd.info9
  obtain ⟨i1, hi1, hz10, hz11, hz12⟩ := info_parts Tryd.info36
  obtain ⟨i2, hi2, hz20, hz21, hz22⟩ := info_parts Tryd.info3i
  obtain ⟨aZ, cZ, hvZ, hlZ, hzZ, _⟩ := id hZ
  obtain ⟨aP0, cP, hvP, hcP, _⟩ := id hP
  subst hvZ hvP
  go_enter Tryd.func20, Tryd.ntmps20
  go_wp2_with fail
  refine (HPK.out _).mono ?_
  rintro e w1 ⟨rfl, hw⟩
  subst hw
  go_upto_region 4 with (go_at_call 19; refine (kp_numbered 116 k _ hk).mono ?_; rintro e w2 ⟨rfl, q2, hw⟩; subst hw)
  have hEq : ([Value.string ⟨#[99, 97, 116]⟩, .string ⟨#[114, 101, 118]⟩, .string ⟨#[104, 97, 108, 102]⟩, .string ⟨#[99, 111, 117, 110, 116]⟩, .string ⟨#[103, 97, 116, 101]⟩][m]'hm5) = .string act := HEQ.out
  simp only [hEq]
  clear hEq HEQ HPK
  obtain ⟨W, hW, hbW, hWr, hWb, hWs⟩ := add_world w (.cells #[.int .i64 kind, .slice aZ zs.length cZ, .int .i64 cost, .int .i64 jobs, .int .i64 pool] 60) (.cells #[.string ⟨#[99, 97, 116]⟩, .string ⟨#[114, 101, 118]⟩, .string ⟨#[104, 97, 108, 102]⟩, .string ⟨#[99, 111, 117, 110, 116]⟩, .string ⟨#[103, 97, 116, 101]⟩] 76) (.cells #[.string (numB 116 k)] 9) q2
  have hWo : W.ownsRow (w.heap.size + 1) 9 1 (.slice (some ⟨w.heap.size + 1 + 1, 0, none⟩) 1 1) 1 [.string (numB 116 k)] :=
    ⟨rfl, .inr ⟨w.heap.size + 2, 1, #[.string (numB 116 k)], rfl, by omega, hWb, Nat.le_refl _, by unfold maxLen; omega, rfl, rfl⟩⟩
  rw [hW]
  have hWt := blk_lt hWb
  clear hW hWs
  go_upto_if 25 with fail
  have HZ : Hid (Zs w (.slice aZ zs.length cZ) zs) := hZ
  have HP : Hid (Strs w (.slice aP0 paths.length cP) paths) := hP
  have HR : Hid (KR w pb M v xs) := R
  clear hZ hP R
  go_cut [10] (fun o wx => ∃ a c outs, o = .slice a outs.length c ∧ (outs = if act.toList == [104, 97, 108, 102] then [numB 116 k, numB 117 k] else [numB 116 k]) ∧ wx.ownsRow (w.heap.size + 1) 9 1 o outs.length (outs.map Value.string) ∧ Below (w.heap.size + 1) W wx)
  case first =>
    cases hh : (act.toList == [104, 97, 108, 102])
    · have HH : Hid ((act.toList == [104, 97, 108, 102]) = false) := hh
      clear hh
      go_wp2_with fail
      go_meet
      exact ⟨_, _, [numB 116 k], rfl, by rw [HH.out]; rfl, hWo, Below.refl _ _⟩
    · have HH : Hid ((act.toList == [104, 97, 108, 102]) = true) := hh
      clear hh
      go_wp2_with (first
        | (go_at_call 19; refine (kp_numbered 117 k _ hk).mono ?_; rintro e w2 ⟨rfl, q3, hw⟩; subst hw)
        | (at_builtin; (refine wpList_append_lies _ rfl _ _ 36 rfl (w.heap.size + 1) 9 i0 _ 1 16 Tryd.underlying36 hi hz0 hz1 hz2 rfl (by decide) _ 1 [.string (numB 116 k)] rfl (World.ownsRow.alloc (w := W.drewN _) hWo _) ⟨W.heap.size, 0, none⟩ 1 1 [.string (numB 117 k)] rfl rfl (Go.cell_one_new (W.drewN _) _ _) (by simp [Value.oneCell']) (by omega) (by unfold maxLen; omega) (by omega) (by simp; omega) (W.heap.size + 1) (by simp) ?_)))
      intro gg cap w2 hown hgrow hat hlt1
      go_wp2_with fail
      go_meet
      refine ⟨_, _, [numB 116 k, numB 117 k], rfl, by rw [HH.out]; rfl, hown, ?_⟩
      exact ((below_drewN (Below.refl _ _) _).alloc (by simp; omega) _).grown hgrow (by simp; omega) (fun j hj => (hWo.lt j hj).1)
  case rest =>
    obtain ⟨aO, cO, outs, rfl, hO, hoO, hbO⟩ := hcut
    have hbw := hbW.trans (hbO.mono (by omega))
    have hRw := (hbO.block w.heap.size (by omega)).trans hWr
    have hsz := hbw.size
    have HO : Hid (outs = if act.toList == [104, 97, 108, 102] then [numB 116 k, numB 117 k] else [numB 116 k]) := hO
    have HSZ : Hid (w.heap.size + 2 < wc.heap.size) := by have := hbO.size; show _ < _; omega
    clear hbO hO hWr hWo hbW hWb
    obtain ⟨r0, r1, r2, r3, r4, rf⟩ := five hRw
    go_upto_region 7 with fail
    go_cut [36] (fun c wx => c = .bool ((act.toList == [99, 97, 116]) || (act.toList == [99, 111, 117, 110, 116])) ∧ wx = wc)
    case first =>
      cases h1 : (act.toList == [99, 97, 116])
      · have H1 : Hid ((act.toList == [99, 97, 116]) = false) := h1
        cases h2 : (act.toList == [99, 111, 117, 110, 116])
        · have H2 : Hid ((act.toList == [99, 111, 117, 110, 116]) = false) := h2
          go_wp2_with fail
          go_meet
          exact ⟨by rw [H1.out, H2.out]; rfl, rfl⟩
        · have H2 : Hid ((act.toList == [99, 111, 117, 110, 116]) = true) := h2
          go_wp2_with fail
          go_meet
          exact ⟨by rw [H1.out, H2.out]; rfl, rfl⟩
      · have H1 : Hid ((act.toList == [99, 97, 116]) = true) := h1
        go_wp2_with fail
        go_meet
        exact ⟨by rw [H1.out]; rfl, rfl⟩
    case rest =>
    obtain ⟨rfl, rfl⟩ := hcut
    go_upto_if 36 with fail
    go_cut [11] (fun o wx => ∃ q : Nat, o = .int .i64 q ∧ 1 ≤ q ∧ q ≤ 4 ∧ (((act.toList == [99, 97, 116]) || (act.toList == [99, 111, 117, 110, 116])) = false → q = 1) ∧ wx = wc)
    case first =>
      cases h1 : ((act.toList == [99, 97, 116]) || (act.toList == [99, 111, 117, 110, 116]))
      · go_wp2_with fail
        go_meet
        exact ⟨1, rfl, by omega, by omega, fun _ => rfl, rfl⟩
      · have H1 : Hid (((act.toList == [99, 97, 116]) || (act.toList == [99, 111, 117, 110, 116])) = true) := h1
        rcases (show zs.length < 1 ∨ (1 ≤ zs.length ∧ zs.length ≤ 4) ∨ 4 < zs.length by omega) with h2 | ⟨h2, h3⟩ | h2
        · go_wp2_with fail
          go_meet
          exact ⟨1, rfl, by omega, by omega, fun _ => rfl, rfl⟩
        · go_wp2_with fail
          go_meet
          exact ⟨zs.length, rfl, by omega, by omega, fun h => (by rw [H1.out] at h; cases h), rfl⟩
        · go_wp2_with fail
          go_meet
          exact ⟨4, rfl, by omega, by omega, fun h => (by rw [H1.out] at h; cases h), rfl⟩
    case rest =>
    obtain ⟨q, rfl, hq1, hq4, hq, rfl⟩ := hcut
    have HQ : Hid (((act.toList == [99, 97, 116]) || (act.toList == [99, 111, 117, 110, 116])) = false → q = 1) := hq
    clear hq
    have hZw := HZ.out.below hbw
    have hPw := HP.out.below hbw
    go_wp2_with fail
    go_loopw [12, 13, 14] (fun vs i _ wr => ∃ j : Nat, j ≤ q ∧ i = .int .i64 j ∧ ∃ l : List ByteArray, l.length = j ∧ (∀ x ∈ l, x ∈ paths) ∧ wr.ownsRow wc.heap.size 9 1 vs l.length (l.map Value.string) ∧ Below wc.heap.size wc wr) (fun _ i _ _ => q - (intOf i).toNat)
    case atStart => exact ⟨0, Nat.zero_le _, rfl, [], rfl, fun x hx => (by cases hx), World.ownsRow_nil _ _ _ _, Below.refl _ _⟩
    case round =>
      obtain ⟨j, hj, rfl, l, hl, hlm, hown, hbel⟩ := hrel
      subst hl
      obtain ⟨aL, cL, hvL⟩ := owns_shape hown
      subst hvL
      have hbs := hbel.size
      obtain ⟨s0, s1, s2, s3, s4, sf⟩ := five ((hbel.block w.heap.size (by have := HSZ.out; omega)).trans hRw)
      by_cases hlt : l.length < q
      · by_cases hjz : l.length < zs.length
        · obtain ⟨bz, oz, hz1', hzc⟩ := zs_at (hZw.below hbel) hjz
          subst hz1'
          have hzb := hzZ _ (List.getElem_mem hjz)
          generalize zs[l.length] = c at *
          obtain ⟨m2, hm2, hm2l⟩ := pick_nat c hp.1
          have HPK : Hid (Calls Tryd.prog 33 #[.int .i64 c, .int .i64 (paths.length : Nat)] wr fun e w' => e = .returned (.int .i64 m2) ∧ w' = wr) := by
            have := kp_pick c paths.length wr hzb (by omega)
            rwa [hm2] at this
          obtain ⟨bp, op, hp1, hpc⟩ := strs_at (hPw.below hbel) hm2l
          subst hp1
          have HMEM : Hid (paths[m2] ∈ paths) := List.getElem_mem hm2l
          clear hm2
          generalize paths[m2] = x at *
          go_wp2_with (first
            | (go_at_call 33; refine HPK.out.mono ?_; rintro e w2 ⟨rfl, hw⟩; rw [hw]; clear hw)
            | (at_builtin; (refine wpList_append_lies _ rfl _ _ 36 rfl wc.heap.size 9 i0 _ 1 16 Tryd.underlying36 hi hz0 hz1 hz2 rfl (by decide) _ l.length (l.map Value.string) rfl (hown.alloc _) ⟨wr.heap.size, 0, none⟩ 1 1 [.string x] rfl rfl (Go.cell_one_new _ _ _) (by simp [Value.oneCell']) (by omega) (by unfold maxLen; omega) (by omega) (by simp; omega) (wr.heap.size + 1) (by simp) ?_)))
          intro gg cap w3 hown3 hgrow hat hlt1
          go_wp2
          go_roundw
          case rel =>
            refine ⟨l.length + 1, by omega, by go_num, l ++ [x], by simp, fun y hy => ?_, ?_, (hbel.alloc (by omega) _).grown hgrow (by simp; omega) (fun i hi => (hown.lt i hi).1)⟩
            · rw [List.mem_append, List.mem_singleton] at hy
              rcases hy with hy | rfl
              · exact hlm y hy
              · exact HMEM.out
            · rw [map_snoc] at hown3
              simpa using hown3
          case measure => simp [intOf]; omega
        · have hzb : I64 0 := by constructor <;> omega
          obtain ⟨m2, hm2, hm2l⟩ := pick_nat 0 hp.1
          have HPK : Hid (Calls Tryd.prog 33 #[.int .i64 0, .int .i64 (paths.length : Nat)] wr fun e w' => e = .returned (.int .i64 m2) ∧ w' = wr) := by
            have := kp_pick 0 paths.length wr hzb (by omega)
            rwa [hm2] at this
          obtain ⟨bp, op, hp1, hpc⟩ := strs_at (hPw.below hbel) hm2l
          subst hp1
          have HMEM : Hid (paths[m2] ∈ paths) := List.getElem_mem hm2l
          clear hm2
          generalize paths[m2] = x at *
          go_wp2_with (first
            | (go_at_call 33; refine HPK.out.mono ?_; rintro e w2 ⟨rfl, hw⟩; rw [hw]; clear hw)
            | (at_builtin; (refine wpList_append_lies _ rfl _ _ 36 rfl wc.heap.size 9 i0 _ 1 16 Tryd.underlying36 hi hz0 hz1 hz2 rfl (by decide) _ l.length (l.map Value.string) rfl (hown.alloc _) ⟨wr.heap.size, 0, none⟩ 1 1 [.string x] rfl rfl (Go.cell_one_new _ _ _) (by simp [Value.oneCell']) (by omega) (by unfold maxLen; omega) (by omega) (by simp; omega) (wr.heap.size + 1) (by simp) ?_)))
          intro gg cap w3 hown3 hgrow hat hlt1
          go_wp2
          go_roundw
          case rel =>
            refine ⟨l.length + 1, by omega, by go_num, l ++ [x], by simp, fun y hy => ?_, ?_, (hbel.alloc (by omega) _).grown hgrow (by simp; omega) (fun i hi => (hown.lt i hi).1)⟩
            · rw [List.mem_append, List.mem_singleton] at hy
              rcases hy with hy | rfl
              · exact hlm y hy
              · exact HMEM.out
            · rw [map_snoc] at hown3
              simpa using hown3
          case measure => simp [intOf]; omega
      · have HL : Hid (l.length = q) := by show _ = _; omega
        have hbwr := hbw.trans (hbel.mono hsz)
        have hlow : ∀ q, (Value.slice aO outs.length cO).ownBlock = some q → w.heap.size + 1 ≤ q ∧ q < wc.heap.size := fun q hq => hoO.lt q hq
        have A0 : AS w wr pb M M v xs w.heap.size (.cells #[.int .i64 kind, .slice aZ zs.length cZ, .int .i64 cost, .int .i64 jobs, .int .i64 pool] 60) (.slice aO outs.length cO) outs (.slice aL l.length cL) l := by
          have hold := HR.out.old
          refine ⟨HR.out.same hbwr, (hbel.block w.heap.size (by have := HSZ.out; omega)).trans hRw, fun h => by have := hold _ h; omega, (Strs.owned hoO).below hbel, Strs.owned hown, fun q hq => ⟨fun h => ?_, ?_⟩, fun q hq => ⟨fun h => ?_, ?_⟩, ⟨hbwr.os, hbwr.tape, hbwr.output, hbwr.size, fun k hk _ => hbwr.block k hk⟩, fun k hk => .inl hk⟩
          · have := hold _ h; have := (hlow q hq).1; omega
          · have := (hlow q hq).2; omega
          · have := hold _ h; have := (hown.lt q hq).1; omega
          · exact (hown.lt q hq).2
        have HS : Hid (∀ q, (Value.slice aO outs.length cO).ownBlock = some q → w.heap.size ≤ q) := fun q hq => by have := (hlow q hq).1; omega
        have HS2 : Hid (∀ q, (Value.slice aL l.length cL).ownBlock = some q → w.heap.size ≤ q) := fun q hq => by have := (hown.lt q hq).1; omega
        have HLM : Hid (∀ x ∈ l, x ∈ paths) := hlm
        clear hbwr hlow hlm hown hbel hoO hbw hRw hPw hZw s0 s1 s2 s3 s4 sf r0 r1 r2 r3 r4 rf hbs hsz
        go_upto_region 21 with fail
        obtain ⟨ax, cx, hv, hox, hc, hf⟩ := A0.R.ready 0 (by omega) (x := xs 0) (n := n) rfl (HXN.out 0 (by omega))
        have hpl := blk_lt A0.R.blk
        have hqf : ∀ o, (World.alloc wr o).frozen? ⟨pb, 0, none⟩ = false := fun o => (World.frozen?_of_block (Below.heap_alloc _ _ _ hpl)).trans hf
        have hqc : ∀ o, (World.alloc wr o).cell? ⟨pb, 0, none⟩ = some (.slice ax n cx) := fun o => (World.cell?_of_block (Below.heap_alloc _ _ _ hpl)).trans hc
        have hne : some pb ≠ (Value.slice ax n cx).ownBlock := fun e => by have := (hox.lt pb e.symm).1; omega
        go_wp2_with (at_builtin; (refine wpList_append_lies _ rfl _ _ 36 rfl (pb + 1) 9 i0 _ 1 16 Tryd.underlying36 hi hz0 hz1 hz2 rfl (by decide) _ n (xs 0) rfl (hox.alloc _) ⟨wr.heap.size, 0, none⟩ 1 1 [(.string act)] rfl rfl (Go.cell_one_new _ _ _) (by simp [Value.oneCell']) (by omega) (by unfold maxLen; omega) (by omega) (by simp; omega) (wr.heap.size + 1) (by simp) ?_))
        intro gg cap w4 hown hgrow hat hlt1
        have hfz : w4.frozen? ⟨pb, 0, none⟩ = false := (hgrow.frozen_far _ (by simp; omega) hne).trans (hqf _)
        have hcz : w4.cell? ⟨pb, 0, none⟩ = some (.slice ax n cx) := (hgrow.cell_far _ (by simp; omega) hne).trans (hqc _)
        go_upto_region 22 with fail
        obtain ⟨M1, A1⟩ := A0.app (j := 0) (n := n) (u := (.string act)) (by omega) (HXN.out 0 (by omega)).symm hn ((Below.refl _ _).alloc (Nat.le_refl _) _) hown (by rw [hv]; exact hgrow) (by rw [hv]; exact hat.imp id (fun h => by omega))
        clear hown hgrow hat hlt1 hfz hcz hqf hqc hox hc hf hne hpl
        obtain ⟨V1, hV1⟩ : ∃ V, up v 0 (.slice (some ⟨gg, 0, none⟩) (n + 1) cap) = V := ⟨_, rfl⟩
        rw [hV1] at A1
        clear hV1 hv
        generalize w4.setCell ⟨pb, 0, none⟩ (.slice (some ⟨gg, 0, none⟩) (n + 1) cap) = W1 at *
        clear A0
        obtain ⟨ax, cx, hv, hox, hc, hf⟩ := A1.R.ready 1 (by omega) (x := xs 1) (n := n) rfl (HXN.out 1 (by omega))
        have hpl := blk_lt A1.R.blk
        have hqf : ∀ o, (World.alloc W1 o).frozen? ⟨pb, 1, none⟩ = false := fun o => (World.frozen?_of_block (Below.heap_alloc _ _ _ hpl)).trans hf
        have hqc : ∀ o, (World.alloc W1 o).cell? ⟨pb, 1, none⟩ = some (.slice ax n cx) := fun o => (World.cell?_of_block (Below.heap_alloc _ _ _ hpl)).trans hc
        have hne : some pb ≠ (Value.slice ax n cx).ownBlock := fun e => by have := (hox.lt pb e.symm).1; omega
        go_wp2_with (at_builtin; (refine wpList_append_lies _ rfl _ _ 37 rfl (pb + 1) 36 i1 _ 1 24 Tryd.underlying37 hi1 hz10 hz11 hz12 rfl (by decide) _ n (xs 1) rfl (hox.alloc _) ⟨W1.heap.size, 0, none⟩ 1 1 [(.slice aO outs.length cO)] rfl rfl (Go.cell_one_new _ _ _) (by simp [Value.oneCell']) (by omega) (by unfold maxLen; omega) (by omega) (by simp; omega) (W1.heap.size + 1) (by simp) ?_))
        intro gg cap w4 hown hgrow hat hlt1
        have hfz : w4.frozen? ⟨pb, 1, none⟩ = false := (hgrow.frozen_far _ (by simp; omega) hne).trans (hqf _)
        have hcz : w4.cell? ⟨pb, 1, none⟩ = some (.slice ax n cx) := (hgrow.cell_far _ (by simp; omega) hne).trans (hqc _)
        go_upto_region 23 with fail
        obtain ⟨M2, A2⟩ := A1.app (j := 1) (n := n) (u := (.slice aO outs.length cO)) (by omega) (HXN.out 1 (by omega)).symm hn ((Below.refl _ _).alloc (Nat.le_refl _) _) hown (by rw [hv]; exact hgrow) (by rw [hv]; exact hat.imp id (fun h => by omega))
        clear hown hgrow hat hlt1 hfz hcz hqf hqc hox hc hf hne hpl
        obtain ⟨V2, hV1⟩ : ∃ V, up V1 1 (.slice (some ⟨gg, 0, none⟩) (n + 1) cap) = V := ⟨_, rfl⟩
        rw [hV1] at A2
        clear hV1 hv
        generalize w4.setCell ⟨pb, 1, none⟩ (.slice (some ⟨gg, 0, none⟩) (n + 1) cap) = W2 at *
        clear A1
        obtain ⟨ax, cx, hv, hox, hc, hf⟩ := A2.R.ready 2 (by omega) (x := xs 2) (n := n) rfl (HXN.out 2 (by omega))
        have hpl := blk_lt A2.R.blk
        have hqf : ∀ o, (World.alloc W2 o).frozen? ⟨pb, 2, none⟩ = false := fun o => (World.frozen?_of_block (Below.heap_alloc _ _ _ hpl)).trans hf
        have hqc : ∀ o, (World.alloc W2 o).cell? ⟨pb, 2, none⟩ = some (.slice ax n cx) := fun o => (World.cell?_of_block (Below.heap_alloc _ _ _ hpl)).trans hc
        have hne : some pb ≠ (Value.slice ax n cx).ownBlock := fun e => by have := (hox.lt pb e.symm).1; omega
        go_wp2_with (at_builtin; (refine wpList_append_lies _ rfl _ _ 37 rfl (pb + 1) 36 i1 _ 1 24 Tryd.underlying37 hi1 hz10 hz11 hz12 rfl (by decide) _ n (xs 2) rfl (hox.alloc _) ⟨W2.heap.size, 0, none⟩ 1 1 [(.slice aL l.length cL)] rfl rfl (Go.cell_one_new _ _ _) (by simp [Value.oneCell']) (by omega) (by unfold maxLen; omega) (by omega) (by simp; omega) (W2.heap.size + 1) (by simp) ?_))
        intro gg cap w4 hown hgrow hat hlt1
        have hfz : w4.frozen? ⟨pb, 2, none⟩ = false := (hgrow.frozen_far _ (by simp; omega) hne).trans (hqf _)
        have hcz : w4.cell? ⟨pb, 2, none⟩ = some (.slice ax n cx) := (hgrow.cell_far _ (by simp; omega) hne).trans (hqc _)
        go_upto_region 24 with fail
        obtain ⟨M3, A3⟩ := A2.app (j := 2) (n := n) (u := (.slice aL l.length cL)) (by omega) (HXN.out 2 (by omega)).symm hn ((Below.refl _ _).alloc (Nat.le_refl _) _) hown (by rw [hv]; exact hgrow) (by rw [hv]; exact hat.imp id (fun h => by omega))
        clear hown hgrow hat hlt1 hfz hcz hqf hqc hox hc hf hne hpl
        obtain ⟨V3, hV1⟩ : ∃ V, up V2 2 (.slice (some ⟨gg, 0, none⟩) (n + 1) cap) = V := ⟨_, rfl⟩
        rw [hV1] at A3
        clear hV1 hv
        generalize w4.setCell ⟨pb, 2, none⟩ (.slice (some ⟨gg, 0, none⟩) (n + 1) cap) = W3 at *
        clear A2
        obtain ⟨mc, hmc, hmc9⟩ := pick_nat cost (n := 9) (by omega)
        obtain ⟨mj, hmj, hmj9⟩ := pick_nat jobs (n := 9) (by omega)
        obtain ⟨mp, hmp, hmp4⟩ := pick_nat pool (n := 4) (by omega)
        have hwc : IntKind.i64.wrap (1 + (mc : Int)) = 1 + (mc : Int) := by rw [IntKind.wrap_i64]; omega
        have hwj : IntKind.i64.wrap (1 + (mj : Int)) = 1 + (mj : Int) := by rw [IntKind.wrap_i64]; omega
        have hzc := hz.2.1
        have hzj := hz.2.2.1
        have hzp := hz.2.2.2
        replace hmc : pickZ cost 9 = mc := hmc
        replace hmj : pickZ jobs 9 = mj := hmj
        replace hmp : pickZ pool 4 = mp := hmp
        obtain ⟨s0, s1, s2, s3, s4, sf⟩ := five A3.box
        have HPC : Hid (∀ wz, Calls Tryd.prog 33 #[.int .i64 cost, .int .i64 9] wz fun e w' => e = .returned (.int .i64 mc) ∧ w' = wz) := fun wz => by
          have := kp_pick cost 9 wz ‹I64 cost› (by omega)
          rwa [‹pickZ cost 9 = _›] at this
        obtain ⟨ax, cx, hv, hox, hc, hf⟩ := A3.R.ready 3 (by omega) (x := xs 3) (n := n) rfl (HXN.out 3 (by omega))
        have hpl := blk_lt A3.R.blk
        have hqf : ∀ o, (World.alloc W3 o).frozen? ⟨pb, 3, none⟩ = false := fun o => (World.frozen?_of_block (Below.heap_alloc _ _ _ hpl)).trans hf
        have hqc : ∀ o, (World.alloc W3 o).cell? ⟨pb, 3, none⟩ = some (.slice ax n cx) := fun o => (World.cell?_of_block (Below.heap_alloc _ _ _ hpl)).trans hc
        have hne : some pb ≠ (Value.slice ax n cx).ownBlock := fun e => by have := (hox.lt pb e.symm).1; omega
        go_cut [] (fun wx => ∃ M1 V1, AS w wx pb M M1 V1 (up (up (up (up xs 0 (xs 0 ++ [.string act])) 1 (xs 1 ++ [.slice aO outs.length cO])) 2 (xs 2 ++ [.slice aL l.length cL])) 3 (xs 3 ++ [(.int .i64 (1 + (mc : Int)))])) w.heap.size (.cells #[.int .i64 kind, .slice aZ zs.length cZ, .int .i64 cost, .int .i64 jobs, .int .i64 pool] 60) (.slice aO outs.length cO) outs (.slice aL l.length cL) l)
        case first =>
          go_region_law (first
            | (go_simp; go_at_call 33; refine (HPC.out _).mono ?_; rintro e w5 ⟨rfl, hw⟩; rw [hw]; clear hw)
            | (refine step_append_lies _ (by rfl) _ _ _ (by rfl) (pb + 1) 3 i2 _ 1 8 Tryd.underlying29 hi2 hz20 hz21 hz22 rfl (by omega) _ n (xs 3) (by rfl) ((hox.alloc _).drew) ⟨W3.heap.size, 0, none⟩ 1 1 [(.int .i64 (1 + (mc : Int)))] (by rfl) (by rfl) (World.news_of_block (cs := #[(.int .i64 (1 + (mc : Int)))]) (t := 3) (fr := (0, 0)) (alloc_drew_new W3 _ _ (by simp))) (by simp [Value.oneCell']) (by omega) (by unfold maxLen; omega) (by omega) (by simp; omega) (W3.heap.size + 1) (by simp) ?_; intro gg cap w4 hown hgrow hat hlt1; have hfz : w4.frozen? ⟨pb, 3, none⟩ = false := (hgrow.frozen_far _ (by simp; omega) hne).trans (by simpa using hqf _); have hcz : w4.cell? ⟨pb, 3, none⟩ = some (.slice ax n cx) := (hgrow.cell_far _ (by simp; omega) hne).trans (by simpa using hqc _)))
          all_goals
            go_wp2_with fail
            go_meet
            obtain ⟨M1, A1⟩ := A3.app (j := 3) (n := n) (u := (.int .i64 (1 + (mc : Int)))) (by omega) (HXN.out 3 (by omega)).symm hn (((Below.refl _ _).alloc (Nat.le_refl _) _).drew) hown (by rw [hv]; exact hgrow) (by rw [hv]; exact hat.imp id (fun h => by omega))
            exact ⟨M1, _, A1⟩
        case rest =>
        obtain ⟨M4, V4, A4⟩ := hcut
        clear hqf hqc hox hc hf hne hpl hv s0 s1 s2 s3 s4 sf HPC A3
        go_upto_region 25 with fail
        obtain ⟨s0, s1, s2, s3, s4, sf⟩ := five A4.box
        have HPC : Hid (∀ wz, Calls Tryd.prog 33 #[.int .i64 jobs, .int .i64 9] wz fun e w' => e = .returned (.int .i64 mj) ∧ w' = wz) := fun wz => by
          have := kp_pick jobs 9 wz ‹I64 jobs› (by omega)
          rwa [‹pickZ jobs 9 = _›] at this
        obtain ⟨ax, cx, hv, hox, hc, hf⟩ := A4.R.ready 4 (by omega) (x := xs 4) (n := n) rfl (HXN.out 4 (by omega))
        have hpl := blk_lt A4.R.blk
        have hqf : ∀ o, (World.alloc wc o).frozen? ⟨pb, 4, none⟩ = false := fun o => (World.frozen?_of_block (Below.heap_alloc _ _ _ hpl)).trans hf
        have hqc : ∀ o, (World.alloc wc o).cell? ⟨pb, 4, none⟩ = some (.slice ax n cx) := fun o => (World.cell?_of_block (Below.heap_alloc _ _ _ hpl)).trans hc
        have hne : some pb ≠ (Value.slice ax n cx).ownBlock := fun e => by have := (hox.lt pb e.symm).1; omega
        go_cut [] (fun wx => ∃ M1 V1, AS w wx pb M M1 V1 (up (up (up (up (up xs 0 (xs 0 ++ [.string act])) 1 (xs 1 ++ [.slice aO outs.length cO])) 2 (xs 2 ++ [.slice aL l.length cL])) 3 (xs 3 ++ [.int .i64 (1 + (mc : Int))])) 4 (xs 4 ++ [(.int .i64 (1 + (mj : Int)))])) w.heap.size (.cells #[.int .i64 kind, .slice aZ zs.length cZ, .int .i64 cost, .int .i64 jobs, .int .i64 pool] 60) (.slice aO outs.length cO) outs (.slice aL l.length cL) l)
        case first =>
          go_region_law (first
            | (go_simp; go_at_call 33; refine (HPC.out _).mono ?_; rintro e w5 ⟨rfl, hw⟩; rw [hw]; clear hw)
            | (refine step_append_lies _ (by rfl) _ _ _ (by rfl) (pb + 1) 3 i2 _ 1 8 Tryd.underlying29 hi2 hz20 hz21 hz22 rfl (by omega) _ n (xs 4) (by rfl) ((hox.alloc _).drew) ⟨wc.heap.size, 0, none⟩ 1 1 [(.int .i64 (1 + (mj : Int)))] (by rfl) (by rfl) (World.news_of_block (cs := #[(.int .i64 (1 + (mj : Int)))]) (t := 3) (fr := (0, 0)) (alloc_drew_new wc _ _ (by simp))) (by simp [Value.oneCell']) (by omega) (by unfold maxLen; omega) (by omega) (by simp; omega) (wc.heap.size + 1) (by simp) ?_; intro gg cap w4 hown hgrow hat hlt1; have hfz : w4.frozen? ⟨pb, 4, none⟩ = false := (hgrow.frozen_far _ (by simp; omega) hne).trans (by simpa using hqf _); have hcz : w4.cell? ⟨pb, 4, none⟩ = some (.slice ax n cx) := (hgrow.cell_far _ (by simp; omega) hne).trans (by simpa using hqc _)))
          all_goals
            go_wp2_with fail
            go_meet
            obtain ⟨M1, A1⟩ := A4.app (j := 4) (n := n) (u := (.int .i64 (1 + (mj : Int)))) (by omega) (HXN.out 4 (by omega)).symm hn (((Below.refl _ _).alloc (Nat.le_refl _) _).drew) hown (by rw [hv]; exact hgrow) (by rw [hv]; exact hat.imp id (fun h => by omega))
            exact ⟨M1, _, A1⟩
        case rest =>
        obtain ⟨M5, V5, A5⟩ := hcut
        clear hqf hqc hox hc hf hne hpl hv s0 s1 s2 s3 s4 sf HPC A4
        go_upto_region 26 with fail
        obtain ⟨s0, s1, s2, s3, s4, sf⟩ := five A5.box
        have HPC : Hid (∀ wz, Calls Tryd.prog 33 #[.int .i64 pool, .int .i64 4] wz fun e w' => e = .returned (.int .i64 mp) ∧ w' = wz) := fun wz => by
          have := kp_pick pool 4 wz ‹I64 pool› (by omega)
          rwa [‹pickZ pool 4 = _›] at this
        obtain ⟨ax, cx, hv, hox, hc, hf⟩ := A5.R.ready 5 (by omega) (x := xs 5) (n := n) rfl (HXN.out 5 (by omega))
        have hpl := blk_lt A5.R.blk
        have hqf : ∀ o, (World.alloc wc o).frozen? ⟨pb, 5, none⟩ = false := fun o => (World.frozen?_of_block (Below.heap_alloc _ _ _ hpl)).trans hf
        have hqc : ∀ o, (World.alloc wc o).cell? ⟨pb, 5, none⟩ = some (.slice ax n cx) := fun o => (World.cell?_of_block (Below.heap_alloc _ _ _ hpl)).trans hc
        have hne : some pb ≠ (Value.slice ax n cx).ownBlock := fun e => by have := (hox.lt pb e.symm).1; omega
        go_region_law (first
          | (go_simp; go_at_call 33; refine (HPC.out _).mono ?_; rintro e w5 ⟨rfl, hw⟩; rw [hw]; clear hw)
          | (refine step_append_lies _ (by rfl) _ _ _ (by rfl) (pb + 1) 3 i2 _ 1 8 Tryd.underlying29 hi2 hz20 hz21 hz22 rfl (by omega) _ n (xs 5) (by rfl) ((hox.alloc _).drew) ⟨wc.heap.size, 0, none⟩ 1 1 [(.int .i64 (mp : Int))] (by rfl) (by rfl) (World.news_of_block (cs := #[(.int .i64 (mp : Int))]) (t := 3) (fr := (0, 0)) (alloc_drew_new wc _ _ (by simp))) (by simp [Value.oneCell']) (by omega) (by unfold maxLen; omega) (by omega) (by simp; omega) (wc.heap.size + 1) (by simp) ?_; intro gg cap w4 hown hgrow hat hlt1; have hfz : w4.frozen? ⟨pb, 5, none⟩ = false := (hgrow.frozen_far _ (by simp; omega) hne).trans (by simpa using hqf _); have hcz : w4.cell? ⟨pb, 5, none⟩ = some (.slice ax n cx) := (hgrow.cell_far _ (by simp; omega) hne).trans (by simpa using hqc _)))
        all_goals
          go_wp2
          go_end0
          obtain ⟨M1, A1⟩ := A5.app (j := 5) (n := n) (u := (.int .i64 (mp : Int))) (by omega) (HXN.out 5 (by omega)).symm hn (((Below.refl _ _).alloc (Nat.le_refl _) _).drew) hown (by rw [hv]; exact hgrow) (by rw [hv]; exact hat.imp id (fun h => by omega))
          exact ⟨rfl, add_post A1 HA.out HO.out HLM.out (by rw [HL.out]; exact ⟨hq1, hq4⟩) (fun h1 h2 => by rw [HL.out]; exact HQ.out (by rw [h1, h2]; rfl)) hmc9 hmj9 hmp4 HS.out HS2.out⟩
end Go.Proofs.YtoabakgmjcnodaaDoor
