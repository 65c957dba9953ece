import Derived.Test.YtoabakgmjcnodaaDoorOwnO
namespace Go.Proofs.YtoabakgmjcnodaaDoor
open Go.ChangeShapes Go.WideShapes Go.ChangeAt Go.RowKit

theorem below_three {B : Nat} {w w1 : World} (h : Below B w w1) (hB : B = w.heap.size) (a b c : Value) :
    Below w.heap.size w (((w1.setCell ⟨B, 0, none⟩ a).setCell ⟨B, 1, none⟩ b).setCell ⟨B, 2, none⟩ c) := by
  subst hB
  exact ((h.setCell (Nat.le_refl _) _).setCell (Nat.le_refl _) _).setCell (Nat.le_refl _) _

set_option maxRecDepth 10000 in
set_option maxHeartbeats 4000000 in
theorem own_Read (s : ByteArray) (w : World) (hV : Vars w) (_hs : s.size ≤ maxLen) :
    Calls Tryd.prog 15 #[.string s] w fun e w' => ORPost w w' e (ownRead s) := by
  obtain ⟨RT, hRT⟩ : ∃ RT, ownRead s = RT := ⟨_, rfl⟩
  rw [hRT]
  have HR0 : Hid (ownRead s = RT) := hRT
  clear hRT
  have hb0 := (Below.refl w.heap.size w).alloc (Nat.le_refl _) (.cells #[.slice none 0 0, .slice none 0 0, .slice none 0 0] 49)
  have hn0 := heap_alloc_new w (.cells #[.slice none 0 0, .slice none 0 0, .slice none 0 0] 49)
  by_cases hl : 2000 < s.size
  · have HE : Hid (RT = (os0, 0, 1)) := by rw [← HR0.out]; simp [Hid, ownRead, hl]
    have hl' : (2000 : Int) < (s.size : Int) := by omega
    obtain ⟨r0, r1, r2, rf⟩ := three hn0
    go_enter Tryd.func15, Tryd.ntmps15
    go_wp2
    exact bodyPost_ret (v := .tuple #[.agg #[.slice none 0 0, .slice none 0 0, .slice none 0 0], .int .i64 0, .int .i64 1]) (by simp [results, Tryd.results15, go_sem, r0, r1, r2]) rfl (by
      rw [HE.out]
      exact ⟨fun _ => rfl, hb0, fun h => by simp at h⟩)
  · have hl' : ¬ (2000 : Int) < (s.size : Int) := by omega
    have hmm := @run_makeMap Tryd.prog
    obtain ⟨m, hm⟩ := hV.maxLen
    have hwp := lines_pos s
    have hwl := lines_le s
    have hws := lines_size s
    have HRT : Hid (RT = match ownRun os0 0 (linesOf s) with
      | (S, some (i, e)) => (S, i, e)
      | (S, none) => if ownRing S = true then (S, (linesOf s).length, 6) else (S, S.tasks.length, 0)) := by
      rw [← HR0.out]; simp only [Hid, ownRead, hl, if_false]; rfl
    clear HR0
    have hW0 := oplan0 (w.alloc (.cells #[.slice none 0 0, .slice none 0 0, .slice none 0 0] 49))
    simp only [World.size_alloc] at hW0
    have hbW : Below w.heap.size w (((w.alloc (.cells #[.slice none 0 0, .slice none 0 0, .slice none 0 0] 49)).alloc (.map #[] 0)).alloc (.cells #[.slice none 0 0, .slice none 0 0, .map (some (w.heap.size + 1))] 65)) := (hb0.alloc (by simp) _).alloc (by simp; omega) _
    have hrs : (((w.alloc (.cells #[.slice none 0 0, .slice none 0 0, .slice none 0 0] 49)).alloc (.map #[] 0)).alloc (.cells #[.slice none 0 0, .slice none 0 0, .map (some (w.heap.size + 1))] 65)).heap[w.heap.size]? = some (.cells #[.slice none 0 0, .slice none 0 0, .slice none 0 0] 49 (0, 0)) :=
      (Below.heap_alloc _ _ _ (by simp; omega)).trans ((Below.heap_alloc _ _ _ (by simp)).trans hn0)
    have hsz : (((w.alloc (.cells #[.slice none 0 0, .slice none 0 0, .slice none 0 0] 49)).alloc (.map #[] 0)).alloc (.cells #[.slice none 0 0, .slice none 0 0, .map (some (w.heap.size + 1))] 65)).heap.size = w.heap.size + 3 := by simp
    obtain ⟨W1, hW1⟩ : ∃ W1, (((w.alloc (.cells #[.slice none 0 0, .slice none 0 0, .slice none 0 0] 49)).alloc (.map #[] 0)).alloc (.cells #[.slice none 0 0, .slice none 0 0, .map (some (w.heap.size + 1))] 65)) = W1 := ⟨_, rfl⟩
    rw [hW1] at hW0 hbW hrs hsz
    have h2 := hV.two
    have hm1 := (hbW.cell (p := ⟨1, 0, none⟩) (by show 1 < w.heap.size; omega)).trans hm
    have hsp := Tryd.strings_Split s ⟨#[10]⟩ m W1 (by omega) hm1 (Nat.le_refl 1)
    rw [split_pcs, split_len, hsz] at hsp
    have HSP : Hid (Calls Tryd.prog 25 #[.string s, .string ⟨#[10]⟩] W1 fun e w' => e = .returned (.slice (some ⟨w.heap.size + 3, 0, none⟩) (linesOf s).length (linesOf s).length) ∧ w' = W1.alloc (.cells ((linesOf s).map Value.string).toArray 9)) := hsp
    have HW1 : Hid ((((w.alloc (.cells #[.slice none 0 0, .slice none 0 0, .slice none 0 0] 49)).alloc (.map #[] 0)).alloc (.cells #[.slice none 0 0, .slice none 0 0, .map (some (w.heap.size + 1))] 65)) = W1) := hW1
    obtain ⟨L, hL⟩ : ∃ L, linesOf s = L := ⟨_, rfl⟩
    rw [hL] at HSP hwp hwl hws HRT
    have hbL := (Below.refl W1.heap.size W1).alloc (Nat.le_refl _) (.cells (L.map Value.string).toArray 9)
    have hst : Strs (W1.alloc (.cells (L.map Value.string).toArray 9)) (.slice (some ⟨W1.heap.size, 0, none⟩) L.length L.length) L := strs_words L
    rw [hsz] at hst
    have LR : OLRel w (W1.alloc (.cells (L.map Value.string).toArray 9)) L os0 (fun k => k = w.heap.size + 1 ∨ k = w.heap.size + 1 + 1) (.slice none 0 0) (.slice none 0 0) [] [] (.map []) :=
      ⟨hW0.same hbL, hst, (hbL.block _ (by omega)).trans hrs, by omega, by omega, by simp; omega, hbW.trans (hbL.mono (by omega)), fun k hk => by omega⟩
    have HV : Hid (Vars w) := hV
    have hL1 : (L.length : Int) ≤ 2001 := by omega
    have HWS : Hid (∀ x ∈ L, x.size ≤ 2000) := fun x hx => by have := hws x hx; omega
    clear hsp hm1 hm hW1 hL hW0 hbW hrs hsz hbL hst hn0 hb0 hV hws hl
    go_enter Tryd.func15, Tryd.ntmps15
    go_wp2_with fail
    rw [HW1.out]
    refine HSP.out.mono ?_
    rintro e w2 ⟨rfl, hw⟩
    rw [← hw] at LR
    clear hw
    go_wp2_with fail
    go_loopw [7, 8, 9, 21] (fun _ _ _ i wr => ∃ (k : Nat) (S : OS) (M : Nat → Prop) (vP vT : Value) (cP cT : List Value) (D : DataW Unit), k ≤ L.length ∧ i = .int .i64 k ∧ ownRun os0 0 (L.take k) = (S, none) ∧ OLRel w wr L S M vP vT cP cT D) (fun _ _ _ i _ => L.length - (intOf i).toNat)
    case atStart => exact ⟨0, os0, _, _, _, _, _, _, Nat.zero_le _, rfl, rfl, LR⟩
    case round =>
      clear LR
      obtain ⟨k, S, M, vP, vT, cP, cT, D, hk, rfl, hrun, LR⟩ := hrel
      have HRUN : Hid (ownRun os0 0 (L.take k) = (S, none)) := hrun
      have hinv : OInv S := OInv.run _ _ _ _ OInv.zero (fun x hx => HWS.out x (List.mem_of_mem_take hx)) hrun
      have HI : Hid (OInv S) := hinv
      clear hrun hinv
      by_cases hlt : k < L.length
      · obtain ⟨b, off, hbo, hc⟩ := strs_at LR.cells hlt
        injection hbo with hbo; injection hbo with hb1 hb2
        subst hb1 hb2
        rw [Nat.zero_add] at hc
        have hxs := HWS.out _ (List.getElem_mem hlt)
        obtain ⟨x, hx⟩ : ∃ x, L[k] = x := ⟨_, rfl⟩
        rw [hx] at hc hxs
        have HSN : Hid (ownRun os0 0 (L.take (k + 1)) = if (ownLine S x).2 = 0 then ((ownLine S x).1, none) else ((ownLine S x).1, some (k, (ownLine S x).2))) := by
          show ownRun os0 0 (L.take (k + 1)) = _
          rw [List.take_succ_eq_append_getElem hlt, hx, ownRun_snoc _ _ _ _ _ HRUN.out]
          simp only [List.length_take, Nat.zero_add, show min k L.length = k by omega]
        clear hx
        have hcl := own_takeLine x wr (w.heap.size + 2) (w.heap.size + 1) M S vP vT cP cT D LR.plan (HV.out.below LR.bel HV.out.two) hxs (by have h1 := HI.out.len; have h2 := LR.plan.few.1; omega)
        obtain ⟨S1, er, hSE⟩ : ∃ S1 er, ownLine S x = (S1, er) := ⟨_, _, rfl⟩
        rw [hSE] at hcl HSN
        have HCL : Hid (Calls Tryd.prog 26 #[.pointer (some ⟨w.heap.size + 2, 0, none⟩), .string x] wr fun e w' => e = .returned (.int .i64 er) ∧ OPost wr w' (w.heap.size + 2) (w.heap.size + 1) M S1) := hcl
        clear hcl hSE
        by_cases he0 : er = 0
        · have hb0 : ((er : Int) != 0) = false := by rw [he0]; rfl
          go_wp2_with (go_at_call 26; refine HCL.out.mono ?_; rintro e w3 ⟨rfl, hp3⟩)
          obtain ⟨M1, vP1, vT1, cP1, cT1, D1, LR1⟩ := LR.next hp3
          go_roundw
          case rel => exact ⟨k + 1, S1, M1, vP1, vT1, cP1, cT1, D1, by omega, by go_num, by rw [HSN.out]; simp [he0], LR1⟩
          case measure => simp [intOf]; omega
        · have hb0 : ((er : Int) != 0) = true := by rw [bne_iff_ne]; omega
          have HER : Hid (er ≠ 0) := he0
          have HE : Hid (RT = (S1, k, er)) := by
            have h := HSN.out
            simp only [he0, if_false] at h
            have h2 := ownRun_stop (L.take (k + 1)) (L.drop (k + 1)) _ _ _ _ h
            rw [List.take_append_drop] at h2
            rw [HRT.out, h2]; rfl
          clear he0
          go_wp2_with fail
          refine HCL.out.mono ?_
          rintro e w3 ⟨rfl, hp3⟩
          obtain ⟨M1, vP1, vT1, cP1, cT1, D1, LR1⟩ := LR.next hp3
          obtain ⟨r0, r1, r2, rf⟩ := three LR1.res
          go_wp2
          exact bodyPost_ret (v := .tuple #[.agg #[.slice none 0 0, .slice none 0 0, .slice none 0 0], .int .i64 k, .int .i64 er]) (by simp [results, Tryd.results15, go_sem, r0, r1, r2]) rfl (by
            rw [HE.out]
            exact ⟨fun _ => rfl, below_three LR1.bel rfl _ _ _, fun h => absurd h HER.out⟩)
      · have hkn : k = L.length := by omega
        have HE : Hid (RT = if ownRing S = true then (S, L.length, 6) else (S, S.tasks.length, 0)) := by
          have h := HRUN.out
          rw [hkn, List.take_length] at h
          rw [HRT.out, h]; rfl
        clear hkn
        have hWC := own_waits wr (w.heap.size + 2) (w.heap.size + 1) M S vP vT cP cT D LR.plan
        obtain ⟨n, hn⟩ : ∃ n, S.tasks.length = n := ⟨_, rfl⟩
        have HN : Hid (S.tasks.length = n) := hn
        rw [hn] at hWC
        have HWC : Hid (Calls Tryd.prog 27 #[.pointer (some ⟨w.heap.size + 2, 0, none⟩)] wr fun e w' => e = .returned (.slice (some ⟨wr.heap.size, 0, none⟩) n n) ∧ Below wr.heap.size wr w' ∧
      ∃ vs ls, NRows w' wr.heap.size n vs ls ∧ ∀ i t, S.tasks[i]? = some t → ls i = waitRun S.claims t.ins) := hWC
        clear hWC hn
        go_wp2_with fail
        refine HWC.out.mono ?_
        rintro e w3 ⟨rfl, hb3, vs, ls, hrows, hls⟩
        have HLS : Hid (∀ i t, S.tasks[i]? = some t → ls i = waitRun S.claims t.ins) := hls
        have hlw : (ownWaits S).length = n := by rw [← HN.out]; simp [ownWaits]
        have hWt : Wts w3 wr.heap.size (ownWaits S) := NRows.wts (by rw [HN.out]; exact hrows) hls
        have hfew := LR.plan.few.1
        rw [HN.out] at hfew
        have hHR := own_hasRing wr.heap.size (ownWaits S) w3 hWt (by omega) (HI.out.waits LR.plan.lens)
        obtain ⟨rg, hrg⟩ : ∃ rg, ownRing S = rg := ⟨_, rfl⟩
        have hrg2 : decide ((ordIter (ownWaits S) (ownWaits S).length ((ownWaits S).length + 1)).length < (ownWaits S).length) = rg := hrg
        rw [hrg2, hlw] at hHR
        rw [hrg] at HE
        have HHR : Hid (Calls Tryd.prog 28 #[.slice (some ⟨wr.heap.size, 0, none⟩) n n] w3 fun e w' => e = .returned (.bool rg) ∧ Below w3.heap.size w3 w') := hHR
        clear hHR hrg2 hlw hWt hls hrg
        go_wp2_with fail
        refine HHR.out.mono ?_
        rintro e w4 ⟨rfl, hb4⟩
        have hb3s := hb3.size
        have hbw4 := LR.bel.trans ((hb3.trans (hb4.mono hb3s)).mono LR.bel.size)
        have hres := ((hb3.trans (hb4.mono hb3s)).block _ (by have := LR.lt; omega)).trans LR.res
        obtain ⟨r0, r1, r2, rf⟩ := three hres
        cases rg
        · have R4 := (LR.plan.same hb3).same hb4
          obtain ⟨p0, p1, p2, pf⟩ := three R4.blk
          obtain ⟨aT, qT, hvT⟩ := owns_shape R4.tasks
          obtain ⟨aP, qP, hvP⟩ := owns_shape R4.pools.own
          subst hvT hvP
          have hrow4 : NRows w4 wr.heap.size n vs ls := hrows.block (fun q hq _ => hb4.block q hq)
          go_wp2_with fail
          go_region
          all_goals
            go_wp2
            exact bodyPost_ret (v := .tuple #[.agg #[.slice aP S.pools.length qP, .slice aT S.tasks.length qT, .slice (some ⟨wr.heap.size, 0, none⟩) n n], .int .i64 S.tasks.length, .int .i64 0]) (by simp [results, Tryd.results15, go_sem, r0, r1, r2]) rfl (by
              rw [show RT = (S, S.tasks.length, 0) from HE.out]
              refine ⟨fun h => absurd rfl h, (below_three hbw4 rfl _ _ _).drew, fun _ => ⟨aP, S.pools.length, qP, w.heap.size + 2 + 1, .slice aT S.tasks.length qT, cT, wr.heap.size, vs, ls, by show Ending.returned _ = Ending.returned (.tuple #[.agg #[_, _, .slice _ S.tasks.length S.tasks.length], _, _]); rw [HN.out], ?_, fun i t ht => ?_, R4.few.1, R4.lens, ?_, HLS.out, HI.out⟩⟩
              · exact (ownsRow_setCell_below (ownsRow_setCell_below (ownsRow_setCell_below R4.tasks (by simp; omega) _) (by simp; omega) _) (by simp; omega) _).drew
              · obtain ⟨vO, vI, T⟩ := R4.each i (List.getElem?_eq_some_iff.1 ht).1
                have h := T.c3
                rw [(List.getElem?_eq_some_iff.1 ht).2] at h
                exact h
              · show NRows _ _ S.tasks.length _ _
                rw [HN.out]
                refine hrow4.block (fun q hq hwq => ?_)
                have hlt9 := LR.lt
                exact (heap_setCell_other _ _ _ _ (by simp; omega)).trans ((heap_setCell_other _ _ _ _ (by simp; omega)).trans (heap_setCell_other _ _ _ _ (by simp; omega))))
        · go_wp2
          exact bodyPost_ret (v := .tuple #[.agg #[.slice none 0 0, .slice none 0 0, .slice none 0 0], .int .i64 L.length, .int .i64 6]) (by simp [results, Tryd.results15, go_sem, r0, r1, r2]) rfl (by
            rw [HE.out]
            exact ⟨fun _ => rfl, below_three hbw4 rfl _ _ _, fun h => by simp at h⟩)

set_option maxHeartbeats 1000000 in
theorem own_Check (s : ByteArray) (w : World) (hV : Vars w) (hs : s.size ≤ maxLen) :
    Calls Tryd.prog 6 #[.string s] w fun e w' => e = .returned (.tuple #[.int .i64 (ownRead s).2.1, .int .i64 (ownRead s).2.2]) ∧ Below w.heap.size w w' := by
  have HRD : Hid (Calls Tryd.prog 15 #[.string s] w fun e w' => ORPost w w' e (ownRead s)) := own_Read s w hV hs
  obtain ⟨RT, hRT⟩ : ∃ RT, ownRead s = RT := ⟨_, rfl⟩
  rw [hRT] at HRD ⊢
  clear hRT hV
  obtain ⟨S, n, er⟩ := RT
  go_enter Tryd.func6, Tryd.ntmps6
  go_wp2_with fail
  refine HRD.out.mono ?_
  rintro e w1 ⟨h1, hb, h2⟩
  by_cases he : er = 0
  · obtain ⟨aP, nP, qP, B, vT, cT, ab, vs, ls, rfl, hown, _⟩ := h2 he
    obtain ⟨aT, qT, rfl⟩ := owns_shape hown
    clear h1 h2
    subst he
    go_wp2
    go_ret2
    exact ⟨rfl, hb.alloc hb.size _⟩
  · have h3 := h1 he
    subst h3
    clear h1 h2
    go_wp2
    go_ret2
    exact ⟨rfl, hb.alloc hb.size _⟩

theorem law_num (n : Int) (w : World) : Calls Tryd.prog 8 #[.int .i64 n] w fun e w' => e = .returned (.int .i64 n) ∧ w' = w := by
  go_enter Tryd.func8, Tryd.ntmps8
  go_wp2
  go_ret
  exact ⟨rfl, rfl⟩
end Go.Proofs.YtoabakgmjcnodaaDoor
