import Derived.Test.YtoabakgmjcnodaaLkN
namespace Go.Proofs.Ytoabakgmjcnodaa
open Go.ChangeShapes Go.WideShapes Go.ChangeAt Go.RowKit Go.Sort Go.Maps Go.Lib

set_option maxRecDepth 10000 in
set_option maxHeartbeats 2000000 in
theorem own_Compact (s : ByteArray) (w : World) (hs : s.size ≤ 140737488351232) :
    Calls Try.prog 14 #[.string s] w fun e w' => e = .returned (.string (bsL (compL (recsL s.data.toList (s.size + 1)).1 ((recsL s.data.toList (s.size + 1)).1.length + 1) none))) ∧ Below w.heap.size w w' := by
  have CRV := own_Read s w (by omega)
  obtain ⟨hl2, hlen⟩ := recs_all (s.size + 1) s.data.toList
  have hOT := comp_tight (s.size + 1) s.data.toList ((recsL s.data.toList (s.size + 1)).1.length + 1) none
  generalize (recsL s.data.toList (s.size + 1)).2 = np at *
  generalize (recsL s.data.toList (s.size + 1)).1 = l at *
  have hln : l.length ≤ 3703618114507 := by simp at hlen; omega
  have HL2 : Hid (∀ r ∈ l, r.outs.length ≤ 2 ∧ U64 r.p0 ∧ U64 r.p1) := hl2
  have HCR : Hid (Calls Try.prog 17 #[.string s] w fun e w' => ∃ v cs, e = .returned (.tuple #[v, .int .i64 (np : Nat)]) ∧ RsAt w' w.heap.size v cs l ∧ Below w.heap.size w w') := CRV
  obtain ⟨OUT, hO⟩ : ∃ F, compL l (l.length + 1) none = F := ⟨_, rfl⟩
  have HO : Hid (compL l (l.length + 1) none = OUT) := hO
  rw [hO] at hOT ⊢
  have hOTl : OUT.length ≤ s.size := by simpa using hOT
  clear hOT
  clear CRV hl2 hO hlen
  go_enter Try.func14, Try.ntmps14
  go_wp2_with fail
  refine HCR.out.mono ?_
  rintro e w1 ⟨v, cs, rfl, hRA, hb1⟩
  have hRs := hRA.rs
  clear hRA HCR
  obtain ⟨av, cv, rfl, -, -⟩ := id hRs
  have HLT : Hid (Calls Try.prog 19 #[.slice av l.length cv] w1 fun e w' => ∃ es, e = .returned (.map (some w1.heap.size)) ∧ w'.ownsMap Try.prog 24 heldR w1.heap.size l.length (mapD es) ∧ Els w1 es l ∧ Below w1.heap.size w1 w') := own_Latest _ l w1 hRs hln (fun r hr => (HL2.out r hr).2)
  clear hRs
  go_wp2_with fail
  refine HLT.out.mono ?_
  rintro e w2 ⟨es, rfl, hmap, hels, hb2⟩
  have HELS : Hid (Els w1 es l) := hels
  have HMAP : Hid (w2.ownsMap Try.prog 24 heldR w1.heap.size l.length (mapD es)) := hmap
  clear hels hmap HLT
  have hb1s := hb1.size
  have hb2s := hb2.size
  go_wp2_with fail
  obtain ⟨W2, hW2⟩ : ∃ W2, w2.alloc (.cells #[.pointer none, .slice none 0 0] 47) = W2 := ⟨_, rfl⟩
  have hbW2 : Below w2.heap.size w2 W2 := by rw [← hW2]; exact (Below.refl _ _).alloc (Nat.le_refl _) _
  have hWb : W2.heap[w2.heap.size]? = some (.cells #[.pointer none, .slice none 0 0] 47 (0, 0)) := by rw [← hW2]; exact heap_alloc_new _ _
  have hWs : W2.heap.size = w2.heap.size + 1 := by rw [← hW2]; simp
  rw [hW2]
  clear hW2
  refine ((callsIn_wide (n := 0)).1 (keys_in Fence.wide 0 trivial rfl (some w1.heap.size) W2)).mono ?_
  rintro e w3 ⟨rfl, hw3⟩
  have hmlt := HMAP.out.lt
  have hb3 : Below W2.heap.size W2 w3 := by rw [hw3]; exact (Below.refl _ _).alloc (Nat.le_refl _) _
  have hc3 : w3.cell? ⟨W2.heap.size, 0, none⟩ = some (.map (some w1.heap.size)) := by
    rw [hw3, cell_of_row _ _ _ _ 42 (0, 0) (heap_alloc_new _ _)]; rfl
  have hs3 : w3.heap.size = W2.heap.size + 1 := by rw [hw3]; simp
  have HM3 : Hid (w3.ownsMap Try.prog 24 heldR w1.heap.size l.length (mapD es)) := by
    obtain ⟨m1, m2, m3, m4⟩ := HMAP.out
    exact ⟨m1, m2, (hb3.block _ (by omega)).trans ((hbW2.block _ hmlt).trans m3), m4⟩
  have hszm := HM3.out.size_le
  clear hw3
  have HSQ : Hid (Calls Try.prog 20 #[.func (.func 31) #[] #[.pointer (some ⟨W2.heap.size, 0, none⟩)], .func (.func 22) #[] #[]] w3 fun e w' => ∃ (v : Value) (ss : List (Nat × Nat)), e = .returned v ∧ KeysAll (mapD es) ss ∧ ss.length ≤ Maps.size (mapD es) ∧ Ds w' v (sortD ss) ∧ (∀ q, v.ownBlock = some q → w3.heap.size ≤ q) ∧ Below w3.heap.size w3 w') :=
    (callsIn_wide (n := 5)).1 (sorted_in 5 (by omega) _ _ (enters_of Try.func31 (by kernel_rfl) rfl) (KeysAll (mapD es)) (fun ss h => h.2.1) _ (by omega) w3
      (keys_gives Fence.wide 2 trivial rfl (by omega) W2.heap.size w1.heap.size l.length (mapD es) w3 (by omega) hc3 HM3.out))
  have hWs1 : w2.heap.size < W2.heap.size := by omega
  have hs31 : W2.heap.size < w3.heap.size := by omega
  clear hWs hs3
  go_wp2_with fail
  refine HSQ.out.mono ?_
  rintro e w4 ⟨v4, ss, rfl, hKA, hssl, hDs4, hvb, hb4⟩
  clear HSQ
  obtain ⟨a4, c4, rfl, -, hU4, -⟩ := id hDs4
  have hb4s := hb4.size
  have hesU : ∀ p ∈ es, KU p.1 := fun p hp => by
    obtain ⟨r, hr, e⟩ := (HELS.out.keys p.1).1 ⟨p, hp, rfl⟩
    rw [← e]
    exact (HL2.out r hr).2
  have HCP : Hid (OUT = (sortD ss).flatMap fun k => toldL ((lastF l k).getD rc0)) := by
    rw [Hid, ← HO.out]
    refine comp_all l _ (sortD_sorted hKA.1) (fun k => ?_)
    rw [(sortD_perm ss).mem_iff]
    constructor
    · intro hk
      have hku := hKA.2.1 k hk
      exact (HELS.out.keys k).1 ((mapD_has es hesU hku).1 ((hKA.2.2 k hku).1 hk))
    · rintro ⟨r, hr, rfl⟩
      have hku : KU (prt r) := (HL2.out r hr).2
      exact (hKA.2.2 _ hku).2 ((mapD_has es hesU hku).2 ((HELS.out.keys _).2 ⟨r, hr, rfl⟩))
  have hTS : (sortD ss).length ≤ 3703618114507 := by rw [(sortD_perm ss).length_eq]; omega
  have HIN : Hid (∀ k ∈ sortD ss, ∃ r ∈ l, prt r = k) := fun k hk => by
    have h1 := (sortD_perm ss).mem_iff.1 hk
    have hku := hKA.2.1 k h1
    exact (HELS.out.keys k).1 ((mapD_has es hesU hku).1 ((hKA.2.2 k hku).1 h1))
  have HDS4 : Hid (Ds w4 (.slice a4 (sortD ss).length c4) (sortD ss)) := hDs4
  have HVB : Hid (∀ q, (Value.slice a4 (sortD ss).length c4).ownBlock = some q → w3.heap.size ≤ q) := hvb
  clear hDs4 hvb hKA HO hssl
  generalize sortD ss = ts at *
  have hB4 : w4.heap[w2.heap.size]? = some (.cells #[.pointer none, .slice none 0 0] 47 (0, 0)) := (hb4.block _ (by omega)).trans ((hb3.block _ (by omega)).trans hWb)
  have hb14 : Below w1.heap.size w1 w4 := (hb2.trans (hbW2.mono hb2s)).trans ((hb3.mono (by omega)).trans (hb4.mono (by omega)))
  have HM4 : Hid (w4.ownsMap Try.prog 24 heldR w1.heap.size l.length (mapD es)) := by
    obtain ⟨m1, m2, m3, m4⟩ := HM3.out
    exact ⟨m1, m2, (hb4.block _ (by omega)).trans m3, m4⟩
  clear hc3 hbW2 hWb hb3 hb4 HM3 HMAP
  go_wp2_with fail
  go_loopw [8, 20] (fun _ i wr => ∃ (k : Nat) (p v : Value), k ≤ ts.length ∧ i = .int .i64 k ∧ wr.heap[w2.heap.size]? = some (.cells #[p, v] 47 (0, 0)) ∧ (p = .pointer none ∨ p = .pointer (some ⟨w2.heap.size, 0, none⟩)) ∧
      wr.ownsRow w4.heap.size 5 1 v ((ts.take k).flatMap fun k => toldL ((lastF l k).getD rc0)).length (Lib.byteCells ((ts.take k).flatMap fun k => toldL ((lastF l k).getD rc0))) ∧ ((ts.take k).flatMap fun k => toldL ((lastF l k).getD rc0)).length ≤ OUT.length ∧ Kb w4.heap.size w2.heap.size w4 wr) (fun _ i _ => ts.length - (intOf i).toNat)
  case atStart => exact ⟨0, _, _, Nat.zero_le _, rfl, hB4, .inl rfl, by simpa [Lib.byteCells] using World.ownsRow_nil _ _ _ _, by simp, Kb.refl _ _ _⟩
  case round =>
    clear hB4
    obtain ⟨k, p, v, hk, rfl, hBk, hp, hown, hol, hkb⟩ := hrel
    have hks := hkb.size
    have hb4r : Below w1.heap.size w4 wr := hkb.below (by omega) (by omega)
    have hb1r : Below w1.heap.size w1 wr := hb14.trans hb4r
    have HAT : Hid (∀ h : k < ts.length, (ts.take (k + 1)).flatMap (fun k => toldL ((lastF l k).getD rc0)) = (ts.take k).flatMap (fun k => toldL ((lastF l k).getD rc0)) ++ toldL ((lastF l ts[k]).getD rc0)) := fun h => by
      rw [List.take_succ_eq_append_getElem h, List.flatMap_append]; simp
    have HAL : Hid (k = ts.length → (ts.take k).flatMap (fun k => toldL ((lastF l k).getD rc0)) = OUT) := fun h => by
      rw [h, List.take_length, HCP.out]
    have HUP : Hid (∀ h : k < ts.length, ((ts.take k).flatMap (fun k => toldL ((lastF l k).getD rc0))).length + (toldL ((lastF l ts[k]).getD rc0)).length ≤ OUT.length) := fun h => by
      rw [← List.length_append, ← HAT.out h, HCP.out]
      exact flat_take _ _ _
    generalize (ts.take k).flatMap (fun k => toldL ((lastF l k).getD rc0)) = O at *
    by_cases hlt : k < ts.length
    · have hDr := HDS4.out.block (w1 := wr) (fun q hq hql => hkb.block q hql (by have := HVB.out q hq; omega))
      obtain ⟨bd, od, hae, x0, x1⟩ := ds_at hDr hlt
      subst hae
      have hku : KU ts[k] := hU4 _ (List.getElem_mem hlt)
      obtain ⟨r0, hr0, hpr0⟩ := HIN.out ts[k] (List.getElem_mem hlt)
      have hlast := HELS.out.last ts[k]
      have HA2 := HAT.out hlt
      have HUQ := HUP.out hlt
      cases hlf : lastF l ts[k] with
      | none => exact absurd hpr0 (lastF_none.1 hlf r0 hr0)
      | some r =>
        rw [hlf] at hlast HA2 HUQ
        obtain ⟨vO, hlv, hDs, hrl⟩ := hlast
        simp only [Option.getD_some] at HA2 HUQ
        obtain ⟨ho2, hp0, hp1⟩ := HL2.out r hrl
        have hmr : wr.ownsMap Try.prog 24 heldR w1.heap.size l.length (mapD es) := by
          obtain ⟨m1, m2, m3, m4⟩ := HM4.out
          exact ⟨m1, m2, (hkb.block _ (by omega) (by omega)).trans m3, m4⟩
        obtain ⟨vv, ps, hrun, hat⟩ := (hmr.alloc (.cells #[.int .u64 (ts[k].1 : Nat), .int .u64 (ts[k].2 : Nat)] 24)).lookup (z := .agg #[.int .u64 0, .int .u64 0, .slice none 0 0]) (zd := .held (.agg #[.int .u64 0, .int .u64 0, .slice none 0 0])) (zp := []) lawD Try.underlying42 (Try.zeroValue37 _) rfl (keyD hku.1 hku.2)
        rw [mapD_at es hesU hku, hlv] at hat
        simp only [heldR, Option.some.injEq, Prod.mk.injEq, DataW.held.injEq] at hat
        obtain ⟨hvv, -⟩ := hat
        subst hvv
        unfold encK at hrun
        obtain ⟨aO, cO, rfl, -⟩ := id hDs
        have HDW : Hid (Ds wr (.slice aO r.outs.length cO) r.outs) := hDs.below hb1r
        have HNX : Hid ((ts.take (k + 1)).flatMap (fun k => toldL ((lastF l k).getD rc0)) = O ++ toldL r) := HA2
        have HTL := told_len r
        have HOW : Hid (wr.ownsRow w4.heap.size 5 1 v O.length (Lib.byteCells O)) := hown
        have HBK : Hid (wr.heap[w2.heap.size]? = some (.cells #[p, v] 47 (0, 0))) := hBk
        have HPP : Hid (p = .pointer none ∨ p = .pointer (some ⟨w2.heap.size, 0, none⟩)) := hp
        have HBY : Hid (∀ W, Ds W (.slice aO r.outs.length cO) r.outs → Calls Try.prog 24 #[.agg #[.int .u64 (r.p0 : Nat), .int .u64 (r.p1 : Nat), .slice aO r.outs.length cO]] W fun e w' => e = .returned (.string (bsL (toldL r))) ∧ Below W.heap.size W w') := fun W hD => own_Bytes r _ W hD hp0 hp1 ho2
        have HWR : Hid (∀ W, W.heap[w2.heap.size]? = some (.cells #[p, v] 47 (0, 0)) → W.ownsRow w4.heap.size 5 1 v O.length (Lib.byteCells O) → w4.heap.size ≤ W.heap.size → Calls Try.prog 23 #[.pointer (some ⟨w2.heap.size, 0, none⟩), .string (bsL (toldL r))] W fun e w' => ∃ v', e = .returned (.tuple #[.int .i64 ((toldL r).length : Nat), .nilIface]) ∧ w'.heap[w2.heap.size]? = some (.cells #[.pointer (some ⟨w2.heap.size, 0, none⟩), v'] 47 (0, 0)) ∧ w'.ownsRow w4.heap.size 5 1 v' (O ++ toldL r).length (Lib.byteCells (O ++ toldL r)) ∧ Kb w4.heap.size w2.heap.size W w') := by
          intro W h1 h2 h3
          have h := own_WriteStr w4.heap.size w2.heap.size p v (Lib.byteCells O) (bsL (toldL r)) W h1 HPP.out (by rw [bc_len]; exact h2) (by omega) (by rw [bc_len, bsL_size]; omega) h3
          refine h.mono ?_
          rintro e w' ⟨v', rfl, q1, q2, q3⟩
          refine ⟨v', by rw [bsL_size], q1, ?_, q3⟩
          rw [strCells_bsL, ← bc_app, bc_len, bsL_size, ← List.length_append] at q2
          exact q2
        have hlv2 : ((toldL r).length) ≤ 54 := by omega
        clear hown hBk hp hlv hDs hDr HA2 HTL
        generalize toldL r = TR at *
        generalize bsL TR = BTR at *
        generalize ts[k] = d at *
        obtain ⟨d0, d1⟩ := d
        simp only at x0 x1 hrun
        go_wp2_with fail
        refine (HBY.out _ (HDW.out.below ((Below.refl _ _).alloc (Nat.le_refl _) _))).mono ?_
        rintro e w5 ⟨rfl, hb5⟩
        have hb5s := hb5.size
        simp at hb5s
        have HK5 : Hid (Kb w4.heap.size w2.heap.size wr w5) := (Kb.of_below ((Below.refl _ wr).alloc hks _)).trans (Kb.of_below (hb5.mono (by simp; omega)))
        have HB5 : Hid (w5.heap[w2.heap.size]? = some (.cells #[p, v] 47 (0, 0))) := (hb5.block _ (by simp; omega)).trans ((Below.heap_alloc _ _ _ (by omega)).trans HBK.out)
        have HO5 : Hid (w5.ownsRow w4.heap.size 5 1 v O.length (Lib.byteCells O)) := owns_below (HOW.out.alloc _) hb5
        clear hb5 hrun
        go_wp2_with fail
        refine (HWR.out _ HB5.out HO5.out (by omega)).mono ?_
        rintro e w6 ⟨v6, rfl, hB6, hO6, hK6⟩
        have HALL : Hid (w6.heap[w2.heap.size]? = some (.cells #[.pointer (some ⟨w2.heap.size, 0, none⟩), v6] 47 (0, 0)) ∧ w6.ownsRow w4.heap.size 5 1 v6 (O ++ TR).length (Lib.byteCells (O ++ TR)) ∧ Kb w4.heap.size w2.heap.size w4 w6) := ⟨hB6, hO6, (hkb.trans HK5.out).trans hK6⟩
        clear hB6 hO6 hK6
        go_wp2
        go_roundw
        case rel =>
          refine ⟨k + 1, _, v6, by omega, by go_num, HALL.out.1, .inr rfl, ?_, ?_, HALL.out.2.2⟩
          · rw [HNX.out]; exact HALL.out.2.1
          · rw [HNX.out, List.length_append]; omega
        case measure => simp [intOf]; omega
    · have HK : Hid (k = ts.length) := by rw [Hid]; omega
      have hOO := HAL.out HK.out
      subst hOO
      have HST : Hid (Calls Try.prog 25 #[.pointer (some ⟨w2.heap.size, 0, none⟩)] wr fun e w' => e = .returned (.string (bsL O)) ∧ Below w.heap.size wr w') := by
        refine Try.Builder_String_any w.heap.size w2.heap.size O wr ?_ (by omega)
        have hB : ∀ p, wr.heap[w2.heap.size]? = some (.cells #[p, v] 47 (0, 0)) → Lib.BuilderAt 47 5 w.heap.size w2.heap.size p (Lib.byteCells O) wr := fun p hp =>
          ⟨by omega, v, hp, by rw [bc_len]; exact ownsRow_base_a hown (by omega), fun e => by have := (hown.lt _ e).1; omega⟩
        rcases hp with rfl | rfl
        · exact .inl (hB _ hBk)
        · exact .inr (hB _ hBk)
      have hbb : Below w.heap.size w wr := hb1.trans (hb1r.mono hb1s)
      clear hown hBk hp
      go_wp2_with fail
      refine HST.out.mono ?_
      rintro e w7 ⟨rfl, hb7⟩
      go_wp2
      go_ret
      exact ⟨rfl, hbb.trans hb7⟩
end Go.Proofs.Ytoabakgmjcnodaa
