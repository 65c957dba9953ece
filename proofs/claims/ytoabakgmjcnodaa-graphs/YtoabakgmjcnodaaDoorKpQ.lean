import Derived.Test.YtoabakgmjcnodaaDoorKpP
import Derived.Test.YtoabakgmjcnodaaDoorKpT
import Derived.Deep.DeepCutAuto
namespace Go.Proofs.YtoabakgmjcnodaaDoor
open Go.ChangeShapes Go.WideShapes Go.ChangeAt Go.RowKit

def filesN (k : Nat) : List ByteArray := (List.range k).map (numB 102)
theorem filesN_next (k : Nat) : filesN (k + 1) = filesN k ++ [numB 102 k] := by simp [filesN, List.range_succ]
theorem raws_at {w : World} {a : Option Addr} {n c : Nat} {l : List RawV} (h : Raws w (.slice a n c) l) {k : Nat} (hk : k < l.length) :
    ∃ b off, a = some ⟨b, off, none⟩ ∧ w.cell? ⟨b, off + k * 5, none⟩ = some (.int .i64 l[k].kind) ∧ w.cell? ⟨b, off + k * 5 + 1, none⟩ = some l[k].vI ∧ w.cell? ⟨b, off + k * 5 + 2, none⟩ = some (.int .i64 l[k].cost) ∧
      w.cell? ⟨b, off + k * 5 + 3, none⟩ = some (.int .i64 l[k].jobs) ∧ w.cell? ⟨b, off + k * 5 + 4, none⟩ = some (.int .i64 l[k].pool) := by
  obtain ⟨a1, c1, e, _, _, h⟩ := h
  injection e with e1 e2 e3
  subst e1
  rcases h with h | ⟨b, off, h1, hc⟩
  · rw [h] at hk; simp at hk
  · exact ⟨b, off, h1, hc k hk⟩

theorem addr_add_off (b off j : Nat) : (⟨b, off, none⟩ : Addr).add j = ⟨b, off + j, none⟩ := by unfold Addr.add; split <;> simp_all
set_option maxRecDepth 10000 in
set_option maxHeartbeats 4000000 in
theorem kp_plan (w : World) (vL : Value) (l : List RawV) (hL : Raws w vL l) (back : Bool) :
    Calls Tryd.prog 10 #[vL, .bool back] w fun e w' => e = .returned (.pointer (some ⟨w.heap.size, 0, none⟩)) ∧ PlanPost w w' back (min l.length 12) := by
  obtain ⟨aL, cL, hvL, hlm, -, -⟩ := id hL
  subst hvL
  obtain ⟨i0, hi, hz0, hz1, hz2⟩ := info_parts Tryd.info9
  obtain ⟨i2, hi2, hz20, hz21, hz22⟩ := info_parts Tryd.info3i
  have HRAW : Hid (Raws w (.slice aL l.length cL) l) := hL
  clear hL
  unfold maxLen at hlm
  go_enter Tryd.func10, Tryd.ntmps10
  go_upto_if 15 with fail
  go_cut [5] (fun o wx => o = .int .i64 (min l.length 12 : Nat) ∧ wx = w)
  case first =>
    by_cases h12 : 12 < l.length
    · have HE : Hid (min l.length 12 = 12) := by rw [Hid]; omega
      go_wp2_with fail
      go_meet
      exact ⟨by rw [HE.out]; rfl, rfl⟩
    · have HE : Hid (min l.length 12 = l.length) := by rw [Hid]; omega
      go_wp2_with fail
      go_meet
      exact ⟨by rw [HE.out], rfl⟩
  case rest =>
  obtain ⟨rfl, hw⟩ := hcut
  rw [hw]
  clear hw wc
  obtain ⟨n, hn⟩ : ∃ n, min l.length 12 = n := ⟨_, rfl⟩
  have HN : Hid (min l.length 12 = n) := hn
  have hn12 : n ≤ 12 := by omega
  have hnl : n ≤ l.length := by omega
  rw [hn]
  clear hn
  go_wp2_with fail
  obtain ⟨W, hW⟩ : ∃ W, w.alloc (.cells #[.slice none 0 0, .slice none 0 0, .slice none 0 0, .slice none 0 0, .slice none 0 0, .slice none 0 0, .slice none 0 0] 39) = W := ⟨_, rfl⟩
  have R0 := kr_new w
  have hbW : Below w.heap.size w W := by rw [← hW]; exact (Below.refl _ _).alloc (Nat.le_refl _) _
  have hWs : W.heap.size = w.heap.size + 1 := by rw [← hW]; simp
  rw [hW] at R0 ⊢
  have HWS : Hid (W.heap.size = w.heap.size + 1) := hWs
  clear hW hWs
  go_loopw [7, 8] (fun vp i wr => ∃ k : Nat, k ≤ 4 ∧ i = .int .i64 k ∧ wr.ownsRow W.heap.size 9 1 vp (filesN k).length ((filesN k).map Value.string) ∧ Below W.heap.size W wr) (fun _ i _ => 4 - (intOf i).toNat)
  case atStart => exact ⟨0, Nat.zero_le _, rfl, World.ownsRow_nil _ _ _ _, Below.refl _ _⟩
  case round =>
    obtain ⟨k, hk, rfl, hown, hbel⟩ := hrel
    have hbs := hbel.size
    obtain ⟨ax, cx, hvx⟩ := owns_shape hown
    subst hvx
    have hlen : (filesN k).length ≤ 4 := by simp [filesN]; exact hk
    by_cases hlt : k < 4
    · obtain ⟨F, hF⟩ : ∃ F, filesN k = F := ⟨_, rfl⟩
      have HF : Hid (filesN k = F) := hF
      rw [hF] at hown hlen ⊢
      clear hF
      go_wp2_with (first
        | (go_at_call 19; refine (kp_numbered 102 k _ (by omega)).mono ?_; rintro e w2 ⟨rfl, q2, hw⟩; rw [hw]; clear hw w2)
        | (at_builtin; (refine wpList_append_lies _ rfl _ _ 36 rfl W.heap.size 9 i0 _ 1 16 Tryd.underlying36 hi hz0 hz1 hz2 rfl (by decide) _ F.length (F.map Value.string) rfl (World.ownsRow.alloc (w := wr.drewN _) hown _) ⟨wr.heap.size, 0, none⟩ 1 1 [.string (numB 102 k)] rfl rfl (Go.cell_one_new (wr.drewN _) _ _) (by simp [Value.oneCell']) (by omega) (by unfold maxLen; omega) (by omega) (by simp; omega) (wr.heap.size + 1) (by simp) ?_)))
      intro gg cap w3 hown3 hgrow hat hlt1
      go_wp2
      go_roundw
      case rel =>
        refine ⟨k + 1, by omega, by go_num, ?_, ((below_drewN hbel _).alloc (by simp; omega) _).grown hgrow (by simp; omega) (fun j hj => (hown.lt j hj).1)⟩
        rw [filesN_next, HF.out]
        rw [map_snoc] at hown3
        simpa using hown3
      case measure => simp [intOf]; omega
    · have hk4 : k = 4 := by omega
      subst hk4
      have hown4 : wr.ownsRow W.heap.size 9 1 (.slice ax filesL.length cx) filesL.length (filesL.map Value.string) := hown
      have hin : PRel w wr back n [] (fun k => k = w.heap.size) (fun _ => .slice none 0 0) [] [] (.slice ax filesL.length cx) := by
        have hX : (fun _ => [] : Nat → List Value) = rowsOf [] [] [] [] := by
          funext j
          rcases (show j = 0 ∨ j = 1 ∨ j = 2 ∨ j = 3 ∨ j = 4 ∨ j = 5 ∨ 6 ≤ j by omega) with rfl | rfl | rfl | rfl | rfl | rfl | h
          all_goals first
            | rfl
            | (obtain ⟨q, rfl⟩ : ∃ q, j = q + 6 := ⟨j - 6, by omega⟩; rfl)
        have R1 := R0
        rw [hX] at R1
        have hws := HWS.out
        refine ⟨⟨R1.same hbel, rfl, rfl, fun i hi => by simp at hi, fun i hi => by simp at hi⟩, fun i hi => by simp at hi, ?_, fun q hq h => ?_, fun q hq u hu => by simp at hu, fun q hq => Nat.le_of_eq hq.symm, hbW.trans (hbel.mono (by omega))⟩
        · have h4 := hown4
          rw [hws] at h4
          simpa using h4
        · have := (hown4.lt q hq).1; omega
      clear hown hown4 hlen hbs hbel R0 hbW HWS
      have hfl : (Value.slice ax (filesN 4).length cx) = Value.slice ax filesL.length cx := rfl
      go_wp2_with fail
      go_loopw [7, 9, 10, 11] (fun vp i _ _ wr => ∃ K M v cO cI, K.length ≤ n ∧ i = .int .i64 (K.length : Nat) ∧ PRel w wr back n K M v cO cI vp) (fun _ i _ _ _ => n - (intOf i).toNat)
      case atStart => exact ⟨[], _, _, _, _, Nat.zero_le _, rfl, hin⟩
      case round =>
        clear hin
        obtain ⟨K, M, v, cO, cI, hK, rfl, HR⟩ := hrel
        have hbs := HR.bel.size
        have hpo := HR.paths
        obtain ⟨ap, cp, hvp⟩ := owns_shape hpo
        subst hvp
        have hps := Strs.owned hpo
        have hpl := paths_len (fun t ht => (HR.chain.outs t ht).2)
        have hpl4 : 4 ≤ (filesL ++ K.flatMap (·.outs)).length := by rw [List.length_append]; exact Nat.le_add_right 4 _
        obtain ⟨paths, hpaths⟩ : ∃ paths, filesL ++ K.flatMap (·.outs) = paths := ⟨_, rfl⟩
        have HPT : Hid (filesL ++ K.flatMap (·.outs) = paths) := hpaths
        have haw := HR.away
        have hsp := HR.sep
        rw [hpaths] at hpo hps hpl hpl4 haw hsp ⊢
        clear hpaths
        by_cases hlt : K.length < n
        · obtain ⟨ki, hki⟩ : ∃ ki, lineOf back n K.length = ki := ⟨_, rfl⟩
          have HKI : Hid (lineOf back n K.length = ki) := hki
          have hki12 : ki < 12 := by rw [← hki]; unfold lineOf; split <;> omega
          clear hki
          go_upto_if 33 with fail
          go_cut [10] (fun o wx => o = .int .i64 (ki : Nat) ∧ wx = wr)
          case first =>
            cases back
            · have HE : Hid (ki = K.length) := by rw [← HKI.out]; rfl
              go_wp2_with fail
              go_meet
              exact ⟨by rw [HE.out], rfl⟩
            · have HE : Hid (ki = n - 1 - K.length) := by rw [← HKI.out]; rfl
              have HE2 : Hid (((n - 1 - K.length : Nat) : Int) = (n : Int) - 1 - (K.length : Int)) := by rw [Hid]; omega
              go_wp2_with fail
              go_meet
              exact ⟨by rw [HE.out, HE2.out], rfl⟩
          case rest =>
          obtain ⟨rfl, hw⟩ := hcut
          rw [hw]
          clear hw wc
          have hkl : K.length < l.length := by omega
          have hRW := HRAW.out.below HR.bel
          obtain ⟨br, fr, har, r0, r1, r2, r3, r4⟩ := raws_at hRW hkl
          subst har
          obtain ⟨z1, z2, z3, z4, z5⟩ := hRW.choose_spec.choose_spec.2.2.1 l[K.length] (List.getElem_mem hkl)
          have HADD := kp_add wr w.heap.size M v (rowsOf K ((List.range K.length).map (lineOf back n)) cO cI) HR.plan.R K.length HR.plan.len (by omega) l[K.length].kind l[K.length].cost l[K.length].jobs l[K.length].pool l[K.length].vI l[K.length].zs z5 ⟨z1, z2, z3, z4⟩ ki hki12 (.slice ap paths.length cp) paths hps (by omega) haw
          obtain ⟨aZ, cZ, hvZ, -, -, -⟩ := id z5
          generalize l[K.length] = raw at *
          obtain ⟨kind, vI, zs, cost, jobs, pool⟩ := raw
          simp only at r0 r1 r2 r3 r4 HADD hvZ
          subst hvZ
          have HAD : Hid (Calls Tryd.prog 20 #[.pointer (some ⟨w.heap.size, 0, none⟩), .agg #[.int .i64 kind, .slice aZ zs.length cZ, .int .i64 cost, .int .i64 jobs, .int .i64 pool], .int .i64 ki, .slice ap paths.length cp] wr
            fun e w' => e = .returned (.tuple #[]) ∧ AddPost wr w' w.heap.size M (rowsOf K ((List.range K.length).map (lineOf back n)) cO cI) ki paths K.length) := HADD
          clear HADD z1 z2 z3 z4 z5 hRW
          go_wp2_with fail
          refine HAD.out.mono ?_
          rintro e w1 ⟨rfl, hA⟩
          obtain ⟨t, vO, vI, M1, v1, hT, P1, hS1, hM1, hO1, hI1⟩ := HR.plan.added' hA
          have hpo1 := hS1.owns hpo haw
          have haw1 : ∀ q, (Value.slice ap paths.length cp).ownBlock = some q → ¬ M1 q := fun q hq => (KR.drop hS1 hM1 ⟨haw q hq, (hpo.lt q hq).2⟩).1
          have hsp1 : ∀ q, (Value.slice ap paths.length cp).ownBlock = some q → ∀ u ∈ (cO ++ [vO]) ++ (cI ++ [vI]), u.ownBlock ≠ some q := by
            intro q hq u hu e
            have hql := (hpo.lt q hq).2
            simp only [List.mem_append, List.mem_singleton] at hu
            rcases hu with (hu | rfl) | (hu | rfl)
            · exact hsp q hq u (List.mem_append_left _ hu) e
            · have := hO1 q e; omega
            · exact hsp q hq u (List.mem_append_right _ hu) e
            · have := hI1 q e; omega
          obtain ⟨uO, hu1, hu2, -⟩ := P1.eO K.length (by simp)
          have hel : (K ++ [t])[K.length]'(by simp) = t := by simp
          rw [hel] at hu2
          have hto := hT.outs
          have ht1 : 1 ≤ t.outs.length ∧ t.outs.length ≤ 2 := by rw [hto]; split <;> simp
          obtain ⟨gO, dO, yO, xO⟩ := P1.at (j := 1) (by omega) (i := K.length) hu1
          have hlen1 : (K ++ [t]).length = K.length + 1 := by simp
          rw [hlen1] at yO
          obtain ⟨bo, fo, hae, hcells⟩ : ∃ b off, (∃ c, uO = .slice (some ⟨b, off, none⟩) t.outs.length c) ∧ ∀ i (h : i < t.outs.length), w1.cell? ⟨b, off + i, none⟩ = some (.string t.outs[i]) := by
            obtain ⟨a, c, e, _, h⟩ := hu2
            rcases h with h | ⟨b, off, rfl, hc⟩
            · rw [h] at ht1; simp at ht1
            · exact ⟨b, off, ⟨c, e⟩, hc⟩
          obtain ⟨co, rfl⟩ := hae
          have hnews : ∀ j u, (t.outs.map Value.string)[j]? = some u → w1.cell? ((⟨bo, fo, none⟩ : Addr).add j) = some u := by
            intro j u hu
            rw [List.getElem?_map] at hu
            cases hj : t.outs[j]? with
            | none => rw [hj] at hu; simp at hu
            | some x =>
              rw [hj] at hu
              simp only [Option.map_some, Option.some.injEq] at hu
              subst hu
              obtain ⟨h1, h2⟩ := List.getElem?_eq_some_iff.1 hj
              have := hcells j h1
              rw [h2] at this
              rw [addr_add_off]; exact this
          have hb1 : Below w.heap.size w w1 := HR.bel.trans (hS1.below HR.bel.size HR.low)
          have hsz1 := hb1.size
          have hpbl := blk_lt P1.R.blk
          have hone : ∀ u ∈ t.outs.map Value.string, u.oneCell' = true := by
            intro u hu
            rw [List.mem_map] at hu
            obtain ⟨x, _, rfl⟩ := hu
            rfl
          have hl1 : (t.outs.map Value.string).length = t.outs.length * 1 := by simp
          have HT : Hid (TW t ki paths) := hT
          clear hel hto hlen1 hT HAD r0 r1 r2 r3 r4 hA
          go_wp2_with (at_builtin; (refine wpList_append_lies _ rfl _ _ 36 rfl (w.heap.size + 1) 9 i0 _ 1 16 Tryd.underlying36 hi hz0 hz1 hz2 rfl (by decide) _ paths.length (paths.map Value.string) rfl hpo1 ⟨bo, fo, none⟩ t.outs.length co (t.outs.map Value.string) rfl hl1 hnews hone (by omega) (by unfold maxLen; omega) (by omega) (by omega) w1.heap.size rfl ?_))
          intro gg cap w2 hown2 hgrow2 hat2 hlt2
          have P2 := P1.path hgrow2 haw1 hsp1
          have hsz2 := hgrow2.size
          obtain ⟨ax, cx, hv6, hox, hc6, hf6⟩ := P2.R.ready 6 (by omega) (n := K.length) rfl (by simp [rowsOf])
          have hpl2 := blk_lt P2.R.blk
          have hqf : ∀ o, (w2.alloc o).frozen? ⟨w.heap.size, 6, none⟩ = false := fun o => (World.frozen?_of_block (Below.heap_alloc _ _ _ hpl2)).trans hf6
          have hqc : ∀ o, (w2.alloc o).cell? ⟨w.heap.size, 6, none⟩ = some (.slice ax K.length cx) := fun o => (World.cell?_of_block (Below.heap_alloc _ _ _ hpl2)).trans hc6
          have hne : some w.heap.size ≠ (Value.slice ax K.length cx).ownBlock := fun e => by have := (hox.lt _ e.symm).1; omega
          obtain ⟨xs6, hxs6⟩ : ∃ x, rowsOf (K ++ [t]) ((List.range K.length).map (lineOf back n)) (cO ++ [vO]) (cI ++ [vI]) 6 = x := ⟨_, rfl⟩
          rw [hxs6] at hox
          have HX6 : Hid (rowsOf (K ++ [t]) ((List.range K.length).map (lineOf back n)) (cO ++ [vO]) (cI ++ [vI]) 6 = xs6) := hxs6
          clear hxs6
          have HP2 : Hid (KPl w2 w.heap.size M1 v1 (K ++ [t]) ((List.range K.length).map (lineOf back n)) (cO ++ [vO]) (cI ++ [vI])) := P2
          clear P2 xO yO
          go_wp2_with (at_builtin; (refine wpList_append_lies _ rfl _ _ 29 rfl (w.heap.size + 1) 3 i2 _ 1 8 Tryd.underlying29 hi2 hz20 hz21 hz22 rfl (by decide) _ K.length xs6 rfl (hox.alloc _) ⟨w2.heap.size, 0, none⟩ 1 1 [.int .i64 (ki : Int)] rfl rfl (Go.cell_one_new _ _ _) (by simp [Value.oneCell']) (by omega) (by unfold maxLen; omega) (by omega) (by simp; omega) (w2.heap.size + 1) (by simp) ?_))
          intro g3 cap3 w3 hown3 hgrow3 hat3 hlt3
          have hfz : w3.frozen? ⟨w.heap.size, 6, none⟩ = false := (hgrow3.frozen_far _ (by simp; omega) hne).trans (hqf _)
          have hcz : w3.cell? ⟨w.heap.size, 6, none⟩ = some (.slice ax K.length cx) := (hgrow3.cell_far _ (by simp; omega) hne).trans (hqc _)
          have hown3' := hown3
          rw [← HX6.out] at hown3'
          obtain ⟨M3, v3, P3, hS3, hM3⟩ := HP2.out.ordered (k := ki) (n := K.length) (by simp) (by omega) ((Below.refl w2.heap.size w2).alloc (Nat.le_refl _) _) hown3' (by rw [hv6]; exact hgrow3) (by rw [hv6]; exact hat3.imp id (fun h => by omega))
          have HNEW : Hid (PRel w (w3.setCell ⟨w.heap.size, 6, none⟩ (.slice (some ⟨g3, 0, none⟩) (K.length + 1) cap3)) back n (K ++ [t]) M3 v3 (cO ++ [vO]) (cI ++ [vI]) (.slice (some ⟨gg, 0, none⟩) (paths.length + t.outs.length) cap)) :=
            PRel.next (HPT.out ▸ HR) HPT.out HKI.out HT.out P1 hM1 hb1 hpo1 haw1 hsp1 hown2 hgrow2 hat2 P3 hS3 hM3
          clear P3 hS3 hM3 hown3' hown2 hgrow2 hat2 hown3 hgrow3 hat3 hpo1 haw1 hsp1 P1 hM1 hS1 hb1 hnews hone hcells HX6 hox
          go_wp2
          go_roundw
          case rel =>
            (repeat apply Exists.intro)
            exact ⟨⟨K ++ [t], M3, v3, cO ++ [vO], cI ++ [vI], by rw [List.length_append, List.length_singleton]; omega, by rw [List.length_append, List.length_singleton]; go_num, HNEW.out⟩, rfl⟩
          case measure => simp [intOf]; omega
        · have HKN : Hid (K.length = n) := by rw [Hid]; omega
          cases back
          · have HPP : Hid (PlanPost w wr false (min l.length 12)) := by
              rw [Hid, HN.out]
              have h := HR.plan
              rw [HKN.out] at h
              exact ⟨K, M, v, cO, cI, HKN.out, HR.chain, h, HR.bel⟩
            go_wp2
            go_ret
            exact ⟨rfl, HPP.out⟩
          · have HTN : Hid (Calls Tryd.prog 21 #[.pointer (some ⟨w.heap.size, 0, none⟩)] wr fun e w' => e = .returned (.tuple #[]) ∧ PlanPost w w' true (min l.length 12)) := by
              refine (kp_turn HR.plan).mono ?_
              rintro e w' ⟨he, M1, v1, hP, hS, hM⟩
              refine ⟨he, ?_⟩
              rw [HN.out]
              rw [HKN.out] at hP
              exact ⟨K, M1, v1, cO.reverse, cI.reverse, HKN.out, HR.chain, hP, HR.bel.trans (hS.below hbs HR.low)⟩
            go_wp2_with fail
            refine HTN.out.mono ?_
            rintro e w2 ⟨rfl, hpp⟩
            go_wp2
            go_ret
            exact ⟨rfl, hpp⟩
end Go.Proofs.YtoabakgmjcnodaaDoor
