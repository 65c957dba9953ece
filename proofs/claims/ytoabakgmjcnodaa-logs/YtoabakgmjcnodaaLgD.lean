import Derived.Test.YtoabakgmjcnodaaLgD0
import Derived.Test.YtoabakgmjcnodaaLgB
namespace Go.Proofs.Ytoabakgmjcnodaa
open Go.ChangeShapes Go.WideShapes Go.ChangeAt Go.RowKit
set_option maxRecDepth 10000 in
set_option maxHeartbeats 4000000 in
theorem ref_record (s : ByteArray) (i : Nat) (w : World) (hs : s.size ≤ 140737488351232) (hi : i ≤ s.size) :
    Calls Try.prog 18 #[.string s, .int .i64 i] w fun e w' => RecPost w w' e (recL (s.data.toList.drop i)) := by
  obtain ⟨iD, hiD, hD0, hD1, hD2⟩ := info_parts Try.infoDg
  obtain ⟨o, ho⟩ : ∃ o, recL (s.data.toList.drop i) = o := ⟨_, rfl⟩
  rw [ho]
  by_cases h2 : s.size < i + 2
  · have HE : Hid (o = none) := by rw [Hid, ← ho, recL_short h2]
    clear ho
    go_enter Try.func18, Try.ntmps18
    go_wp2
    exact bodyPost_ret (v := .tuple #[.agg #[.int .u64 0, .int .u64 0, .slice none 0 0], .int .i64 0]) (by simp [results, Try.results18, go_sem]) rfl (by
      rw [HE.out]
      exact ⟨rfl, ((Below.refl w.heap.size w).alloc (Nat.le_refl _) _).alloc (by simp) _⟩)
  · have hl1 : i + 1 < s.size := by omega
    have hl0 : i < s.size := by omega
    rw [recL_at hl1] at ho
    have c0 := s[i].toNat_lt
    have c1 := s[i + 1].toNat_lt
    by_cases h82 : s[i] = 82
    · have t1 : ((s[i].toNat : Int) != 82) = false := by rw [h82]; rfl
      by_cases h11 : s[i + 1] = 1
      · have t2 : ((s[i + 1].toNat : Int) != 1) = false := by rw [h11]; rfl
        have hkn : s[i + 1].toNat = 1 := by rw [h11]; rfl
        have hki : (s[i + 1].toNat : Int) = 1 := by rw [hkn]; rfl
        have h82' := h82
        have hk12 : s[i + 1] = 1 ∨ s[i + 1] = 2 := .inl h11
        clear h82 h11
        by_cases h3 : s.size < i + (22 + 16 * 1)
        · have HE : Hid (o = none) := by
            rw [Hid, ← ho, if_neg]
            rintro ⟨_, _, h, _⟩
            rw [hkn, List.length_drop] at h
            simp at h; omega
          have t5 : ((s.size : Int) < (i : Int) + (22 + 16 * 1)) := by omega
          clear ho
          go_enter Try.func18, Try.ntmps18
          go_wp2
          exact bodyPost_ret (v := .tuple #[.agg #[.int .u64 0, .int .u64 0, .slice none 0 0], .int .i64 0]) (by simp [results, Try.results18, go_sem]) rfl (by
            rw [HE.out]
            exact ⟨rfl, ((Below.refl w.heap.size w).alloc (Nat.le_refl _) _).alloc (by simp) _⟩)
        · have hfit : i + (22 + 16 * 1) ≤ s.size := by omega
          obtain ⟨T, hT⟩ : ∃ T, s.data.toList.drop i = T := ⟨_, rfl⟩
          have HN : Hid (∀ (z : Int) (j : Nat) (w : World), z = (i : Int) + j → i + j + 8 ≤ s.size → Calls Try.prog 28 #[.string s, .int .i64 z, .int .i64 8] w fun e w' => e = .returned (.int .u64 (numL ((T.drop j).take 8) : Nat)) ∧ w' = w) := by
            intro z j w hz hj
            have h := ref_narrow s (i + j) 8 w (by unfold maxLen; omega) (by omega) (by omega)
            rw [← hT, List.drop_drop]
            rw [hz]
            exact h
          rw [hT, hkn] at ho
          have hTl : T.length = s.size - i := by rw [← hT, List.length_drop]; simp
          have HO : Hid ((if T.take (22 + 16 * 1) = toldL (rcOf T 1) then some (rcOf T 1, 22 + 16 * 1) else none) = o) := by
            rw [Hid, ← ho]
            by_cases h : T.take (22 + 16 * 1) = toldL (rcOf T 1)
            · rw [if_pos h, if_pos ⟨h82', hk12, by omega, h⟩]
            · rw [if_neg h, if_neg (fun hh => h hh.2.2.2)]
          have HTK : Hid ((s.extract i (i + (22 + 16 * 1))).data.toList = T.take (22 + 16 * 1)) := by
            rw [Hid, ← hT, ByteArray.data_extract, Array.toList_extract]
            show List.take (i + (22 + 16 * 1) - i) _ = _
            rw [Nat.add_sub_cancel_left]
          have u0 := num8 T 2
          have u1 := num8 T 10
          have HOU : Hid ((rcOf T 1).outs.length = 1) := by rw [Hid]; simp [rcOf]
          have HOA : Hid (∀ m, m < 1 → (rcOf T 1).outs[m]? = some (numL ((T.drop (18 + 16 * m)).take 8), numL ((T.drop (26 + 16 * m)).take 8))) := by
            intro m hm
            unfold rcOf
            simp only
            rw [List.getElem?_map, List.getElem?_range hm]; rfl
          clear ho hT
          go_enter Try.func18, Try.ntmps18
          go_wp2_with fail
          refine (HN.out _ 2 _ (by rfl) (by omega)).mono ?_
          rintro e w1 ⟨rfl, hw⟩
          rw [hw]
          clear hw w1
          go_wp2_with fail
          refine (HN.out _ 10 _ (by rfl) (by omega)).mono ?_
          rintro e w1 ⟨rfl, hw⟩
          rw [hw]
          clear hw w1
          have HRC : Hid (rcOf T 1 = ⟨numL ((T.drop 2).take 8), numL ((T.drop 10).take 8), (rcOf T 1).outs⟩) := rfl
          generalize (rcOf T 1).outs = outs at *
          generalize numL ((T.drop 2).take 8) = p0 at *
          generalize numL ((T.drop 10).take 8) = p1 at *
          clear h82' hk12 hkn
          go_wp2_with fail
          go_loopw [9, 10] (fun j _ wr => ∃ m : Nat, m ≤ 1 ∧ j = .int .i64 ((m : Int) + 1) ∧ ∃ vO, RRel w wr p0 p1 vO (outs.take m)) (fun j _ _ => 1 + 1 - (intOf j).toNat)
          case atStart => exact ⟨0, Nat.zero_le _, rfl, .slice none 0 0, rrel_zero w p0 p1⟩
          case round =>
            obtain ⟨m, hm, rfl, vO, HR⟩ := hrel
            obtain ⟨b0, b1, b2, bf⟩ := three' HR.blk
            have hsz := HR.bel.size
            have hbl := blk_lt' HR.blk
            have hlen : (outs.take m).length = m := by rw [List.length_take]; have := HOU.out; omega
            by_cases hlt : m < 1
            · have hown := HR.own
              rw [hlen] at hown
              obtain ⟨ax, cx, hvx⟩ := owns_shape' hown
              subst hvx
              go_wp2_with fail
              refine (HN.out _ (18 + 16 * m) _ (by omega) (by omega)).mono ?_
              rintro e w1 ⟨rfl, hw⟩
              rw [hw]
              clear hw w1
              go_wp2_with fail
              refine (HN.out _ (26 + 16 * m) _ (by omega) (by omega)).mono ?_
              rintro e w1 ⟨rfl, hw⟩
              rw [hw]
              clear hw w1
              have HAT := HOA.out m hlt
              have v0 := num8 T (18 + 16 * m)
              have v1 := num8 T (26 + 16 * m)
              generalize numL ((T.drop (18 + 16 * m)).take 8) = x0 at *
              generalize numL ((T.drop (26 + 16 * m)).take 8) = x1 at *
              have HA : Hid (outs[m]? = some (x0, x1)) := HAT
              clear HAT
              obtain ⟨fl, hfl⟩ : ∃ fl, flatD (outs.take m) = fl := ⟨_, rfl⟩
              have HFL : Hid (flatD (outs.take m) = fl) := hfl
              rw [hfl] at hown
              clear hfl
              have hqf : ∀ o o', ((wr.alloc o).alloc o').frozen? ⟨w.heap.size + 1, 2, none⟩ = false := fun o o' => (World.frozen?_of_block ((Below.heap_alloc _ _ _ (by simp; omega)).trans (Below.heap_alloc _ _ _ hbl))).trans (bf 2)
              have hqc : ∀ o o', ((wr.alloc o).alloc o').cell? ⟨w.heap.size + 1, 2, none⟩ = some (.slice ax m cx) := fun o o' => (World.cell?_of_block ((Below.heap_alloc _ _ _ (by simp; omega)).trans (Below.heap_alloc _ _ _ hbl))).trans b2
              have hne : some (w.heap.size + 1) ≠ (Value.slice ax m cx).ownBlock := fun e => by have := (hown.lt _ e.symm).1; omega
              have hnb := alloc2_new wr (.cells #[.int .u64 (x0 : Nat), .int .u64 (x1 : Nat)] 24) (.cells #[.int .u64 (x0 : Nat), .int .u64 (x1 : Nat)] 24)
              go_wp2_with (at_builtin; (refine wpList_append_lies _ rfl _ _ 35 rfl (w.heap.size + 2) 24 iD _ 2 16 Try.underlying35 hiD hD0 hD1 hD2 rfl (by decide) _ m fl rfl ((hown.alloc _).alloc _) ⟨wr.heap.size + 1, 0, none⟩ 1 1 [.int .u64 (x0 : Nat), .int .u64 (x1 : Nat)] rfl rfl (World.news_of_block (cs := #[.int .u64 (x0 : Nat), .int .u64 (x1 : Nat)]) (t := 24) (fr := (0, 0)) hnb) (by simp [Value.oneCell']) (by omega) (by unfold maxLen; omega) (by omega) (by simp; omega) (wr.heap.size + 2) (by simp) ?_))
              intro gg cap w4 hown4 hgrow hat hlt1
              have hfz : w4.frozen? ⟨w.heap.size + 1, 2, none⟩ = false := (hgrow.frozen_far _ (by simp; omega) hne).trans (hqf _ _)
              have hcz : w4.cell? ⟨w.heap.size + 1, 2, none⟩ = some (.slice ax m cx) := (hgrow.cell_far _ (by simp; omega) hne).trans (hqc _ _)
              have HNEW : Hid (RRel w (w4.setCell ⟨w.heap.size + 1, 2, none⟩ (.slice (some ⟨gg, 0, none⟩) (m + 1) cap)) p0 p1 (.slice (some ⟨gg, 0, none⟩) (m + 1) cap) (outs.take (m + 1))) := by
                rw [← HFL.out] at hown4
                exact rrel_next HR hlen HA.out hown4 hgrow
              clear hown4 hgrow hat hqf hqc hnb HR
              go_wp2
              go_roundw
              case rel => exact ⟨m + 1, by omega, by go_num, _, HNEW.out⟩
              case measure => simp [intOf]; omega
            · have HTK2 : Hid (outs.take m = outs) := List.take_of_length_le (by have := HOU.out; omega)
              have hds : Ds wr vO outs := by
                have h := HR.own
                rw [HTK2.out] at h
                exact ds_owned h (fun d hd => by
                  obtain ⟨q, hq, rfl⟩ := List.mem_iff_getElem.1 hd
                  have h1 := HOA.out q (by have := HOU.out; omega)
                  rw [List.getElem?_eq_getElem hq] at h1
                  injection h1 with h1
                  rw [h1]
                  exact ⟨num8 T _, num8 T _⟩)
              obtain ⟨aO, cO, hvO, -, -, -⟩ := id hds
              have HOW : Hid (∀ q, vO.ownBlock = some q → w.heap.size ≤ q) := fun q hq => by have := (HR.own.lt q hq).1; omega
              have HOW2 : Hid (∀ q, vO.ownBlock = some q → q ≠ w.heap.size) := fun q hq => by have := (HR.own.lt q hq).1; omega
              subst hvO
              have CT := ref_Told ⟨p0, p1, outs⟩ _ wr hds u0 u1 (by show outs.length ≤ 2; have := HOU.out; omega)
              have HCT : Hid (Calls Try.prog 16 #[.agg #[.int .u64 (p0 : Nat), .int .u64 (p1 : Nat), .slice aO outs.length cO]] wr fun e w' => e = .returned (.string (bsL (toldL ⟨p0, p1, outs⟩))) ∧ Below wr.heap.size wr w') := CT
              have HDS : Hid (Ds wr (.slice aO outs.length cO) outs) := hds
              clear CT hds
              rw [HRC.out] at HO
              have HXX : Hid ((((s.extract i (i + (22 + 16 * 1))).toList == (bsL (toldL ⟨p0, p1, outs⟩)).toList) = true ↔ T.take (22 + 16 * 1) = toldL ⟨p0, p1, outs⟩)) := by
                rw [Hid, beq_iff_eq, ByteArray.toList_eq, ByteArray.toList_eq, HTK.out]
                simp [bsL]
              go_wp2_with fail
              refine HCT.out.mono ?_
              rintro e w3 ⟨rfl, hb3⟩
              obtain ⟨d0, d1, d2, df⟩ := three' ((hb3.block _ hbl).trans HR.blk)
              obtain ⟨g0, g1, g2, gf⟩ := three' ((hb3.block _ (by omega)).trans HR.res)
              have hbb := HR.bel.trans (hb3.mono hsz)
              have hsl : ∀ w, Sem.run Try.prog (Instr.slice 9 (.string s) (some (.int .i64 (i : Int))) (some (.int .i64 ((i : Int) + (22 + 16 * 1)))) none) w = .ok (.string (s.extract i (i + (22 + 16 * 1)))) w := fun w => by
                have h := str_slice s i (i + (22 + 16 * 1)) (by omega) hfit (by omega) w
                rw [show ((i + (22 + 16 * 1) : Nat) : Int) = (i : Int) + (22 + 16 * 1) by omega] at h
                exact h
              simp only [Nat.reduceMul, Nat.reduceAdd, Int.reduceMul, Int.reduceAdd] at hsl HXX
              obtain ⟨X, hX⟩ : ∃ X, s.extract i (i + (22 + 16 * 1)) = X := ⟨_, rfl⟩
              simp only [Nat.reduceMul, Nat.reduceAdd] at hX
              rw [hX] at hsl HXX
              obtain ⟨Y, hY⟩ : ∃ Y, bsL (toldL ⟨p0, p1, outs⟩) = Y := ⟨_, rfl⟩
              rw [hY] at HXX ⊢
              clear hX hY
              cases hc : (X.toList == Y.toList)
              · have HE : Hid (o = none) := by
                  rw [Hid, ← HO.out, if_neg]
                  intro h
                  have := HXX.out.2 h
                  rw [hc] at this; cases this
                go_wp2
                exact bodyPost_ret (v := .tuple #[.agg #[.int .u64 0, .int .u64 0, .slice none 0 0], .int .i64 0]) (by simp [results, Try.results18, go_sem, g0, g1, g2]) rfl (by
                  rw [HE.out]
                  exact ⟨rfl, below_three' hbb rfl _ _ _⟩)
              · have HE : Hid (o = some (⟨p0, p1, outs⟩, 22 + 16 * 1)) := by
                  rw [Hid, ← HO.out, if_pos (HXX.out.1 hc)]
                go_wp2
                exact bodyPost_ret (v := .tuple #[.agg #[.int .u64 (p0 : Nat), .int .u64 (p1 : Nat), .slice aO outs.length cO], .int .i64 (22 + 16 * 1 : Nat)]) (by simp [results, Try.results18, go_sem, g0, g1, g2]) rfl (by
                  rw [HE.out]
                  have hB := below_three' hbb rfl (.int .u64 (p0 : Nat)) (.int .u64 (p1 : Nat)) (.slice aO outs.length cO)
                  refine ⟨_, rfl, ?_, HOW.out, hB⟩
                  exact ds_set (HDS.out.below hb3) HOW2.out _ _ _)
      · by_cases h12 : s[i + 1] = 2
        · have t2 : ((s[i + 1].toNat : Int) != 1) = true := by rw [h12]; rfl
          have t3 : ((s[i + 1].toNat : Int) != 2) = false := by rw [h12]; rfl
          have hkn : s[i + 1].toNat = 2 := by rw [h12]; rfl
          have hki : (s[i + 1].toNat : Int) = 2 := by rw [hkn]; rfl
          have h82' := h82
          have hk12 : s[i + 1] = 1 ∨ s[i + 1] = 2 := .inr h12
          clear h82 h11 h12
          by_cases h3 : s.size < i + (22 + 16 * 2)
          · have HE : Hid (o = none) := by
              rw [Hid, ← ho, if_neg]
              rintro ⟨_, _, h, _⟩
              rw [hkn, List.length_drop] at h
              simp at h; omega
            have t5 : ((s.size : Int) < (i : Int) + (22 + 16 * 2)) := by omega
            clear ho
            go_enter Try.func18, Try.ntmps18
            go_wp2
            exact bodyPost_ret (v := .tuple #[.agg #[.int .u64 0, .int .u64 0, .slice none 0 0], .int .i64 0]) (by simp [results, Try.results18, go_sem]) rfl (by
              rw [HE.out]
              exact ⟨rfl, ((Below.refl w.heap.size w).alloc (Nat.le_refl _) _).alloc (by simp) _⟩)
          · have hfit : i + (22 + 16 * 2) ≤ s.size := by omega
            obtain ⟨T, hT⟩ : ∃ T, s.data.toList.drop i = T := ⟨_, rfl⟩
            have HN : Hid (∀ (z : Int) (j : Nat) (w : World), z = (i : Int) + j → i + j + 8 ≤ s.size → Calls Try.prog 28 #[.string s, .int .i64 z, .int .i64 8] w fun e w' => e = .returned (.int .u64 (numL ((T.drop j).take 8) : Nat)) ∧ w' = w) := by
              intro z j w hz hj
              have h := ref_narrow s (i + j) 8 w (by unfold maxLen; omega) (by omega) (by omega)
              rw [← hT, List.drop_drop]
              rw [hz]
              exact h
            rw [hT, hkn] at ho
            have hTl : T.length = s.size - i := by rw [← hT, List.length_drop]; simp
            have HO : Hid ((if T.take (22 + 16 * 2) = toldL (rcOf T 2) then some (rcOf T 2, 22 + 16 * 2) else none) = o) := by
              rw [Hid, ← ho]
              by_cases h : T.take (22 + 16 * 2) = toldL (rcOf T 2)
              · rw [if_pos h, if_pos ⟨h82', hk12, by omega, h⟩]
              · rw [if_neg h, if_neg (fun hh => h hh.2.2.2)]
            have HTK : Hid ((s.extract i (i + (22 + 16 * 2))).data.toList = T.take (22 + 16 * 2)) := by
              rw [Hid, ← hT, ByteArray.data_extract, Array.toList_extract]
              show List.take (i + (22 + 16 * 2) - i) _ = _
              rw [Nat.add_sub_cancel_left]
            have u0 := num8 T 2
            have u1 := num8 T 10
            have HOU : Hid ((rcOf T 2).outs.length = 2) := by rw [Hid]; simp [rcOf]
            have HOA : Hid (∀ m, m < 2 → (rcOf T 2).outs[m]? = some (numL ((T.drop (18 + 16 * m)).take 8), numL ((T.drop (26 + 16 * m)).take 8))) := by
              intro m hm
              unfold rcOf
              simp only
              rw [List.getElem?_map, List.getElem?_range hm]; rfl
            clear ho hT
            go_enter Try.func18, Try.ntmps18
            go_wp2_with fail
            refine (HN.out _ 2 _ (by rfl) (by omega)).mono ?_
            rintro e w1 ⟨rfl, hw⟩
            rw [hw]
            clear hw w1
            go_wp2_with fail
            refine (HN.out _ 10 _ (by rfl) (by omega)).mono ?_
            rintro e w1 ⟨rfl, hw⟩
            rw [hw]
            clear hw w1
            have HRC : Hid (rcOf T 2 = ⟨numL ((T.drop 2).take 8), numL ((T.drop 10).take 8), (rcOf T 2).outs⟩) := rfl
            generalize (rcOf T 2).outs = outs at *
            generalize numL ((T.drop 2).take 8) = p0 at *
            generalize numL ((T.drop 10).take 8) = p1 at *
            clear h82' hk12 hkn
            go_wp2_with fail
            go_loopw [9, 10] (fun j _ wr => ∃ m : Nat, m ≤ 2 ∧ j = .int .i64 ((m : Int) + 1) ∧ ∃ vO, RRel w wr p0 p1 vO (outs.take m)) (fun j _ _ => 2 + 1 - (intOf j).toNat)
            case atStart => exact ⟨0, Nat.zero_le _, rfl, .slice none 0 0, rrel_zero w p0 p1⟩
            case round =>
              obtain ⟨m, hm, rfl, vO, HR⟩ := hrel
              obtain ⟨b0, b1, b2, bf⟩ := three' HR.blk
              have hsz := HR.bel.size
              have hbl := blk_lt' HR.blk
              have hlen : (outs.take m).length = m := by rw [List.length_take]; have := HOU.out; omega
              by_cases hlt : m < 2
              · have hown := HR.own
                rw [hlen] at hown
                obtain ⟨ax, cx, hvx⟩ := owns_shape' hown
                subst hvx
                go_wp2_with fail
                refine (HN.out _ (18 + 16 * m) _ (by omega) (by omega)).mono ?_
                rintro e w1 ⟨rfl, hw⟩
                rw [hw]
                clear hw w1
                go_wp2_with fail
                refine (HN.out _ (26 + 16 * m) _ (by omega) (by omega)).mono ?_
                rintro e w1 ⟨rfl, hw⟩
                rw [hw]
                clear hw w1
                have HAT := HOA.out m hlt
                have v0 := num8 T (18 + 16 * m)
                have v1 := num8 T (26 + 16 * m)
                generalize numL ((T.drop (18 + 16 * m)).take 8) = x0 at *
                generalize numL ((T.drop (26 + 16 * m)).take 8) = x1 at *
                have HA : Hid (outs[m]? = some (x0, x1)) := HAT
                clear HAT
                obtain ⟨fl, hfl⟩ : ∃ fl, flatD (outs.take m) = fl := ⟨_, rfl⟩
                have HFL : Hid (flatD (outs.take m) = fl) := hfl
                rw [hfl] at hown
                clear hfl
                have hqf : ∀ o o', ((wr.alloc o).alloc o').frozen? ⟨w.heap.size + 1, 2, none⟩ = false := fun o o' => (World.frozen?_of_block ((Below.heap_alloc _ _ _ (by simp; omega)).trans (Below.heap_alloc _ _ _ hbl))).trans (bf 2)
                have hqc : ∀ o o', ((wr.alloc o).alloc o').cell? ⟨w.heap.size + 1, 2, none⟩ = some (.slice ax m cx) := fun o o' => (World.cell?_of_block ((Below.heap_alloc _ _ _ (by simp; omega)).trans (Below.heap_alloc _ _ _ hbl))).trans b2
                have hne : some (w.heap.size + 1) ≠ (Value.slice ax m cx).ownBlock := fun e => by have := (hown.lt _ e.symm).1; omega
                have hnb := alloc2_new wr (.cells #[.int .u64 (x0 : Nat), .int .u64 (x1 : Nat)] 24) (.cells #[.int .u64 (x0 : Nat), .int .u64 (x1 : Nat)] 24)
                go_wp2_with (at_builtin; (refine wpList_append_lies _ rfl _ _ 35 rfl (w.heap.size + 2) 24 iD _ 2 16 Try.underlying35 hiD hD0 hD1 hD2 rfl (by decide) _ m fl rfl ((hown.alloc _).alloc _) ⟨wr.heap.size + 1, 0, none⟩ 1 1 [.int .u64 (x0 : Nat), .int .u64 (x1 : Nat)] rfl rfl (World.news_of_block (cs := #[.int .u64 (x0 : Nat), .int .u64 (x1 : Nat)]) (t := 24) (fr := (0, 0)) hnb) (by simp [Value.oneCell']) (by omega) (by unfold maxLen; omega) (by omega) (by simp; omega) (wr.heap.size + 2) (by simp) ?_))
                intro gg cap w4 hown4 hgrow hat hlt1
                have hfz : w4.frozen? ⟨w.heap.size + 1, 2, none⟩ = false := (hgrow.frozen_far _ (by simp; omega) hne).trans (hqf _ _)
                have hcz : w4.cell? ⟨w.heap.size + 1, 2, none⟩ = some (.slice ax m cx) := (hgrow.cell_far _ (by simp; omega) hne).trans (hqc _ _)
                have HNEW : Hid (RRel w (w4.setCell ⟨w.heap.size + 1, 2, none⟩ (.slice (some ⟨gg, 0, none⟩) (m + 1) cap)) p0 p1 (.slice (some ⟨gg, 0, none⟩) (m + 1) cap) (outs.take (m + 1))) := by
                  rw [← HFL.out] at hown4
                  exact rrel_next HR hlen HA.out hown4 hgrow
                clear hown4 hgrow hat hqf hqc hnb HR
                go_wp2
                go_roundw
                case rel => exact ⟨m + 1, by omega, by go_num, _, HNEW.out⟩
                case measure => simp [intOf]; omega
              · have HTK2 : Hid (outs.take m = outs) := List.take_of_length_le (by have := HOU.out; omega)
                have hds : Ds wr vO outs := by
                  have h := HR.own
                  rw [HTK2.out] at h
                  exact ds_owned h (fun d hd => by
                    obtain ⟨q, hq, rfl⟩ := List.mem_iff_getElem.1 hd
                    have h1 := HOA.out q (by have := HOU.out; omega)
                    rw [List.getElem?_eq_getElem hq] at h1
                    injection h1 with h1
                    rw [h1]
                    exact ⟨num8 T _, num8 T _⟩)
                obtain ⟨aO, cO, hvO, -, -, -⟩ := id hds
                have HOW : Hid (∀ q, vO.ownBlock = some q → w.heap.size ≤ q) := fun q hq => by have := (HR.own.lt q hq).1; omega
                have HOW2 : Hid (∀ q, vO.ownBlock = some q → q ≠ w.heap.size) := fun q hq => by have := (HR.own.lt q hq).1; omega
                subst hvO
                have CT := ref_Told ⟨p0, p1, outs⟩ _ wr hds u0 u1 (by show outs.length ≤ 2; have := HOU.out; omega)
                have HCT : Hid (Calls Try.prog 16 #[.agg #[.int .u64 (p0 : Nat), .int .u64 (p1 : Nat), .slice aO outs.length cO]] wr fun e w' => e = .returned (.string (bsL (toldL ⟨p0, p1, outs⟩))) ∧ Below wr.heap.size wr w') := CT
                have HDS : Hid (Ds wr (.slice aO outs.length cO) outs) := hds
                clear CT hds
                rw [HRC.out] at HO
                have HXX : Hid ((((s.extract i (i + (22 + 16 * 2))).toList == (bsL (toldL ⟨p0, p1, outs⟩)).toList) = true ↔ T.take (22 + 16 * 2) = toldL ⟨p0, p1, outs⟩)) := by
                  rw [Hid, beq_iff_eq, ByteArray.toList_eq, ByteArray.toList_eq, HTK.out]
                  simp [bsL]
                go_wp2_with fail
                refine HCT.out.mono ?_
                rintro e w3 ⟨rfl, hb3⟩
                obtain ⟨d0, d1, d2, df⟩ := three' ((hb3.block _ hbl).trans HR.blk)
                obtain ⟨g0, g1, g2, gf⟩ := three' ((hb3.block _ (by omega)).trans HR.res)
                have hbb := HR.bel.trans (hb3.mono hsz)
                have hsl : ∀ w, Sem.run Try.prog (Instr.slice 9 (.string s) (some (.int .i64 (i : Int))) (some (.int .i64 ((i : Int) + (22 + 16 * 2)))) none) w = .ok (.string (s.extract i (i + (22 + 16 * 2)))) w := fun w => by
                  have h := str_slice s i (i + (22 + 16 * 2)) (by omega) hfit (by omega) w
                  rw [show ((i + (22 + 16 * 2) : Nat) : Int) = (i : Int) + (22 + 16 * 2) by omega] at h
                  exact h
                simp only [Nat.reduceMul, Nat.reduceAdd, Int.reduceMul, Int.reduceAdd] at hsl HXX
                obtain ⟨X, hX⟩ : ∃ X, s.extract i (i + (22 + 16 * 2)) = X := ⟨_, rfl⟩
                simp only [Nat.reduceMul, Nat.reduceAdd] at hX
                rw [hX] at hsl HXX
                obtain ⟨Y, hY⟩ : ∃ Y, bsL (toldL ⟨p0, p1, outs⟩) = Y := ⟨_, rfl⟩
                rw [hY] at HXX ⊢
                clear hX hY
                cases hc : (X.toList == Y.toList)
                · have HE : Hid (o = none) := by
                    rw [Hid, ← HO.out, if_neg]
                    intro h
                    have := HXX.out.2 h
                    rw [hc] at this; cases this
                  go_wp2
                  exact bodyPost_ret (v := .tuple #[.agg #[.int .u64 0, .int .u64 0, .slice none 0 0], .int .i64 0]) (by simp [results, Try.results18, go_sem, g0, g1, g2]) rfl (by
                    rw [HE.out]
                    exact ⟨rfl, below_three' hbb rfl _ _ _⟩)
                · have HE : Hid (o = some (⟨p0, p1, outs⟩, 22 + 16 * 2)) := by
                    rw [Hid, ← HO.out, if_pos (HXX.out.1 hc)]
                  go_wp2
                  exact bodyPost_ret (v := .tuple #[.agg #[.int .u64 (p0 : Nat), .int .u64 (p1 : Nat), .slice aO outs.length cO], .int .i64 (22 + 16 * 2 : Nat)]) (by simp [results, Try.results18, go_sem, g0, g1, g2]) rfl (by
                    rw [HE.out]
                    have hB := below_three' hbb rfl (.int .u64 (p0 : Nat)) (.int .u64 (p1 : Nat)) (.slice aO outs.length cO)
                    refine ⟨_, rfl, ?_, HOW.out, hB⟩
                    exact ds_set (HDS.out.below hb3) HOW2.out _ _ _)
        · have n1 : s[i + 1].toNat ≠ 1 := fun e => h11 (UInt8.toNat_inj.1 e)
          have n2 : s[i + 1].toNat ≠ 2 := fun e => h12 (UInt8.toNat_inj.1 e)
          have t2 : ((s[i + 1].toNat : Int) != 1) = true := by simp; omega
          have t3 : ((s[i + 1].toNat : Int) != 2) = true := by simp; omega
          have HE : Hid (o = none) := by
            rw [Hid, ← ho, if_neg]
            rintro ⟨_, h, _⟩
            rcases h with h | h
            · exact h11 h
            · exact h12 h
          clear ho h11 h12 h82 n1 n2
          go_enter Try.func18, Try.ntmps18
          go_wp2
          exact bodyPost_ret (v := .tuple #[.agg #[.int .u64 0, .int .u64 0, .slice none 0 0], .int .i64 0]) (by simp [results, Try.results18, go_sem]) rfl (by
            rw [HE.out]
            exact ⟨rfl, ((Below.refl w.heap.size w).alloc (Nat.le_refl _) _).alloc (by simp) _⟩)
    · have n1 : s[i].toNat ≠ 82 := fun e => h82 (UInt8.toNat_inj.1 e)
      have t1 : ((s[i].toNat : Int) != 82) = true := by simp; omega
      have HE : Hid (o = none) := by
        rw [Hid, ← ho, if_neg]
        rintro ⟨h, _⟩
        exact h82 h
      clear ho h82 n1
      go_enter Try.func18, Try.ntmps18
      go_wp2
      exact bodyPost_ret (v := .tuple #[.agg #[.int .u64 0, .int .u64 0, .slice none 0 0], .int .i64 0]) (by simp [results, Try.results18, go_sem]) rfl (by
        rw [HE.out]
        exact ⟨rfl, ((Below.refl w.heap.size w).alloc (Nat.le_refl _) _).alloc (by simp) _⟩)
end Go.Proofs.Ytoabakgmjcnodaa
