import Derived.Test.YtoabakgmjcnodaaDoorOwnK
import Derived.Test.YtoabakgmjcnodaaDoorOwnC
import Derived.Deep.AppendLies
namespace Go.Proofs.YtoabakgmjcnodaaDoor
open Go.ChangeShapes Go.WideShapes Go.ChangeAt Go.RowKit

def lenOf : Value → Nat
  | .slice _ n _ => n
  | _ => 0
def bitOf : Value → Nat
  | .bool true => 1
  | _ => 0

set_option maxRecDepth 10000 in
set_option maxHeartbeats 4000000 in
theorem own_inOrder (ab : Nat) (ls : List (List Nat)) (w : World) (hw : Wts w ab ls) (hn : ls.length ≤ 24) (hll : ∀ l ∈ ls, l.length ≤ 4000 ∧ ∀ x ∈ l, x < ls.length) :
    Calls Tryd.prog 34 #[.slice (some ⟨ab, 0, none⟩) ls.length ls.length] w fun e w' => ∃ v, e = .returned v ∧ w'.ownsRow w.heap.size 3 1 v (ordIter ls ls.length (ls.length + 1)).length ((ordIter ls ls.length (ls.length + 1)).map fun (n : Nat) => Value.int .i64 (n : Int)) ∧ Below w.heap.size w w' := by
  obtain ⟨i3, hj, hy0, hy1, hy2⟩ := info_parts Tryd.info3
  have hmk := run_make_row' (P := Tryd.prog) 101 4 (.bool false) 1 Tryd.underlying101 Tryd.info4 rfl .i64 .i64 ls.length (by omega) (by omega)
  obtain ⟨w0, hmo, hown0, hg0⟩ := run_make_own (P := Tryd.prog) w w.heap.size 29 3 i3 _ 1 Tryd.underlying29 hj hy0 hy1 .i64 .i64 ls.length (by rw [hy2]; omega) (by unfold maxLen; omega) (Nat.le_refl _)
  obtain ⟨n, hnn⟩ : ∃ n, ls.length = n := ⟨_, rfl⟩
  have HN : Hid (ls.length = n) := hnn
  rw [hnn] at hmk hmo hown0 hn hll ⊢
  clear hnn
  have hb0 : Below w.heap.size w w0 := (Below.refl _ _).grown hg0 (Nat.le_refl _) (fun k hk => by cases hk)
  have hg1 := (hown0.lt w.heap.size rfl).2
  have hown1 := hown0.alloc (.cells (madeCells #[Value.bool false] n) 4)
  have hrow1 := World.rowIs_made w0 (.bool false) n 4
  have hb1 := hb0.alloc (Nat.le_of_lt hg1) (.cells (madeCells #[Value.bool false] n) 4)
  obtain ⟨qb, hqb⟩ : ∃ q, w0.heap.size = q := ⟨_, rfl⟩
  rw [hqb] at hg1 hrow1
  have HQ : Hid (w0.heap.size = qb) := hqb
  have HO1 : Hid ((w0.alloc (.cells (madeCells #[Value.bool false] n) 4)).ownsRow w.heap.size 3 1 (.slice (some ⟨w.heap.size, 0, none⟩) 0 n) 0 []) := hown1
  have HLL : Hid (∀ l ∈ ls, l.length ≤ 4000 ∧ ∀ x ∈ l, x < n) := hll
  have HW : Hid (Wts w ab ls) := hw
  clear hown1 hown0 hg0 hqb hll hw
  go_enter Tryd.func34, Tryd.ntmps34
  go_wp2
  rw [HQ.out]
  go_loopw [3, 5, 6] (fun v g _ wr => ∃ (r : Nat) (b : Bool), g = .bool b ∧ (b = true ∨ ordPass ls (ordIter ls n r) n = ordIter ls n r) ∧ v.ownBlock ≠ some qb ∧
      wr.ownsRow w.heap.size 3 1 v (ordIter ls n r).length ((ordIter ls n r).map fun (n : Nat) => Value.int .i64 (n : Int)) ∧ wr.rowIs qb 4 n (fun i => .bool ((ordIter ls n r).contains i)) ∧ Below w.heap.size w wr)
    (fun v g _ _ => 2 * (n - lenOf v) + bitOf g)
  case atStart => exact ⟨0, true, rfl, .inl rfl, by simp [Value.ownBlock]; omega, HO1.out, hrow1, hb1⟩
  case round =>
    clear hb1 hrow1 HO1
    obtain ⟨r, b, rfl, hfix, hvq, hown, hrow, hbel⟩ := hrel
    have hlen := ordIter_len ls n r
    have hcn := cnt_le (fun i => (ordIter ls n r).contains i) n
    rw [← hlen] at hcn
    clear hlen
    obtain ⟨o, ho⟩ : ∃ o, ordIter ls n r = o := ⟨_, rfl⟩
    have HO : Hid (ordIter ls n r = o) := ho
    rw [ho] at hfix hown hrow hcn
    have HFX : Hid (b = true ∨ ordPass ls o n = o) := hfix
    clear ho hfix
    cases b
    · have HE : Hid (o = ordIter ls n (n + 1)) := by
        have h := HFX.out
        simp only [Bool.false_eq_true, false_or] at h
        rw [← HO.out] at h ⊢
        exact ordIter_fix h
      obtain ⟨a, c, rfl⟩ := owns_shape hown
      go_wp2
      go_ret
      rw [← HE.out]
      exact ⟨_, rfl, hown, hbel⟩
    · obtain ⟨aV, cV, rfl⟩ := owns_shape hown
      go_wp2
      go_loopw [3, 5, 6, 16] (fun v g _ i wm => ∃ (j : Nat) (b : Bool), j ≤ n ∧ i = .int .i64 j ∧ g = .bool b ∧ (b = true ∧ o.length < (ordPass ls o j).length ∨ b = false ∧ ordPass ls o j = o) ∧ v.ownBlock ≠ some qb ∧
          wm.ownsRow w.heap.size 3 1 v (ordPass ls o j).length ((ordPass ls o j).map fun (n : Nat) => Value.int .i64 (n : Int)) ∧ wm.rowIs qb 4 n (fun i => .bool ((ordPass ls o j).contains i)) ∧ Below w.heap.size w wm)
        (fun _ _ _ i _ => n - (intOf i).toNat)
      case atStart => exact ⟨0, false, Nat.zero_le _, rfl, rfl, .inr ⟨rfl, rfl⟩, hvq, hown, hrow, hbel⟩
      case round =>
        clear hown hrow hbel hvq
        obtain ⟨j, b, hjn, rfl, rfl, hgr, hvq, hown, hrow, hbel⟩ := hrel
        have HC : Hid ((ordPass ls o j).length ≤ n ∧ ∀ q, q ≤ n → (ordPass ls o q).length ≤ n) := by
          have h0 : o.length = cnt (fun i => o.contains i) n := by have := ordIter_len ls n r; rwa [HO.out] at this
          have h1 : ∀ q, q ≤ n → (ordPass ls o q).length ≤ n := fun q hq => by
            rw [ordPass_len h0 q hq]; exact cnt_le _ _
          exact ⟨h1 j hjn, h1⟩
        have hol := HC.out.1
        have hge := ordPass_ge ls o j
        obtain ⟨oj, hoj⟩ : ∃ oj, ordPass ls o j = oj := ⟨_, rfl⟩
        have HJ : Hid (ordPass ls o j = oj) := hoj
        rw [hoj] at hgr hown hrow hol hge
        have HG : Hid (b = true ∧ o.length < oj.length ∨ b = false ∧ oj = o) := hgr
        clear hoj hgr
        obtain ⟨aV, cV, rfl⟩ := owns_shape hown
        by_cases hlt : j < n
        · have cj := hrow.cell hlt
          have fj := hrow.frozen j
          have hjl : j < ls.length := by rw [HN.out]; exact hlt
          obtain ⟨vj, hcj, hij⟩ := (HW.out.below hbel) j hjl
          have hLj := HLL.out _ (List.getElem_mem hjl)
          obtain ⟨lj, hlj⟩ : ∃ lj, ls[j] = lj := ⟨_, rfl⟩
          rw [hlj] at hij hLj
          have HLJ : Hid (ls.getD j [] = lj) := by rw [← hlj]; simp [Hid, hjl]
          clear hlj hjl
          have hAP := own_allPlaced vj lj qb n (fun i => oj.contains i) wr hij hLj.1 hLj.2 hrow
          obtain ⟨ap, hap⟩ : ∃ ap, lj.all (fun i => oj.contains i) = ap := ⟨_, rfl⟩
          rw [hap] at hAP
          have HSTEP : Hid (∀ hh : Bool, oj.contains j = hh → ordPass ls o (j + 1) = if hh = false ∧ ap = true then oj ++ [j] else oj) := by
            intro hh hhh
            show ordStep ls (ordPass ls o j) j = _
            rw [HJ.out, ordStep, HLJ.out, hap, hhh]
          have HAP : Hid (Calls Tryd.prog 50 #[vj, .slice (some ⟨qb, 0, none⟩) n n] wr fun e w' => e = .returned (.bool ap) ∧ w' = wr) := hAP
          clear hAP hap hLj
          obtain ⟨aj, kj, rfl, _, _⟩ := id hij
          clear hij
          obtain ⟨hh, hhh⟩ : ∃ hh, oj.contains j = hh := ⟨_, rfl⟩
          rw [hhh] at cj
          have HS2 : Hid (ordPass ls o (j + 1) = if hh = false ∧ ap = true then oj ++ [j] else oj) := HSTEP.out hh hhh
          clear hhh HSTEP
          cases hh
          · cases ap
            · have HS3 : Hid (ordPass ls o (j + 1) = oj) := by rw [HS2.out]; simp [Hid]
              clear HS2
              go_wp2_with (go_at_call 50; refine HAP.out.mono ?_; rintro e w1 ⟨rfl, hw⟩; subst hw)
              go_roundw
              case rel => exact ⟨j + 1, b, by omega, by go_num, rfl, by rw [HS3.out]; exact HG.out, hvq, by rw [HS3.out]; exact hown, by rw [HS3.out]; exact hrow, hbel⟩
              case measure => simp [intOf]; omega
            · have HS3 : Hid (ordPass ls o (j + 1) = oj ++ [j]) := by rw [HS2.out]; simp [Hid]
              have hol2 := HC.out.2 (j + 1) (by omega)
              rw [HS3.out] at hol2
              simp at hol2
              clear HS2
              have hS1 : Same (fun k => k = qb) wr (wr.setCell ⟨qb, j, none⟩ (.bool true)) := same_one _ _ _ _
              have hown2 := hS1.owns hown (fun k hk e => hvq (by rw [hk, e]))
              have hrow2 : (wr.setCell ⟨qb, j, none⟩ (.bool true)).rowIs qb 4 n (fun i => .bool ((oj ++ [j]).contains i)) := (hrow.set j (.bool true)).congr (fun i _ => by
                by_cases e : i = j
                · subst e; rw [if_pos rfl, has_snoc]; simp
                · rw [if_neg e, has_snoc]; simp [e])
              have hbel2 : Below w.heap.size w (wr.setCell ⟨qb, j, none⟩ (.bool true)) := hbel.setCell (by simp; omega) _
              have hqs : qb < (wr.setCell ⟨qb, j, none⟩ (.bool true)).heap.size := by have := hrow.lt; simpa using this
              have HX : Hid ((wr.setCell ⟨qb, j, none⟩ (.bool true)).ownsRow w.heap.size 3 1 (.slice aV oj.length cV) oj.length (oj.map fun (n : Nat) => Value.int .i64 (n : Int)) ∧ (wr.setCell ⟨qb, j, none⟩ (.bool true)).rowIs qb 4 n (fun i => .bool ((oj ++ [j]).contains i)) ∧ Below w.heap.size w (wr.setCell ⟨qb, j, none⟩ (.bool true)) ∧ qb < (wr.setCell ⟨qb, j, none⟩ (.bool true)).heap.size) := ⟨hown2, hrow2, hbel2, hqs⟩
              have HCN : Hid (∀ j' u, [Value.int .i64 (j : Int)][j']? = some u → ((wr.setCell ⟨qb, j, none⟩ (.bool true)).alloc (.cells #[.int .i64 j] 3)).cell? ((⟨wr.heap.size, 0, none⟩ : Addr).add j') = some u) := by
                have h := Go.cell_one_new (wr.setCell ⟨qb, j, none⟩ (.bool true)) (.int .i64 j) 3
                have e : (wr.setCell ⟨qb, j, none⟩ (.bool true)).heap.size = wr.heap.size := by simp
                rw [e] at h
                exact h
              clear hS1 hown2 hrow2 hbel2 hqs hown hrow hbel
              go_wp2_with (first
                | (go_at_call 50; refine HAP.out.mono ?_; rintro e w1 ⟨rfl, hw⟩; subst hw)
                | (at_builtin; (refine wpList_append_lies _ rfl _ _ 29 rfl w.heap.size 3 i3 _ 1 8 Tryd.underlying29 hj hy0 hy1 hy2 rfl (by decide) (.slice aV oj.length cV) oj.length (oj.map fun (n : Nat) => Value.int .i64 (n : Int)) rfl (HX.out.1.alloc _) ⟨w1.heap.size, 0, none⟩ 1 1 [.int .i64 j] rfl rfl HCN.out (by simp [Value.oneCell']) (by omega) (by unfold maxLen; omega) (by omega) (by have := HX.out.2.2.1.size; simp at this ⊢; omega) ((w1.setCell ⟨qb, j, none⟩ (.bool true)).heap.size + 1) (by simp) ?_); intro gg cap w2 hown3 hgrow hat hlt3))
              have hX2 := HX.out
              obtain ⟨W, hWW⟩ : ∃ W, w1.setCell ⟨qb, j, none⟩ (.bool true) = W := ⟨_, rfl⟩
              rw [hWW] at hX2 hgrow hat
              obtain ⟨hown2, hrow2, hbel2, hqs⟩ := hX2
              have hbs2 := hbel2.size
              have hgq : gg ≠ qb := by
                rcases hat with h | h
                · intro e; exact hvq (by rw [h, e])
                · omega
              go_roundw
              case rel =>
                refine ⟨j + 1, true, by omega, by go_num, rfl, .inl ⟨rfl, by rw [HS3.out]; simp; omega⟩, by simp [Value.ownBlock]; exact hgq, ?_, ?_, ?_⟩
                · rw [HS3.out]; simpa using hown3
                · rw [HS3.out]
                  exact hrow2.of_block ((hgrow.block qb (by simp; omega) (fun e => hvq e.symm)).trans (Below.heap_alloc _ _ _ hqs))
                · refine (hbel2.alloc hbs2 _).grown hgrow (by simp; omega) (fun k hk => ?_)
                  exact (hown2.lt k hk).1
              case measure => simp [intOf]; omega
          · have HS3 : Hid (ordPass ls o (j + 1) = oj) := by rw [HS2.out]; simp [Hid]
            clear HS2
            go_wp2
            go_roundw
            case rel => exact ⟨j + 1, b, by omega, by go_num, rfl, by rw [HS3.out]; exact HG.out, hvq, by rw [HS3.out]; exact hown, by rw [HS3.out]; exact hrow, hbel⟩
            case measure => simp [intOf]; omega
        · have HJN : Hid (ordPass ls o n = oj) := by rw [show n = j by omega]; exact HJ.out
          go_wp2
          go_roundw
          case rel =>
            rcases HG.out with ⟨rfl, h⟩ | ⟨rfl, h⟩
            · refine ⟨r + 1, true, rfl, .inl rfl, hvq, ?_, ?_, hbel⟩
              · show wr.ownsRow _ _ _ _ (ordPass ls (ordIter ls n r) n).length _; rw [HO.out]; simp only [ordIter, HO.out, HJN.out]; exact hown
              · simp only [ordIter, HO.out, HJN.out]; exact hrow
            · refine ⟨r, false, rfl, .inr ?_, hvq, ?_, ?_, hbel⟩
              · rw [HO.out, HJN.out, h]
              · rw [HO.out, ← h]; exact hown
              · rw [HO.out, ← h]; exact hrow
          case measure =>
            rcases HG.out with ⟨rfl, h⟩ | ⟨rfl, h⟩
            · simp [lenOf, bitOf]; omega
            · subst h; simp [lenOf, bitOf]
end Go.Proofs.YtoabakgmjcnodaaDoor
