import Derived.Test.YtoabakgmjcnodaaDoorOwnP
import Derived.Test.YtoabakgmjcnodaaDoorRefWeigh
namespace Go.Proofs.YtoabakgmjcnodaaDoor
open Go.ChangeShapes Go.WideShapes Go.ChangeAt Go.RowKit

theorem hand_snoc (x y : Nat) : ∀ (l : List Nat) (f : Nat → Nat), oHand x f (l ++ [y]) = upd (oHand x f l) y (max (oHand x f l y) (oHand x f l x))
  | [], f => rfl
  | z :: r, f => by simp only [List.cons_append, oHand]; exact hand_snoc x y r _
theorem hand_le {x B : Nat} : ∀ (l : List Nat) (f : Nat → Nat), (∀ y, f y ≤ B) → ∀ y, oHand x f l y ≤ B
  | [], f, h, y => h y
  | z :: r, f, h, y => by
    simp only [oHand]
    refine hand_le r _ (fun q => ?_) y
    by_cases e : q = z
    · subst e; rw [upd_same]; have := h q; have := h x; omega
    · rw [upd_other e]; exact h q
theorem orun_le {c : Nat → Nat} (hc : ∀ a, c a ≤ 9) (ls : List (List Nat)) : ∀ (o : List Nat) (y : Nat), oRun c ls o y ≤ 9 * o.length
  | [], y => by simp [oRun]
  | x :: r, y => by
    have ih := orun_le hc ls r
    show oHand x (upd (oRun c ls r) x (oRun c ls r x + c x)) (ls.getD x []) y ≤ _
    refine hand_le _ _ (fun q => ?_) y
    simp only [List.length_cons]
    by_cases e : q = x
    · subst e; rw [upd_same]; have := ih q; have := hc q; omega
    · rw [upd_other e]; have := ih q; omega

/-- What stays while the weights are filled. -/
structure WRel (w wr : World) (vP vT vW : Value) (n : Nat) (f : Nat → Nat) : Prop where
  row : wr.rowIs (w.heap.size + 1) 3 n (fun i => .int .i64 (f i))
  box : wr.heap[w.heap.size]? = some (.cells #[vP, vT, vW] 49 (0, 0))
  bel : Below w.heap.size w wr
theorem WRel.set {w wr : World} {vP vT vW : Value} {n : Nat} {f : Nat → Nat} (h : WRel w wr vP vT vW n f) (x v : Nat) : WRel w (wr.setCell ⟨w.heap.size + 1, x, none⟩ (.int .i64 v)) vP vT vW n (upd f x v) := by
  refine ⟨(h.row.set x _).congr (fun q _ => ?_), (heap_setCell_other _ _ _ _ (by simp)).trans h.box, h.bel.setCell (by simp) _⟩
  by_cases e : q = x
  · subst e; rw [if_pos rfl, upd_same]
  · rw [if_neg e, upd_other e]
theorem WRel.drew {w wr : World} {vP vT vW : Value} {n : Nat} {f : Nat → Nat} (h : WRel w wr vP vT vW n f) : WRel w wr.drew vP vT vW n f := ⟨h.row.drew, h.box, h.bel.drew⟩

set_option maxRecDepth 10000 in
set_option maxHeartbeats 4000000 in
theorem own_WeightsOf (w : World) (aP : Option Addr) (nP qP : Nat) (B : Nat) (vT : Value) (cT : List Value) (ab n : Nat) (ls : List (List Nat)) (c : Nat → Nat) (hown : w.ownsRow B 80 6 vT n cT) (hcost : ∀ i, i < n → cT[i * 6 + 3]? = some (.int .i64 (c i)))
    (hn : n ≤ 24) (hc9 : ∀ a, c a ≤ 9) (hln : ls.length = n) (hw : Wts w ab ls) (hll : ∀ l ∈ ls, l.length ≤ 4000 ∧ ∀ x ∈ l, x < ls.length) :
    Calls Tryd.prog 23 #[.agg #[.slice aP nP qP, vT, .slice (some ⟨ab, 0, none⟩) n n]] w fun e w' => e = .returned (.slice (some ⟨w.heap.size + 1, 0, none⟩) n n) ∧
      w'.rowIs (w.heap.size + 1) 3 n (fun i => .int .i64 (oRun c ls (ordIter ls n (n + 1)) i)) ∧ Below w.heap.size w w' := by
  obtain ⟨aT, qT, hvT⟩ := owns_shape hown
  subst hvT
  have hmk := run_make_row' (P := Tryd.prog) 29 3 (.int .i64 0) 8 Tryd.underlying29 Tryd.info3 rfl .i64 .i64 n (by omega) (by omega)
  have hb0 := (Below.refl w.heap.size w).alloc (Nat.le_refl _) (.cells #[.slice aP nP qP, .slice aT n qT, .slice (some ⟨ab, 0, none⟩) n n] 49)
  have hb1 := hb0.alloc (by simp) (.cells (madeCells #[Value.int .i64 0] n) 3)
  have hbx := (Below.heap_alloc _ (.cells (madeCells #[Value.int .i64 0] n) 3) _ (by simp)).trans (heap_alloc_new w (.cells #[.slice aP nP qP, .slice aT n qT, .slice (some ⟨ab, 0, none⟩) n n] 49))
  have hrow0 := World.rowIs_made (w.alloc (.cells #[.slice aP nP qP, .slice aT n qT, .slice (some ⟨ab, 0, none⟩) n n] 49)) (.int .i64 0) n 3
  have hsz : ((w.alloc (.cells #[.slice aP nP qP, .slice aT n qT, .slice (some ⟨ab, 0, none⟩) n n] 49)).alloc (.cells (madeCells #[Value.int .i64 0] n) 3)).heap.size = w.heap.size + 2 := by simp
  simp only [World.size_alloc] at hrow0
  obtain ⟨W1, hW1⟩ : ∃ W1, (w.alloc (.cells #[.slice aP nP qP, .slice aT n qT, .slice (some ⟨ab, 0, none⟩) n n] 49)).alloc (.cells (madeCells #[Value.int .i64 0] n) 3) = W1 := ⟨_, rfl⟩
  rw [hW1] at hb1 hbx hrow0 hsz
  have HW1 : Hid ((w.alloc (.cells #[.slice aP nP qP, .slice aT n qT, .slice (some ⟨ab, 0, none⟩) n n] 49)).alloc (.cells (madeCells #[Value.int .i64 0] n) 3) = W1) := hW1
  have hio := own_inOrder ab ls W1 (hw.below hb1) (by omega) hll
  rw [hln] at hio
  have holen : (ordIter ls n (n + 1)).length ≤ n := by rw [ordIter_len ls n (n + 1)]; exact cnt_le _ _
  have holt := ordIter_lt ls n (n + 1)
  obtain ⟨o, ho⟩ : ∃ o, ordIter ls n (n + 1) = o := ⟨_, rfl⟩
  rw [ho] at hio holen holt ⊢
  have HIO : Hid (Calls Tryd.prog 34 #[.slice (some ⟨ab, 0, none⟩) n n] W1 fun e w' => ∃ v, e = .returned v ∧ w'.ownsRow W1.heap.size 3 1 v o.length (o.map fun (n : Nat) => Value.int .i64 (n : Int)) ∧ Below W1.heap.size W1 w') := hio
  have HLT : Hid (∀ x ∈ o, x < n) := holt
  have HCO : Hid (∀ i, i < n → cT[i * 6 + 3]? = some (.int .i64 (c i))) := hcost
  have HC9 : Hid (∀ a, c a ≤ 9) := hc9
  have HOW : Hid (w.ownsRow B 80 6 (.slice aT n qT) n cT) := hown
  have HWT : Hid (Wts w ab ls) := hw
  have HLL : Hid (∀ l ∈ ls, l.length ≤ 4000 ∧ ∀ x ∈ l, x < ls.length) := hll
  have HLN : Hid (ls.length = n) := hln
  clear hW1 hio holt hcost hc9 hown hw hll hln ho hb0
  obtain ⟨x0, x1, x2, xf⟩ := three hbx
  go_enter Tryd.func23, Tryd.ntmps23
  go_wp2_with fail
  rw [HW1.out]
  refine HIO.out.mono ?_
  rintro e w2 ⟨v, rfl, hoo, hb2⟩
  have hb2s := hb2.size
  have hin := Ints.owned hoo
  obtain ⟨aV, cV, rfl⟩ := owns_shape hoo
  have HVB : Hid (∀ k, (Value.slice aV o.length cV).ownBlock = some k → k ≠ w.heap.size + 1) := fun k hk => by have := (hoo.lt k hk).1; omega
  have WR : WRel w w2 (.slice aP nP qP) (.slice aT n qT) (.slice (some ⟨ab, 0, none⟩) n n) n (oRun c ls (o.drop o.length)) := by
    refine ⟨?_, (hb2.block _ (by omega)).trans hbx, hb1.trans (hb2.mono hb1.size)⟩
    rw [List.drop_length]
    exact hrow0.of_block (hb2.block _ (by omega))
  clear hoo hb2 hrow0 hbx hb1 x0 x1 x2 xf
  go_wp2_with fail
  go_loopw [5, 6, 8] (fun i _ _ wr => ∃ k : Nat, k ≤ o.length ∧ i = .int .i64 ((k : Int) - 1) ∧ WRel w wr (.slice aP nP qP) (.slice aT n qT) (.slice (some ⟨ab, 0, none⟩) n n) n (oRun c ls (o.drop k)) ∧ Ints wr (.slice aV o.length cV) o)
    (fun i _ _ _ => (intOf i + 1).toNat)
  case atStart => exact ⟨o.length, Nat.le_refl _, rfl, WR, hin⟩
  case round =>
    clear WR hin
    obtain ⟨k, hk, rfl, WR, hin⟩ := hrel
    rcases k with _ | q
    · go_wp2
      go_ret
      exact ⟨rfl, WR.row, WR.bel⟩
    · have hi : ((q + 1 : Nat) : Int) - 1 = (q : Int) := by omega
      rw [hi]
      have hq : q < o.length := by omega
      obtain ⟨bo, oo, hao, hco⟩ := ints_at hin hq
      have hfl : ∀ y, oRun c ls (o.drop (q + 1)) y ≤ 216 := fun y => by
        have h1 := orun_le HC9.out ls (o.drop (q + 1)) y
        have h2 : (o.drop (q + 1)).length ≤ o.length := by rw [List.length_drop]; omega
        omega
      have hdr : o.drop q = o[q] :: o.drop (q + 1) := List.drop_eq_getElem_cons hq
      have hxn := HLT.out _ (List.getElem_mem hq)
      obtain ⟨x, hx⟩ : ∃ x, o[q] = x := ⟨_, rfl⟩
      rw [hx] at hco hdr hxn
      obtain ⟨f, hf⟩ : ∃ f, oRun c ls (o.drop (q + 1)) = f := ⟨_, rfl⟩
      have HNX : Hid (oRun c ls (o.drop q) = oHand x (upd f x (f x + c x)) (ls.getD x [])) := by rw [hdr, ← hf]; rfl
      rw [hf] at WR hfl
      have HFL : Hid (∀ y, f y ≤ 216) := hfl
      have hfx := hfl x
      have hcx := HC9.out x
      clear hx hf hdr hfl
      subst hao
      obtain ⟨gT, hgT, hct⟩ : ∃ gT, aT = some ⟨gT, 0, none⟩ ∧ w.cell? ⟨gT, x * 6 + 3, none⟩ = some (.int .i64 (c x)) := by
        rcases HOW.out.2 with ⟨e, h0⟩ | ⟨g, cap, cur, e, _⟩
        · omega
        · injection e with e1 e2 e3
          refine ⟨g, e1, ?_⟩
          have := HOW.out.cells (g := g) (by rw [e1]; rfl) (x * 6 + 3) _ (HCO.out x hxn)
          rwa [addr_add] at this
      subst hgT
      have hct2 := (WR.bel.cell (p := ⟨gT, x * 6 + 3, none⟩) (block_lt_of_cell hct)).trans hct
      have crx := WR.row.cell hxn
      have frx := WR.row.frozen x
      obtain ⟨b0, b1, b2, bf⟩ := three WR.box
      have hxl : x < ls.length := by rw [HLN.out]; exact hxn
      obtain ⟨vx, hcx2, hix⟩ := HWT.out x hxl
      have hlx := HLL.out _ (List.getElem_mem hxl)
      have HLX : Hid (ls.getD x [] = ls[x]) := by simp [Hid, hxl]
      obtain ⟨lx, hlx0⟩ : ∃ lx, ls[x] = lx := ⟨_, rfl⟩
      rw [hlx0] at hix hlx HLX
      rw [HLN.out] at hlx
      clear hlx0 hct hxl
      obtain ⟨ax, qx, rfl, _, _⟩ := id hix
      have hlx1 := hlx.1
      have HLY : Hid (∀ y ∈ lx, y < n) := hlx.2
      have HIX : Hid (Ints w (.slice ax lx.length qx) lx) := hix
      have HCX : Hid (w.cell? ⟨ab, x, none⟩ = some (.slice ax lx.length qx)) := hcx2
      clear hlx hix hcx2
      go_wp2_with fail
      go_region
      all_goals
        have WR2 : WRel w (wr.setCell ⟨w.heap.size + 1, x, none⟩ (.int .i64 ((f x : Int) + c x))).drew (.slice aP nP qP) (.slice (some ⟨gT, 0, none⟩) n qT) (.slice (some ⟨ab, 0, none⟩) n n) n (upd f x (f x + c x)) := by
          have h := (WR.set x (f x + c x)).drew
          rw [Int.natCast_add] at h
          exact h
        have hin2 : Ints (wr.setCell ⟨w.heap.size + 1, x, none⟩ (.int .i64 ((f x : Int) + c x))).drew (.slice (some ⟨bo, oo, none⟩) o.length cV) o := hin.same (same_one wr (w.heap.size + 1) x _).drew (fun k hk e => HVB.out k hk e)
        generalize (wr.setCell ⟨w.heap.size + 1, x, none⟩ (.int .i64 ((f x : Int) + c x))).drew = W2 at *
        clear b0 b1 b2 bf crx frx hct2 hco WR hin
        have HFB : Hid (∀ l y, oHand x (upd f x (f x + c x)) l y ≤ 225) := fun l y => by
          refine hand_le l _ (fun q => ?_) y
          by_cases e : q = x
          · subst e; rw [upd_same]; omega
          · rw [upd_other e]; have := HFL.out q; omega
        obtain ⟨F, hF⟩ : ∃ F, upd f x (f x + c x) = F := ⟨_, rfl⟩
        rw [hF] at WR2 HNX HFB
        clear hF
        obtain ⟨b0, b1, b2, bf⟩ := three WR2.box
        have hcx2 := (WR2.bel.cell (p := ⟨ab, x, none⟩) (block_lt_of_cell HCX.out)).trans HCX.out
        go_wp2
        go_loopw [8, 45] (fun _ i wm => ∃ m : Nat, m ≤ lx.length ∧ i = .int .i64 m ∧ WRel w wm (.slice aP nP qP) (.slice (some ⟨gT, 0, none⟩) n qT) (.slice (some ⟨ab, 0, none⟩) n n) n (oHand x F (lx.take m)) ∧ Ints wm (.slice (some ⟨bo, oo, none⟩) o.length cV) o)
          (fun _ i _ => lx.length - (intOf i).toNat)
        case atStart => exact ⟨0, Nat.zero_le _, rfl, WR2, hin2⟩
        case round =>
          clear WR2 hin2 b0 b1 b2 bf hcx2
          obtain ⟨m, hm, rfl, WR, hin⟩ := hrel
          by_cases hlm : m < lx.length
          · obtain ⟨by0, oy0, hay, hcy⟩ := ints_at (HIX.out.below WR.bel) hlm
            subst hay
            have hyn := HLY.out _ (List.getElem_mem hlm)
            have HSN : Hid (oHand x F (lx.take (m + 1)) = upd (oHand x F (lx.take m)) lx[m] (max (oHand x F (lx.take m) lx[m]) (oHand x F (lx.take m) x))) := by
              rw [List.take_succ_eq_append_getElem hlm, hand_snoc]; exact rfl
            obtain ⟨y, hy⟩ : ∃ y, lx[m] = y := ⟨_, rfl⟩
            rw [hy] at hcy hyn HSN
            clear hy
            have hb1 := HFB.out (lx.take m) y
            have hb2 := HFB.out (lx.take m) x
            obtain ⟨G, hG⟩ : ∃ G, oHand x F (lx.take m) = G := ⟨_, rfl⟩
            rw [hG] at WR HSN hb1 hb2
            clear hG
            have crx := WR.row.cell hxn
            have cry := WR.row.cell hyn
            have fry := WR.row.frozen y
            go_wp2_with fail
            go_region
            all_goals
              have WR3 : WRel w (wr.setCell ⟨w.heap.size + 1, y, none⟩ (.int .i64 (max (G y : Int) (G x)))).drew (.slice aP nP qP) (.slice (some ⟨gT, 0, none⟩) n qT) (.slice (some ⟨ab, 0, none⟩) n n) n (upd G y (max (G y) (G x))) := by
                have h := (WR.set y (max (G y) (G x))).drew
                have e : ((max (G y) (G x) : Nat) : Int) = max (G y : Int) (G x) := by omega
                rw [e] at h
                exact h
              have hin3 : Ints (wr.setCell ⟨w.heap.size + 1, y, none⟩ (.int .i64 (max (G y : Int) (G x)))).drew (.slice (some ⟨bo, oo, none⟩) o.length cV) o := hin.same (same_one wr (w.heap.size + 1) y _).drew (fun k hk e => HVB.out k hk e)
              go_wp2
              go_roundw
              case rel => exact ⟨m + 1, by omega, by go_num, by rw [HSN.out]; exact WR3, hin3⟩
              case measure => simp [intOf]; omega
          · have HE : Hid (lx.take m = lx) := List.take_of_length_le (by omega)
            go_wp2
            go_roundw
            case rel =>
              refine ⟨q, by omega, by go_num, ?_, hin⟩
              rw [HNX.out, HLX.out]
              rw [HE.out] at WR
              exact WR
            case measure => simp [intOf]
end Go.Proofs.YtoabakgmjcnodaaDoor
