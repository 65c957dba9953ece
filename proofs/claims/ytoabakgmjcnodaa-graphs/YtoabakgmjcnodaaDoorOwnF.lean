import Derived.Test.YtoabakgmjcnodaaDoorOwnE
import Derived.Maps.OwnSet
namespace Go.Proofs.YtoabakgmjcnodaaDoor
open Go.ChangeShapes Go.WideShapes Go.ChangeAt Go.RowKit

theorem own_hasPool1 (nm x : ByteArray) (d : Int) (nb : Nat) (w : World) (h : w.cell? ⟨nb, 0, none⟩ = some (.string x)) :
    Calls Tryd.prog 72 #[.agg #[.string nm, .int .i64 d], .pointer (some ⟨nb, 0, none⟩)] w fun e w' => e = .returned (.bool (nm.toList == x.toList)) ∧ w' = w.alloc (.cells #[.string nm, .int .i64 d] 86) := by
  have h2 : ∀ o, (w.alloc o).cell? ⟨nb, 0, none⟩ = some (.string x) := fun o => (World.cell?_of_block (Below.heap_alloc _ _ _ (block_lt_of_cell h))).trans h
  go_enter Tryd.func72, Tryd.ntmps72
  go_wp2
  go_ret
  exact ⟨rfl, rfl⟩

/-- The pools in a row: names and depths. -/
structure PoolRow (w : World) (base : Nat) (v : Value) (ps : List (ByteArray × Nat)) (c : List Value) : Prop where
  own : w.ownsRow base 86 2 v ps.length c
  each : ∀ i (h : i < ps.length), c[i * 2]? = some (.string ps[i].1) ∧ c[i * 2 + 1]? = some (.int .i64 ps[i].2)

theorem PoolRow.cell {w : World} {base : Nat} {a : Option Addr} {q : Nat} {ps : List (ByteArray × Nat)} {c : List Value} (h : PoolRow w base (.slice a ps.length q) ps c) {i : Nat} (hi : i < ps.length) :
    ∃ g, a = some ⟨g, 0, none⟩ ∧ g < w.heap.size ∧ w.cell? ⟨g, i * 2, none⟩ = some (.string ps[i].1) ∧ w.cell? ⟨g, i * 2 + 1, none⟩ = some (.int .i64 ps[i].2) := by
  rcases h.own.2 with ⟨_, h0⟩ | ⟨g, cap, cur, e, _, hg, _⟩
  · omega
  · injection e with e1 e2 e3
    refine ⟨g, e1, blk_lt hg, ?_, ?_⟩
    · have := h.own.cells (g := g) (by rw [e1]; rfl) (i * 2) _ (h.each i hi).1
      rwa [addr_add] at this
    · have := h.own.cells (g := g) (by rw [e1]; rfl) (i * 2 + 1) _ (h.each i hi).2
      rwa [addr_add] at this

set_option maxRecDepth 10000 in
set_option maxHeartbeats 2000000 in
theorem own_IndexFunc (w : World) (base : Nat) (a : Option Addr) (q : Nat) (ps : List (ByteArray × Nat)) (c : List Value) (x : ByteArray) (nb : Nat) (hP : PoolRow w base (.slice a ps.length q) ps c) (h6 : ps.length ≤ 6) (hn : w.cell? ⟨nb, 0, none⟩ = some (.string x)) :
    Calls Tryd.prog 79 #[.slice a ps.length q, .func (Fn.func 72) #[] #[.pointer (some ⟨nb, 0, none⟩)]] w
      fun e w' => e = .returned (.int .i64 (placeI (ps.map (·.1)) x)) ∧ Below w.heap.size w w' := by
  obtain ⟨P, hPl⟩ : ∃ P, placeI (ps.map (·.1)) x = P := ⟨_, rfl⟩
  rw [hPl]
  have HP : Hid (placeI (ps.map (·.1)) x = P) := hPl
  clear hPl
  have hnl := block_lt_of_cell hn
  simp only at hnl
  go_enter Tryd.func79, Tryd.ntmps79
  go_wp2
  go_loopw [4, 5, 8] (fun _ _ i wr => ∃ k : Nat, k ≤ ps.length ∧ i = .int .i64 k ∧ notIn (ps.map (·.1)) x k ∧ Below w.heap.size w wr) (fun _ _ i _ => ps.length - (intOf i).toNat)
  case atStart => exact ⟨0, Nat.zero_le _, rfl, fun i y hi => by omega, Below.refl _ _⟩
  case round =>
    obtain ⟨k, hk, rfl, hno, hbel⟩ := hrel
    have hbs := hbel.size
    by_cases hlt : k < ps.length
    · obtain ⟨g, hg, hgl, hc0, hc1⟩ := hP.cell hlt
      subst hg
      have hc0 := (hbel.cell (p := ⟨g, k * 2, none⟩) hgl).trans hc0
      have hc1 := (hbel.cell (p := ⟨g, k * 2 + 1, none⟩) hgl).trans hc1
      have hn1 := (hbel.cell (p := ⟨nb, 0, none⟩) hnl).trans hn
      have hml : k < (ps.map (·.1)).length := by simpa using hlt
      have HM : Hid ((ps.map (·.1))[k] = ps[k].1) := by simp [Hid]
      obtain ⟨nm, hnm⟩ : ∃ nm, ps[k].1 = nm := ⟨_, rfl⟩
      obtain ⟨dp, hdp⟩ : ∃ dp : Nat, ps[k].2 = dp := ⟨_, rfl⟩
      rw [hnm] at hc0 HM
      rw [hdp] at hc1
      clear hnm hdp
      cases hbb : (nm.toList == x.toList)
      · have HB : Hid ((nm.toList == x.toList) = false) := hbb
        clear hbb
        go_wp2_with (go_at_call 72; refine (own_hasPool1 nm x _ nb _ hn1).mono ?_; rintro e w1 ⟨rfl, hw⟩; rw [HB.out]; subst hw)
        go_roundw
        case rel => exact ⟨k + 1, by omega, by go_num, notIn_succ hml hno (by rw [HM.out]; exact HB.out), hbel.alloc (by omega) _⟩
        case measure => simp [intOf]; omega
      · have HB : Hid ((nm.toList == x.toList) = true) := hbb
        clear hbb
        go_wp2_with (go_at_call 72; refine (own_hasPool1 nm x _ nb _ hn1).mono ?_; rintro e w1 ⟨rfl, hw⟩; rw [HB.out]; subst hw)
        go_ret
        exact ⟨ret_int (by rw [← HP.out, place_hit hml hno (by rw [HM.out]; exact HB.out)]), hbel.alloc (by omega) _⟩
    · go_wp2
      go_ret
      exact ⟨ret_int (by rw [← HP.out, place_miss (by rw [show (ps.map (·.1)).length = k by rw [List.length_map]; omega]; exact hno)]), hbel⟩

set_option maxRecDepth 10000 in
set_option maxHeartbeats 2000000 in
theorem own_hasPool (w : World) (rb : Nat) (vP vT vM : Value) (ps : List (ByteArray × Nat)) (c : List Value) (x : ByteArray) (hb : w.heap[rb]? = some (.cells #[vP, vT, vM] 65 (0, 0))) (hP : PoolRow w (rb + 1) vP ps c) (h6 : ps.length ≤ 6) :
    Calls Tryd.prog 56 #[.pointer (some ⟨rb, 0, none⟩), .string x] w fun e w' => e = .returned (.bool (decide (0 ≤ placeI (ps.map (·.1)) x))) ∧ Below w.heap.size w w' := by
  obtain ⟨p0, p1, p2, pf⟩ := three hb
  obtain ⟨aP, qP, hvP⟩ := owns_shape hP.own
  subst hvP
  have hrl := blk_lt hb
  have hbA := (Below.refl w.heap.size w).alloc (Nat.le_refl _) (.cells #[.string x] 9)
  have hP2 : PoolRow (w.alloc (.cells #[.string x] 9)) (rb + 1) (.slice aP ps.length qP) ps c := ⟨hP.own.alloc _, hP.each⟩
  have hIF := own_IndexFunc _ _ _ _ ps c x w.heap.size hP2 h6 (by rw [cell_of_row _ w.heap.size 0 _ 9 (0, 0) (heap_alloc_new w _)]; rfl)
  obtain ⟨pl, hpl⟩ : ∃ pl, placeI (ps.map (·.1)) x = pl := ⟨_, rfl⟩
  rw [hpl] at hIF ⊢
  have HIF : Hid (Calls Tryd.prog 79 #[.slice aP ps.length qP, .func (Fn.func 72) #[] #[.pointer (some ⟨w.heap.size, 0, none⟩)]] (w.alloc (.cells #[.string x] 9))
      fun e w' => e = .returned (.int .i64 pl) ∧ Below (w.alloc (.cells #[.string x] 9)).heap.size (w.alloc (.cells #[.string x] 9)) w') := hIF
  clear hIF hpl
  go_enter Tryd.func56, Tryd.ntmps56
  go_wp2_with (first
    | (go_at_call 79; refine HIF.out.mono ?_; rintro e w1 ⟨rfl, hb1⟩)
    | go_in)
  go_ret
  exact ⟨rfl, hbA.trans (hb1.mono (by simp))⟩
end Go.Proofs.YtoabakgmjcnodaaDoor
