import Derived.Test.YtoabakgmjcnodaaLkI
import Derived.Test.YtoabakgmjcnodaaLgG
namespace Go.Proofs.Ytoabakgmjcnodaa
open Go.ChangeShapes Go.WideShapes Go.ChangeAt Go.RowKit Go.Sort Go.Maps

theorem run_makeMap_hint (n : Int) (w : World) : (Instr.makeMap 42 (some (.int .i64 n))).run Try.prog w = .ok (.map (some w.heap.size)) (w.alloc (.map #[] 0)) := by
  simp [Instr.makeMap, run_underlying Try.underlying42, asInt, newObj, go_sem]
  rfl
theorem ds_kept {w w1 : World} {B : Nat} (hb : Below B w w1) {v : Value} {o : List (Nat × Nat)} (h : Ds w v o) (hlt : ∀ q, v.ownBlock = some q → q < B) : Ds w1 v o := by
  obtain ⟨a, c, rfl, h1, h2, h⟩ := h
  refine ⟨a, c, rfl, h1, h2, ?_⟩
  rcases h with h | ⟨b, off, rfl, hc⟩
  · exact .inl h
  · refine .inr ⟨b, off, rfl, fun i hi => ?_⟩
    obtain ⟨c0, c1⟩ := hc i hi
    have e := hb.block b (hlt b rfl)
    exact ⟨(World.cell?_of_block e).trans c0, (World.cell?_of_block e).trans c1⟩
set_option maxRecDepth 10000 in
set_option maxHeartbeats 2000000 in
theorem own_Latest (v : Value) (l : List Rc) (w : World) (hv : Rs w v l) (hn : l.length ≤ 3703618114507) (hU : ∀ r ∈ l, U64 r.p0 ∧ U64 r.p1) :
    Calls Try.prog 19 #[v] w fun e w' => ∃ es, e = .returned (.map (some w.heap.size)) ∧ w'.ownsMap Try.prog 24 heldR w.heap.size l.length (mapD es) ∧ Els w es l ∧ Below w.heap.size w w' := by
  obtain ⟨a, c, rfl, -, -⟩ := id hv
  have hmm := run_makeMap_hint
  have HV : Hid (Rs w (.slice a l.length c) l) := hv
  clear hv
  go_enter Try.func19, Try.ntmps19
  go_wp2_with fail
  go_loopw [5, 11] (fun _ i wr => ∃ (k : Nat) (es : List ((Nat × Nat) × Value)), k ≤ l.length ∧ i = .int .i64 k ∧ wr.ownsMap Try.prog 24 heldR w.heap.size k (mapD es) ∧ Els w es (l.take k) ∧ Below w.heap.size w wr) (fun _ i _ => l.length - (intOf i).toNat)
  case atStart => exact ⟨0, [], Nat.zero_le _, rfl, World.ownsMap_made _ _ _ _, ⟨by simp, fun i h => by simp at h⟩, (Below.refl _ _).alloc (Nat.le_refl _) _⟩
  case round =>
    obtain ⟨k, es, hk, rfl, hown, hes, hb⟩ := hrel
    have hbs := hb.size
    by_cases hlt : k < l.length
    · obtain ⟨b, off, aO, cO, hx, x0, x1, x2, hd⟩ := rs_at HV.out hlt
      subst hx
      have y0 := (hb.cell (p := ⟨b, off + k * 3, none⟩) (block_lt_of_cell x0)).trans x0
      have y1 := (hb.cell (p := ⟨b, off + k * 3 + 1, none⟩) (block_lt_of_cell x1)).trans x1
      have y2 := (hb.cell (p := ⟨b, off + k * 3 + 2, none⟩) (block_lt_of_cell x2)).trans x2
      obtain ⟨u0, u1⟩ := hU _ (List.getElem_mem hlt)
      have HNE : Hid (Els w (es ++ [(prt l[k], .agg #[.int .u64 (l[k].p0 : Nat), .int .u64 (l[k].p1 : Nat), .slice aO l[k].outs.length cO])]) (l.take (k + 1))) := by
        rw [Hid, List.take_succ_eq_append_getElem hlt]
        exact hes.snoc hd (fun _ _ h => h)
      have hkey := keyD (d := prt l[k]) u0 u1
      unfold prt at hkey HNE
      generalize l[k] = r at *
      obtain ⟨p0, p1, outs⟩ := r
      simp only at x0 x1 x2 y0 y1 y2 hd u0 u1 HNE hkey
      have HKY : Hid (keyOf Try.prog 24 (.agg #[.int .u64 (p0 : Nat), .int .u64 (p1 : Nat)]) = some (klit (p0, p1))) := hkey
      have HOW : Hid (wr.ownsMap Try.prog 24 heldR w.heap.size k (mapD es)) := hown
      clear hkey hown hes
      go_wp2_with (first | (at_mapUpdate; refine wpList_mapUpdate_own _ rfl _ _ _ 42 rfl 24 37 lawD Try.underlying42 heldR w.heap.size k _ rfl (HOW.out.alloc _) (by unfold maxLen; omega) _ _ _ rfl rfl HKY.out _ [] rfl ?_) | go_in)
      intro w1 hown1 hgrow1
      have HB1 : Hid (Below w.heap.size w w1) := (hb.alloc hbs _).grown hgrow1 (by simp; omega) (fun j hj => by cases hj; exact Nat.le_refl _)
      have HO1 : Hid (w1.ownsMap Try.prog 24 heldR w.heap.size (k + 1) (mapD (es ++ [((p0, p1), .agg #[.int .u64 (p0 : Nat), .int .u64 (p1 : Nat), .slice aO outs.length cO])]))) := by
        rw [Hid, mapD_snoc]; exact hown1
      clear hown1 hgrow1
      go_wp2
      go_roundw
      case rel => exact ⟨k + 1, _, by omega, by go_num, HO1.out, HNE.out, HB1.out⟩
      case measure => simp [intOf]; omega
    · have HK : Hid (k = l.length) := by rw [Hid]; omega
      have HX : Hid (wr.ownsMap Try.prog 24 heldR w.heap.size l.length (mapD es) ∧ Els w es l) := by
        refine ⟨by rw [← HK.out]; exact hown, ?_⟩
        have h := hes
        rw [List.take_of_length_le (by have := HK.out; omega)] at h
        exact h
      clear hown hes
      go_wp2
      go_ret
      exact ⟨es, rfl, HX.out.1, HX.out.2, hb⟩
end Go.Proofs.Ytoabakgmjcnodaa
