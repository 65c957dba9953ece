import Derived.Test.YtoabakgmjcnodaaLgF0
namespace Go.Proofs.Ytoabakgmjcnodaa
open Go.ChangeShapes Go.WideShapes Go.ChangeAt Go.RowKit

/-- A list of records as it lies in memory. -/
def Rs (w : World) (v : Value) (l : List Rc) : Prop :=
  ∃ a c, v = .slice a l.length c ∧ l.length ≤ c ∧ (l = [] ∨ ∃ b off, a = some ⟨b, off, none⟩ ∧ ∀ i (h : i < l.length), w.cell? ⟨b, off + i * 3, none⟩ = some (.int .u64 (l[i].p0 : Nat)) ∧ w.cell? ⟨b, off + i * 3 + 1, none⟩ = some (.int .u64 (l[i].p1 : Nat)) ∧
    ∃ vO, w.cell? ⟨b, off + i * 3 + 2, none⟩ = some vO ∧ Ds w vO l[i].outs)
theorem RsAt.rs {w : World} {B : Nat} {v : Value} {cs : List Value} {l : List Rc} (h : RsAt w B v cs l) : Rs w v l := by
  rcases id h.own.2 with ⟨rfl, h0⟩ | ⟨g, cap, cur, e, hB, hg, hle, _⟩
  · have : l = [] := by simpa using h0
    subst this; exact ⟨_, _, rfl, Nat.le_refl _, .inl rfl⟩
  · refine ⟨_, _, e, hle, .inr ⟨g, 0, rfl, fun i hi => ?_⟩⟩
    obtain ⟨vO, h0, h1, h2, h3, _⟩ := h.each i hi
    have ea : ∀ j, (⟨g, 0, none⟩ : Addr).add j = ⟨g, j, none⟩ := fun j => by unfold Addr.add; split <;> simp_all
    have a0 := h.own.cells (g := g) (by rw [e]; rfl) _ _ h0
    have a1 := h.own.cells (g := g) (by rw [e]; rfl) _ _ h1
    have a2 := h.own.cells (g := g) (by rw [e]; rfl) _ _ h2
    rw [ea] at a0 a1 a2
    rw [Nat.zero_add]
    exact ⟨a0, a1, vO, a2, h3⟩
theorem Rs.below {w w1 : World} {v : Value} {l : List Rc} (h : Rs w v l) (hb : Below w.heap.size w w1) : Rs w1 v l := by
  obtain ⟨a, c, rfl, h1, h⟩ := h
  refine ⟨a, c, rfl, h1, ?_⟩
  rcases h with h | ⟨b, off, rfl, hc⟩
  · exact .inl h
  · refine .inr ⟨b, off, rfl, fun i hi => ?_⟩
    obtain ⟨c0, c1, vO, c2, hd⟩ := hc i hi
    have e := hb.block b (block_lt_of_cell c0)
    exact ⟨(World.cell?_of_block e).trans c0, (World.cell?_of_block e).trans c1, vO, (World.cell?_of_block e).trans c2, hd.below hb⟩
theorem rs_at {w : World} {a : Option Addr} {n c : Nat} {l : List Rc} (h : Rs w (.slice a n c) l) {i : Nat} (hi : i < l.length) :
    ∃ b off aO cO, a = some ⟨b, off, none⟩ ∧ w.cell? ⟨b, off + i * 3, none⟩ = some (.int .u64 (l[i].p0 : Nat)) ∧ w.cell? ⟨b, off + i * 3 + 1, none⟩ = some (.int .u64 (l[i].p1 : Nat)) ∧ w.cell? ⟨b, off + i * 3 + 2, none⟩ = some (.slice aO l[i].outs.length cO) ∧ Ds w (.slice aO l[i].outs.length cO) l[i].outs := by
  obtain ⟨a1, c1, e, _, h⟩ := h
  injection e with e1 e2 e3
  subst e1
  rcases h with h | ⟨b, off, h1, hc⟩
  · rw [h] at hi; simp at hi
  · obtain ⟨x0, x1, vO, x2, hd⟩ := hc i hi
    obtain ⟨aO, cO, rfl, _, _⟩ := id hd
    exact ⟨b, off, aO, cO, h1, x0, x1, x2, hd⟩

set_option maxRecDepth 10000 in
set_option maxHeartbeats 2000000 in
/-- Two lists of records that are the same. -/
theorem law_sameRecords (v v1 : Value) (l : List Rc) (w : World) (hv : Rs w v l) (hv1 : Rs w v1 l) (hn : l.length ≤ 140737488351232) (h2 : ∀ r ∈ l, r.outs.length ≤ 255) :
    Calls Try.prog 13 #[v, v1] w fun e w' => e = .returned (.bool true) ∧ Below w.heap.size w w' := by
  obtain ⟨a, c, rfl, -, -⟩ := id hv
  obtain ⟨a1, c1, rfl, -, -⟩ := id hv1
  have hll : ((l.length : Int) != l.length) = false := by simp
  go_enter Try.func13, Try.ntmps13
  go_wp2
  go_loopw [5, 6] (fun i _ wr => ∃ k : Nat, k ≤ l.length ∧ i = .int .i64 k ∧ Below w.heap.size w wr) (fun i _ _ => l.length - (intOf i).toNat)
  case atStart => exact ⟨0, Nat.zero_le _, rfl, Below.refl _ _⟩
  case round =>
    obtain ⟨k, hk, rfl, hbel⟩ := hrel
    by_cases hlt : k < l.length
    · obtain ⟨b, off, aO, cO, hx, x0, x1, x2, hd⟩ := rs_at (hv.below hbel) hlt
      obtain ⟨b1, off1, aO1, cO1, hx1, y0, y1, y2, hd1⟩ := rs_at (hv1.below hbel) hlt
      subst hx hx1
      have h255 := h2 _ (List.getElem_mem hlt)
      have HV : Hid (Rs w (.slice (some ⟨b, off, none⟩) l.length c) l ∧ Rs w (.slice (some ⟨b1, off1, none⟩) l.length c1) l) := ⟨hv, hv1⟩
      clear hv hv1
      generalize l[k] = r at *
      obtain ⟨p0, p1, outs⟩ := r
      simp only at x0 x1 x2 y0 y1 y2 hd hd1 h255
      have hoo : ((outs.length : Int) != outs.length) = false := by simp
      have hp0 : ((p0 : Int) == p0) = true := by simp
      have hp1 : ((p1 : Int) == p1) = true := by simp
      have he := run_eq_dig
      have hg := guard24
      go_wp2_with fail
      go_quiet (fail)
      go_wp2_with fail
      obtain ⟨W, hW⟩ : ∃ W, wr.drewN nq = W := ⟨_, rfl⟩
      have hwW : Below wr.heap.size wr W := by rw [← hW]; exact ⟨rfl, rfl, rfl, Nat.le_refl _, fun _ _ => rfl⟩
      rw [hW]
      clear hW
      go_loopw [6] (fun q wm => ∃ m : Nat, m ≤ outs.length ∧ q = .int .i64 m ∧ Below wr.heap.size wr wm) (fun q _ => outs.length - (intOf q).toNat)
      case atStart => exact ⟨0, Nat.zero_le _, rfl, hwW⟩
      case round =>
        clear hwW
        obtain ⟨m, hm, rfl, hbm⟩ := hrel
        have q2 := (hbm.cell (p := ⟨b, off + k * 3 + 2, none⟩) (block_lt_of_cell x2)).trans x2
        have r2 := (hbm.cell (p := ⟨b1, off1 + k * 3 + 2, none⟩) (block_lt_of_cell y2)).trans y2
        by_cases hml : m < outs.length
        · obtain ⟨bo, fo, hao, s0, s1⟩ := ds_at (hd.below hbm) hml
          obtain ⟨bo1, fo1, hao1, t0, t1⟩ := ds_at (hd1.below hbm) hml
          subst hao hao1
          generalize outs[m] = d at *
          obtain ⟨d0, d1⟩ := d
          simp only at s0 s1 t0 t1
          have hd0 : ((d0 : Int) == d0) = true := by simp
          have hd1' : ((d1 : Int) == d1) = true := by simp
          go_wp2_with fail
          go_quiet (fail)
          go_wp2
          go_roundw
          case rel => exact ⟨m + 1, by omega, by go_num, ⟨hbm.os, hbm.tape, hbm.output, hbm.size, hbm.block⟩⟩
          case measure => simp [intOf]; omega
        · go_wp2
          go_roundw
          case rel => exact ⟨k + 1, by omega, by go_num, hbel.trans (hbm.mono hbel.size)⟩
          case measure => simp [intOf]; omega
    · go_wp2
      go_ret
      exact ⟨ret_bool' rfl, hbel⟩
end Go.Proofs.Ytoabakgmjcnodaa
