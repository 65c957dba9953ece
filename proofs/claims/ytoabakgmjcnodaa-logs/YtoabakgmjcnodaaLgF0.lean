import Derived.Test.YtoabakgmjcnodaaLgE
namespace Go.Proofs.Ytoabakgmjcnodaa
open Go.ChangeShapes Go.WideShapes Go.ChangeAt Go.RowKit

theorem Try.infoRc : (Try.prog.info? 37).map (fun i => (i.zero, i.size, i.bytes)) = some (some (.agg #[.int .u64 0, .int .u64 0, .slice none 0 0]), 3, 40) := by kernel_rfl
theorem Ds.block {w w1 : World} {v : Value} {l : List (Nat × Nat)} (h : Ds w v l) (hb : ∀ q, v.ownBlock = some q → q < w.heap.size → w1.heap[q]? = w.heap[q]?) : Ds w1 v l := by
  obtain ⟨a, c, rfl, h1, h2, h⟩ := h
  refine ⟨a, c, rfl, h1, h2, ?_⟩
  rcases h with h | ⟨b, off, rfl, hc⟩
  · exact .inl h
  · refine .inr ⟨b, off, rfl, fun i hi => ?_⟩
    obtain ⟨c0, c1⟩ := hc i hi
    have e := hb b rfl (block_lt_of_cell c0)
    exact ⟨(World.cell?_of_block e).trans c0, (World.cell?_of_block e).trans c1⟩
theorem ds_lt {w : World} {v : Value} {l : List (Nat × Nat)} (h : Ds w v l) {q : Nat} (hq : v.ownBlock = some q) (hp : 0 < l.length) : q < w.heap.size := by
  obtain ⟨a, c, rfl, _, _, h⟩ := h
  rcases h with h | ⟨b, off, rfl, hc⟩
  · rw [h] at hp; simp at hp
  · have e : b = q := by simpa [Value.ownBlock] using hq
    rw [← e]
    exact block_lt_of_cell (hc 0 hp).1
theorem RsAt.nil (w : World) (B : Nat) : RsAt w B (.slice none 0 0) [] [] := ⟨World.ownsRow_nil _ _ _ _, fun i h => by simp at h⟩
theorem RsAt.below {w w1 : World} {B : Nat} {v : Value} {cs : List Value} {l : List Rc} (h : RsAt w B v cs l) (hb : Below w.heap.size w w1) : RsAt w1 B v cs l := by
  refine ⟨⟨h.own.1, ?_⟩, fun i hi => ?_⟩
  · rcases h.own.2 with hn | ⟨g, cap, cur, e, hB, hgg, rest⟩
    · exact .inl hn
    · exact .inr ⟨g, cap, cur, e, hB, (hb.block g (blk_lt' hgg)).trans hgg, rest⟩
  · obtain ⟨vO, h0, h1, h2, h3, h4⟩ := h.each i hi
    exact ⟨vO, h0, h1, h2, h3.below hb, fun q hq => ⟨(h4 q hq).1, (h4 q hq).2.1, Nat.lt_of_lt_of_le (h4 q hq).2.2 hb.size⟩⟩
theorem RsAt.snoc {w Wb w4 : World} {B gg cap : Nat} {v vO : Value} {cs : List Value} {l : List Rc} {r : Rc} (h : RsAt w B v cs l) (hb : Below w.heap.size w Wb) (hD : Ds w vO r.outs) (hO : ∀ q, vO.ownBlock = some q → v.ownBlock ≠ some q ∧ B ≤ q ∧ q < w.heap.size)
    (hown : w4.ownsRow B 37 3 (.slice (some ⟨gg, 0, none⟩) (l.length + 1) cap) (l.length + 1) (cs ++ [.int .u64 (r.p0 : Nat), .int .u64 (r.p1 : Nat), vO])) (hg : Wb.grownBy w4 v.ownBlock) (hat : v.ownBlock = some gg ∨ w.heap.size ≤ gg) :
    RsAt w4 B (.slice (some ⟨gg, 0, none⟩) (l.length + 1) cap) (cs ++ [.int .u64 (r.p0 : Nat), .int .u64 (r.p1 : Nat), vO]) (l ++ [r]) := by
  have hbs := hb.size
  have hgs := hg.size
  have hcl : cs.length = l.length * 3 := h.own.1
  have keep : ∀ u : Value, (∀ q, u.ownBlock = some q → v.ownBlock ≠ some q ∧ B ≤ q ∧ q < w.heap.size) → (∀ q, u.ownBlock = some q → q < w.heap.size → w4.heap[q]? = w.heap[q]?) ∧ ∀ q, u.ownBlock = some q → (Value.slice (some ⟨gg, 0, none⟩) (l.length + 1) cap).ownBlock ≠ some q ∧ B ≤ q ∧ q < w4.heap.size := by
    intro u hu
    constructor
    · intro q hq hlt
      exact (hg.block q (by omega) (fun e => (hu q hq).1 e.symm)).trans (hb.block q hlt)
    · intro q hq
      refine ⟨fun e => ?_, (hu q hq).2.1, by have := (hu q hq).2.2; omega⟩
      have e2 : q = gg := by simpa [Value.ownBlock] using e.symm
      rcases hat with h1 | h1
      · exact (hu q hq).1 (by rw [e2]; exact h1)
      · have := (hu q hq).2.2; omega
  refine ⟨by rw [List.length_append]; exact hown, fun i hi => ?_⟩
  rw [List.length_append, List.length_singleton] at hi
  by_cases e : i < l.length
  · obtain ⟨u, h0, h1, h2, h3, h4⟩ := h.each i e
    obtain ⟨k1, k2⟩ := keep u h4
    rw [List.getElem_append_left e]
    exact ⟨u, by rw [List.getElem?_append_left (by omega)]; exact h0, by rw [List.getElem?_append_left (by omega)]; exact h1, by rw [List.getElem?_append_left (by omega)]; exact h2, h3.block k1, k2⟩
  · have hil : i = l.length := by omega
    subst hil
    obtain ⟨k1, k2⟩ := keep vO hO
    rw [List.getElem_append_right (Nat.le_refl _)]
    simp only [Nat.sub_self, List.getElem_cons_zero]
    exact ⟨vO, by rw [← hcl]; simp, by rw [← hcl]; simp, by rw [← hcl]; simp, hD.block k1, k2⟩

end Go.Proofs.Ytoabakgmjcnodaa
