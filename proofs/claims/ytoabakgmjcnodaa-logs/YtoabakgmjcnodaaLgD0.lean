import Derived.Test.YtoabakgmjcnodaaLgC
import Derived.Deep.AppendLies
import Derived.Deep.RegionLaw
namespace Go.Proofs.Ytoabakgmjcnodaa
open Go.ChangeShapes Go.WideShapes Go.ChangeAt Go.RowKit

theorem Try.infoDg : (Try.prog.info? 24).map (fun i => (i.zero, i.size, i.bytes)) = some (some (.agg #[.int .u64 0, .int .u64 0]), 2, 16) := by kernel_rfl
/-- What record leaves. -/
def RecPost (w w1 : World) (e : Ending) (o : Option (Rc × Nat)) : Prop := match o with
  | none => e = .returned (.tuple #[.agg #[.int .u64 0, .int .u64 0, .slice none 0 0], .int .i64 0]) ∧ Below w.heap.size w w1
  | some (r, n) => ∃ vO, e = .returned (.tuple #[.agg #[.int .u64 (r.p0 : Nat), .int .u64 (r.p1 : Nat), vO], .int .i64 (n : Nat)]) ∧ Ds w1 vO r.outs ∧ (∀ q, vO.ownBlock = some q → w.heap.size ≤ q) ∧ Below w.heap.size w w1

theorem three' {w : World} {b : Nat} {a0 a1 a2 : Value} {t : TypeId} (h : w.heap[b]? = some (.cells #[a0, a1, a2] t (0, 0))) :
    w.cell? ⟨b, 0, none⟩ = some a0 ∧ w.cell? ⟨b, 1, none⟩ = some a1 ∧ w.cell? ⟨b, 2, none⟩ = some a2 ∧ (∀ j, w.frozen? ⟨b, j, none⟩ = false) := by
  refine ⟨?_, ?_, ?_, ?_⟩
  all_goals first
    | (rw [cell_of_row w b _ _ t (0, 0) h]; rfl)
    | (intro j; simp [World.frozen?, h])
theorem owns_shape' {w : World} {base : Nat} {e : TypeId} {size : Nat} {v : Value} {n : Nat} {xs : List Value} (h : w.ownsRow base e size v n xs) : ∃ a c, v = .slice a n c := by
  rcases h.2 with ⟨e, h0⟩ | ⟨g, cap, cur, e, _⟩
  · rw [h0]; exact ⟨_, _, e⟩
  · exact ⟨_, _, e⟩
def flatD (l : List (Nat × Nat)) : List Value := l.flatMap fun d => [.int .u64 (d.1 : Nat), .int .u64 (d.2 : Nat)]
/-- Where the loop of record stands. -/
structure RRel (w wr : World) (p0 p1 : Nat) (vO : Value) (ds : List (Nat × Nat)) : Prop where
  res : wr.heap[w.heap.size]? = some (.cells #[.int .u64 0, .int .u64 0, .slice none 0 0] 37 (0, 0))
  blk : wr.heap[w.heap.size + 1]? = some (.cells #[.int .u64 (p0 : Nat), .int .u64 (p1 : Nat), vO] 37 (0, 0))
  own : wr.ownsRow (w.heap.size + 2) 24 2 vO ds.length (flatD ds)
  bel : Below w.heap.size w wr
theorem rrel_zero (w : World) (p0 p1 : Nat) : RRel w ((w.alloc (.cells #[.int .u64 0, .int .u64 0, .slice none 0 0] 37)).alloc (.cells #[.int .u64 (p0 : Nat), .int .u64 (p1 : Nat), .slice none 0 0] 37)) p0 p1 (.slice none 0 0) [] := by
  refine ⟨(Below.heap_alloc _ _ _ (by simp)).trans (heap_alloc_new w _), ?_, World.ownsRow_nil _ _ _ _, ((Below.refl w.heap.size w).alloc (Nat.le_refl _) _).alloc (by simp) _⟩
  have h := heap_alloc_new (w.alloc (.cells #[.int .u64 0, .int .u64 0, .slice none 0 0] 37)) (.cells #[.int .u64 (p0 : Nat), .int .u64 (p1 : Nat), .slice none 0 0] 37)
  simpa using h
theorem alloc2_new (w : World) (o1 o2 : Obj) : ((w.alloc o1).alloc o2).heap[w.heap.size + 1]? = some o2 := by
  have h := heap_alloc_new (w.alloc o1) o2
  simpa using h
theorem flatD_snoc (l : List (Nat × Nat)) (d : Nat × Nat) : flatD (l ++ [d]) = flatD l ++ [.int .u64 (d.1 : Nat), .int .u64 (d.2 : Nat)] := by simp [flatD]
theorem flatD_at {l : List (Nat × Nat)} {k : Nat} (h : k < l.length) : (flatD l)[k * 2]? = some (.int .u64 (l[k].1 : Nat)) ∧ (flatD l)[k * 2 + 1]? = some (.int .u64 (l[k].2 : Nat)) := by
  induction l generalizing k with
  | nil => simp at h
  | cons d l ih =>
    have e : flatD (d :: l) = .int .u64 (d.1 : Nat) :: .int .u64 (d.2 : Nat) :: flatD l := by simp [flatD]
    rw [e]
    cases k with
    | zero => simp
    | succ k =>
      have := ih (k := k) (by simpa using h)
      rw [show (k + 1) * 2 = k * 2 + 2 by omega]
      simpa using this
theorem ds_owned {w : World} {base : Nat} {v : Value} {l : List (Nat × Nat)} (h : w.ownsRow base 24 2 v l.length (flatD l)) (hU : ∀ d ∈ l, U64 d.1 ∧ U64 d.2) : Ds w v l := by
  rcases id h.2 with ⟨rfl, h0⟩ | ⟨g, cap, cur, e, hB, hg, hle, _⟩
  · have : l = [] := by simpa using h0
    subst this; exact ⟨_, _, rfl, Nat.le_refl _, hU, .inl rfl⟩
  · refine ⟨_, _, e, hle, hU, .inr ⟨g, 0, rfl, fun i hi => ?_⟩⟩
    obtain ⟨f0, f1⟩ := flatD_at hi
    have a0 := h.cells (g := g) (by rw [e]; rfl) _ _ f0
    have a1 := h.cells (g := g) (by rw [e]; rfl) _ _ f1
    have ea : ∀ j, (⟨g, 0, none⟩ : Addr).add j = ⟨g, 0 + j, none⟩ := fun j => by unfold Addr.add; split <;> simp_all
    rw [ea] at a0 a1
    exact ⟨a0, a1⟩
theorem rrel_next {w wr w4 : World} {p0 p1 m gg cap x0 x1 : Nat} {vO : Value} {outs : List (Nat × Nat)} {o1 o2 : Obj} (HR : RRel w wr p0 p1 vO (outs.take m)) (hlen : (outs.take m).length = m) (hA : outs[m]? = some (x0, x1))
    (hown : w4.ownsRow (w.heap.size + 2) 24 2 (.slice (some ⟨gg, 0, none⟩) (m + 1) cap) (m + 1) (flatD (outs.take m) ++ [.int .u64 (x0 : Nat), .int .u64 (x1 : Nat)])) (hg : ((wr.alloc o1).alloc o2).grownBy w4 vO.ownBlock) :
    RRel w (w4.setCell ⟨w.heap.size + 1, 2, none⟩ (.slice (some ⟨gg, 0, none⟩) (m + 1) cap)) p0 p1 (.slice (some ⟨gg, 0, none⟩) (m + 1) cap) (outs.take (m + 1)) := by
  have hsz := HR.bel.size
  have hbl := blk_lt' HR.blk
  have hlow : ∀ q, vO.ownBlock = some q → w.heap.size + 2 ≤ q := fun q hq => (HR.own.lt q hq).1
  have hb : ∀ k, k < wr.heap.size → k < w.heap.size + 2 → w4.heap[k]? = wr.heap[k]? := fun k hk h2 =>
    (hg.block k (by simp; omega) (fun e => by have := hlow k e.symm; omega)).trans ((Below.heap_alloc _ _ _ (by simp; omega)).trans (Below.heap_alloc _ _ _ hk))
  obtain ⟨hm, he⟩ := List.getElem?_eq_some_iff.1 hA
  have ht : outs.take (m + 1) = outs.take m ++ [(x0, x1)] := by rw [List.take_succ_eq_append_getElem hm, he]
  refine ⟨?_, ?_, ?_, ?_⟩
  · exact (heap_setCell_other _ _ _ _ (by simp)).trans ((hb _ (by omega) (by omega)).trans HR.res)
  · have h1 := (hb _ hbl (by omega)).trans HR.blk
    rw [heap_setCell_same w4 (w.heap.size + 1) 2 _ 37 _ h1]
    rfl
  · rw [ht, flatD_snoc, List.length_append, hlen]
    exact ownsRow_setCell_below hown (by simp) _
  · refine ((HR.bel.alloc hsz _).alloc (by simp; omega) _).grown hg (by simp; omega) (fun j hj => by have := hlow j hj; omega) |>.setCell (by simp) _
theorem str_slice (s : ByteArray) (i j : Nat) (hij : i ≤ j) (hj : j ≤ s.size) (_hs : s.size ≤ 140737488351232) (w : World) : Sem.run Try.prog (Instr.slice 9 (.string s) (some (.int .i64 (i : Int))) (some (.int .i64 (j : Int))) none) w = .ok (.string (s.extract i j)) w := by
  have h1 : (i : Int) ≤ (j : Int) := by omega
  have h2 : (j : Int) ≤ (s.size : Int) := by omega
  go_simp
theorem ds_set {w : World} {v : Value} {l : List (Nat × Nat)} {b : Nat} (h : Ds w v l) (hv : ∀ q, v.ownBlock = some q → q ≠ b) (x y z : Value) : Ds (((w.setCell ⟨b, 0, none⟩ x).setCell ⟨b, 1, none⟩ y).setCell ⟨b, 2, none⟩ z) v l := by
  obtain ⟨a, c, rfl, h1, h2, h⟩ := h
  refine ⟨a, c, rfl, h1, h2, ?_⟩
  rcases h with h | ⟨b1, off, rfl, hc⟩
  · exact .inl h
  · refine .inr ⟨b1, off, rfl, fun i hi => ?_⟩
    obtain ⟨c0, c1⟩ := hc i hi
    have hb1 : b1 ≠ b := hv b1 rfl
    have e : (((w.setCell ⟨b, 0, none⟩ x).setCell ⟨b, 1, none⟩ y).setCell ⟨b, 2, none⟩ z).heap[b1]? = w.heap[b1]? :=
      (heap_setCell_other _ _ _ _ (fun e => hb1 e)).trans ((heap_setCell_other _ _ _ _ (fun e => hb1 e)).trans (heap_setCell_other _ _ _ _ (fun e => hb1 e)))
    exact ⟨(World.cell?_of_block e).trans c0, (World.cell?_of_block e).trans c1⟩
theorem below_three' {B : Nat} {w w1 : World} (h : Below B w w1) (hB : B = w.heap.size) (a b c : Value) :
    Below B w (((w1.setCell ⟨w.heap.size, 0, none⟩ a).setCell ⟨w.heap.size, 1, none⟩ b).setCell ⟨w.heap.size, 2, none⟩ c) :=
  ((h.setCell (by show B ≤ w.heap.size; omega) _).setCell (by show B ≤ w.heap.size; omega) _).setCell (by show B ≤ w.heap.size; omega) _

end Go.Proofs.Ytoabakgmjcnodaa
