/-
  Small laws on worlds: blocks of cells; what has changed between two worlds. Nothing of the program.
-/
import Derived.WalkKit
import Derived.WalkLawsBesides
import Derived.Maps.AppendAt
import Derived.LoopTactic
namespace Go.Proofs.YtoabakgmjcnodaaDoor
open Go.RowKit

/-- w1 is w but for the blocks of M, and for new ones. -/
structure Same (M : Nat → Prop) (w w1 : World) : Prop where
  os : w1.os = w.os
  tape : w1.tape = w.tape
  output : w1.output = w.output
  size : w.heap.size ≤ w1.heap.size
  block : ∀ k, k < w.heap.size → ¬ M k → w1.heap[k]? = w.heap[k]?

theorem Same.refl (M : Nat → Prop) (w : World) : Same M w w := ⟨rfl, rfl, rfl, Nat.le_refl _, fun _ _ _ => rfl⟩
theorem Same.trans {M : Nat → Prop} {a b c : World} (h : Same M a b) (k : Same M b c) : Same M a c :=
  ⟨k.os.trans h.os, k.tape.trans h.tape, k.output.trans h.output, Nat.le_trans h.size k.size, fun j hj hM => (k.block j (Nat.lt_of_lt_of_le hj h.size) hM).trans (h.block j hj hM)⟩
theorem Same.mono {M M' : Nat → Prop} {w w1 : World} (h : Same M w w1) (hM : ∀ k, k < w.heap.size → M k → M' k) : Same M' w w1 :=
  ⟨h.os, h.tape, h.output, h.size, fun k hk hn => h.block k hk (fun m => hn (hM k hk m))⟩
theorem Same.drew {M : Nat → Prop} {a w : World} (h : Same M a w) : Same M a w.drew := ⟨h.os, h.tape, h.output, h.size, h.block⟩
theorem Same.alloc {M : Nat → Prop} {a w : World} (h : Same M a w) (o : Obj) : Same M a (w.alloc o) :=
  ⟨h.os, h.tape, h.output, Nat.le_trans h.size (by simp), fun k hk hM => (Below.heap_alloc w o k (Nat.lt_of_lt_of_le hk h.size)).trans (h.block k hk hM)⟩
theorem Same.setCell {M : Nat → Prop} {a w : World} (h : Same M a w) {p : Addr} (hp : p.block < a.heap.size → M p.block) (u : Value) : Same M a (w.setCell p u) :=
  ⟨h.os, h.tape, h.output, by simpa using h.size, fun k hk hM => (heap_setCell_other w p k u (fun e => hM (e ▸ hp (e ▸ hk)))).trans (h.block k hk hM)⟩
theorem Same.grown {M : Nat → Prop} {a w w1 : World} {row : Option Nat} (h : Same M a w) (hg : w.grownBy w1 row) (hr : ∀ k, row = some k → k < a.heap.size → M k) : Same M a w1 :=
  ⟨hg.os.trans h.os, hg.tape.trans h.tape, hg.output.trans h.output, Nat.le_trans h.size hg.size,
    fun k hk hM => (hg.block k (Nat.lt_of_lt_of_le hk h.size) (fun e => hM (hr k e.symm hk))).trans (h.block k hk hM)⟩
theorem Same.below {M : Nat → Prop} {w w1 : World} {B : Nat} (h : Same M w w1) (hB : B ≤ w.heap.size) (hM : ∀ k, M k → B ≤ k) : Below B w w1 :=
  ⟨h.os, h.tape, h.output, h.size, fun k hk => h.block k (Nat.lt_of_lt_of_le hk hB) (fun m => by have := hM k m; omega)⟩
theorem Same.ofBelow {B : Nat} {w w1 : World} (h : Below B w w1) : Same (fun k => B ≤ k) w w1 :=
  ⟨h.os, h.tape, h.output, h.size, fun k _ hn => h.block k (by omega)⟩
theorem Same.owns {M : Nat → Prop} {w w1 : World} {base : Nat} {e : TypeId} {size : Nat} {v : Value} {n : Nat} {xs : List Value} (h : Same M w w1) (ho : w.ownsRow base e size v n xs)
    (hv : ∀ k, v.ownBlock = some k → ¬ M k) : w1.ownsRow base e size v n xs := by
  refine ⟨ho.1, ?_⟩
  rcases ho.2 with hn | ⟨g, cap, cur, rfl, hb, hgg, rest⟩
  · exact .inl hn
  · refine .inr ⟨g, cap, cur, rfl, hb, ?_, rest⟩
    rw [h.block g (Array.getElem?_eq_some_iff.1 hgg).1 (hv g rfl)]
    exact hgg

theorem owns_ne {w : World} {b b1 : Nat} {e e1 : TypeId} {s s1 : Nat} {v v1 : Value} {n n1 : Nat} {xs xs1 : List Value} (h : w.ownsRow b e s v n xs) (h1 : w.ownsRow b1 e1 s1 v1 n1 xs1) (he : e ≠ e1) :
    ∀ k, v.ownBlock = some k → v1.ownBlock ≠ some k := by
  intro k hk hk1
  rcases h.2 with ⟨rfl, _⟩ | ⟨g, cap, cur, rfl, _, hg, _⟩
  · simp [Value.ownBlock] at hk
  · rcases h1.2 with ⟨rfl, _⟩ | ⟨g1, cap1, cur1, rfl, _, hg1, _⟩
    · simp [Value.ownBlock] at hk1
    · simp [Value.ownBlock] at hk hk1
      subst hk; subst hk1
      rw [hg] at hg1; injection hg1 with hg1; injection hg1 with _ hg1; exact he hg1
/-- Six cells of one block. -/
theorem six {w : World} {b : Nat} {a0 a1 a2 a3 a4 a5 : Value} {t : TypeId} (h : w.heap[b]? = some (.cells #[a0, a1, a2, a3, a4, a5] t (0, 0))) :
    w.cell? ⟨b, 0, none⟩ = some a0 ∧ w.cell? ⟨b, 1, none⟩ = some a1 ∧ w.cell? ⟨b, 2, none⟩ = some a2 ∧ w.cell? ⟨b, 3, none⟩ = some a3 ∧ w.cell? ⟨b, 4, none⟩ = some a4 ∧ w.cell? ⟨b, 5, none⟩ = some a5 ∧
    (∀ j, w.frozen? ⟨b, j, none⟩ = false) := by
  refine ⟨?_, ?_, ?_, ?_, ?_, ?_, ?_⟩
  all_goals first
    | (rw [cell_of_row w b _ _ t (0, 0) h]; rfl)
    | (intro j; simp [World.frozen?, h])
theorem three {w : World} {b : Nat} {a0 a1 a2 : Value} {t : TypeId} (h : w.heap[b]? = some (.cells #[a0, a1, a2] t (0, 0))) :
    w.cell? ⟨b, 0, none⟩ = some a0 ∧ w.cell? ⟨b, 1, none⟩ = some a1 ∧ w.cell? ⟨b, 2, none⟩ = some a2 ∧ (∀ j, w.frozen? ⟨b, j, none⟩ = false) := by
  refine ⟨?_, ?_, ?_, ?_⟩
  all_goals first
    | (rw [cell_of_row w b _ _ t (0, 0) h]; rfl)
    | (intro j; simp [World.frozen?, h])
theorem blk_set {w : World} {b j : Nat} {cs cs' : Array Value} {t : TypeId} {v : Value} (h : w.heap[b]? = some (.cells cs t (0, 0))) (e : cs.setIfInBounds j v = cs') :
    (w.setCell ⟨b, j, none⟩ v).heap[b]? = some (.cells cs' t (0, 0)) := by
  rw [heap_setCell_same w b j cs t v h, e]
theorem blk_lt {w : World} {b : Nat} {o : Obj} (h : w.heap[b]? = some o) : b < w.heap.size := (Array.getElem?_eq_some_iff.1 h).1
end Go.Proofs.YtoabakgmjcnodaaDoor
