import Derived.Test.YtoabakgmjcnodaaLgA
import Derived.Deep.RegionWith
import Derived.Deep.DeepCutAuto
namespace Go.Proofs.Ytoabakgmjcnodaa
open Go.ChangeShapes Go.WideShapes Go.ChangeAt Go.RowKit

/-- A record. -/
structure Rc where
  p0 : Nat
  p1 : Nat
  outs : List (Nat × Nat)
def outsL (l : List (Nat × Nat)) : List UInt8 := l.flatMap fun d => wideL d.1 8 ++ wideL d.2 8
def bodyL (r : Rc) : List UInt8 := [82] ++ wideL r.outs.length 1 ++ wideL r.p0 8 ++ wideL r.p1 8 ++ outsL r.outs
/-- A record as it stands in a log. -/
def toldL (r : Rc) : List UInt8 := bodyL r ++ wideL ((dig (bodyL r)).1 / 4294967296).toNat 4
def U64 (n : Nat) : Prop := n < 18446744073709551616
/-- A list of digests as it lies in memory. -/
def Ds (w : World) (v : Value) (l : List (Nat × Nat)) : Prop :=
  ∃ a c, v = .slice a l.length c ∧ l.length ≤ c ∧ (∀ d ∈ l, U64 d.1 ∧ U64 d.2) ∧ (l = [] ∨ ∃ b off, a = some ⟨b, off, none⟩ ∧ ∀ i (h : i < l.length), w.cell? ⟨b, off + i * 2, none⟩ = some (.int .u64 (l[i].1 : Nat)) ∧ w.cell? ⟨b, off + i * 2 + 1, none⟩ = some (.int .u64 (l[i].2 : Nat)))
theorem Ds.below {w w1 : World} {v : Value} {l : List (Nat × Nat)} (h : Ds w v l) (hb : Below w.heap.size w w1) : Ds w1 v l := by
  obtain ⟨a, c, rfl, h1, h2, h⟩ := h
  refine ⟨a, c, rfl, h1, h2, ?_⟩
  rcases h with h | ⟨b, off, rfl, hc⟩
  · exact .inl h
  · refine .inr ⟨b, off, rfl, fun i hi => ?_⟩
    obtain ⟨c0, c1⟩ := hc i hi
    have e := hb.block b (block_lt_of_cell c0)
    exact ⟨(World.cell?_of_block e).trans c0, (World.cell?_of_block e).trans c1⟩

theorem ba_ext' {a b : ByteArray} (h : a.data.toList = b.data.toList) : a = b := by cases a; cases b; simp at h; subst h; rfl
theorem outsL_len (l : List (Nat × Nat)) : (outsL l).length = 16 * l.length := by
  induction l with
  | nil => rfl
  | cons d l ih => simp only [outsL, List.flatMap_cons, List.length_append, wideL_len, List.length_cons] at *; omega
theorem outsL_snoc (l : List (Nat × Nat)) (d : Nat × Nat) : outsL (l ++ [d]) = outsL l ++ (wideL d.1 8 ++ wideL d.2 8) := by simp [outsL]
theorem bsL_add (a b : List UInt8) : bsL a ++ bsL b = bsL (a ++ b) := by apply ba_ext'; simp [bsL]
theorem bsL_two (a b c d : List UInt8) : bsL (a ++ (b ++ (c ++ d))) = (bsL (a ++ b) ++ bsL c) ++ bsL d := by apply ba_ext'; simp [bsL]
theorem ds_at {w : World} {a : Option Addr} {n c : Nat} {l : List (Nat × Nat)} (h : Ds w (.slice a n c) l) {k : Nat} (hk : k < l.length) :
    ∃ b off, a = some ⟨b, off, none⟩ ∧ w.cell? ⟨b, off + k * 2, none⟩ = some (.int .u64 (l[k].1 : Nat)) ∧ w.cell? ⟨b, off + k * 2 + 1, none⟩ = some (.int .u64 (l[k].2 : Nat)) := by
  obtain ⟨a1, c1, e, _, _, h⟩ := h
  injection e with e1 e2 e3
  subst e1
  rcases h with h | ⟨b, off, h1, hc⟩
  · rw [h] at hk; simp at hk
  · exact ⟨b, off, h1, hc k hk⟩
theorem bits_nat (x y : Int) : ∃ n : Nat, bits BinOp.xor IntKind.u64 x y = (n : Int) ∧ n < 18446744073709551616 := by
  have h := wf_bits BinOp.xor IntKind.u64 x y
  have := bounds_u64 h
  exact ⟨(bits BinOp.xor IntKind.u64 x y).toNat, by omega, by omega⟩
theorem dig_nat (l : List UInt8) : ∃ a b : Nat, dig l = ((a : Int), (b : Int)) ∧ a < 18446744073709551616 ∧ b < 18446744073709551616 := by
  rcases List.eq_nil_or_concat l with rfl | ⟨r, c, rfl⟩
  · exact ⟨14695981039346656037, 9521211207457086692, rfl, by omega, by omega⟩
  · rw [List.concat_eq_append, dig_snoc]
    unfold digStep
    obtain ⟨b, hb, hb2⟩ := bits_nat (bits BinOp.xor IntKind.u64 (IntKind.u64.wrap ((dig r).2 * 1099511628211)) (IntKind.u64.wrap (c.toNat : Int))) (IntKind.u64.wrap (bits BinOp.xor IntKind.u64 (dig r).1 (IntKind.u64.wrap (c.toNat : Int)) * 1099511628211) / 4294967296)
    have key : ∀ z : Int, ∃ a : Nat, IntKind.u64.wrap z = (a : Int) ∧ a < 18446744073709551616 := fun z => by
      rw [IntKind.wrap_u64]
      exact ⟨(z % 18446744073709551616).toNat, by omega, by omega⟩
    have ha := key (bits BinOp.xor IntKind.u64 (dig r).1 (IntKind.u64.wrap (c.toNat : Int)) * 1099511628211)
    obtain ⟨a, ha, ha2⟩ := ha
    refine ⟨a, b, ?_, ha2, hb2⟩
    simp only [hb]
    rw [ha]
theorem told_head (a b c : List UInt8) : (((⟨#[82]⟩ : ByteArray) ++ bsL a) ++ bsL b) ++ bsL c = bsL ([82] ++ a ++ b ++ c) := by
  have : ∀ a b : ByteArray, a.data.toList = b.data.toList → a = b := fun a b h => by cases a; cases b; simp at h; subst h; rfl
  apply this
  simp [bsL]
theorem blk_lt' {w : World} {b : Nat} {o : Obj} (h : w.heap[b]? = some o) : b < w.heap.size := (Array.getElem?_eq_some_iff.1 h).1
end Go.Proofs.Ytoabakgmjcnodaa
