/-
  The digest of bytes, as the walks of both Sum functions come to it (plain numbers; nothing of the program).
-/
import Derived.WalkKit
import Derived.WalkLawsBesides
namespace Go.Proofs.Ytoabakgmjcnodaa
open Go.RowKit

/-- One byte more: the numbers a and b, in the walk's own forms. -/
def digStep (p : Int × Int) (c : UInt8) : Int × Int :=
  let a := IntKind.u64.wrap (bits BinOp.xor IntKind.u64 p.1 (IntKind.u64.wrap (c.toNat : Int)) * 1099511628211)
  (a, bits BinOp.xor IntKind.u64
    (bits BinOp.xor IntKind.u64 (IntKind.u64.wrap (p.2 * 1099511628211)) (IntKind.u64.wrap (c.toNat : Int)))
    (a / 4294967296))

def dig (l : List UInt8) : Int × Int := l.foldl digStep (14695981039346656037, 9521211207457086692)

theorem dig_nil : dig [] = (14695981039346656037, 9521211207457086692) := rfl

theorem dig_snoc (l : List UInt8) (c : UInt8) : dig (l ++ [c]) = digStep (dig l) c := by
  unfold dig; rw [List.foldl_append]; rfl

theorem take_snoc (s : ByteArray) (k : Nat) (h : k < s.size) : s.data.toList.take (k + 1) = s.data.toList.take k ++ [s[k]] := by
  rw [List.take_succ_eq_append_getElem (by simpa using h)]; rfl

theorem dig_take (s : ByteArray) (k : Nat) (h : k < s.size) : dig (s.data.toList.take (k + 1)) = digStep (dig (s.data.toList.take k)) s[k] := by
  rw [take_snoc s k h, dig_snoc]

/-- The quotient by 4294967296 of a uint64 is the shift by 32. -/
theorem quo_shift (x : Int) : IntKind.u64.wrap ((IntKind.u64.wrap x).tdiv 4294967296) = IntKind.u64.wrap x / 4294967296 :=
  IntWalk.u64_quo _ _ (by rw [IntKind.wrap_u64]; omega)

theorem digStep_ref (p : Int × Int) (c : UInt8) :
    (digStep p c).1 = IntKind.u64.wrap (bits BinOp.xor IntKind.u64 p.1 (IntKind.u64.wrap (c.toNat : Int)) * 1099511628211) ∧
    (digStep p c).2 = bits BinOp.xor IntKind.u64
      (bits BinOp.xor IntKind.u64 (IntKind.u64.wrap (p.2 * 1099511628211)) (IntKind.u64.wrap (c.toNat : Int)))
      (IntKind.u64.wrap ((IntKind.u64.wrap (bits BinOp.xor IntKind.u64 p.1 (IntKind.u64.wrap (c.toNat : Int)) * 1099511628211)).tdiv 4294967296)) := by
  refine ⟨rfl, ?_⟩
  rw [quo_shift]; rfl

theorem digStep_own (p : Int × Int) (c : UInt8) :
    (digStep p c).1 = IntKind.u64.wrap (bits BinOp.xor IntKind.u64 p.1 (IntKind.u64.wrap (c.toNat : Int)) * 1099511628211) ∧
    (digStep p c).2 = bits BinOp.xor IntKind.u64
      (bits BinOp.xor IntKind.u64 (IntKind.u64.wrap (p.2 * 1099511628211)) (IntKind.u64.wrap (c.toNat : Int)))
      (IntKind.u64.wrap (bits BinOp.xor IntKind.u64 p.1 (IntKind.u64.wrap (c.toNat : Int)) * 1099511628211) / 4294967296) := ⟨rfl, rfl⟩

theorem int_eq {k : IntKind} {a b : Int} (h : a = b) : Value.int k a = Value.int k b := by rw [h]
end Go.Proofs.Ytoabakgmjcnodaa
