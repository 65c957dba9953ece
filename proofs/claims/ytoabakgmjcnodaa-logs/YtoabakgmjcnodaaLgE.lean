import Derived.Test.YtoabakgmjcnodaaLgD0
import Derived.Deep.LoopGhost
namespace Go.Proofs.Ytoabakgmjcnodaa
open Go.ChangeShapes Go.WideShapes Go.ChangeAt Go.RowKit

/-- The records that some bytes begin with, and how many bytes they take. -/
def recsL (t : List UInt8) : Nat → List Rc × Nat
  | 0 => ([], 0)
  | f + 1 => match recL t with
    | none => ([], 0)
    | some (r, n) => ((r :: (recsL (t.drop n) f).1), n + (recsL (t.drop n) f).2)
theorem recL_size {t : List UInt8} {r : Rc} {n : Nat} (h : recL t = some (r, n)) : 38 ≤ n ∧ n ≤ 54 ∧ n ≤ t.length ∧ 1 ≤ r.outs.length ∧ r.outs.length ≤ 2 ∧ U64 r.p0 ∧ U64 r.p1 ∧ ∀ d ∈ r.outs, U64 d.1 ∧ U64 d.2 := by
  unfold recL at h
  split at h
  · split at h
    · rename_i c d l hc
      injection h with h
      injection h with h1 h2
      obtain ⟨_, h3, h4, _⟩ := hc
      have hk : d.toNat = 1 ∨ d.toNat = 2 := h3.imp (fun e => by rw [e]; rfl) (fun e => by rw [e]; rfl)
      subst h1 h2
      refine ⟨by omega, by omega, h4, by simp [rcOf]; omega, by simp [rcOf]; omega, num8 _ _, num8 _ _, fun e he => ?_⟩
      simp only [rcOf, List.mem_map] at he
      obtain ⟨j, _, rfl⟩ := he
      exact ⟨num8 _ _, num8 _ _⟩
    · cases h
  · cases h

/-- A list of records as it lies in memory, in a row of its own. -/
structure RsAt (w : World) (B : Nat) (v : Value) (cs : List Value) (l : List Rc) : Prop where
  own : w.ownsRow B 37 3 v l.length cs
  each : ∀ i (h : i < l.length), ∃ vO, cs[i * 3]? = some (.int .u64 (l[i].p0 : Nat)) ∧ cs[i * 3 + 1]? = some (.int .u64 (l[i].p1 : Nat)) ∧ cs[i * 3 + 2]? = some vO ∧ Ds w vO l[i].outs ∧ (∀ q, vO.ownBlock = some q → v.ownBlock ≠ some q ∧ B ≤ q ∧ q < w.heap.size)
end Go.Proofs.Ytoabakgmjcnodaa
