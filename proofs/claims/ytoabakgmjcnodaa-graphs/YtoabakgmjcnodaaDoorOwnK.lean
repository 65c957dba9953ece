import Derived.Test.YtoabakgmjcnodaaDoorOwnA
import Derived.Test.YtoabakgmjcnodaaDoorRefRing
import Derived.Test.YtoabakgmjcnodaaDoorOrdSpec
namespace Go.Proofs.YtoabakgmjcnodaaDoor
open Go.ChangeShapes Go.WideShapes Go.ChangeAt Go.RowKit

/-- A list of numbers as it lies in memory. -/
def Ints (w : World) (v : Value) (l : List Nat) : Prop :=
  ∃ a c, v = .slice a l.length c ∧ l.length ≤ c ∧ (l = [] ∨ ∃ b off, a = some ⟨b, off, none⟩ ∧ ∀ i (h : i < l.length), w.cell? ⟨b, off + i, none⟩ = some (.int .i64 ((l[i] : Nat) : Int)))
theorem ints_at {w : World} {a : Option Addr} {n c : Nat} {l : List Nat} (h : Ints w (.slice a n c) l) {k : Nat} (hk : k < l.length) : ∃ b off, a = some ⟨b, off, none⟩ ∧ w.cell? ⟨b, off + k, none⟩ = some (.int .i64 ((l[k] : Nat) : Int)) := by
  obtain ⟨a1, c1, e, _, h⟩ := h
  injection e with e1 e2 e3
  subst e1
  rcases h with h | ⟨b, off, h1, hc⟩
  · rw [h] at hk; simp at hk
  · exact ⟨b, off, h1, hc k hk⟩
theorem Ints.same {M : Nat → Prop} {w w1 : World} {v : Value} {l : List Nat} (h : Ints w v l) (hs : Same M w w1) (hv : ∀ k, v.ownBlock = some k → ¬ M k) : Ints w1 v l := by
  obtain ⟨a, c, rfl, hle, h⟩ := h
  refine ⟨a, c, rfl, hle, ?_⟩
  rcases h with h | ⟨b, off, rfl, hc⟩
  · exact .inl h
  · refine .inr ⟨b, off, rfl, fun i hi => ?_⟩
    have hb := block_lt_of_cell (hc i hi)
    exact (World.cell?_of_block (hs.block b hb (hv b rfl))).trans (hc i hi)
theorem Ints.below {w w1 : World} {v : Value} {l : List Nat} (h : Ints w v l) (hb : Below w.heap.size w w1) : Ints w1 v l :=
  h.same (M := fun _ => False) ⟨hb.os, hb.tape, hb.output, hb.size, fun k hk _ => hb.block k hk⟩ (fun _ _ => id)
theorem Ints.owned {w : World} {base : Nat} {v : Value} {l : List Nat} (h : w.ownsRow base 3 1 v l.length (l.map fun (n : Nat) => Value.int .i64 (n : Int))) : Ints w v l := by
  rcases id h.2 with ⟨rfl, h0⟩ | ⟨g, cap, cur, e, hB, hg, hle, _⟩
  · have : l = [] := by simpa using h0
    subst this; exact ⟨_, _, rfl, Nat.le_refl _, .inl rfl⟩
  · refine ⟨_, _, e, hle, .inr ⟨g, 0, rfl, fun i hi => ?_⟩⟩
    have := h.cells (g := g) (by rw [e]; rfl) i (.int .i64 ((l[i] : Nat) : Int)) (by simp [hi])
    rw [addr_add] at this
    rw [Nat.zero_add]; exact this
/-- For each task the list of those that it waits for. -/
def Wts (w : World) (ab : Nat) (ls : List (List Nat)) : Prop := ∀ i (h : i < ls.length), ∃ v, w.cell? ⟨ab, i, none⟩ = some v ∧ Ints w v ls[i]
theorem Wts.below {w w1 : World} {ab : Nat} {ls : List (List Nat)} (h : Wts w ab ls) (hb : Below w.heap.size w w1) : Wts w1 ab ls := fun i hi => by
  obtain ⟨v, h1, h2⟩ := h i hi
  exact ⟨v, (hb.cell (p := ⟨ab, i, none⟩) (block_lt_of_cell h1)).trans h1, h2.below hb⟩

def allTo (f : Nat → Bool) (l : List Nat) (k : Nat) : Prop := ∀ i (h : i < l.length), i < k → f l[i] = true
theorem allTo_succ {f : Nat → Bool} {l : List Nat} {k : Nat} (hk : k < l.length) (h : allTo f l k) (h1 : f l[k] = true) : allTo f l (k + 1) := by
  intro i hi hik
  by_cases e : i = k
  · subst e; exact h1
  · exact h i hi (by omega)

set_option maxHeartbeats 1000000 in
theorem own_allPlaced (v : Value) (l : List Nat) (pb n : Nat) (f : Nat → Bool) (w : World) (hv : Ints w v l) (hl : l.length ≤ 4000) (hb : ∀ x ∈ l, x < n) (hr : w.rowIs pb 4 n (fun i => .bool (f i))) :
    Calls Tryd.prog 50 #[v, .slice (some ⟨pb, 0, none⟩) n n] w fun e w' => e = .returned (.bool (l.all f)) ∧ w' = w := by
  have hv0 := hv
  obtain ⟨a, c, rfl, _, _⟩ := hv0
  obtain ⟨N, hN⟩ : ∃ N, l.all f = N := ⟨_, rfl⟩
  rw [hN]
  have HN : Hid (l.all f = N) := hN
  clear hN
  go_enter Tryd.func50, Tryd.ntmps50
  go_wp2
  go_loop [4, 6, 9] (fun _ _ i => ∃ k : Nat, k ≤ l.length ∧ i = .int .i64 k ∧ allTo f l k) (fun _ _ i => l.length - (intOf i).toNat)
  case atStart => exact ⟨0, Nat.zero_le _, rfl, fun i _ hi => by omega⟩
  case round =>
    obtain ⟨k, hk, rfl, ha⟩ := hrel
    have HA : Hid (allTo f l k) := ha
    clear ha
    by_cases hlt : k < l.length
    · obtain ⟨b, off, hx, hc⟩ := ints_at hv hlt
      subst hx
      have hxs := hb _ (List.getElem_mem hlt)
      obtain ⟨x, hx⟩ : ∃ x, l[k] = x := ⟨_, rfl⟩
      have HX : Hid (l[k] = x) := hx
      rw [hx] at hc hxs
      clear hx
      have hp := hr.cell hxs
      cases hf : f x
      · rw [hf] at hp
        have HF : Hid (f x = false) := hf
        clear hf
        go_wp2
        go_ret
        refine ⟨ret_bool ?_, rfl⟩
        rw [← HN.out, eq_comm, List.all_eq_false]
        exact ⟨l[k], List.getElem_mem hlt, by rw [HX.out, HF.out]; simp⟩
      · rw [hf] at hp
        have HF : Hid (f x = true) := hf
        clear hf
        go_wp2
        go_round
        case rel => exact ⟨k + 1, by omega, by go_num, allTo_succ hlt HA.out (by rw [HX.out]; exact HF.out)⟩
        case measure => simp [intOf]; omega
    · have HF : Hid (l.all f = true) := by
        rw [Hid, List.all_eq_true]
        intro x hx
        obtain ⟨i, hi, rfl⟩ := List.mem_iff_getElem.1 hx
        exact HA.out i hi (by omega)
      go_wp2
      go_ret
      exact ⟨ret_bool (by rw [← HN.out, HF.out]), rfl⟩
end Go.Proofs.YtoabakgmjcnodaaDoor
