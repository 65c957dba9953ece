import Derived.Test.YtoabakgmjcnodaaLkD
import Derived.Shelf.SlSortCmp.QuietGrown
import Derived.Deep.RegionHeld3
namespace Go.Proofs.Ytoabakgmjcnodaa
open Go.ChangeShapes Go.WideShapes Go.ChangeAt Go.RowKit Go.Sort

def cmpN (a b : Nat) : Int := if a < b then -1 else if b < a then 1 else 0
theorem own_isNaN (a : Nat) (w : World) : Calls Try.prog 44 #[.int .u64 a] w fun e w' => e = .returned (.bool false) ∧ w' = w := by
  have h : ((a : Int) != a) = false := by simp
  go_enter Try.func44, Try.ntmps44
  go_wp2
  go_ret
  exact ⟨rfl, rfl⟩
set_option maxHeartbeats 1000000 in
theorem own_cmpC (a b : Nat) (w : World) : Calls Try.prog 33 #[.int .u64 a, .int .u64 b] w fun e w' => e = .returned (.int .i64 (cmpN a b)) ∧ w' = w := by
  rcases (show a < b ∨ (¬ a < b ∧ b < a) ∨ (¬ a < b ∧ ¬ b < a) by omega) with h | ⟨h, h2⟩ | ⟨h, h2⟩
  · have HE : Hid (cmpN a b = -1) := by rw [Hid, cmpN, if_pos h]
    have t1 : ((a : Int) < (b : Int)) := by omega
    go_enter Try.func33, Try.ntmps33
    go_wp2_with fail
    refine (own_isNaN a _).mono ?_
    rintro e w1 ⟨rfl, rfl⟩
    go_wp2_with fail
    refine (own_isNaN b _).mono ?_
    rintro e w1 ⟨rfl, rfl⟩
    go_wp2
    go_ret
    exact ⟨by rw [HE.out]; rfl, rfl⟩
  · have HE : Hid (cmpN a b = 1) := by rw [Hid, cmpN, if_neg h, if_pos h2]
    have t1 : ¬ ((a : Int) < (b : Int)) := by omega
    have t2 : ((b : Int) < (a : Int)) := by omega
    go_enter Try.func33, Try.ntmps33
    go_wp2_with fail
    refine (own_isNaN a _).mono ?_
    rintro e w1 ⟨rfl, rfl⟩
    go_wp2_with fail
    refine (own_isNaN b _).mono ?_
    rintro e w1 ⟨rfl, rfl⟩
    go_wp2
    go_ret
    exact ⟨by rw [HE.out]; rfl, rfl⟩
  · have HE : Hid (cmpN a b = 0) := by rw [Hid, cmpN, if_neg h, if_neg h2]
    have t1 : ¬ ((a : Int) < (b : Int)) := by omega
    have t2 : ¬ ((b : Int) < (a : Int)) := by omega
    go_enter Try.func33, Try.ntmps33
    go_wp2_with fail
    refine (own_isNaN a _).mono ?_
    rintro e w1 ⟨rfl, rfl⟩
    go_wp2_with fail
    refine (own_isNaN b _).mono ?_
    rintro e w1 ⟨rfl, rfl⟩
    go_wp2
    go_ret
    exact ⟨by rw [HE.out]; rfl, rfl⟩
set_option maxHeartbeats 1000000 in
theorem own_Or (x y : Int) (blk c : Nat) (w : World) (h0 : w.cell? ⟨blk, 0, none⟩ = some (.int .i64 x)) (h1 : w.cell? ⟨blk, 1, none⟩ = some (.int .i64 y)) :
    Calls Try.prog 32 #[.slice (some ⟨blk, 0, none⟩) 2 c] w fun e w' => e = .returned (.int .i64 (if x = 0 then y else x)) ∧ w' = w := by
  obtain ⟨z, hz⟩ : ∃ z, (if x = 0 then y else x) = z := ⟨_, rfl⟩
  rw [hz]
  have HZ : Hid ((if x = 0 then y else x) = z) := hz
  clear hz
  go_enter Try.func32, Try.ntmps32
  go_wp2
  go_loop [5, 8] (fun _ i => ∃ j : Nat, j ≤ 2 ∧ i = .int .i64 (j : Int) ∧ (0 < j → x = 0) ∧ (1 < j → y = 0)) (fun _ i => 2 - (intOf i).toNat)
  case atStart => exact ⟨0, Nat.zero_le _, rfl, fun h => absurd h (by omega), fun h => absurd h (by omega)⟩
  case round =>
    obtain ⟨j, hj, rfl, hx, hy⟩ := hrel
    rcases (show j = 0 ∨ j = 1 ∨ j = 2 by omega) with rfl | rfl | rfl
    · clear hx hy
      by_cases e : x = 0
      · have t : (x != 0) = false := by simp [e]
        have HX : Hid (x = 0) := e
        clear e
        go_wp2
        go_round
        case rel => exact ⟨1, by omega, rfl, fun _ => HX.out, fun h => absurd h (by omega)⟩
        case measure => simp [intOf]
      · have t : (x != 0) = true := by simp [e]
        have HX : Hid (¬ x = 0) := e
        clear e
        go_wp2
        go_ret
        exact ⟨by rw [← HZ.out, if_neg HX.out]; rfl, rfl⟩
    · have HX : Hid (x = 0) := hx (by omega)
      clear hx hy
      by_cases e : y = 0
      · have t : (y != 0) = false := by simp [e]
        have HY : Hid (y = 0) := e
        clear e
        go_wp2
        go_round
        case rel => exact ⟨2, by omega, rfl, fun _ => HX.out, fun _ => HY.out⟩
        case measure => simp [intOf]
      · have t : (y != 0) = true := by simp [e]
        go_wp2
        go_ret
        exact ⟨by rw [← HZ.out, if_pos HX.out]; rfl, rfl⟩
    · have HX : Hid (x = 0) := hx (by omega)
      have HY : Hid (y = 0) := hy (by omega)
      clear hx hy
      go_wp2
      go_ret
      exact ⟨by rw [← HZ.out, if_pos HX.out, HY.out]; rfl, rfl⟩
/-- What digest.Compare answers. -/
def cmpD (a b : Nat × Nat) : Int := if cmpN a.1 b.1 = 0 then cmpN a.2 b.2 else cmpN a.1 b.1
def encD (d : Nat × Nat) : List Value := [.int .u64 (d.1 : Nat), .int .u64 (d.2 : Nat)]
theorem al1 (w : World) (x y : Value) (t : TypeId) : (w.alloc (.cells #[x, y] t)).cell? ⟨w.heap.size, 0, none⟩ = some x ∧ (w.alloc (.cells #[x, y] t)).cell? ⟨w.heap.size, 1, none⟩ = some y := by
  have h := heap_alloc_new w (.cells #[x, y] t)
  constructor <;> (rw [cell_of_row _ _ _ _ t (0, 0) h]; rfl)
theorem al1a (w : World) (x y : Value) (t : TypeId) : (w.drew.alloc (.cells #[x, y] t)).cell? ⟨w.heap.size, 0, none⟩ = some x ∧ (w.drew.alloc (.cells #[x, y] t)).cell? ⟨w.heap.size, 1, none⟩ = some y := al1 w.drew x y t
theorem al1b (w : World) (x y : Value) (t : TypeId) : (w.alloc (.cells #[x, y] t)).drew.cell? ⟨w.heap.size, 0, none⟩ = some x ∧ (w.alloc (.cells #[x, y] t)).drew.cell? ⟨w.heap.size, 1, none⟩ = some y := al1 w x y t
set_option maxRecDepth 10000 in
set_option maxHeartbeats 2000000 in
theorem own_Compare (a b : Nat × Nat) (w : World) : Calls Try.prog 22 #[.agg (encD a).toArray, .agg (encD b).toArray] w fun e w' => e = .returned (.int .i64 (cmpD a b)) ∧ ∃ q os, w' = grow (w.drewN q) os := by
  obtain ⟨a0, a1⟩ := a
  obtain ⟨b0, b1⟩ := b
  unfold encD cmpD
  simp only
  have HOR : Hid (∀ (blk c : Nat) (w : World), w.cell? ⟨blk, 0, none⟩ = some (.int .i64 (cmpN a0 b0)) → w.cell? ⟨blk, 1, none⟩ = some (.int .i64 (cmpN a1 b1)) → Calls Try.prog 32 #[.slice (some ⟨blk, 0, none⟩) 2 c] w fun e w' => e = .returned (.int .i64 (if cmpN a0 b0 = 0 then cmpN a1 b1 else cmpN a0 b0)) ∧ w' = w) :=
    fun blk c w h0 h1 => own_Or _ _ blk c w h0 h1
  generalize (if cmpN a0 b0 = 0 then cmpN a1 b1 else cmpN a0 b0) = z at *
  go_enter Try.func22, Try.ntmps22
  go_upto_region 1 with fail
  obtain ⟨W, hW⟩ : ∃ W, (w.alloc (.cells #[.int .u64 (a0 : Nat), .int .u64 (a1 : Nat)] 24)).alloc (.cells #[.int .u64 (b0 : Nat), .int .u64 (b1 : Nat)] 24) = W := ⟨_, rfl⟩
  have hWa : W.heap[w.heap.size]? = some (.cells #[.int .u64 (a0 : Nat), .int .u64 (a1 : Nat)] 24 (0, 0)) := by rw [← hW]; exact (Below.heap_alloc _ _ _ (by simp)).trans (heap_alloc_new _ _)
  have hWb : W.heap[w.heap.size + 1]? = some (.cells #[.int .u64 (b0 : Nat), .int .u64 (b1 : Nat)] 24 (0, 0)) := by rw [← hW]; exact alloc2_new _ _ _
  have c0 : W.cell? ⟨w.heap.size, 0, none⟩ = some (.int .u64 (a0 : Nat)) := by rw [cell_of_row W _ _ _ 24 (0, 0) hWa]; rfl
  have c1 : W.cell? ⟨w.heap.size, 1, none⟩ = some (.int .u64 (a1 : Nat)) := by rw [cell_of_row W _ _ _ 24 (0, 0) hWa]; rfl
  have c2 : W.cell? ⟨w.heap.size + 1, 0, none⟩ = some (.int .u64 (b0 : Nat)) := by rw [cell_of_row W _ _ _ 24 (0, 0) hWb]; rfl
  have c3 : W.cell? ⟨w.heap.size + 1, 1, none⟩ = some (.int .u64 (b1 : Nat)) := by rw [cell_of_row W _ _ _ 24 (0, 0) hWb]; rfl
  have HW : Hid ((w.alloc (.cells #[.int .u64 (a0 : Nat), .int .u64 (a1 : Nat)] 24)).alloc (.cells #[.int .u64 (b0 : Nat), .int .u64 (b1 : Nat)] 24) = W) := hW
  rw [hW]
  clear hW hWa hWb
  go_region_held3 (fun w' => w'.cell? ⟨w.heap.size, 0, none⟩ = some (.int .u64 (a0 : Nat)) ∧ w'.cell? ⟨w.heap.size, 1, none⟩ = some (.int .u64 (a1 : Nat)) ∧ w'.cell? ⟨w.heap.size + 1, 0, none⟩ = some (.int .u64 (b0 : Nat)) ∧ w'.cell? ⟨w.heap.size + 1, 1, none⟩ = some (.int .u64 (b1 : Nat))) (go_keep) (first
    | (go_at_call_of 33 (Value.int .u64 (a0 : Int)); refine (own_cmpC a0 b0 _).mono ?_; rintro e wA ⟨rfl, rfl⟩)
    | (go_at_call_of 33 (Value.int .u64 (a1 : Int)); refine (own_cmpC a1 b1 _).mono ?_; rintro e wB ⟨rfl, rfl⟩)
    | (go_at_call 32; refine (HOR.out _ _ _ (al1a _ _ _ _).1 (al1a _ _ _ _).2).mono ?_; rintro e wC ⟨rfl, rfl⟩)
    | (go_at_call 32; refine (HOR.out _ _ _ (al1b _ _ _ _).1 (al1b _ _ _ _).2).mono ?_; rintro e wC ⟨rfl, rfl⟩))
  all_goals (try go_wp2_with fail)
  all_goals go_ret
  all_goals exact ⟨rfl, 1, _, by rw [← HW.out, alloc_eq_grow, alloc_eq_grow, alloc_eq_grow, grow_grow, grow_grow, drew_grow]; rfl⟩
end Go.Proofs.Ytoabakgmjcnodaa
