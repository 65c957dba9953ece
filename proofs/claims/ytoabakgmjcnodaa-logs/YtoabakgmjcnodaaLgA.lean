import Derived.Test.YtoabakgmjcnodaaSumWalks
import Derived.Deep.QuietTactic
import Derived.BigQuiet
import Derived.LoopTactic
import Derived.Maps.AppendAt
import Derived.Laws.IdiomStrings
namespace Go.Proofs.Ytoabakgmjcnodaa
open Go.ChangeShapes Go.WideShapes Go.ChangeAt Go.RowKit

/-- A number as n bytes, the high one first. -/
def wideL (v : Nat) : Nat → List UInt8
  | 0 => []
  | n + 1 => UInt8.ofNat ((v / 256 ^ n) % 256) :: wideL v n
theorem wideL_len (v : Nat) : ∀ n, (wideL v n).length = n
  | 0 => rfl
  | n + 1 => by rw [wideL, List.length_cons, wideL_len v n]
/-- The number in some bytes. -/
def numL (l : List UInt8) : Nat := l.foldl (fun a c => 256 * a + c.toNat) 0
theorem numL_snoc (l : List UInt8) (c : UInt8) : numL (l ++ [c]) = 256 * numL l + c.toNat := by simp [numL]
theorem numL_lt (l : List UInt8) : numL l < 256 ^ l.length := by
  have key : ∀ (l : List UInt8) (a : Nat), l.foldl (fun a c => 256 * a + c.toNat) a < (a + 1) * 256 ^ l.length := by
    intro l
    induction l with
    | nil => intro a; simp
    | cons c l ih =>
      intro a
      rw [List.foldl_cons, List.length_cons, Nat.pow_succ]
      refine Nat.lt_of_lt_of_le (ih _) ?_
      have h1 := c.toNat_lt
      have h2 : 256 * a + c.toNat + 1 ≤ (a + 1) * 256 := by omega
      calc (256 * a + c.toNat + 1) * 256 ^ l.length ≤ ((a + 1) * 256) * 256 ^ l.length := Nat.mul_le_mul_right _ h2
        _ = (a + 1) * (256 ^ l.length * 256) := by rw [Nat.mul_assoc, Nat.mul_comm 256]
  simpa [numL] using key l 0
def bsL (l : List UInt8) : ByteArray := ⟨l.toArray⟩
theorem bsL_size (l : List UInt8) : (bsL l).size = l.length := by simp [bsL, ByteArray.size]
theorem bsL_cons (c : UInt8) (l : List UInt8) : (⟨#[c]⟩ : ByteArray) ++ bsL l = bsL (c :: l) := by
  have : ∀ a b : ByteArray, a.data.toList = b.data.toList → a = b := fun a b h => by cases a; cases b; simp at h; subst h; rfl
  apply this
  simp [bsL]

theorem conv_one (w : World) (q : Nat) : Sem.run Try.prog (convert 45 9 (.slice (some ⟨w.heap.size, 0, none⟩) 1 1)) (w.alloc (.cells #[.int .u8 ((q : Int) % 256)] 5)) =
    .ok (.string ⟨#[UInt8.ofNat (q % 256)]⟩) (w.alloc (.cells #[.int .u8 ((q : Int) % 256)] 5)) := by
  refine run_convert_bytes_back (P := Try.prog) _ 45 9 5 ⟨w.heap.size, 0, none⟩ 1 [UInt8.ofNat (q % 256)] Try.underlying45 Try.underlying5 Try.underlying9 (fun j hj => ?_)
  have hj0 : j = 0 := by simpa using hj
  subst hj0
  have e : ((UInt8.ofNat (q % 256)).toNat : Int) = (q : Int) % 256 := by simp
  have h := Go.cell_one_new w (.int .u8 ((q : Int) % 256)) 5 0 _ rfl
  rw [h]
  show some (Value.int .u8 ((q : Int) % 256)) = some (Value.int .u8 ((UInt8.ofNat (q % 256)).toNat : Int))
  rw [e]

set_option maxHeartbeats 1000000 in
theorem ref_wide (v n : Nat) (w : World) (hv : v < 18446744073709551616) (hn : n ≤ 8) :
    Calls Try.prog 26 #[.int .u64 v, .int .i64 n] w fun e w' => e = .returned (.string (bsL (wideL v n))) ∧ Below w.heap.size w w' := by
  go_enter Try.func26, Try.ntmps26
  go_wp2
  go_loopw [0, 1, 5] (fun a b s wr => ∃ k : Nat, k ≤ n ∧ a = .int .u64 ((v / 256 ^ k : Nat) : Int) ∧ b = .int .i64 ((n - k : Nat) : Int) ∧ s = .string (bsL (wideL v k)) ∧ Below w.heap.size w wr) (fun _ b _ _ => (intOf b).toNat)
  case atStart => exact ⟨0, Nat.zero_le _, by simp, rfl, rfl, Below.refl _ _⟩
  case round =>
    obtain ⟨k, hk, rfl, rfl, rfl, hbel⟩ := hrel
    have hq : v / 256 ^ k < 18446744073709551616 := Nat.lt_of_le_of_lt (Nat.div_le_self _ _) hv
    have HNX : Hid (v / 256 ^ (k + 1) = v / 256 ^ k / 256) := by rw [Hid, Nat.pow_succ, Nat.div_div_eq_div_mul]
    have hsz : (bsL (wideL v k)).size ≤ 8 := by rw [bsL_size, wideL_len]; omega
    have HW : Hid (bsL (wideL v (k + 1)) = (⟨#[UInt8.ofNat ((v / 256 ^ k) % 256)]⟩ : ByteArray) ++ bsL (wideL v k)) := by rw [Hid, bsL_cons]; rfl
    by_cases hlt : k < n
    · generalize v / 256 ^ k = q at *
      generalize bsL (wideL v k) = s at *
      have hbs := hbel.size
      obtain ⟨d, hd⟩ : ∃ d, n - k = d + 1 := ⟨n - k - 1, by omega⟩
      have HD : Hid (n - (k + 1) = d) := by rw [Hid]; omega
      have hd8 : d ≤ 8 := by omega
      rw [hd]
      clear hd
      have hcv := conv_one wr q
      go_wp2
      go_roundw
      case rel => exact ⟨k + 1, by omega, by rw [HNX.out]; go_num, by rw [HD.out], by rw [HW.out], hbel.alloc hbs _⟩
      case measure => simp [intOf]
    · have HK : Hid (k = n) := by rw [Hid]; omega
      have h0 : n - k = 0 := by omega
      go_wp2
      go_ret
      exact ⟨by rw [HK.out]; rfl, hbel⟩

set_option maxHeartbeats 1000000 in
theorem ref_narrow (s : ByteArray) (i n : Nat) (w : World) (hs : s.size ≤ maxLen) (hn : n ≤ 8) (hin : i + n ≤ s.size) :
    Calls Try.prog 28 #[.string s, .int .i64 i, .int .i64 n] w fun e w' => e = .returned (.int .u64 (numL ((s.data.toList.drop i).take n) : Nat)) ∧ w' = w := by
  unfold maxLen at hs
  go_enter Try.func28, Try.ntmps28
  go_wp2
  go_loop [7, 8] (fun v k => ∃ j : Nat, j ≤ n ∧ k = .int .i64 ((i + j : Nat) : Int) ∧ v = .int .u64 (numL ((s.data.toList.drop i).take j) : Nat)) (fun _ k => i + n - (intOf k).toNat)
  case atStart => exact ⟨0, Nat.zero_le _, rfl, rfl⟩
  case round =>
    obtain ⟨j, hj, rfl, rfl⟩ := hrel
    by_cases hlt : j < n
    · have hil : i + j < s.size := by omega
      have HNX : Hid (numL ((s.data.toList.drop i).take (j + 1)) = 256 * numL ((s.data.toList.drop i).take j) + s[i + j].toNat) := by
        rw [Hid, List.take_succ_eq_append_getElem (by simp; omega), numL_snoc, List.getElem_drop]; rfl
      have hb := numL_lt ((s.data.toList.drop i).take j)
      have hlen : ((s.data.toList.drop i).take j).length = j := by rw [List.length_take, List.length_drop]; simp; omega
      rw [hlen] at hb
      have hpow : 256 ^ j ≤ 256 ^ 7 := Nat.pow_le_pow_right (by omega) (by omega)
      have hb2 : numL ((s.data.toList.drop i).take j) < 72057594037927936 := Nat.lt_of_lt_of_le hb hpow
      clear hb hpow hlen
      generalize numL ((s.data.toList.drop i).take j) = v at *
      have hc := s[i + j].toNat_lt
      go_wp2
      go_round
      case rel => exact ⟨j + 1, by omega, by go_num, by rw [HNX.out]; go_num⟩
      case measure => simp [intOf]; omega
    · have HJ : Hid (j = n) := by rw [Hid]; omega
      go_wp2
      go_ret
      exact ⟨by rw [HJ.out]; rfl, rfl⟩
end Go.Proofs.Ytoabakgmjcnodaa
