import Derived.Test.YtoabakgmjcnodaaDoorRefB
import Derived.LoopTactic
import Derived.Maps.AppendAt
namespace Go.Proofs.YtoabakgmjcnodaaDoor
open Go.ChangeShapes Go.WideShapes Go.ChangeAt Go.RowKit

/-- The pieces so far, and where the next one begins, when k places have been looked at. -/
def pcs (s : ByteArray) (c : UInt8) : Nat → List ByteArray × Nat
  | 0 => ([], 0)
  | k + 1 => if k = s.size ∨ s.data.toList[k]? = some c then ((pcs s c k).1 ++ [s.extract (pcs s c k).2 k], k + 1) else pcs s c k

theorem pcs_cut {s : ByteArray} {c : UInt8} {k : Nat} (h : k = s.size ∨ s.data.toList[k]? = some c) : pcs s c (k + 1) = ((pcs s c k).1 ++ [s.extract (pcs s c k).2 k], k + 1) := by
  show (if _ then _ else _) = _; rw [if_pos h]
theorem pcs_on {s : ByteArray} {c : UInt8} {k : Nat} (h : ¬ (k = s.size ∨ s.data.toList[k]? = some c)) : pcs s c (k + 1) = pcs s c k := by
  show (if _ then _ else _) = _; rw [if_neg h]
theorem pcs_le (s : ByteArray) (c : UInt8) (k : Nat) : (pcs s c k).1.length ≤ k ∧ (pcs s c k).2 ≤ k := by
  induction k with
  | zero => exact ⟨Nat.le_refl _, Nat.le_refl _⟩
  | succ k ih =>
    by_cases h : k = s.size ∨ s.data.toList[k]? = some c
    · rw [pcs_cut h]; simp; omega
    · rw [pcs_on h]; omega

theorem Tryd.info9 : (Tryd.prog.info? 9).map (fun i => (i.zero, i.size, i.bytes)) = some (some (.string ByteArray.empty), 1, 16) := by kernel_rfl

theorem one_cell (s : ByteArray) : ∀ u ∈ [Value.string s], u.oneCell' = true := by
  intro u hu; rw [List.mem_singleton] at hu; subst hu; rfl
theorem map_snoc (ps : List ByteArray) (x : ByteArray) : ps.map Value.string ++ [Value.string x] = (ps ++ [x]).map Value.string := by simp

/-- What a round that cuts leaves. -/
theorem cut_rel {w wr w1 : World} {s : ByteArray} {c : UInt8} {k : Nat} {ps : List ByteArray} {fr : Nat} {v v' : Value} {B : Nat} (HP : pcs s c k = (ps, fr)) (h : k = s.size ∨ s.data.toList[k]? = some c)
    (hB : B = w.heap.size) (hown : wr.ownsRow B 9 1 v ps.length (ps.map Value.string)) (hbel : Below B w wr) (hown' : w1.ownsRow B 9 1 v' (ps.length + 1) (ps.map Value.string ++ [Value.string (s.extract fr k)]))
    (hg : (wr.alloc (.cells #[Value.string (s.extract fr k)] 9)).grownBy w1 v.ownBlock) :
    (pcs s c (k + 1)).2 = k + 1 ∧ w1.ownsRow B 9 1 v' (pcs s c (k + 1)).1.length ((pcs s c (k + 1)).1.map Value.string) ∧ Below B w w1 := by
  rw [pcs_cut h, HP]
  refine ⟨rfl, ?_, ?_⟩
  · rw [map_snoc] at hown'; simpa using hown'
  · have hsz := hbel.size
    exact (hbel.alloc (by omega) _).grown hg (by simp; omega) (fun j hj => (hown.lt j hj).1)

set_option maxRecDepth 10000 in
set_option maxHeartbeats 1000000 in
theorem ref_pieces (s : ByteArray) (c : UInt8) (w : World) (hs : s.size ≤ 4000000000) :
    Calls Tryd.prog 29 #[.string s, .int .u8 c.toNat] w fun e w' => ∃ v, e = .returned v ∧
      w'.ownsRow w.heap.size 9 1 v (pcs s c (s.size + 1)).1.length ((pcs s c (s.size + 1)).1.map Value.string) ∧ Below w.heap.size w w' := by
  obtain ⟨i0, hi, hz0, hz1, hz2⟩ := info_parts Tryd.info9
  go_enter Tryd.func29, Tryd.ntmps29
  go_wp2
  go_loopw [5, 6, 7] (fun v f i wr => ∃ k : Nat, k ≤ s.size + 1 ∧ i = .int .i64 k ∧ f = .int .i64 (pcs s c k).2 ∧
      wr.ownsRow w.heap.size 9 1 v (pcs s c k).1.length ((pcs s c k).1.map Value.string) ∧ Below w.heap.size w wr)
    (fun _ _ i _ => s.size + 1 - (intOf i).toNat)
  case atStart => exact ⟨0, Nat.zero_le _, rfl, rfl, World.ownsRow_nil _ _ _ _, Below.refl _ _⟩
  case round =>
    obtain ⟨k, hk, rfl, rfl, hown, hbel⟩ := hrel
    have hle := pcs_le s c k
    generalize hP : pcs s c k = P at *
    have HP : Hid (pcs s c k = P) := hP
    clear hP
    obtain ⟨ps, fr⟩ := P
    simp only at hle hown ⊢
    have hbs := hbel.size
    by_cases hlt : k < s.size
    · by_cases hc : s[k] = c
      · have hb : ((s[k].toNat : Int) == (c.toNat : Int)) = true := by rw [hc]; simp
        have HC : Hid (k = s.size ∨ s.data.toList[k]? = some c) := .inr (by rw [List.getElem?_eq_getElem (by simpa using hlt)]; exact congrArg some hc)
        clear hc
        go_wp2_with (first
          | (at_builtin; refine wpList_append_own _ rfl _ _ 36 rfl w.heap.size 9 i0 (.string ByteArray.empty) 1 16 Tryd.underlying36 hi hz0 hz1 hz2 rfl (by decide) _ _ _ rfl (hown.alloc _) ⟨wr.heap.size, 0, none⟩ 1 1 [.string (s.extract fr k)] rfl rfl (Go.cell_one_new _ _ _) (one_cell _) (by unfold maxLen; omega) (by omega) (by simp; omega) ?_)
          | go_in)
        intro v' w1 hown' hgrow _
        have R := cut_rel HP.out HC.out rfl hown hbel hown' hgrow
        clear hown' hgrow hown hbel
        go_wp2
        go_roundw
        case rel => exact ⟨k + 1, by omega, by go_num, by rw [R.1]; go_num, R.2.1, R.2.2⟩
        case measure => simp [intOf]; omega
      · have hb : ((s[k].toNat : Int) == (c.toNat : Int)) = false := by rw [beq_eq_false_iff_ne]; intro e; exact hc (UInt8.toNat_inj.1 (by omega))
        have HR : Hid (pcs s c (k + 1) = (ps, fr)) := by
          have : pcs s c (k + 1) = pcs s c k := pcs_on (by
            rintro (h | h)
            · omega
            · rw [List.getElem?_eq_getElem (by simpa using hlt)] at h; injection h with h; exact hc h)
          exact this.trans HP.out
        clear hc
        go_wp2
        go_roundw
        case rel => exact ⟨k + 1, by omega, by go_num, by rw [HR.out], by rw [HR.out]; exact hown, hbel⟩
        case measure => simp [intOf]; omega
    · by_cases hz : k = s.size
      · have hb : ((k : Int) == (s.size : Int)) = true := by rw [hz]; simp
        have HC : Hid (k = s.size ∨ s.data.toList[k]? = some c) := .inl hz
        have h1 : k ≤ s.size := by omega
        clear hz
        go_wp2_with (first
          | (at_builtin; refine wpList_append_own _ rfl _ _ 36 rfl w.heap.size 9 i0 (.string ByteArray.empty) 1 16 Tryd.underlying36 hi hz0 hz1 hz2 rfl (by decide) _ _ _ rfl (hown.alloc _) ⟨wr.heap.size, 0, none⟩ 1 1 [.string (s.extract fr k)] rfl rfl (Go.cell_one_new _ _ _) (one_cell _) (by unfold maxLen; omega) (by omega) (by simp; omega) ?_)
          | go_in)
        intro v' w1 hown' hgrow _
        have R := cut_rel HP.out HC.out rfl hown hbel hown' hgrow
        clear hown' hgrow hown hbel
        go_wp2
        go_roundw
        case rel => exact ⟨k + 1, by omega, by go_num, by rw [R.1]; go_num, R.2.1, R.2.2⟩
        case measure => simp [intOf]; omega
      · have hk1 : k = s.size + 1 := by omega
        have HP1 : Hid (pcs s c (s.size + 1) = (ps, fr)) := by rw [← hk1]; exact HP.out
        have h2 : ¬ (k : Int) ≤ (s.size : Int) := by omega
        clear hk1
        go_wp2
        go_ret
        exact ⟨_, rfl, by rw [HP1.out]; exact hown, hbel⟩
end Go.Proofs.YtoabakgmjcnodaaDoor
