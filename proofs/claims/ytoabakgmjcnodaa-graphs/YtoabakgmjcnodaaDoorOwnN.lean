import Derived.Test.YtoabakgmjcnodaaDoorOwnI
import Derived.Test.YtoabakgmjcnodaaDoorOwnK
namespace Go.Proofs.YtoabakgmjcnodaaDoor
open Go.ChangeShapes Go.WideShapes Go.ChangeAt Go.RowKit

/-- The numbers of those that an input more makes one wait for. -/
def waitStep (cl : List (ByteArray × Nat)) (acc : List Nat) (x : ByteArray) : List Nat := match claimOf cl x with
  | none => acc
  | some m => if acc.contains m = true then acc else acc ++ [m]
def waitRun (cl : List (ByteArray × Nat)) (ins : List ByteArray) : List Nat := ins.foldl (waitStep cl) []
def ownWaits (S : OS) : List (List Nat) := S.tasks.map fun t => waitRun S.claims t.ins
theorem waitRun_succ {cl : List (ByteArray × Nat)} {ins : List ByteArray} {k : Nat} (hk : k < ins.length) : waitRun cl (ins.take (k + 1)) = waitStep cl (waitRun cl (ins.take k)) ins[k] := by
  unfold waitRun; rw [List.take_succ_eq_append_getElem hk, List.foldl_append]; rfl
theorem waitStep_len (cl : List (ByteArray × Nat)) (acc : List Nat) (x : ByteArray) : (waitStep cl acc x).length ≤ acc.length + 1 := by
  unfold waitStep; split
  · omega
  · split <;> simp
theorem waitRun_len (cl : List (ByteArray × Nat)) (ins : List ByteArray) : (waitRun cl ins).length ≤ ins.length := by
  have : ∀ (l : List ByteArray) (acc : List Nat), (l.foldl (waitStep cl) acc).length ≤ acc.length + l.length := by
    intro l
    induction l with
    | nil => intro acc; simp
    | cons x r ih =>
      intro acc
      have h1 := waitStep_len cl acc x
      have h2 := ih (waitStep cl acc x)
      simp only [List.foldl_cons, List.length_cons]; omega
  have h := this ins []
  simpa [waitRun] using h

theorem own_Contains (v : Value) (l : List Nat) (x : Nat) (w : World) (hv : Ints w v l) (hn : l.length ≤ 4000) :
    Calls Tryd.prog 43 #[v, .int .i64 x] w fun e w' => e = .returned (.bool (l.contains x)) ∧ w' = w := by
  obtain ⟨a, c, rfl, _, h | ⟨b, off, rfl, hc⟩⟩ := hv
  · subst h; exact Tryd.slices_Contains_int_empty a c x w
  · have h := Tryd.slices_Contains_int b off l.length c (l.map fun (n : Nat) => (n : Int)) x w (by simp) (by omega) (fun j hj => by
      rw [List.length_map] at hj
      rw [hc j hj]; simp [hj])
    have e : ((l.map fun (n : Nat) => (n : Int)).take l.length).contains (x : Int) = l.contains x := by
      rw [List.take_of_length_le (by simp), Bool.eq_iff_iff]
      simp only [List.contains_iff_mem, List.mem_map]
      exact ⟨fun ⟨a, h1, h2⟩ => by rw [show x = a by omega]; exact h1, fun h => ⟨x, h, rfl⟩⟩
    rw [e] at h
    exact h

theorem OPlan.cell {w : World} {rb mb : Nat} {M : Nat → Prop} {S : OS} {vP vT : Value} {cP cT : List Value} {D : DataW Unit} (R : OPlan w rb mb M S vP vT cP cT D) {i : Nat} (hi : i < S.tasks.length) :
    ∃ g c, vT = .slice (some ⟨g, 0, none⟩) S.tasks.length c ∧ g < w.heap.size ∧ ∀ j u, cT[j]? = some u → w.cell? ⟨g, j, none⟩ = some u := by
  rcases R.tasks.2 with ⟨e, h0⟩ | ⟨g, cap, cur, e, _⟩
  · omega
  · refine ⟨g, cap, e, (R.tasks.lt g (by rw [e]; rfl)).2, fun j u hu => ?_⟩
    have := R.tasks.cells (g := g) (by rw [e]; rfl) j u hu
    rwa [addr_add] at this

theorem Strs.shape {w : World} {v : Value} {ss : List ByteArray} (h : Strs w v ss) : ∃ a c, v = .slice a ss.length c := by
  obtain ⟨a, c, h, _⟩ := h; exact ⟨a, c, h⟩
/-- The rows of numbers as they are filled. -/
structure NRows (w : World) (ab n : Nat) (vs : Nat → Value) (ls : Nat → List Nat) : Prop where
  row : w.rowIs ab 29 n vs
  own : ∀ i, i < n → w.ownsRow (ab + 1) 3 1 (vs i) (ls i).length ((ls i).map fun (n : Nat) => Value.int .i64 (n : Int))
  apart : ∀ i j k, i < n → j < n → i ≠ j → (vs i).ownBlock = some k → (vs j).ownBlock ≠ some k
theorem NRows.block {w w1 : World} {ab n : Nat} {vs : Nat → Value} {ls : Nat → List Nat} (h : NRows w ab n vs ls) (hb : ∀ k, k < w.heap.size → ab ≤ k → w1.heap[k]? = w.heap[k]?) : NRows w1 ab n vs ls := by
  refine ⟨h.row.of_block (hb ab h.row.lt (Nat.le_refl _)), fun i hi => ?_, h.apart⟩
  have ho := h.own i hi
  refine ⟨ho.1, ?_⟩
  rcases ho.2 with hn | ⟨g, cap, cur, e, hb1, hgg, rest⟩
  · exact .inl hn
  · exact .inr ⟨g, cap, cur, e, hb1, (hb g (Array.getElem?_eq_some_iff.1 hgg).1 (by omega)).trans hgg, rest⟩
theorem NRows.put {w w1 Wb : World} {ab n k : Nat} {vs : Nat → Value} {ls : Nat → List Nat} {gg cap m : Nat} (h : NRows w ab n vs ls) (hk : k < n) (hWb : Below w.heap.size w Wb)
    (hown : w1.ownsRow (ab + 1) 3 1 (.slice (some ⟨gg, 0, none⟩) ((ls k).length + 1) cap) ((ls k).length + 1) (((ls k).map fun (n : Nat) => Value.int .i64 (n : Int)) ++ [.int .i64 (m : Nat)]))
    (hg : Wb.grownBy w1 (vs k).ownBlock) (hat : (vs k).ownBlock = some gg ∨ w.heap.size ≤ gg) :
    NRows (w1.setCell ⟨ab, k, none⟩ (.slice (some ⟨gg, 0, none⟩) ((ls k).length + 1) cap)) ab n (fun i => if i = k then .slice (some ⟨gg, 0, none⟩) ((ls k).length + 1) cap else vs i) (fun i => if i = k then ls k ++ [m] else ls i) := by
  have hbs := hWb.size
  have hb : ∀ j, j < w.heap.size → (vs k).ownBlock ≠ some j → w1.heap[j]? = w.heap[j]? := fun j hj hne => (hg.block j (by omega) (fun e => hne e.symm)).trans (hWb.block j hj)
  have hrow1 : w1.rowIs ab 29 n vs := h.row.of_block (hb ab h.row.lt (fun e => by have := ((h.own k hk).lt ab e).1; omega))
  have hne : ∀ i, i < n → i ≠ k → ∀ j, (vs i).ownBlock = some j → j ≠ gg := by
    intro i hi hik j hj e
    rcases hat with h1 | h1
    · exact h.apart i k j hi hk hik hj (by rw [h1, e])
    · have := ((h.own i hi).lt j hj).2; omega
  refine ⟨hrow1.set k _, fun i hi => ?_, fun i j q hi hj hij hq => ?_⟩
  · refine ownsRow_setCell_below ?_ (by simp) _
    by_cases e : i = k
    · subst e; simp only [if_true]; simpa using hown
    · simp only [e, if_false]
      have ho := h.own i hi
      refine ⟨ho.1, ?_⟩
      rcases ho.2 with hn | ⟨g, cap, cur, e1, hb1, hgg, rest⟩
      · exact .inl hn
      · exact .inr ⟨g, cap, cur, e1, hb1, (hb g (Array.getElem?_eq_some_iff.1 hgg).1 (fun e2 => h.apart i k g hi hk e (by rw [e1]; rfl) e2)).trans hgg, rest⟩
  · by_cases e : i = k
    · subst e
      simp only [if_true, Value.ownBlock] at hq
      rw [if_neg (fun e => hij e.symm)]
      intro hq2
      have : gg = q := by simpa using hq
      exact hne j hj (fun e => hij e.symm) q hq2 this.symm
    · rw [if_neg e] at hq
      by_cases e2 : j = k
      · subst e2
        rw [if_pos rfl]
        intro hq2
        have : gg = q := by simpa [Value.ownBlock] using hq2
        exact hne i hi e q hq this.symm
      · rw [if_neg e2]; exact h.apart i j q hi hj hij hq

set_option maxRecDepth 10000 in
set_option maxHeartbeats 4000000 in
theorem own_waits (w : World) (rb mb : Nat) (M : Nat → Prop) (S : OS) (vP vT : Value) (cP cT : List Value) (D : DataW Unit) (R : OPlan w rb mb M S vP vT cP cT D) :
    Calls Tryd.prog 27 #[.pointer (some ⟨rb, 0, none⟩)] w fun e w' => e = .returned (.slice (some ⟨w.heap.size, 0, none⟩) S.tasks.length S.tasks.length) ∧ Below w.heap.size w w' ∧
      ∃ vs ls, NRows w' w.heap.size S.tasks.length vs ls ∧ ∀ i t, S.tasks[i]? = some t → ls i = waitRun S.claims t.ins := by
  obtain ⟨i3, hj, hy0, hy1, hy2⟩ := info_parts Tryd.info3
  have hfew := R.few.1
  have hmk := run_make_row' (P := Tryd.prog) 47 29 (.slice none 0 0) 24 Tryd.underlying47 (by kernel_rfl) rfl .i64 .i64 S.tasks.length (by omega) (by omega)
  obtain ⟨n, hn⟩ : ∃ n, S.tasks.length = n := ⟨_, rfl⟩
  have HN : Hid (S.tasks.length = n) := hn
  obtain ⟨aT, qT, hvT⟩ := owns_shape R.tasks
  have HVT : Hid (vT = .slice aT S.tasks.length qT) := hvT
  obtain ⟨p0, p1, p2, pf⟩ := three R.blk
  rw [hvT] at p1
  have hrl := blk_lt R.blk
  rw [hn] at hmk hfew p1 ⊢
  have HR : Hid (OPlan w rb mb M S vP vT cP cT D) := R
  clear hn hvT R
  go_enter Tryd.func27, Tryd.ntmps27
  go_wp2
  go_loopw [4, 5, 7, 8, 9, 21] (fun _ _ _ _ _ i wr => ∃ (k : Nat) (vs : Nat → Value) (ls : Nat → List Nat), k ≤ n ∧ i = .int .i64 k ∧ NRows wr w.heap.size n vs ls ∧ (∀ i t, i < k → S.tasks[i]? = some t → ls i = waitRun S.claims t.ins) ∧ (∀ i, k ≤ i → i < n → ls i = []) ∧ Below w.heap.size w wr)
    (fun _ _ _ _ _ i _ => n - (intOf i).toNat)
  case atStart =>
    refine ⟨0, fun _ => .slice none 0 0, fun _ => [], Nat.zero_le _, rfl, ⟨World.rowIs_made _ _ _ _, fun i _ => ⟨rfl, .inl ⟨rfl, rfl⟩⟩, fun i j k _ _ _ h => by simp [Value.ownBlock] at h⟩, fun i t h => by omega, fun _ _ _ => rfl, (Below.refl _ _).alloc (Nat.le_refl _) _⟩
  case round =>
    obtain ⟨k, vs, ls, hk, rfl, hrows, hdone, hleft, hbel⟩ := hrel
    have HD : Hid (∀ i t, i < k → S.tasks[i]? = some t → ls i = waitRun S.claims t.ins) := hdone
    have HL : Hid (∀ i, k ≤ i → i < n → ls i = []) := hleft
    clear hdone hleft
    have q1 := (hbel.cell (p := ⟨rb, 1, none⟩) hrl).trans p1
    by_cases hlt : k < n
    · have R1 := HR.out
      have hkl : k < S.tasks.length := by rw [HN.out]; exact hlt
      obtain ⟨vO, vI, T⟩ := R1.each k hkl
      obtain ⟨gT, cQ, hvT2, hgl, hcs⟩ := R1.cell hkl
      have hgT : aT = some ⟨gT, 0, none⟩ := by have h := HVT.out; rw [hvT2] at h; injection h with h _ _; exact h.symm
      subst hgT
      have hcs2 : ∀ j u, cT[j]? = some u → wr.cell? ⟨gT, j, none⟩ = some u := fun j u hu => (hbel.cell (p := ⟨gT, j, none⟩) hgl).trans (hcs j u hu)
      have c0 := hcs2 _ _ T.c0
      have c1 := hcs2 _ _ T.c1
      have c2 := hcs2 _ _ T.c2
      have c3 := hcs2 _ _ T.c3
      have c4 := hcs2 _ _ T.c4
      have c5 := hcs2 _ _ T.c5
      have hsO := T.outs
      obtain ⟨aO, qO, hvO⟩ := hsO.shape
      have hsI := T.ins
      have hlI := T.lI
      have hzI := T.sI
      obtain ⟨t, ht⟩ : ∃ t, S.tasks[k] = t := ⟨_, rfl⟩
      have HT : Hid (S.tasks[k]? = some t) := by rw [← ht]; exact List.getElem?_eq_getElem hkl
      rw [ht] at c2 c3 c4 c5 hvO hsI hlI hzI
      clear hsO
      obtain ⟨outs, act, ins, cost, jobs, pool⟩ := t
      simp only at c2 c3 c4 c5 hvO hsI hlI hzI
      subst hvO
      obtain ⟨aI, qI, rfl⟩ := hsI.shape
      have HZI : Hid (∀ x ∈ ins, x.size ≤ 2000) := hzI
      have HSI : Hid (Strs w (.slice aI ins.length qI) ins) := hsI
      clear ht T hcs hcs2 R1 hvT2 hkl hzI hsI
      go_wp2
      go_loopw [7, 8, 9, 29] (fun _ _ _ i wm => ∃ (m : Nat) (vs : Nat → Value) (ls : Nat → List Nat), m ≤ ins.length ∧ i = .int .i64 m ∧ NRows wm w.heap.size n vs ls ∧ (∀ i t, i < k → S.tasks[i]? = some t → ls i = waitRun S.claims t.ins) ∧ ls k = waitRun S.claims (ins.take m) ∧ (∀ i, k < i → i < n → ls i = []) ∧ Below w.heap.size w wm)
        (fun _ _ _ i _ => ins.length - (intOf i).toNat)
      case atStart =>
        exact ⟨0, vs, ls, Nat.zero_le _, rfl, hrows.block (fun q hq _ => Below.heap_alloc _ _ _ hq), HD.out, by rw [HL.out k (Nat.le_refl _) hlt]; rfl, fun i hi => HL.out i (by omega), hbel.alloc hbel.size _⟩
      case round =>
        clear hrows HD HL hbel c0 c1 c2 c3 c4 c5 q1 vs ls
        obtain ⟨m, vs, ls, hm, rfl, hrows, hdone, hcur, hleft, hbel⟩ := hrel
        have HD : Hid (∀ i t, i < k → S.tasks[i]? = some t → ls i = waitRun S.claims t.ins) := hdone
        have HL : Hid (∀ i, k < i → i < n → ls i = []) := hleft
        have HC : Hid (ls k = waitRun S.claims (ins.take m)) := hcur
        have hlk : (ls k).length ≤ 4000 := by
          have h1 := waitRun_len S.claims (ins.take m)
          have h2 : (ins.take m).length ≤ m := List.length_take_le _ _
          rw [hcur]; omega
        clear hdone hleft hcur
        by_cases hlm : m < ins.length
        · obtain ⟨b, off, hx, hc⟩ := strs_at (HSI.out.below hbel) hlm
          subst hx
          have hxs := HZI.out _ (List.getElem_mem hlm)
          obtain ⟨x, hx⟩ : ∃ x, ins[m] = x := ⟨_, rfl⟩
          have HST : Hid (waitRun S.claims (ins.take (m + 1)) = waitStep S.claims (ls k) x) := by rw [← hx, HC.out]; exact waitRun_succ hlm
          rw [hx] at hc hxs
          clear hx
          have q2 := (hbel.cell (p := ⟨rb, 2, none⟩) hrl).trans p2
          have R1 := HR.out.same hbel
          have hkey : keyOf Tryd.prog 9 (.string x) = some (.string x.data.toList) := WideMaps.keyOf_string_mk Tryd.underlying9 (by unfold maxLen; omega)
          have hK := Maps.string_keyed (P := Tryd.prog) Tryd.underlying9
          have hkx := R1.keys.2 x
          obtain ⟨cv, ps, hlook, hcv⟩ := R1.map.look_ok hK Tryd.underlying63 (Tryd.zeroValue3 wr) (plainElem_int Tryd.underlying3 (by decide)) hkey
          obtain ⟨cn, rfl, hcn, _⟩ := plainElem_int_inv Tryd.underlying3 hcv
          rw [hkx.1] at hlook
          cases hco : claimOf S.claims x with
          | none =>
            rw [hco] at hlook
            simp only [Option.isSome_none] at hlook
            have HS2 : Hid (waitRun S.claims (ins.take (m + 1)) = ls k) := by rw [HST.out]; simp only [Hid, waitStep, hco]
            clear hkx hkey hcv hcn hco HST R1
            go_wp2
            go_roundw
            case rel => exact ⟨m + 1, vs, ls, by omega, by go_num, hrows, HD.out, HS2.out.symm, HL.out, hbel⟩
            case measure => simp [intOf]; omega
          | some mk =>
            rw [hco] at hlook
            simp only [Option.isSome_some] at hlook
            have hcm : cn = (mk : Int) := by
              have h1 := hkx.2 mk hco
              rw [h1] at hcn
              injection hcn with h2 _; injection h2 with h2; injection h2 with _ h2; exact h2.symm
            subst hcm
            have hrk := hrows.row.cell hlt
            have hfk := hrows.row.frozen k
            have hok := hrows.own k hlt
            obtain ⟨aK, cK, hvk⟩ := owns_shape hok
            have HVK : Hid (vs k = .slice aK (ls k).length cK) := hvk
            rw [hvk] at hrk hok
            have hCN := own_Contains _ (ls k) mk wr (Ints.owned hok) hlk
            obtain ⟨cb, hcb⟩ : ∃ cb, (ls k).contains mk = cb := ⟨_, rfl⟩
            rw [hcb] at hCN
            have HCN : Hid (Calls Tryd.prog 43 #[.slice aK (ls k).length cK, .int .i64 mk] wr fun e w' => e = .returned (.bool cb) ∧ w' = wr) := hCN
            clear hCN hvk
            cases cb
            · have HS2 : Hid (waitRun S.claims (ins.take (m + 1)) = ls k ++ [mk]) := by rw [HST.out]; simp only [Hid, waitStep, hco, hcb]; rfl
              clear hkx hkey hcv hcn hco hcb HST R1
              have hal := hrows.row.lt
              have hne1 : some w.heap.size ≠ (Value.slice aK (ls k).length cK).ownBlock := fun e => by have := (hok.lt w.heap.size e.symm).1; omega
              have hqf : ∀ o, (wr.alloc o).frozen? ⟨w.heap.size, k, none⟩ = false := fun o => (World.frozen?_of_block (Below.heap_alloc _ _ _ hal)).trans hfk
              have hqc : ∀ o, (wr.alloc o).cell? ⟨w.heap.size, k, none⟩ = some (.slice aK (ls k).length cK) := fun o => (World.cell?_of_block (Below.heap_alloc _ _ _ hal)).trans hrk
              have hbs := hbel.size
              go_wp2_with (first
                | (go_at_call 43; refine HCN.out.mono ?_; rintro e w1 ⟨rfl, hw⟩; subst hw)
                | (at_builtin; (refine wpList_append_lies _ rfl _ _ 29 rfl (w.heap.size + 1) 3 i3 _ 1 8 Tryd.underlying29 hj hy0 hy1 hy2 rfl (by decide) (.slice aK (ls k).length cK) (ls k).length ((ls k).map fun (n : Nat) => Value.int .i64 (n : Int)) rfl (hok.alloc _) ⟨w1.heap.size, 0, none⟩ 1 1 [.int .i64 mk] rfl rfl (Go.cell_one_new _ _ _) (by simp [Value.oneCell']) (by omega) (by unfold maxLen; omega) (by omega) (by simp; omega) (w1.heap.size + 1) (by simp) ?_); intro gg cap w2 hown3 hgrow hat hlt3; have hfz : w2.frozen? ⟨w.heap.size, k, none⟩ = false := (hgrow.frozen_far _ (by simp; omega) hne1).trans (hqf _); have hcz : w2.cell? ⟨w.heap.size, k, none⟩ = some (.slice aK (ls k).length cK) := (hgrow.cell_far _ (by simp; omega) hne1).trans (hqc _)))
              have hput := hrows.put hlt ((Below.refl _ _).alloc (Nat.le_refl _) (.cells #[.int .i64 mk] 3)) hown3 (by rw [HVK.out]; exact hgrow) (by rw [HVK.out]; exact hat.imp id (fun h => by omega))
              go_roundw
              case rel =>
                refine ⟨m + 1, _, _, by omega, by go_num, hput, fun i t hi ht => ?_, ?_, fun i hi hin => ?_, ?_⟩
                · simp only [show i ≠ k by omega, if_false]; exact HD.out i t hi ht
                · simp only [if_true]; exact HS2.out.symm
                · simp only [show i ≠ k by omega, if_false]; exact HL.out i hi hin
                · refine Below.setCell (((hbel.alloc hbs _).grown hgrow (by simp; omega) (fun q hq => ?_))) (Nat.le_refl _) _
                  have := (hok.lt q hq).1; omega
              case measure => simp [intOf]; omega
            · have HS2 : Hid (waitRun S.claims (ins.take (m + 1)) = ls k) := by rw [HST.out]; simp only [Hid, waitStep, hco, hcb]; rfl
              clear hkx hkey hcv hcn hco hcb HST R1
              go_wp2_with (go_at_call 43; refine HCN.out.mono ?_; rintro e w1 ⟨rfl, hw⟩; subst hw)
              go_roundw
              case rel => exact ⟨m + 1, vs, ls, by omega, by go_num, hrows, HD.out, HS2.out.symm, HL.out, hbel⟩
              case measure => simp [intOf]; omega
        · have HE : Hid (ls k = waitRun S.claims ins) := by show ls k = _; rw [HC.out, List.take_of_length_le (by omega)]
          go_wp2
          go_roundw
          case rel =>
            refine ⟨k + 1, vs, ls, by omega, by go_num, hrows, fun i t hi ht => ?_, fun i hi => HL.out i (by omega), hbel⟩
            by_cases e : i = k
            · subst e
              have h := HT.out
              rw [ht] at h; injection h with h; rw [h]; exact HE.out
            · exact HD.out i t (by omega) ht
          case measure => simp [intOf]; omega
    · have HE : Hid (k = n) := by show k = n; omega
      go_wp2
      go_ret
      exact ⟨rfl, hbel, vs, ls, hrows, fun i t ht => HD.out i t (by rw [HE.out, ← HN.out]; exact (List.getElem?_eq_some_iff.1 ht).1) ht⟩
end Go.Proofs.YtoabakgmjcnodaaDoor
