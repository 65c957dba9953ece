import Derived.Test.YtoabakgmjcnodaaLkM
namespace Go.Proofs.Ytoabakgmjcnodaa
open Go.ChangeShapes Go.WideShapes Go.ChangeAt Go.RowKit Go.Sort Go.Maps Go.Lib

theorem strCells_bsL (l : List UInt8) : Lib.strCells (bsL l) = Lib.byteCells l := rfl
/-- Everything below lo is as it was, but for block b. -/
structure Kb (lo b : Nat) (w w' : World) : Prop where
  os : w'.os = w.os
  tape : w'.tape = w.tape
  output : w'.output = w.output
  size : w.heap.size ≤ w'.heap.size
  block : ∀ q, q < lo → q ≠ b → w'.heap[q]? = w.heap[q]?
theorem Kb.refl (lo b : Nat) (w : World) : Kb lo b w w := ⟨rfl, rfl, rfl, Nat.le_refl _, fun _ _ _ => rfl⟩
theorem Kb.trans {lo b : Nat} {w w1 w2 : World} (h : Kb lo b w w1) (h2 : Kb lo b w1 w2) : Kb lo b w w2 :=
  ⟨h2.os.trans h.os, h2.tape.trans h.tape, h2.output.trans h.output, Nat.le_trans h.size h2.size, fun q h3 h4 => (h2.block q h3 h4).trans (h.block q h3 h4)⟩
theorem Kb.of_below {lo b : Nat} {w w1 : World} (h : Below lo w w1) : Kb lo b w w1 := ⟨h.os, h.tape, h.output, h.size, fun q h1 _ => h.block q h1⟩
theorem Kb.below {lo b B : Nat} {w w1 : World} (h : Kb lo b w w1) (h1 : B ≤ lo) (h2 : B ≤ b) : Below B w w1 := ⟨h.os, h.tape, h.output, h.size, fun q hq => h.block q (by omega) (by omega)⟩
set_option maxHeartbeats 2000000 in
set_option maxRecDepth 100000 in
theorem own_WriteStr (lo b : Nat) (p v : Value) (bs : List Value) (s : ByteArray) (w : World) (hb : w.heap[b]? = some (.cells #[p, v] 47 (0, 0))) (hp : p = .pointer none ∨ p = .pointer (some ⟨b, 0, none⟩)) (hown : w.ownsRow lo 5 1 v bs.length bs) (hblo : b < lo) (hlen : bs.length + s.size ≤ 140737488355328) (hlo : lo ≤ w.heap.size) :
    Calls Try.prog 23 #[.pointer (some ⟨b, 0, none⟩), .string s] w fun e w' => ∃ v', e = .returned (.tuple #[.int .i64 s.size, .nilIface]) ∧ w'.heap[b]? = some (.cells #[.pointer (some ⟨b, 0, none⟩), v'] 47 (0, 0)) ∧ w'.ownsRow lo 5 1 v' (bs.length + s.size) (bs ++ Lib.strCells s) ∧ Kb lo b w w' := by
  obtain ⟨i0, hi, hz0, hz1, hz2⟩ := info_parts infoB
  have HCK : Hid (Calls Try.prog 34 #[.pointer (some ⟨b, 0, none⟩)] w fun e w' => e = .returned (.tuple #[]) ∧ w'.heap[b]? = some (.cells #[.pointer (some ⟨b, 0, none⟩), v] 47 (0, 0)) ∧ w'.ownsRow lo 5 1 v bs.length bs ∧ Kb lo b w w') := by
    rcases hp with rfl | rfl
    · refine (own_copyFresh b w (by rw [Lib.cell_of_heap hb]; rfl) (by simp [World.shape?, hb]) (Lib.frozen_of_heap hb 0)).mono ?_
      rintro e w' ⟨rfl, rfl⟩
      refine ⟨rfl, ?_, ?_, ⟨rfl, rfl, rfl, by simp, fun q _ hq => heap_setCell_other _ _ _ _ hq⟩⟩
      · rw [heap_setCell_same w b 0 _ 47 _ hb]; rfl
      · exact ownsRow_setCell_below hown (by simpa using hblo) _
    · refine (own_copyUsed b w (by rw [Lib.cell_of_heap hb]; rfl)).mono ?_
      rintro e w' ⟨rfl, rfl⟩
      exact ⟨rfl, hb, hown, Kb.refl _ _ _⟩
  go_enter Try.func23, Try.ntmps23
  go_wp2_with fail
  refine HCK.out.mono ?_
  rintro e w1 ⟨rfl, hbk, hown1, hk1⟩
  clear hb hown HCK
  have hs1 := hk1.size
  have c0 : w1.cell? ⟨b, 0, none⟩ = some (.pointer (some ⟨b, 0, none⟩)) := by rw [Lib.cell_of_heap hbk]; rfl
  have c1 : w1.cell? ⟨b, 1, none⟩ = some v := by rw [Lib.cell_of_heap hbk]; rfl
  go_wp2_with (at_builtin; refine Lib.wpList_append_own_string _ rfl _ _ 45 9 rfl lo 5 i0 Try.underlying45 Try.underlying9 hi hz0 hz1 hz2 _ _ _ rfl hown1 s rfl ?c3 ?c4 ?c5 ?_)
  case c3 => unfold maxLen; omega
  case c4 => omega
  case c5 => omega
  intro v' w2 hown' hgrow _
  have hlt : b < w1.heap.size := blk_lt' hbk
  have hne : v.ownBlock ≠ some b := fun e => by have := (hown1.lt b e).1; omega
  have hb2 : w2.heap[b]? = some (.cells #[.pointer (some ⟨b, 0, none⟩), v] 47 (0, 0)) := by
    rw [hgrow.block b hlt (fun e => hne e.symm)]
    exact hbk
  have d0 : w2.cell? ⟨b, 0, none⟩ = some (.pointer (some ⟨b, 0, none⟩)) := by rw [Lib.cell_of_heap hb2]; rfl
  have d1 : w2.cell? ⟨b, 1, none⟩ = some v := by rw [Lib.cell_of_heap hb2]; rfl
  have f1 : w2.frozen? ⟨b, 1, none⟩ = false := Lib.frozen_of_heap hb2 1
  obtain ⟨ao, n', cap, rfl⟩ : ∃ ao n' cap, v' = .slice ao n' cap := by
    rcases hown'.2 with ⟨hv, _⟩ | ⟨g, cap, cur, hv, _⟩
    · exact ⟨_, _, _, hv⟩
    · exact ⟨_, _, _, hv⟩
  go_wp2
  go_ret2
  refine ⟨.slice ao n' cap, rfl, ?_, ?_, ?_⟩
  · rw [heap_setCell_same w2 b 1 _ 47 _ hb2]; rfl
  · exact ownsRow_setCell_below hown' (by simpa using hblo) _
  · refine hk1.trans ⟨hgrow.os, hgrow.tape, hgrow.output, ?_, fun q h1 h2 => ?_⟩
    · simp; exact hgrow.size
    · refine (heap_setCell_other _ _ _ _ h2).trans (hgrow.block q (by omega) (fun e => ?_))
      have := (hown1.lt q e.symm).1
      omega
theorem recs_all : ∀ (f : Nat) (t : List UInt8), (∀ r ∈ (recsL t f).1, r.outs.length ≤ 2 ∧ U64 r.p0 ∧ U64 r.p1) ∧ (recsL t f).1.length * 38 ≤ t.length
  | 0, t => ⟨fun r hr => by simp [recsL] at hr, by simp [recsL]⟩
  | f + 1, t => by
    rw [recsL]
    split
    · exact ⟨fun r hr => by simp at hr, by simp⟩
    · rename_i r n h
      obtain ⟨n1, n2, n3, _, n4, z0, z1, _⟩ := recL_size h
      obtain ⟨i1, i2⟩ := recs_all f (t.drop n)
      refine ⟨fun x hx => ?_, ?_⟩
      · rw [List.mem_cons] at hx
        rcases hx with rfl | hx
        · exact ⟨n4, z0, z1⟩
        · exact i1 x hx
      · rw [List.length_drop] at i2
        rw [List.length_cons]; omega
end Go.Proofs.Ytoabakgmjcnodaa
