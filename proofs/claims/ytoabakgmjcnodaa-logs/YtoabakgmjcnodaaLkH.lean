import Derived.Test.YtoabakgmjcnodaaLkG
namespace Go.Proofs.Ytoabakgmjcnodaa
open Go.ChangeShapes Go.WideShapes Go.ChangeAt Go.RowKit Go.Sort

theorem conv_row {w : World} {B : Nat} {v : Value} {l : List UInt8} (h : w.ownsRow B 5 1 v l.length (Lib.byteCells l)) (h0 : 0 < l.length) : Sem.run Try.prog (convert 45 9 v) w = .ok (.string (bsL l)) w := by
  rcases id h.2 with ⟨_, hz⟩ | ⟨g, cap, cur, e, _⟩
  · omega
  · rw [e]
    refine run_convert_bytes_back (P := Try.prog) _ 45 9 5 ⟨g, 0, none⟩ cap l Try.underlying45 Try.underlying5 Try.underlying9 (fun j hj => ?_)
    exact h.cells (g := g) (by rw [e]; rfl) _ _ (by simp [Lib.byteCells, hj])
theorem owns_below {w w1 : World} {B : Nat} {e : TypeId} {size : Nat} {v : Value} {n : Nat} {xs : List Value} (h : w.ownsRow B e size v n xs) (hb : Below w.heap.size w w1) : w1.ownsRow B e size v n xs := by
  refine ⟨h.1, ?_⟩
  rcases h.2 with hn | ⟨g, cap, cur, e, hB, hgg, rest⟩
  · exact .inl hn
  · exact .inr ⟨g, cap, cur, e, hB, (hb.block g (blk_lt' hgg)).trans hgg, rest⟩
theorem owns_new2 (w : World) (x y : Value) (t : TypeId) : (w.alloc (.cells #[x, y] t)).ownsRow w.heap.size t 1 (.slice (some ⟨w.heap.size, 0, none⟩) 2 2) 2 [x, y] :=
  ⟨rfl, .inr ⟨w.heap.size, 2, #[x, y], rfl, Nat.le_refl _, heap_alloc_new _ _, Nat.le_refl _, by decide, rfl, rfl⟩⟩

set_option maxRecDepth 10000 in
set_option maxHeartbeats 2000000 in
theorem own_Bytes (r : Rc) (vO : Value) (w : World) (hO : Ds w vO r.outs) (h0 : U64 r.p0) (h1 : U64 r.p1) (hl : r.outs.length ≤ 2) :
    Calls Try.prog 24 #[.agg #[.int .u64 (r.p0 : Nat), .int .u64 (r.p1 : Nat), vO]] w fun e w' => e = .returned (.string (bsL (toldL r))) ∧ Below w.heap.size w w' := by
  obtain ⟨p0, p1, outs⟩ := r
  simp only at hO h0 h1 hl ⊢
  obtain ⟨aO, cO, rfl, -, hU, -⟩ := id hO
  obtain ⟨W, hW⟩ : ∃ W, w.alloc (.cells #[.int .u64 (p0 : Nat), .int .u64 (p1 : Nat), .slice aO outs.length cO] 37) = W := ⟨_, rfl⟩
  have hbW : Below w.heap.size w W := by rw [← hW]; exact (Below.refl _ _).alloc (Nat.le_refl _) _
  have hWb : W.heap[w.heap.size]? = some (.cells #[.int .u64 (p0 : Nat), .int .u64 (p1 : Nat), .slice aO outs.length cO] 37 (0, 0)) := by rw [← hW]; exact heap_alloc_new w _
  have hWs := blk_lt' hWb
  have HC : Hid (∀ w', Below W.heap.size W w' → w'.cell? ⟨w.heap.size, 0, none⟩ = some (.int .u64 (p0 : Nat)) ∧ w'.cell? ⟨w.heap.size, 1, none⟩ = some (.int .u64 (p1 : Nat)) ∧ w'.cell? ⟨w.heap.size, 2, none⟩ = some (.slice aO outs.length cO)) := by
    intro w' hb
    have hB := (hb.block _ hWs).trans hWb
    refine ⟨?_, ?_, ?_⟩ <;> (rw [cell_of_row w' _ _ _ 37 (0, 0) hB]; rfl)
  obtain ⟨c0, c1, c2⟩ := HC.out W (Below.refl _ _)
  have hwl : ((outs.length : Int) % 256) = (outs.length : Int) := by omega
  have HOW : Hid ((W.alloc (.cells #[.int .u8 82, .int .u8 (outs.length : Int)] 5)).ownsRow W.heap.size 5 1 (.slice (some ⟨W.heap.size, 0, none⟩) 2 2) 2 [.int .u8 82, .int .u8 (outs.length : Int)]) := owns_new2 W _ _ _
  have HBX : Hid (Below W.heap.size W (W.alloc (.cells #[.int .u8 82, .int .u8 (outs.length : Int)] 5))) := (Below.refl _ _).alloc (Nat.le_refl _) _
  obtain ⟨X, hX⟩ : ∃ X, W.alloc (.cells #[.int .u8 82, .int .u8 (outs.length : Int)] 5) = X := ⟨_, rfl⟩
  rw [hX] at HOW HBX
  obtain ⟨x0, x1, x2⟩ := HC.out X HBX.out
  have HHD : Hid ([Value.int .u8 82, .int .u8 (outs.length : Int)] = Lib.byteCells ([82] ++ wideL outs.length 1)) := by
    rw [Hid]
    rcases (show outs.length = 0 ∨ outs.length = 1 ∨ outs.length = 2 by omega) with h | h | h <;> rw [h] <;> rfl
  have HAD : Hid (Calls Try.prog 35 #[.slice (some ⟨W.heap.size, 0, none⟩) 2 2, .agg #[.int .u64 (p0 : Nat), .int .u64 (p1 : Nat)]] X fun e w' => ∃ v', e = .returned v' ∧ w'.ownsRow W.heap.size 5 1 v' 18 (Lib.byteCells ([82] ++ wideL outs.length 1 ++ wideL p0 8 ++ wideL p1 8)) ∧ Below W.heap.size X w') := by
    have h := own_appendDigest W.heap.size _ _ (p0, p1) X HOW.out h0 h1 (by simp) HBX.out.size
    refine h.mono ?_
    rintro e w' ⟨v', rfl, ho, hb⟩
    refine ⟨v', rfl, ?_, hb⟩
    rw [HHD.out, ← bc_app] at ho
    rw [bc_len] at ho
    simp only [digL, List.length_append, wideL_len, List.length_singleton, ← List.append_assoc] at ho
    exact ho
  have HHL : Hid (([82] ++ wideL outs.length 1 ++ wideL p0 8 ++ wideL p1 8).length = 18) := by rw [Hid]; simp [wideL_len]
  have HTO : Hid (toldL ⟨p0, p1, outs⟩ = ([82] ++ wideL outs.length 1 ++ wideL p0 8 ++ wideL p1 8) ++ outsL outs ++ wideL (sealL (([82] ++ wideL outs.length 1 ++ wideL p0 8 ++ wideL p1 8) ++ outsL outs)) 4) := rfl
  generalize [82] ++ wideL outs.length 1 ++ wideL p0 8 ++ wideL p1 8 = HD at *
  go_enter Try.func24, Try.ntmps24
  go_wp2_with fail
  refine HAD.out.mono ?_
  rintro e Y ⟨v, rfl, hownY, hbXY⟩
  have hbWY := HBX.out.trans hbXY
  clear hW hX x0 x1 x2 c0 c1 c2 HOW HAD HHD
  obtain ⟨y0, y1, y2⟩ := HC.out Y hbWY
  obtain ⟨ay, cy, huy⟩ := owns_shape' hownY
  subst huy
  have HOY : Hid (Y.ownsRow W.heap.size 5 1 (.slice ay 18 cy) 18 (Lib.byteCells HD)) := hownY
  have HDS : Hid (Ds w (.slice aO outs.length cO) outs) := hO
  clear hO hownY
  go_wp2_with fail
  go_loopw [3, 5, 18] (fun u _ i wr => ∃ k : Nat, k ≤ outs.length ∧ i = .int .i64 k ∧ wr.ownsRow W.heap.size 5 1 u (18 + 16 * k) (Lib.byteCells (HD ++ outsL (outs.take k))) ∧ Below W.heap.size W wr) (fun _ _ i _ => outs.length - (intOf i).toNat)
  case atStart => exact ⟨0, Nat.zero_le _, rfl, by simpa [outsL] using HOY.out, hbWY⟩
  case round =>
    clear hbWY hbXY y0 y1 y2
    obtain ⟨k, hk, rfl, hown, hbr⟩ := hrel
    obtain ⟨c0, c1, c2⟩ := HC.out wr hbr
    obtain ⟨az, cz, huz⟩ := owns_shape' hown
    subst huz
    have hbs := hbr.size
    have hLen : ∀ k, k ≤ outs.length → (HD ++ outsL (outs.take k)).length = 18 + 16 * k := fun k hk => by
      rw [List.length_append, HHL.out, outsL_len, List.length_take]; omega
    have HLen : Hid (∀ k, k ≤ outs.length → (HD ++ outsL (outs.take k)).length = 18 + 16 * k) := hLen
    clear hLen
    by_cases hlt : k < outs.length
    · obtain ⟨bo, fo, hae, e0, e1⟩ := ds_at (HDS.out.below (hbW.trans (hbr.mono hbW.size))) hlt
      subst hae
      obtain ⟨u0, u1⟩ := hU _ (List.getElem_mem hlt)
      have HNX : Hid (HD ++ outsL (outs.take (k + 1)) = (HD ++ outsL (outs.take k)) ++ digL outs[k]) := by rw [Hid, List.take_succ_eq_append_getElem hlt, outsL_snoc, List.append_assoc]; rfl
      have HCA : Hid (∀ w1, w1.ownsRow W.heap.size 5 1 (.slice az (18 + 16 * k) cz) (18 + 16 * k) (Lib.byteCells (HD ++ outsL (outs.take k))) → W.heap.size ≤ w1.heap.size → Calls Try.prog 35 #[.slice az (18 + 16 * k) cz, .agg #[.int .u64 (outs[k].1 : Nat), .int .u64 (outs[k].2 : Nat)]] w1 fun e w' => ∃ v', e = .returned v' ∧ w'.ownsRow W.heap.size 5 1 v' (18 + 16 * (k + 1)) (Lib.byteCells (HD ++ outsL (outs.take (k + 1)))) ∧ Below W.heap.size w1 w') := by
        intro w1 ho hB
        have hll : (Lib.byteCells (HD ++ outsL (outs.take k))).length = 18 + 16 * k := by rw [bc_len, HLen.out k hk]
        have h := own_appendDigest W.heap.size (.slice az (18 + 16 * k) cz) (Lib.byteCells (HD ++ outsL (outs.take k))) outs[k] w1 (by rw [hll]; exact ho) u0 u1 (by rw [hll]; omega) hB
        refine h.mono ?_
        rintro e w' ⟨v', rfl, ho, hb⟩
        refine ⟨v', rfl, ?_, hb⟩
        rw [HNX.out, bc_app]
        rw [hll] at ho
        exact ho
      have HN : Hid (wr.ownsRow W.heap.size 5 1 (.slice az (18 + 16 * k) cz) (18 + 16 * k) (Lib.byteCells (HD ++ outsL (outs.take k)))) := hown
      clear hown HNX
      generalize outs[k] = d at *
      obtain ⟨x0, x1⟩ := d
      simp only at e0 e1 u0 u1 HCA
      go_wp2_with fail
      refine (HCA.out _ (HN.out.alloc _) (by simp; omega)).mono ?_
      rintro e w2 ⟨v', rfl, hown2, hb2⟩
      have HB2 : Hid (Below W.heap.size W w2) := (hbr.alloc hbs _).trans hb2
      have HO2 : Hid _ := hown2
      clear hown2 hb2
      go_wp2
      go_roundw
      case rel => exact ⟨k + 1, by omega, by go_num, HO2.out, HB2.out⟩
      case measure => simp [intOf]; omega
    · have HK : Hid (outs.take k = outs) := List.take_of_length_le (by omega)
      rw [HK.out] at hown
      have hln : (HD ++ outsL outs).length = 18 + 16 * k := by have := HLen.out k hk; rw [HK.out] at this; exact this
      have hcv := conv_row (w := wr) (B := W.heap.size) (v := .slice az (18 + 16 * k) cz) (l := HD ++ outsL outs) (by rw [hln]; exact hown) (by omega)
      have HSL : Hid (∀ w, Calls Try.prog 37 #[.string (bsL (HD ++ outsL outs))] w fun e w' => e = .returned (.int .u32 (sealL (HD ++ outsL outs) : Nat)) ∧ Below w.heap.size w w') := by
        intro w
        have h := own_seal (bsL (HD ++ outsL outs)) w (by rw [bsL_size]; unfold maxLen; omega)
        have hdl : (bsL (HD ++ outsL outs)).data.toList = HD ++ outsL outs := by simp [bsL]
        rw [hdl] at h
        exact h
      have hs4 := seal_lt (HD ++ outsL outs)
      have HAN : Hid (∀ w1, w1.ownsRow W.heap.size 5 1 (.slice az (18 + 16 * k) cz) (18 + 16 * k) (Lib.byteCells (HD ++ outsL outs)) → W.heap.size ≤ w1.heap.size → Calls Try.prog 36 #[.slice az (18 + 16 * k) cz, .int .u64 (sealL (HD ++ outsL outs) : Nat), .int .i64 4] w1 fun e w' => ∃ a c, e = .returned (.slice a (toldL ⟨p0, p1, outs⟩).length c) ∧ w'.ownsRow W.heap.size 5 1 (.slice a (toldL ⟨p0, p1, outs⟩).length c) (toldL ⟨p0, p1, outs⟩).length (Lib.byteCells (toldL ⟨p0, p1, outs⟩)) ∧ Below W.heap.size w1 w') := by
        intro w1 ho hB
        have hll : (Lib.byteCells (HD ++ outsL outs)).length = 18 + 16 * k := by rw [bc_len, hln]
        have h := own_appendNumber W.heap.size (.slice az (18 + 16 * k) cz) (Lib.byteCells (HD ++ outsL outs)) (sealL (HD ++ outsL outs)) 4 w1 (by rw [hll]; exact ho) (by unfold U64; omega) (by omega) (by rw [hll]; omega) hB
        refine h.mono ?_
        rintro e w' ⟨v', rfl, ho, hb⟩
        have hl2 : (toldL ⟨p0, p1, outs⟩).length = 18 + 16 * k + 4 := by rw [HTO.out, List.length_append, hln, wideL_len]
        rw [hll, ← hl2, ← bc_app, ← HTO.out] at ho
        obtain ⟨a, c, rfl⟩ := owns_shape' ho
        exact ⟨a, c, rfl, ho, hb⟩
      have HTL : Hid (0 < (toldL ⟨p0, p1, outs⟩).length) := by rw [Hid, told_len]; omega
      have HN : Hid (wr.ownsRow W.heap.size 5 1 (.slice az (18 + 16 * k) cz) (18 + 16 * k) (Lib.byteCells (HD ++ outsL outs))) := hown
      clear hown HTO hln HLen
      generalize sealL (HD ++ outsL outs) = S at *
      obtain ⟨TL, hTL⟩ : ∃ TL, toldL ⟨p0, p1, outs⟩ = TL := ⟨_, rfl⟩
      have HTT : Hid (toldL ⟨p0, p1, outs⟩ = TL) := hTL
      rw [hTL] at HAN HTL
      clear hTL
      generalize bsL (HD ++ outsL outs) = BL at *
      go_wp2_with fail
      refine (HSL.out _).mono ?_
      rintro e w2 ⟨rfl, hb2⟩
      have hwS : IntKind.u64.wrap (S : Int) = (S : Int) := by rw [IntKind.wrap_u64]; omega
      go_wp2_with fail
      refine (HAN.out _ (owns_below HN.out hb2) (by have := hb2.size; omega)).mono ?_
      rintro e w3 ⟨a3, c3, rfl, ho3, hb3⟩
      have hcv3 := conv_row ho3 HTL.out
      have hbA := hbW.trans ((hbr.trans ((hb2.mono hbs).trans hb3)).mono hbW.size)
      go_wp2
      go_ret
      exact ⟨by rw [HTT.out]; rfl, hbA⟩
end Go.Proofs.Ytoabakgmjcnodaa
