import Derived.Test.YtoabakgmjcnodaaLkC
import Derived.Test.YtoabakgmjcnodaaLgG
import Derived.Test.YtoabakgmjcnodaaLgW
namespace Go.Proofs.Ytoabakgmjcnodaa
open Go.ChangeShapes Go.WideShapes Go.ChangeAt Go.RowKit
set_option maxRecDepth 10000 in
set_option maxHeartbeats 4000000 in
theorem own_Read (s : ByteArray) (w : World) (hs : s.size ≤ 140737488351232) :
    Calls Try.prog 17 #[.string s] w fun e w' => ∃ v cs, e = .returned (.tuple #[v, .int .i64 ((recsL s.data.toList (s.size + 1)).2 : Nat)]) ∧ RsAt w' w.heap.size v cs (recsL s.data.toList (s.size + 1)).1 ∧ Below w.heap.size w w' := by
  obtain ⟨iR, hiR, hR0, hR1, hR2⟩ := info_parts Try.infoRc
  obtain ⟨F, hF⟩ : ∃ F, recsL s.data.toList (s.size + 1) = F := ⟨_, rfl⟩
  have HF : Hid (recsL s.data.toList (s.size + 1) = F) := hF
  rw [hF]
  clear hF
  go_enter Try.func17, Try.ntmps17
  go_wp2_with fail
  go_loopw [4, 5, 6, 7] (fun v i _ _ wr => ∃ (p f : Nat) (done : List Rc) (cs : List Value), i = .int .i64 p ∧ p ≤ s.size ∧ s.size - p < f ∧ done.length * 38 ≤ p ∧ F = (done ++ (recsL (s.data.toList.drop p) f).1, p + (recsL (s.data.toList.drop p) f).2) ∧ RsAt wr w.heap.size v cs done ∧ Below w.heap.size w wr) (fun _ i _ _ _ => s.size - (intOf i).toNat)
  case atStart => exact ⟨0, s.size + 1, [], [], rfl, Nat.zero_le _, by omega, by simp, by rw [List.drop_zero, ← HF.out]; simp, RsAt.nil _ _, Below.refl _ _⟩
  case round =>
    obtain ⟨p, f, done, cs, rfl, hp, hf, hdn, hFF, hRs, hbel⟩ := hrel
    have hbs := hbel.size
    have HFF : Hid (F = (done ++ (recsL (s.data.toList.drop p) f).1, p + (recsL (s.data.toList.drop p) f).2)) := hFF
    clear hFF
    obtain ⟨av, cv, hv⟩ := owns_shape' hRs.own
    subst hv
    obtain ⟨f, rfl⟩ : ∃ g, f = g + 1 := ⟨f - 1, by omega⟩
    have CR := own_first (s.extract p s.size) wr (by rw [ByteArray.size_extract]; omega)
    have hxl : (s.extract p s.size).data.toList = s.data.toList.drop p := by
      rw [ext_list]
      exact List.take_of_length_le (by rw [List.length_drop]; simp)
    rw [hxl] at CR
    clear hxl
    have hsf := str_from s p hp hs
    generalize s.extract p s.size = SP at *
    obtain ⟨o, ho⟩ : ∃ o, recL (s.data.toList.drop p) = o := ⟨_, rfl⟩
    rw [ho] at CR
    have HCR : Hid (Calls Try.prog 27 #[.string SP] wr fun e w' => RecPost wr w' e o) := CR
    have HO : Hid (recL (s.data.toList.drop p) = o) := ho
    clear CR ho
    cases o with
    | none =>
      have HE : Hid (F = (done, p)) := by
        rw [Hid, HFF.out, recsL, HO.out]; simp
      go_wp2_with fail
      refine HCR.out.mono ?_
      rintro e w1 ⟨rfl, hb1⟩
      have hbb := hbel.trans (hb1.mono hbs)
      have hRs1 := hRs.below hb1
      go_wp2
      go_ret2
      rw [HE.out]
      exact ⟨_, cs, rfl, hRs1.below ((Below.refl _ _).alloc (Nat.le_refl _) _), hbb.alloc hbb.size _⟩
    | some rn =>
      obtain ⟨r, n⟩ := rn
      obtain ⟨n1, n2, n3, n5, n4, z0, z1, z2⟩ := recL_size HO.out
      have hnl : p + n ≤ s.size := by rw [List.length_drop] at n3; simp at n3; omega
      have HE : Hid (F = ((done ++ [r]) ++ (recsL (s.data.toList.drop (p + n)) f).1, (p + n) + (recsL (s.data.toList.drop (p + n)) f).2)) := by
        rw [Hid, HFF.out, recsL, HO.out]
        simp only [List.drop_drop, List.append_assoc, List.singleton_append, Nat.add_assoc]
      clear HFF HF
      go_wp2_with fail
      refine HCR.out.mono ?_
      rintro e w1 ⟨vO, rfl, hD1, hW1, hb1⟩
      obtain ⟨aO, cO, hvO, -, -, -⟩ := id hD1
      subst hvO
      have hbb := hbel.trans (hb1.mono hbs)
      have hRs1 := hRs.below hb1
      have hown := hRs1.own
      have hnz : ((n : Int) == 0) = false := by rw [beq_eq_false_iff_ne]; omega
      have hb1s := hb1.size
      have hObs : ∀ q, (Value.slice aO r.outs.length cO).ownBlock = some q → (Value.slice av done.length cv).ownBlock ≠ some q ∧ w.heap.size ≤ q ∧ q < w1.heap.size := by
        intro q hq
        have h1 := hW1 q hq
        refine ⟨fun e => ?_, by omega, ds_lt hD1 hq (by omega)⟩
        have := (hRs.own.lt q e).2
        omega
      have hnb := alloc2_new w1 (.cells #[.int .u64 (r.p0 : Nat), .int .u64 (r.p1 : Nat), .slice aO r.outs.length cO] 37) (.cells #[.int .u64 (r.p0 : Nat), .int .u64 (r.p1 : Nat), .slice aO r.outs.length cO] 37)
      go_wp2_with (at_builtin; (refine wpList_append_far _ rfl _ _ 27 rfl w.heap.size 37 iR _ 3 40 Try.underlying27 hiR hR0 hR1 hR2 rfl (by decide) _ done.length cs rfl ((hown.alloc _).alloc _) ⟨w1.heap.size + 1, 0, none⟩ 1 1 [.int .u64 (r.p0 : Nat), .int .u64 (r.p1 : Nat), .slice aO r.outs.length cO] rfl rfl (World.news_of_block (cs := #[.int .u64 (r.p0 : Nat), .int .u64 (r.p1 : Nat), .slice aO r.outs.length cO]) (t := 37) (fr := (0, 0)) hnb) (by simp [Value.oneCell']) (by omega) (by unfold maxLen; omega) (by omega) (by simp; omega) (w1.heap.size + 2) (by simp) ?_))
      intro gg cap w4 hown4 hgrow hat hlt1
      have hbel2 : Below w1.heap.size w1 ((w1.alloc (.cells #[.int .u64 (r.p0 : Nat), .int .u64 (r.p1 : Nat), .slice aO r.outs.length cO] 37)).alloc (.cells #[.int .u64 (r.p0 : Nat), .int .u64 (r.p1 : Nat), .slice aO r.outs.length cO] 37)) := ((Below.refl _ _).alloc (Nat.le_refl _) _).alloc (by simp) _
      have HNEW : Hid (RsAt w4 w.heap.size (.slice (some ⟨gg, 0, none⟩) (done.length + 1) cap) (cs ++ [.int .u64 (r.p0 : Nat), .int .u64 (r.p1 : Nat), .slice aO r.outs.length cO]) (done ++ [r])) :=
        RsAt.snoc hRs1 hbel2 hD1 hObs hown4 hgrow (hat.imp id (fun h => by omega))
      have HBN : Hid (Below w.heap.size w w4) := (hbb.trans (hbel2.mono hbb.size)).grown hgrow (by have := hbb.size; simp; omega) (fun j hj => (hRs1.own.lt j hj).1)
      clear hown4 hgrow hat hbel2 hnb hRs1 hRs hown hObs hD1
      go_wp2
      go_roundw
      case rel => exact ⟨p + n, f, done ++ [r], _, by go_num, by omega, by omega, by rw [List.length_append, List.length_singleton]; omega, HE.out, HNEW.out, HBN.out⟩
      case measure => simp [intOf]; omega
end Go.Proofs.Ytoabakgmjcnodaa
