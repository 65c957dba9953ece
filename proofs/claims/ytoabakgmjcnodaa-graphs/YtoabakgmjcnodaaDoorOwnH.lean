import Derived.Test.YtoabakgmjcnodaaDoorOwnG
namespace Go.Proofs.YtoabakgmjcnodaaDoor
open Go.ChangeShapes Go.WideShapes Go.ChangeAt Go.RowKit

/-- The outputs are claimed one by one. -/
def claimRun (n : Nat) (cl : List (ByteArray × Nat)) : List ByteArray → List (ByteArray × Nat) × Bool
  | [] => (cl, true)
  | x :: r => if (claimOf cl x).isSome = true then (cl, false) else claimRun n (cl ++ [(x, n)]) r
theorem claimRun_snoc (n : Nat) (x : ByteArray) (l : List ByteArray) : ∀ (cl cl1 : List (ByteArray × Nat)), claimRun n cl l = (cl1, true) →
    claimRun n cl (l ++ [x]) = if (claimOf cl1 x).isSome = true then (cl1, false) else (cl1 ++ [(x, n)], true) := by
  induction l with
  | nil => intro cl cl1 h; injection h with h _; subst h; simp only [List.nil_append, claimRun]
  | cons y r ih =>
    intro cl cl1 h
    simp only [List.cons_append, claimRun] at h ⊢
    split at h
    · injection h with _ h; cases h
    · rename_i h0; rw [if_neg h0]; exact ih _ _ h
theorem claimRun_stop (n : Nat) (l r : List ByteArray) : ∀ (cl cl1 : List (ByteArray × Nat)), claimRun n cl l = (cl1, false) → claimRun n cl (l ++ r) = (cl1, false) := by
  induction l with
  | nil => intro cl cl1 h; injection h with _ h; cases h
  | cons y q ih =>
    intro cl cl1 h
    simp only [List.cons_append, claimRun] at h ⊢
    split at h
    · rename_i h0; rw [if_pos h0]; exact h
    · rename_i h0; rw [if_neg h0]; exact ih _ _ h
theorem claimRun_len (n : Nat) (l : List ByteArray) : ∀ (cl : List (ByteArray × Nat)), (claimRun n cl l).1.length ≤ cl.length + l.length := by
  induction l with
  | nil => intro cl; simp [claimRun]
  | cons y q ih =>
    intro cl
    simp only [claimRun]
    split
    · simp
    · have := ih (cl ++ [(y, n)]); simp at this ⊢; omega

theorem wf_small (n : Nat) (h : n ≤ 100) : (Lit.int .i64 (n : Int)).wf = true := by
  simp only [Lit.wf, IntKind.min, IntKind.max, IntKind.signed, IntKind.bits]
  simp
  omega

/-- A claim more. -/
theorem app_claim {w w1 : World} {rb mb : Nat} {M : Nat → Prop} {S : OS} {vP vT : Value} {cP cT : List Value} {D : DataW Unit} {x : ByteArray} {n : Nat} (R : OPlan w rb mb M S vP vT cP cT D) (hx : claimOf S.claims x = none) (hc : S.claims.length < 1000000)
    (hown : w1.ownsMap Tryd.prog 9 (plainElem Tryd.prog 3) mb (S.claims.length + 1) (D.put (.string x.data.toList) (.lit (.int .i64 n)))) (hg : w.drew.grownBy w1 (some mb)) :
    OPlan w1 rb mb M { S with claims := S.claims ++ [(x, n)] } vP vT cP cT (D.put (.string x.data.toList) (.lit (.int .i64 n))) ∧ Same (fun k => k = mb) w w1 := by
  have hS : Same (fun k => k = mb) w w1 := (Same.refl _ w).drew.grown hg (fun k hk _ => by injection hk with hk; exact hk.symm)
  have hml := R.mlt
  refine ⟨⟨(hS.block rb (blk_lt R.blk) (by omega)).trans R.blk, R.mine, R.mm, R.mlt, ⟨hS.owns R.pools.own (fun k hk h => by have := (R.pools.own.lt k hk).1; omega), R.pools.each⟩, hS.owns R.tasks (fun k hk h => by have := (R.tasks.lt k hk).1; omega), by simpa using hown, R.keys.put x n hx, R.mP, R.mT, ?_, ?_, fun k hk => Nat.lt_of_lt_of_le (R.old k hk) hS.size⟩, hS⟩
  · intro i hi
    obtain ⟨uO, uI, U⟩ := R.each i hi
    exact ⟨uO, uI, U.same hS (fun k h => by rw [h]; exact R.mm) (fun _ h => .inl h)⟩
  · have := R.few; simp; omega

set_option maxRecDepth 10000 in
set_option maxHeartbeats 2000000 in
theorem own_claimOutputs (w : World) (rb mb : Nat) (M : Nat → Prop) (S : OS) (vP vT : Value) (cP cT : List Value) (D : DataW Unit) (R : OPlan w rb mb M S vP vT cP cT D) (v : Value) (outs : List ByteArray)
    (hv : Strs w v outs) (hvM : ∀ k, v.ownBlock = some k → ¬ M k) (hn : outs.length ≤ 4000) (hsz : ∀ x ∈ outs, x.size ≤ 2000) (hcl : S.claims.length ≤ 900000) :
    Calls Tryd.prog 62 #[.pointer (some ⟨rb, 0, none⟩), v] w fun e w' => e = .returned (.bool (claimRun S.tasks.length S.claims outs).2) ∧
      ∃ D1, OPlan w' rb mb M { S with claims := (claimRun S.tasks.length S.claims outs).1 } vP vT cP cT D1 ∧ Same (fun k => k = mb) w w' := by
  have hv0 := hv
  obtain ⟨a, c, rfl, _, _⟩ := hv0
  obtain ⟨RT, hRT⟩ : ∃ RT, claimRun S.tasks.length S.claims outs = RT := ⟨_, rfl⟩
  rw [hRT]
  have HR : Hid (claimRun S.tasks.length S.claims outs = RT) := hRT
  clear hRT
  obtain ⟨aT, qT, hvT⟩ := owns_shape R.tasks
  subst hvT
  go_enter Tryd.func62, Tryd.ntmps62
  go_wp2
  go_loopw [4, 6, 7, 8, 11] (fun _ _ _ _ i wr => ∃ (k : Nat) (cl : List (ByteArray × Nat)) (D1 : DataW Unit), k ≤ outs.length ∧ i = .int .i64 k ∧ claimRun S.tasks.length S.claims (outs.take k) = (cl, true) ∧
      OPlan wr rb mb M { S with claims := cl } vP (.slice aT S.tasks.length qT) cP cT D1 ∧ Same (fun k => k = mb) w wr) (fun _ _ _ _ i _ => outs.length - (intOf i).toNat)
  case atStart => exact ⟨0, S.claims, D, Nat.zero_le _, rfl, rfl, R, Same.refl _ _⟩
  case round =>
    obtain ⟨k, cl, D1, hk, rfl, hrun, R1, hS1⟩ := hrel
    have HRUN : Hid (claimRun S.tasks.length S.claims (outs.take k) = (cl, true)) := hrun
    have hlen := claimRun_len S.tasks.length (outs.take k) S.claims
    rw [hrun] at hlen
    have hlt2 : (outs.take k).length ≤ k := List.length_take_le _ _
    simp only at hlen
    clear hrun
    obtain ⟨p0, p1, p2, pf⟩ := three R1.blk
    by_cases hlt : k < outs.length
    · have hvr := hv.same hS1 (fun q hq h => hvM q hq (by rw [h]; exact R.mm))
      obtain ⟨b, off, hx, hc⟩ := strs_at hvr hlt
      subst hx
      have hxs := hsz _ (List.getElem_mem hlt)
      obtain ⟨x, hx⟩ : ∃ x, outs[k] = x := ⟨_, rfl⟩
      rw [hx] at hc hxs
      have HSN : Hid (claimRun S.tasks.length S.claims (outs.take (k + 1)) = if (claimOf cl x).isSome = true then (cl, false) else (cl ++ [(x, S.tasks.length)], true)) := by
        show claimRun S.tasks.length S.claims (outs.take (k + 1)) = _
        rw [List.take_succ_eq_append_getElem hlt, hx, claimRun_snoc _ _ _ _ _ HRUN.out]
      clear hx
      have hkey : keyOf Tryd.prog 9 (.string x) = some (.string x.data.toList) := WideMaps.keyOf_string_mk Tryd.underlying9 (by unfold maxLen; omega)
      have hK := Maps.string_keyed (P := Tryd.prog) Tryd.underlying9
      have hkx := R1.keys.2 x
      obtain ⟨cv, ps, hlook, hcv⟩ := R1.map.look_ok hK Tryd.underlying63 (Tryd.zeroValue3 wr) (plainElem_int Tryd.underlying3 (by decide)) hkey
      obtain ⟨cn, rfl, _, _⟩ := plainElem_int_inv Tryd.underlying3 hcv
      rw [hkx.1] at hlook
      cases hco : claimOf cl x with
      | some m =>
        rw [hco] at hlook
        have HE : Hid (RT = (cl, false)) := by
          have h := HSN.out
          rw [hco] at h
          have h2 := claimRun_stop S.tasks.length (outs.take (k + 1)) (outs.drop (k + 1)) _ _ h
          rw [List.take_append_drop] at h2
          rw [← HR.out]; exact h2
        simp only [Option.isSome_some] at hlook
        clear hkx hkey hcv hco
        go_wp2
        go_ret
        rw [HE.out]
        exact ⟨rfl, D1, R1, hS1⟩
      | none =>
        rw [hco] at hlook
        simp only [Option.isSome_none] at hlook
        obtain ⟨w2, hup, hown2, hg2⟩ := (R1.map.drew).update hK Tryd.underlying63 (by unfold maxLen; simp only; omega) hkey (plainElem_int (a := (S.tasks.length : Int)) Tryd.underlying3 (wf_small _ (by have := R.few; omega)))
        have HA := app_claim R1 hco (by simp only; omega) hown2 hg2
        have HSN2 : Hid (claimRun S.tasks.length S.claims (outs.take (k + 1)) = (cl ++ [(x, S.tasks.length)], true)) := by rw [HSN.out, hco]; rfl
        clear hkx hkey hcv hco hown2 hg2
        go_wp2_with fail
        go_region
        all_goals
          go_wp2
          go_roundw
          case rel => exact ⟨k + 1, cl ++ [(x, S.tasks.length)], _, by omega, by go_num, HSN2.out, HA.1, hS1.trans HA.2⟩
          case measure => simp [intOf]; omega
    · have HE : Hid (RT = (cl, true)) := by
        have h := HRUN.out
        rw [show k = outs.length by omega, List.take_length] at h
        rw [← HR.out]; exact h
      go_wp2
      go_ret
      rw [HE.out]
      exact ⟨rfl, D1, R1, hS1⟩
end Go.Proofs.YtoabakgmjcnodaaDoor
