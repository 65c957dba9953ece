import Derived.Test.YtoabakgmjcnodaaLkL
namespace Go.Proofs.Ytoabakgmjcnodaa
open Go.ChangeShapes Go.WideShapes Go.ChangeAt Go.RowKit Go.Sort Go.Maps Go.Lib

theorem own_SortFunc (g cap : Nat) (ss : List (Nat × Nat)) (w : World) (hH : HoldsK encD 2 w g 0 ss.toArray) (hblk : g < w.heap.size) (hsz : ss.length ≤ 3703618114507) :
    Calls Try.prog 30 #[.slice (some ⟨g, 0, none⟩) ss.length cap, .func (.func 22) #[] #[]] w fun e w' => e = .returned (.tuple #[]) ∧ ∃ n os, w' = sortWorldK encD 2 w g 0 n (sortD ss).toArray os := by
  have h := AnyQ.slices_SortFunc_total (P := Try.prog) (ρ := Try.sortF_ren) Try.sortF 2 Try.isAgg24 Try.sizeOf24 encD (fun _ => rfl) (fun x v hv => by
      simp only [encD, List.mem_cons, List.not_mem_nil, or_false] at hv
      rcases hv with rfl | rfl <;> rfl) cmpD swoD 22 #[] g 0 cap ss.toArray w (enters_of Try.func22 (by kernel_rfl) rfl)
    (fun m os dk _ x y => own_Compare x y _) hH hblk (by simp; omega) totD
  have e : ss.toArray.size = ss.length := by simp
  rw [e] at h
  exact h
theorem own_SortNone (p : Option Addr) (cap : Nat) (fv : Value) (w : World) :
    Calls Try.prog 30 #[.slice p 0 cap, fv] w fun e w' => e = .returned (.tuple #[]) ∧ w' = w :=
  AnyF.slices_SortFunc_none (P := Try.prog) (ρ := Try.sortF_ren) { Try.sortF with } p cap fv w
set_option maxRecDepth 100000 in
set_option maxHeartbeats 2000000 in
theorem sorted_in (n : Nat) (hn : 4 ≤ n) (g : Nat) (lb : Array Value) (eg : ∀ args w, (callFunc g args).run Try.prog w = .ok (.enter g args) w)
    (S : List (Nat × Nat) → Prop) (hSU : ∀ ss, S ss → ∀ x ∈ ss, KU x) (N : Nat) (hN : N ≤ 3703618114507) (w : World) (hseq : SeqGives Fence.wide (n - 1 - 1 - 1) Try.prog g lb encK S N w) :
    CallsIn Fence.wide n Try.prog 20 #[.func (.func g) #[] lb, .func (.func 22) #[] #[]] w fun e w' => ∃ (v : Value) (ss : List (Nat × Nat)), e = .returned v ∧ S ss ∧ ss.length ≤ N ∧ Ds w' v (sortD ss) ∧ (∀ q, v.ownBlock = some q → w.heap.size ≤ q) ∧ Below w.heap.size w w' := by
  have h1 : 1 ≤ n := by omega
  have hf1 : Fence.wide.fn 29 := trivial
  have hf2 : Fence.wide.fn 30 := trivial
  refine callsIn_of_wp Try.func20 rfl trivial ?_ rfl
  simp only [Try.ntmps20, List.size_toArray, List.length_cons, List.length_nil, Nat.reduceAdd, Nat.reduceSub, Array.replicate_succ, Array.replicate_zero, List.push_toArray, List.append_toArray, List.nil_append, List.cons_append]
  gi_wp2_with (gi_at_call 29; refine (collect_in Fence.wide (n - 1) trivial trivial rfl (by omega) g lb trivial eg _ N hN _ hseq.bounded).mono ?_; rintro e W ⟨v, ss, rfl, ⟨hS, hlen⟩, hrow, hnil, hb⟩)
  rcases hrow.2 with ⟨rfl, hz⟩ | ⟨gb, cap, cur, rfl, hbase, hgb, r1, r2, r3, r4⟩
  · have hss : ss = [] := List.eq_nil_of_length_eq_zero hz
    subst hss
    gi_wp2_with (gi_at_call 30; refine (callsIn_wide.2 (own_SortNone none 0 _ W)).mono ?_; rintro e w' ⟨rfl, rfl⟩)
    go_ret
    have hs : sortD [] = [] := by simp [sortD]
    exact ⟨.slice none 0 0, [], rfl, hS, by simp, by rw [hs]; exact ⟨none, 0, rfl, Nat.le_refl _, fun d hd => (by simp at hd), .inl rfl⟩, fun q hq => (by simp [Value.ownBlock] at hq), hb⟩
  · have hH := holdsK_row hgb r4
    have hgl : gb < W.heap.size := (Array.getElem?_eq_some_iff.1 hgb).1
    have cS := own_SortFunc gb cap ss W hH hgl (by omega)
    gi_wp2_with (gi_at_call 30; refine (callsIn_wide.2 cS).mono ?_; rintro e w' ⟨rfl, nn, os, rfl⟩)
    have hlS : (sortD ss).length = ss.length := (sortD_perm ss).length_eq
    go_ret
    refine ⟨_, ss, rfl, hS, hlen, ?_, fun q hq => ?_, hb.grown (grown_sortK _) hb.size (fun j hj => by cases hj; exact hbase)⟩
    rotate_left
    · have e : gb = q := by simpa [Value.ownBlock] using hq
      omega
    have hHS := holdsK_sortWorldK_c encD 2 W gb 0 ss.toArray (sortD ss).toArray nn os hH hgl (by simp [hlS])
    have := ds_holds (cap := cap) hHS (by omega) (fun x hx => hSU ss hS x ((sortD_perm ss).mem_iff.1 hx))
    rw [hlS] at this
    exact this
end Go.Proofs.Ytoabakgmjcnodaa
