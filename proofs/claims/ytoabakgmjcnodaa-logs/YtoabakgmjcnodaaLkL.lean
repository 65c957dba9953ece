import Derived.Test.YtoabakgmjcnodaaLkK
namespace Go.Proofs.Ytoabakgmjcnodaa
open Go.ChangeShapes Go.WideShapes Go.ChangeAt Go.RowKit Go.Sort Go.Maps Go.Lib

theorem lt_below (a b : Nat × Nat) : ltOf cmpD a b = belowB a b := by
  unfold ltOf cmpD cmpN belowB
  by_cases h1 : a.1 < b.1
  · simp [h1]
  · by_cases h2 : b.1 < a.1
    · have h3 : ¬ a.1 = b.1 := by omega
      simp [h1, h2, h3]
    · have h3 : a.1 = b.1 := by omega
      by_cases h4 : a.2 < b.2
      · simp [h3, h4]
      · by_cases h5 : b.2 < a.2 <;> simp [h3, h4, h5]
theorem swoD : SWO (ltOf cmpD) := by
  refine ⟨fun x => ?_, fun x y z h1 h2 => ?_, fun x y z h1 h2 => ?_⟩
  · rw [lt_below]; exact below_irrefl x
  · rw [lt_below] at *; exact below_trans' h1 h2
  · rw [lt_below] at *
    rw [Bool.eq_false_iff] at *
    intro h
    rcases below_total x y with h3 | h3 | h3
    · exact h1 h3
    · subst h3; exact h2 h
    · exact h2 (below_trans' h3 h)
theorem totD (x y : Nat × Nat) (h1 : ltOf cmpD x y = false) (h2 : ltOf cmpD y x = false) : x = y := by
  rw [lt_below] at *
  rcases below_total x y with h3 | h3 | h3
  · rw [h1] at h3; cases h3
  · exact h3
  · rw [h2] at h3; cases h3
def sortD (ss : List (Nat × Nat)) : List (Nat × Nat) := ss.mergeSort fun x y => !ltOf cmpD y x
theorem sortD_perm (ss : List (Nat × Nat)) : (sortD ss).Perm ss := List.mergeSort_perm _ _
theorem sortD_sorted {ss : List (Nat × Nat)} (hn : ss.Nodup) : (sortD ss).Pairwise (fun a b => belowB a b = true) := by
  have h := List.pairwise_mergeSort (le := fun x y => !ltOf cmpD y x) (fun a b c h1 h2 => by
    simp only [lt_below, Bool.not_eq_true'] at *
    have := swoD.ntrans c b a
    simp only [lt_below] at this
    exact this h2 h1) (fun a b => by
    simp only [lt_below]
    rcases below_total a b with h3 | h3 | h3
    · have : belowB b a = false := by
        rw [Bool.eq_false_iff]; intro h4
        have := below_trans' h3 h4; rw [below_irrefl] at this; cases this
      simp [this]
    · subst h3; simp [below_irrefl]
    · have : belowB a b = false := by
        rw [Bool.eq_false_iff]; intro h4
        have := below_trans' h3 h4; rw [below_irrefl] at this; cases this
      simp [this]) ss
  have hnd : (sortD ss).Nodup := (sortD_perm ss).nodup_iff.2 hn
  refine (List.pairwise_and_iff.2 ⟨h, hnd⟩).imp ?_
  rintro a b ⟨h1, h2⟩
  simp only [lt_below, Bool.not_eq_true'] at h1
  rcases below_total a b with h3 | h3 | h3
  · exact h3
  · exact absurd h3 h2
  · rw [h1] at h3; cases h3
theorem flatK_at (ss : List (Nat × Nat)) (j : Nat) (hj : j < ss.length * 2) : (flatD ss)[j]? = some ((flatK encD 2 ss.toArray)[j]!) := by
  rw [get_flatK _ _ _ _ (by simpa using hj)]
  have hd : j / 2 < ss.length := by omega
  obtain ⟨f0, f1⟩ := flatD_at hd
  have e : ss.toArray[j / 2]! = ss[j / 2] := by simp [hd]
  rw [e]
  rcases Nat.mod_two_eq_zero_or_one j with h | h
  · rw [h]
    have : j / 2 * 2 = j := by omega
    rw [this] at f0
    rw [f0]; rfl
  · rw [h]
    have : j / 2 * 2 + 1 = j := by omega
    rw [this] at f1
    rw [f1]; rfl
theorem holdsK_row {w : World} {g : Nat} {cur : Array Value} {ss : List (Nat × Nat)} (hb : w.heap[g]? = some (.cells cur 24 (0, 0))) (ht : cur.toList.take (ss.length * 2) = flatD ss) : HoldsK encD 2 w g 0 ss.toArray := by
  intro j hj
  have hj2 : j < ss.length * 2 := by simpa using hj
  have h := flatK_at ss j hj2
  rw [← ht, List.getElem?_take_of_lt hj2, Array.getElem?_toList] at h
  refine ⟨?_, by simp [World.frozen?, hb]⟩
  rw [cell_of_row w _ _ _ 24 (0, 0) hb, Nat.zero_add, h]; rfl
theorem ds_holds {w : World} {g cap : Nat} {ts : List (Nat × Nat)} (h : HoldsK encD 2 w g 0 ts.toArray) (hc : ts.length ≤ cap) (hU : ∀ x ∈ ts, KU x) : Ds w (.slice (some ⟨g, 0, none⟩) ts.length cap) ts := by
  refine ⟨_, _, rfl, hc, hU, .inr ⟨g, 0, rfl, fun i hi => ?_⟩⟩
  obtain ⟨f0, f1⟩ := flatD_at hi
  have k0 := (h (i * 2) (by simp; omega)).1
  have k1 := (h (i * 2 + 1) (by simp; omega)).1
  have g0 := flatK_at ts (i * 2) (by omega)
  have g1 := flatK_at ts (i * 2 + 1) (by omega)
  rw [f0] at g0
  rw [f1] at g1
  injection g0 with g0
  injection g1 with g1
  refine ⟨?_, ?_⟩
  · rw [k0, g0]; rfl
  · rw [Nat.add_assoc, k1, g1]; rfl
theorem grown_sortK {w : World} {g n : Nat} {os : Array Obj} (d : Array (Nat × Nat)) : w.grownBy (sortWorldK encD 2 w g 0 n d os) (some g) := by
  refine ⟨rfl, rfl, rfl, by simp [sortWorldK, putRowK], fun k hk hne => ?_⟩
  unfold sortWorldK putRowK
  rw [heap_grow_old _ _ (by simpa using hk)]
  have : g ≠ k := fun e => hne (by rw [e])
  simp [putRow, mapBlock, Sort.ahead, Array.getElem?_modify, this]

set_option maxRecDepth 100000 in
set_option maxHeartbeats 2000000 in
theorem appendSeq_in (F : Fence) (n : Nat) (h11 : F.fn 41) (hro : F.round = none) (hn : 2 ≤ n) (g : Nat) (lb : Array Value) (hFg : F.fn g) (eg : ∀ args w, (callFunc g args).run Try.prog w = .ok (.enter g args) w)
    (S : List (Nat × Nat) → Prop) (N : Nat) (hN : N ≤ 3703618114507) (w : World) (hseq : SeqGives F (n - 1) Try.prog g lb encK S N w) :
    CallsIn F n Try.prog 41 #[.slice none 0 0, .func (.func g) #[] lb] w fun e w' => ∃ (v : Value) (ss : List (Nat × Nat)), e = .returned v ∧ S ss ∧ w'.ownsRow w.heap.size 24 2 v ss.length (flatD ss) ∧ (v = .slice none 0 0 ↔ ss = []) ∧ Below w.heap.size w w' := by
  have h1 : 1 ≤ n := by omega
  have hne : (35 : TypeId) ≠ 24 := by decide
  refine callsIn_of_wp_marks Try.func41 rfl h11 ?_ hro
  simp only [Try.ntmps41, List.size_toArray, List.length_cons, List.length_nil, Nat.reduceAdd, Nat.reduceSub, Array.replicate_succ, Array.replicate_zero, List.push_toArray, List.append_toArray, List.nil_append, List.cons_append]
  gi_wp2
  refine wpIn_rangeFunc ?_
  intro fn hfn
  rw [hro]
  obtain ⟨W0, hW0⟩ : ∃ W0, w.alloc (.cells #[.slice none 0 0] 35) = W0 := ⟨_, rfl⟩
  have hs0 : W0.heap.size = w.heap.size + 1 := by rw [← hW0]; simp
  have hv0 : W0.heap[w.heap.size]? = some (.cells #[.slice none 0 0] 35 (0, 0)) := by rw [← hW0]; exact World.alloc_heap_new w _
  have hb0 : Below w.heap.size w W0 := by rw [← hW0]; exact (Below.refl _ w).alloc (Nat.le_refl _) _
  rw [hW0]
  obtain ⟨W1, hW1⟩ : ∃ W1, (W0.alloc (.deferred (some []))).alloc (.loop (apRec fn (.func (.func g) #[] lb) w.heap.size W0.heap.size .ready none)) = W1 := ⟨_, rfl⟩
  have hold : ∀ k, k < W0.heap.size → W1.heap[k]? = W0.heap[k]? := fun k hk => by
    rw [← hW1]; exact (Below.heap_alloc _ _ k (by simp; omega)).trans (Below.heap_alloc _ _ k hk)
  have hb1 : Below w.heap.size w W1 := by rw [← hW1]; exact (hb0.alloc hb0.size _).alloc (by have := hb0.size; simp; omega) _
  have hs1 : W1.heap.size = W0.heap.size + 2 := by rw [← hW1]; simp
  have hM : ApAt w fn (.func (.func g) #[] lb) w.heap.size (W0.heap.size + 1) W0.heap.size [] W1 :=
    ⟨⟨_, (hold w.heap.size (by omega)).trans hv0, ⟨rfl, .inl ⟨rfl, rfl⟩⟩, by simp⟩,
     by rw [← hW1]; have := World.alloc_heap_new (W0.alloc (.deferred (some []))) (.loop (apRec fn (.func (.func g) #[] lb) w.heap.size W0.heap.size .ready none)); rwa [World.size_alloc] at this,
     by rw [← hW1]; exact (Below.heap_alloc _ _ _ (by simp)).trans (World.alloc_heap_new W0 _), hb1⟩
  refine ⟨W0.heap.size + 1, [{ target := .collected W0.heap.size, args := #[] }], W1, { target := .fn (.func g) lb, args := #[.func (.yield (W0.heap.size + 1)) #[] #[]] }, W1, g,
    #[.func (.yield (W0.heap.size + 1)) #[] #[]] ++ lb, W1, ?_, ?_, ?_, ?_, fun _ => h1, ?_⟩
  · rw [← hW1]; exact run_enterLoop_outer _ _ _ _ _
  · simp [resolve, go_sem]
  · intro f' hf'; simp [Target.leads] at hf'; subst hf'; exact hFg
  · simp [invoke, go_sem, eg]
  · refine (hseq (W0.heap.size + 1) (ApAt w fn (.func (.func g) #[] lb) w.heap.size (W0.heap.size + 1) W0.heap.size) W1 hb1 (ap_abides _ _ _ _ _ _ _ hb1.size)
      (fun pre x W hJ hl => apYield F (n - 1 - 1) w fn hfn _ w.heap.size (W0.heap.size + 1) W0.heap.size (by omega) (by omega) (by omega) (Nat.le_refl _) (by omega) N hN pre x W hJ hl) hM).mono ?_
    rintro e W2 ⟨⟨v0, rfl⟩, ss, hS, h2⟩
    obtain ⟨v, hv, hrow, hnil⟩ := h2.box
    have hend := run_endLoop (P := Try.prog) h2.L (by simp [apRec])
    obtain ⟨W3, hW3⟩ : ∃ W3, W2.putObj (W0.heap.size + 1) (.loop { apRec fn (.func (.func g) #[] lb) w.heap.size W0.heap.size .ready none with state := .exhausted }) = W3 := ⟨_, rfl⟩
    rw [hW3] at hend
    have hg3 : W2.grownBy W3 (some (W0.heap.size + 1)) := by rw [← hW3]; exact grownBy_putObj_a _ _ _
    have hv3 : W3.heap[w.heap.size]? = some (.cells #[v] 35 (0, 0)) := by rw [← hW3]; exact (World.putObj_heap_other (by omega)).trans hv
    have hK3 : W3.heap[W0.heap.size]? = some (.deferred (some [])) := by rw [← hW3]; exact (World.putObj_heap_other (by omega)).trans h2.K
    have hrow3 := hrow.kept hg3 (ownsRow_ne_a hrow h2.L (fun cur e => by first | cases e | exact hne (Obj.cells.inj e).2.1))
    have hb3 : Below w.heap.size w W3 := h2.below.grown hg3 h2.below.size (fun k e => by cases e; omega)
    obtain ⟨hc3, hf3⟩ := cell_of_box_a hv3
    clear hW3
    refine ⟨none, W3, hend, ?_⟩
    gi_wp2
    rw [← hs0]
    refine ⟨by simp, .inl ⟨_, _, rfl, run_takeDeferred hK3, ?_⟩⟩
    exact ⟨_, results_tmp rfl _ _ _, v, ss, rfl, hS, hrow3.kept (grownBy_putObj_a _ _ _) (ownsRow_ne_a hrow3 hK3 (fun cur e => by first | cases e | exact hne (Obj.cells.inj e).2.1)), hnil, hb3.grown (grownBy_putObj_a _ _ _) hb3.size (fun k e => by cases e; omega)⟩
set_option maxHeartbeats 1000000 in
theorem collect_in (F : Fence) (n : Nat) (h8 : F.fn 29) (h11 : F.fn 41) (hro : F.round = none) (hn : 3 ≤ n) (g : Nat) (lb : Array Value) (hFg : F.fn g) (eg : ∀ args w, (callFunc g args).run Try.prog w = .ok (.enter g args) w)
    (S : List (Nat × Nat) → Prop) (N : Nat) (hN : N ≤ 3703618114507) (w : World) (hseq : SeqGives F (n - 1 - 1) Try.prog g lb encK S N w) :
    CallsIn F n Try.prog 29 #[.func (.func g) #[] lb] w fun e w' => ∃ (v : Value) (ss : List (Nat × Nat)), e = .returned v ∧ S ss ∧ w'.ownsRow w.heap.size 24 2 v ss.length (flatD ss) ∧ (v = .slice none 0 0 ↔ ss = []) ∧ Below w.heap.size w w' := by
  have h1 : 1 ≤ n := by omega
  refine callsIn_of_wp Try.func29 rfl h8 ?_ hro
  simp only [Try.ntmps29, List.size_toArray, List.length_cons, List.length_nil, Nat.reduceAdd, Nat.reduceSub, Array.replicate_succ, Array.replicate_zero, List.push_toArray, List.append_toArray, List.nil_append, List.cons_append]
  gi_wp2_with (gi_at_call 41; refine (appendSeq_in F (n - 1) h11 hro (by omega) g lb hFg eg S N hN _ hseq).mono ?_; rintro e w' ⟨v, ss, rfl, hS, hrow, hnil, hb⟩)
  go_ret
  exact ⟨v, ss, rfl, hS, hrow, hnil, hb⟩
end Go.Proofs.Ytoabakgmjcnodaa
