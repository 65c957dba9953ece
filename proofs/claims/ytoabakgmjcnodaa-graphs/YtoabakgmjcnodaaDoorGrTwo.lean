import Derived.Test.YtoabakgmjcnodaaDoorGrOne
import Derived.Test.YtoabakgmjcnodaaDoorKpP
import Derived.Test.YtoabakgmjcnodaaDoorKpTwo
namespace Go.Proofs.YtoabakgmjcnodaaDoor
open Go.ChangeShapes Go.WideShapes Go.ChangeAt Go.RowKit

theorem TW.line {t : KT} {k : Nat} {paths : List ByteArray} (h : TW t k paths) (hp : ∀ x ∈ paths, Pth x) : TL t k := by
  refine ⟨?_, h.wants.1, h.wants.2.1, h.wants.2.2, fun x hx => hp x (h.ins x hx), h.some.2, h.cost, h.jobs, h.pool⟩
  rw [h.outs]
  split
  · exact .inr rfl
  · exact .inl rfl
theorem line_lt {back : Bool} {n i : Nat} (h : i < n) : lineOf back n i < n := by unfold lineOf; split <;> omega
theorem line_line {back : Bool} {n i : Nat} (h : i < n) : lineOf back n (lineOf back n i) = i := by unfold lineOf; split <;> omega
section
variable {K : List KT} {back : Bool} {n : Nat}
theorem Chain.out_pth (h : Chain K back n) (hn : K.length = n) (h12 : n ≤ 12) {j : Nat} (hj : j < K.length) : ∀ x ∈ K[j].outs, Pth x := by
  intro x hx
  have := (h j hj).outs
  have hl := line_lt (back := back) (show j < n by omega)
  rw [this] at hx
  split at hx
  · simp at hx
    rcases hx with rfl | rfl
    · exact numB_pth (by decide) (by omega)
    · exact numB_pth (by decide) (by omega)
  · simp at hx
    subst hx
    exact numB_pth (by decide) (by omega)
theorem Chain.paths (h : Chain K back n) (hn : K.length = n) (h12 : n ≤ 12) (i : Nat) : ∀ x ∈ filesL ++ (K.take i).flatMap (·.outs), Pth x := by
  intro x hx
  rw [List.mem_append, List.mem_flatMap] at hx
  rcases hx with hx | ⟨t, ht, hx⟩
  · exact file_pth hx
  · obtain ⟨j, hj, rfl⟩ := List.mem_iff_getElem.1 (List.mem_of_mem_take ht)
    exact h.out_pth hn h12 hj x hx
/-- The tasks by their lines. -/
def byLine (back : Bool) (K : List KT) : List KT := if back = true then K.reverse else K
theorem byLine_len (back : Bool) (K : List KT) : (byLine back K).length = K.length := by unfold byLine; split <;> simp
theorem byLine_at (hn : K.length = n) {k : Nat} (hk : k < (byLine back K).length) : ∃ h : lineOf back n k < K.length, (byLine back K)[k] = K[lineOf back n k] := by
  have hk2 := hk
  rw [byLine_len] at hk2
  refine ⟨by have := line_lt (back := back) (show k < n by omega); omega, ?_⟩
  cases back
  · rfl
  · have e : (byLine true K)[k] = K.reverse[k]'(by simpa using hk2) := rfl
    rw [e, List.getElem_reverse]
    congr 1
    unfold lineOf; simp; omega
theorem Chain.lined (h : Chain K back n) (hn : K.length = n) (h12 : n ≤ 12) : Lined (byLine back K) := by
  refine ⟨by rw [byLine_len]; omega, fun k hk => ?_⟩
  obtain ⟨h1, h2⟩ := byLine_at (back := back) hn hk
  rw [h2]
  have := (h _ h1).line (h.paths hn h12 _)
  rw [line_line (by rw [byLine_len] at hk; omega)] at this
  exact this
theorem Chain.ordd (h : Chain K back n) (hn : K.length = n) (h12 : n ≤ 12) : Ordd (byLine back K) ((List.range n).map (lineOf back n)) := by
  refine ⟨h.lined hn h12, by rw [byLine_len]; simp [hn], ?_, ?_, ?_⟩
  · intro x hx
    rw [List.mem_map] at hx
    obtain ⟨i, hi, rfl⟩ := hx
    rw [byLine_len, hn]
    exact line_lt (List.mem_range.1 hi)
  · intro i hi
    rw [byLine_len, hn] at hi
    rw [List.mem_map]
    exact ⟨lineOf back n i, List.mem_range.2 (line_lt hi), line_line hi⟩
  · intro pre x suf e
    have hlen := congrArg List.length e
    simp only [List.length_map, List.length_range, List.length_append, List.length_cons] at hlen
    have hat : ∀ j, j < n → ((List.range n).map (lineOf back n))[j]? = some (lineOf back n j) := fun j hj => by simp [hj]
    have hx : x = lineOf back n pre.length := by
      have h1 := hat pre.length (by omega)
      rw [e, List.getElem?_append_right (Nat.le_refl _)] at h1
      simpa using h1
    have hpre : ∀ j, j < pre.length → pre[j]? = some (lineOf back n j) := fun j hj => by
      have h1 := hat j (by omega)
      rw [e, List.getElem?_append_left hj] at h1
      exact h1
    have hi : pre.length < n := by omega
    constructor
    · intro hm
      obtain ⟨j, hj, he⟩ := List.mem_iff_getElem.1 hm
      have h1 := hpre j hj
      rw [List.getElem?_eq_getElem hj, he] at h1
      injection h1 with h1
      have h2 := line_line (back := back) hi
      rw [← hx, h1, line_line (by omega)] at h2
      omega
    · intro t ht y hy
      obtain ⟨hxl, hxe⟩ := List.getElem?_eq_some_iff.1 ht
      obtain ⟨h1, h2⟩ := byLine_at (back := back) hn hxl
      rw [h2] at hxe
      have hxi : lineOf back n x = pre.length := by rw [hx, line_line hi]
      have hK : K[lineOf back n x]'h1 = K[pre.length]'(by omega) := by congr 1
      rw [hK] at hxe
      have hin := (h pre.length (by omega)).ins y (by rw [hxe]; exact hy)
      rw [List.mem_append, List.mem_flatMap] at hin
      rcases hin with hin | ⟨u, hu, hyu⟩
      · exact .inl hin
      · right
        obtain ⟨j, hj, rfl⟩ := List.mem_iff_getElem.1 hu
        rw [List.length_take] at hj
        rw [List.getElem_take] at hyu
        have hjn : j < n := by omega
        refine ⟨lineOf back n j, K[j]'(by omega), List.mem_of_getElem? (hpre j (by omega)), ?_, hyu⟩
        have hl := line_lt (back := back) hjn
        have hb : lineOf back n j < (byLine back K).length := by rw [byLine_len]; omega
        obtain ⟨h3, h4⟩ := byLine_at (back := back) hn hb
        rw [List.getElem?_eq_getElem hb, h4]
        congr 2
        exact line_line hjn
end

theorem TL.fits {t : KT} {k : Nat} (h : TL t k) (hk : k < 100) : Fits t := by
  refine ⟨h.first.2.2.1, h.few, fun x hx => ?_, fun x hx => ?_, h.short, h.cost.2, h.jobs.2, by have := h.pool; omega⟩
  · have := (h.outs_pth hk x hx).1; omega
  · have := (h.ins x hx).1; omega
theorem Lined.fits {K : List KT} (h : Lined K) : ∀ t ∈ K, Fits t := by
  intro t ht
  obtain ⟨j, hj, rfl⟩ := List.mem_iff_getElem.1 ht
  have := h.1
  exact (h.2 j hj).fits (by omega)
theorem wordsK_list (l : List ByteArray) : (wordsK l).data.toList = sepL 32 l := by
  have key : ∀ (l : List ByteArray) (s : ByteArray), (l.foldl (fun s x => s ++ ⟨#[32]⟩ ++ x) s).data.toList = s.data.toList ++ sepL 32 l := by
    intro l
    induction l with
    | nil => intro s; simp [sepL]
    | cons x l ih => intro s; rw [List.foldl_cons, ih, sepL_cons]; simp
  unfold wordsK
  rw [key]; simp
theorem dg_dig {n : Nat} (h : n ≤ 9) : dg n = dig n := digs_ext h
theorem addL_list {t : KT} {k : Nat} (h : TL t k) (s : ByteArray) : (kAddL s t).data.toList = s.data.toList ++ 10 :: (kline t).data.toList := by
  have e1 := dg_dig h.cost.2
  have e2 := dg_dig h.jobs.2
  have e3 := dg_dig (show t.pool ≤ 9 by have := h.pool; omega)
  unfold kAddL kline lineB kwords ktail
  by_cases hp : 0 < t.pool
  · rw [if_pos hp, if_pos hp]
    unfold kJobs kPool kCost kHead
    rw [e1, e2, e3]
    simp only [ba_append, wordsK_list, bs_list, sepL_append, sepL_cons, sepL_nil, tskB, costB, poolB, jobsB, pname, dig, List.append_nil, List.cons_append, List.nil_append, List.append_assoc]
  · rw [if_neg hp, if_neg hp]
    unfold kJobs kCost kHead
    rw [e1, e2]
    simp only [ba_append, wordsK_list, bs_list, sepL_append, sepL_cons, sepL_nil, tskB, costB, jobsB, dig, List.append_nil, List.cons_append, List.nil_append, List.append_assoc]
theorem text_list {K : List KT} (h : Lined K) : (kText K).data.toList = headB.data.toList ++ sepL 10 (K.map kline) := by
  have key : ∀ (L : List KT) (s : ByteArray), (∀ t ∈ L, ∃ k, TL t k) → (L.foldl kAddL s).data.toList = s.data.toList ++ sepL 10 (L.map kline) := by
    intro L
    induction L with
    | nil => intro s _; simp [sepL]
    | cons t L ih =>
      intro s hL
      obtain ⟨k, hk⟩ := hL t (by simp)
      rw [List.foldl_cons, ih _ (fun u hu => hL u (List.mem_cons_of_mem _ hu)), addL_list hk, List.map_cons, sepL_cons]
      simp
  exact key K headT (fun t ht => by
    obtain ⟨j, hj, rfl⟩ := List.mem_iff_getElem.1 ht
    exact ⟨j, h.2 j hj⟩)
theorem text_size {K : List KT} (h : Lined K) : (kText K).size ≤ 1500 := by
  have h1 := text_list h
  have h2 := congrArg List.length h1
  rw [ba_len, List.length_append] at h2
  have h3 := sepL_len 10 (K.map kline) (m := 60) (fun x hx => by
    rw [List.mem_map] at hx
    obtain ⟨t, ht, rfl⟩ := hx
    obtain ⟨j, hj, rfl⟩ := List.mem_iff_getElem.1 ht
    have := h.1
    exact kline_size (h.2 j hj) (by omega))
  rw [List.length_map] at h3
  have h4 : headB.data.toList.length = 46 := rfl
  have := h.1
  omega

def litX : ByteArray := ⟨#[10, 116, 97, 115, 107, 32, 120, 32, 61, 32, 99, 97, 116, 32, 120]⟩
def litY : ByteArray := ⟨#[10, 116, 97, 115, 107, 32, 121, 32, 61, 32, 99, 97, 116, 10, 116, 97, 115, 107, 32, 121, 32, 61, 32, 99, 97, 116]⟩
def litZ : ByteArray := ⟨#[10, 116, 97, 115, 107, 32, 122, 32, 61, 32, 99, 97, 116, 32]⟩
def litZ2 : ByteArray := ⟨#[10, 116, 97, 115, 107, 32, 122, 50, 32, 61, 32, 99, 97, 116, 32, 122, 32, 122, 50]⟩
def nX : ByteArray := bs [120]
def nY : ByteArray := bs [121]
def nZ : ByteArray := bs [122]
def nZ2 : ByteArray := bs [122, 50]
def lineC (o : ByteArray) (ins : List ByteArray) : ByteArray := lineB tskB (catW o ins)
theorem nX_name : nameB nX.data.toList = true := by rw [nX, bs_list]; decide
theorem nY_name : nameB nY.data.toList = true := by rw [nY, bs_list]; decide
theorem nZ_name : nameB nZ.data.toList = true := by rw [nZ, bs_list]; decide
theorem nZ2_name : nameB nZ2.data.toList = true := by rw [nZ2, bs_list]; decide
theorem lineC_free {o : ByteArray} {ins : List ByteArray} (ho : nameB o.data.toList = true) (hi : ∀ x ∈ ins, nameB x.data.toList = true) : (10 : UInt8) ∉ (lineC o ins).data.toList :=
  line_free tsk_free.2 (fun y hy => (catW_free ho hi y hy).2)
theorem lineC_list (o : ByteArray) (ins : List ByteArray) : (lineC o ins).data.toList = [116, 97, 115, 107, 32] ++ o.data.toList ++ [32, 61, 32, 99, 97, 116] ++ sepL 32 ins := by
  unfold lineC lineB catW
  simp only [bs_list, sepL_cons, tskB, catB, List.cons_append, List.nil_append, List.append_assoc]

section
variable {K : List KT} {ord : List Nat}
theorem Ordd.ringless (h : Ordd K ord) : ringB (waitsM (K.map toTS)) (K.map toTS).length = false :=
  ring_none h.ord (fun x hx => by rw [List.length_map]; exact h.lt x hx) (fun i hi => h.all i (by rw [List.length_map] at hi; exact hi)) (by rw [List.length_map]; exact h.len)
theorem read_plain (h : Ordd K ord) : refRead (kText K) = (psOf (K.map toTS), K.length, 0) := by
  have hl := h.lined
  have hs := text_size hl
  obtain ⟨_, h2⟩ := text_run hl (s := kText K) (more := []) (by rw [List.append_nil]; exact text_list hl) (fun x hx => by cases hx)
  unfold refRead
  rw [if_neg (by omega), h2]
  show (if ringB (waitsM (K.map toTS)) (K.map toTS).length = true then _ else _) = _
  rw [h.ringless, if_neg (by simp)]
  simp [psOf]
theorem weigh_plain (h : Ordd K ord) : weighL (kText K) = (List.range K.length).map (gRun (costT (K.map toTS)) (waitsM (K.map toTS)) K.length ord) := by
  unfold weighL
  rw [read_plain h, if_pos rfl]
  show (List.range (K.map toTS).length).map (wRounds (costT (K.map toTS)) (waitsM (K.map toTS)) (K.map toTS).length ((K.map toTS).length + 1)) = _
  rw [List.length_map]
  apply List.map_congr_left
  intro a ha
  have hA := lsOf_has (K.map toTS)
  rw [List.length_map] at hA
  exact gRun_eq h.ord h.all h.lt hA (by rw [h.len]; omega) a (List.mem_range.1 ha)
theorem costs_k {a : Nat} (ha : a < K.length) : K[a].cost = costT (K.map toTS) a := by
  unfold costT; simp [ha, toTS]
theorem cost9 (h : Lined K) (a : Nat) : costT (K.map toTS) a ≤ 9 := by
  unfold costT
  by_cases ha : a < K.length
  · have := (h.2 a ha).cost.2
    simp [ha, toTS]; exact this
  · simp [ha]
theorem waits_k (h : Lined K) (a b : Nat) (ha : a < K.length) (hb : b < K.length) : waitsM (K.map toTS) a b = kwB K[a].ins K[b].outs := by
  have ha2 : a < (K.map toTS).length := by simpa using ha
  have hb2 : b < (K.map toTS).length := by simpa using hb
  rw [Bool.eq_iff_iff, waits_iff ha2]
  unfold kwB hasB
  rw [List.any_eq_true, List.getElem_map]
  show (∃ x ∈ K[a].ins, _) ↔ _
  constructor
  · rintro ⟨x, hx, hm⟩
    refine ⟨x, hx, ?_⟩
    rw [List.any_eq_true]
    by_cases hin : x ∈ K[b].outs
    · exact ⟨x, hin, by simp⟩
    · exfalso
      by_cases hall : ∀ t ∈ K.map toTS, x ∉ t.outs
      · rw [maker_out hall] at hm; omega
      · simp only [Classical.not_forall, Classical.not_not] at hall
        obtain ⟨t, ht, hxt⟩ := hall
        obtain ⟨j, hj, rfl⟩ := List.mem_iff_getElem.1 ht
        rw [maker_in h.apart hj hxt] at hm
        have : j = b := by omega
        subst this
        rw [List.getElem_map] at hxt
        exact hin hxt
  · rintro ⟨x, hx, hm⟩
    rw [List.any_eq_true] at hm
    obtain ⟨y, hy, he⟩ := hm
    rw [tl_eq, decide_eq_true_iff] at he
    subst he
    exact ⟨y, hx, maker_in h.apart hb2 (by rw [List.getElem_map]; exact hy)⟩

theorem read_more {s : ByteArray} {more : List ByteArray} (h : Lined K) (hs : s.data.toList = headB.data.toList ++ sepL 10 (K.map kline ++ more)) (hm : ∀ x ∈ more, (10 : UInt8) ∉ x.data.toList) (hz : s.size ≤ 2000) :
    refRead s = match refRun (psOf (K.map toTS)) (5 + K.length) more with
      | (S, some (i, e)) => (S, i, e)
      | (S, none) => if ringB (waitsM S.tasks) S.tasks.length = true then (S, 5 + K.length + more.length, 6) else (S, S.tasks.length, 0) := by
  obtain ⟨h1, h2⟩ := text_run h hs hm
  unfold refRead
  rw [if_neg (by omega), h2, h1]
  have e : (headL ++ (K.map kline ++ more)).length = 5 + K.length + more.length := by
    simp only [List.length_append, List.length_map]
    have : headL.length = 5 := rfl
    omega
  rw [e]
  rcases refRun (psOf (K.map toTS)) (5 + K.length) more with ⟨S, o⟩
  cases o <;> rfl
theorem more_list (h : Lined K) {s : ByteArray} {more : List ByteArray} (hs : s.data.toList = (kText K).data.toList ++ sepL 10 more) : s.data.toList = headB.data.toList ++ sepL 10 (K.map kline ++ more) := by
  rw [hs, text_list h, sepL_append, List.append_assoc]

theorem read_x (h : Ordd K ord) : (refRead (kText K ++ litX)).2 = (K.length + 6, 6) := by
  have hl := h.lined
  have h12 := hl.1
  have hs := text_size hl
  have hz : (kText K ++ litX).size ≤ 2000 := by rw [ByteArray.size_append]; have : litX.size = 15 := rfl; omega
  have e : (kText K ++ litX).data.toList = (kText K).data.toList ++ sepL 10 [lineC nX [nX]] := by
    rw [ba_append, sepL_cons, sepL_nil, lineC_list, sepL_cons, sepL_nil, nX, bs_list]; rfl
  have hnx : ∀ x ∈ [nX], nameB x.data.toList = true := fun x hx => by rw [List.mem_singleton] at hx; subst hx; exact nX_name
  rw [read_more hl (more_list hl e) (fun x hx => by rw [List.mem_singleton] at hx; subst hx; exact lineC_free nX_name hnx) hz]
  have hfar : ∀ t ∈ K.map toTS, nX ∉ t.outs := far_out hl (by decide +kernel)
  have hr : refLine (psOf (K.map toTS)) (lineC nX [nX]) = (psOf (K.map toTS ++ [catTS nX [nX]]), 0) := by
    unfold lineC
    rw [ref_cat nX_name hnx (by simp) (by rw [List.length_map]; omega), once_new hfar]; rfl
  have hring : ringB (waitsM (K.map toTS ++ [catTS nX [nX]])) (K.map toTS ++ [catTS nX [nX]]).length = true := by
    refine ring_self (a := (K.map toTS).length) (x := nX) (hl.apart.snoc (fun x hx u hu => by
      have : x = nX := by simpa [catTS] using hx
      rw [this]; exact hfar u hu)) (by simp) ?_ ?_
    · rw [List.getElem_append_right (Nat.le_refl _)]; simp [catTS]
    · rw [List.getElem_append_right (Nat.le_refl _)]; simp [catTS]
  have hrun : refRun (psOf (K.map toTS)) (5 + K.length) [lineC nX [nX]] = (psOf (K.map toTS ++ [catTS nX [nX]]), none) := by
    simp only [refRun, hr, if_true]
  rw [hrun]
  show (if ringB (waitsM (K.map toTS ++ [catTS nX [nX]])) (K.map toTS ++ [catTS nX [nX]]).length = true then _ else _ : PS × Nat × Nat).2 = _
  rw [if_pos hring]
  show (5 + K.length + 1, 6) = _
  rw [show 5 + K.length + 1 = K.length + 6 by omega]
theorem read_y (h : Ordd K ord) : (refRead (kText K ++ litY)).2 = (K.length + 6, 5) := by
  have hl := h.lined
  have h12 := hl.1
  have hs := text_size hl
  have hz : (kText K ++ litY).size ≤ 2000 := by rw [ByteArray.size_append]; have : litY.size = 26 := rfl; omega
  have e : (kText K ++ litY).data.toList = (kText K).data.toList ++ sepL 10 [lineC nY [], lineC nY []] := by
    rw [ba_append, sepL_cons, sepL_cons, sepL_nil, lineC_list, sepL_nil, nY, bs_list]; rfl
  have hno : ∀ x ∈ ([] : List ByteArray), nameB x.data.toList = true := fun x hx => by cases hx
  rw [read_more hl (more_list hl e) (fun x hx => by
    simp only [List.mem_cons, List.not_mem_nil, or_false, or_self] at hx
    subst hx; exact lineC_free nY_name hno) hz]
  have hfar : ∀ t ∈ K.map toTS, nY ∉ t.outs := far_out hl (by decide +kernel)
  have hr : refLine (psOf (K.map toTS)) (lineC nY []) = (psOf (K.map toTS ++ [catTS nY []]), 0) := by
    unfold lineC
    rw [ref_cat nY_name hno (by simp) (by rw [List.length_map]; omega), once_new hfar]; rfl
  have hr2 : refLine (psOf (K.map toTS ++ [catTS nY []])) (lineC nY []) = (psOf (K.map toTS ++ [catTS nY []]), 5) := by
    unfold lineC
    rw [ref_cat nY_name hno (by simp) (by rw [List.length_append, List.length_map]; simp; omega), twice_yes (t := catTS nY []) (by simp) (by simp [catTS])]; rfl
  have hrun : refRun (psOf (K.map toTS)) (5 + K.length) [lineC nY [], lineC nY []] = (psOf (K.map toTS ++ [catTS nY []]), some (5 + K.length + 1, 5)) := by
    simp only [refRun, hr, hr2, if_true]; rfl
  rw [hrun]
  show (5 + K.length + 1, 5) = _
  rw [show 5 + K.length + 1 = K.length + 6 by omega]
theorem read_z (h : Ordd K ord) {b : Nat} {t : KT} {o : ByteArray} (hb : K[b]? = some t) (ho : o ∈ t.outs) : (refRead (((kText K ++ litZ) ++ o) ++ litZ2)).2 = (K.length + 7, 6) := by
  have hl := h.lined
  have h12 := hl.1
  have hs := text_size hl
  obtain ⟨hbl, hbe⟩ := List.getElem?_eq_some_iff.1 hb
  have hop : Pth o := (hl.2 b hbl).outs_pth (by omega) o (by rw [hbe]; exact ho)
  have hos := hop.1
  have hz : (((kText K ++ litZ) ++ o) ++ litZ2).size ≤ 2000 := by
    rw [ByteArray.size_append, ByteArray.size_append, ByteArray.size_append]
    have : litZ.size = 14 := rfl
    have : litZ2.size = 19 := rfl
    omega
  have e : (((kText K ++ litZ) ++ o) ++ litZ2).data.toList = (kText K).data.toList ++ sepL 10 [lineC nZ [o], lineC nZ2 [nZ, nZ2]] := by
    rw [ba_append, ba_append, ba_append, sepL_cons, sepL_cons, sepL_nil, lineC_list, lineC_list, sepL_cons, sepL_nil, sepL_cons, sepL_cons, sepL_nil, nZ, nZ2, bs_list, bs_list]
    simp only [litZ, litZ2, List.append_assoc, List.cons_append, List.nil_append, List.append_nil]
  have hio : ∀ x ∈ [o], nameB x.data.toList = true := fun x hx => by rw [List.mem_singleton] at hx; subst hx; exact hop.2
  have hiz : ∀ x ∈ [nZ, nZ2], nameB x.data.toList = true := fun x hx => by
    simp only [List.mem_cons, List.not_mem_nil, or_false] at hx
    rcases hx with rfl | rfl
    · exact nZ_name
    · exact nZ2_name
  rw [read_more hl (more_list hl e) (fun x hx => by
    simp only [List.mem_cons, List.not_mem_nil, or_false] at hx
    rcases hx with rfl | rfl
    · exact lineC_free nZ_name hio
    · exact lineC_free nZ2_name hiz) hz]
  have hfar : ∀ t ∈ K.map toTS, nZ ∉ t.outs := far_out hl (by decide +kernel)
  have hfar2 : ∀ t ∈ K.map toTS ++ [catTS nZ [o]], nZ2 ∉ t.outs := by
    intro u hu
    rw [List.mem_append, List.mem_singleton] at hu
    rcases hu with hu | rfl
    · exact far_out hl (by decide +kernel) u hu
    · have : nZ2 ≠ nZ := by decide +kernel
      simpa [catTS] using this
  have hr : refLine (psOf (K.map toTS)) (lineC nZ [o]) = (psOf (K.map toTS ++ [catTS nZ [o]]), 0) := by
    unfold lineC
    rw [ref_cat nZ_name hio (by simp) (by rw [List.length_map]; omega), once_new hfar]; rfl
  have hr2 : refLine (psOf (K.map toTS ++ [catTS nZ [o]])) (lineC nZ2 [nZ, nZ2]) = (psOf (K.map toTS ++ [catTS nZ [o]] ++ [catTS nZ2 [nZ, nZ2]]), 0) := by
    unfold lineC
    rw [ref_cat nZ2_name hiz (by simp) (by rw [List.length_append, List.length_map]; simp; omega), once_new hfar2]; rfl
  have hap : Apart (K.map toTS ++ [catTS nZ [o]]) := hl.apart.snoc (fun x hx u hu => by
    have : x = nZ := by simpa [catTS] using hx
    rw [this]; exact hfar u hu)
  have hring : ringB (waitsM (K.map toTS ++ [catTS nZ [o]] ++ [catTS nZ2 [nZ, nZ2]])) (K.map toTS ++ [catTS nZ [o]] ++ [catTS nZ2 [nZ, nZ2]]).length = true := by
    refine ring_self (a := (K.map toTS ++ [catTS nZ [o]]).length) (x := nZ2) (hap.snoc (fun x hx u hu => by
      have : x = nZ2 := by simpa [catTS] using hx
      rw [this]; exact hfar2 u hu)) (by simp) ?_ ?_
    · rw [List.getElem_append_right (Nat.le_refl _)]; simp [catTS]
    · rw [List.getElem_append_right (Nat.le_refl _)]; simp [catTS]
  have hrun : refRun (psOf (K.map toTS)) (5 + K.length) [lineC nZ [o], lineC nZ2 [nZ, nZ2]] = (psOf (K.map toTS ++ [catTS nZ [o]] ++ [catTS nZ2 [nZ, nZ2]]), none) := by
    simp only [refRun, hr, hr2, if_true]
  rw [hrun]
  show (if ringB (waitsM (K.map toTS ++ [catTS nZ [o]] ++ [catTS nZ2 [nZ, nZ2]])) (K.map toTS ++ [catTS nZ [o]] ++ [catTS nZ2 [nZ, nZ2]]).length = true then _ else _ : PS × Nat × Nat).2 = _
  rw [if_pos hring]
  show (5 + K.length + 2, 6) = _
  rw [show 5 + K.length + 2 = K.length + 7 by omega]
end
end Go.Proofs.YtoabakgmjcnodaaDoor
