import Derived.Test.YtoabakgmjcnodaaDoorKpTwo
import Derived.Test.YtoabakgmjcnodaaDoorGrOne
namespace Go.Proofs.YtoabakgmjcnodaaDoor
open Go.ChangeShapes Go.WideShapes Go.ChangeAt Go.RowKit

theorem kr_new (w : World) : KR (w.alloc (.cells #[.slice none 0 0, .slice none 0 0, .slice none 0 0, .slice none 0 0, .slice none 0 0, .slice none 0 0, .slice none 0 0] 39)) w.heap.size (fun k => k = w.heap.size) (fun _ => .slice none 0 0) (fun _ => []) := by
  refine ⟨heap_alloc_new w _, fun j hj => World.ownsRow_nil _ _ _ _, ?_, ?_, rfl, ?_, fun j _ => by simp⟩
  · intro j _ k hk; simp [Value.ownBlock] at hk
  · intro i j _ _ _ k hk; simp [Value.ownBlock] at hk
  · intro k hk; simp [hk]
structure RawV where
  kind : Int
  vI : Value
  zs : List Int
  cost : Int
  jobs : Int
  pool : Int
/-- Raw tasks as they came in. -/
def Raws (w : World) (v : Value) (l : List RawV) : Prop :=
  ∃ a c, v = .slice a l.length c ∧ l.length ≤ maxLen ∧ (∀ r ∈ l, I64 r.kind ∧ I64 r.cost ∧ I64 r.jobs ∧ I64 r.pool ∧ Zs w r.vI r.zs) ∧
    (l = [] ∨ ∃ b off, a = some ⟨b, off, none⟩ ∧ ∀ i (h : i < l.length), w.cell? ⟨b, off + i * 5, none⟩ = some (.int .i64 l[i].kind) ∧ w.cell? ⟨b, off + i * 5 + 1, none⟩ = some l[i].vI ∧ w.cell? ⟨b, off + i * 5 + 2, none⟩ = some (.int .i64 l[i].cost) ∧
      w.cell? ⟨b, off + i * 5 + 3, none⟩ = some (.int .i64 l[i].jobs) ∧ w.cell? ⟨b, off + i * 5 + 4, none⟩ = some (.int .i64 l[i].pool))
theorem Raws.below {w w1 : World} {v : Value} {l : List RawV} (h : Raws w v l) (hb : Below w.heap.size w w1) : Raws w1 v l := by
  obtain ⟨a, c, rfl, h1, h2, h⟩ := h
  refine ⟨a, c, rfl, h1, fun r hr => ⟨(h2 r hr).1, (h2 r hr).2.1, (h2 r hr).2.2.1, (h2 r hr).2.2.2.1, (h2 r hr).2.2.2.2.below hb⟩, ?_⟩
  rcases h with h | ⟨b, off, rfl, hc⟩
  · exact .inl h
  · refine .inr ⟨b, off, rfl, fun i hi => ?_⟩
    obtain ⟨c0, c1, c2, c3, c4⟩ := hc i hi
    have e := hb.block b (block_lt_of_cell c0)
    exact ⟨(World.cell?_of_block e).trans c0, (World.cell?_of_block e).trans c1, (World.cell?_of_block e).trans c2, (World.cell?_of_block e).trans c3, (World.cell?_of_block e).trans c4⟩

def lineOf (back : Bool) (n i : Nat) : Nat := if back = true then n - 1 - i else i
/-- Tasks one after the other, each made of files and of what the ones ahead of it make. -/
def Chain (K : List KT) (back : Bool) (n : Nat) : Prop := ∀ i (h : i < K.length), TW K[i] (lineOf back n i) (filesL ++ (K.take i).flatMap (·.outs))
theorem Chain.snoc {K : List KT} {back : Bool} {n : Nat} {t : KT} (h : Chain K back n) (ht : TW t (lineOf back n K.length) (filesL ++ K.flatMap (·.outs))) : Chain (K ++ [t]) back n := by
  intro i hi
  rw [List.length_append, List.length_singleton] at hi
  by_cases e : i < K.length
  · rw [List.getElem_append_left e, List.take_append_of_le_length (by omega)]; exact h i e
  · have : i = K.length := by omega
    subst this
    rw [List.getElem_append_right (Nat.le_refl _), List.take_left']
    · simpa using ht
    · rfl
theorem Chain.outs {K : List KT} {back : Bool} {n : Nat} (h : Chain K back n) : ∀ t ∈ K, 1 ≤ t.outs.length ∧ t.outs.length ≤ 2 := by
  intro t ht
  obtain ⟨i, hi, rfl⟩ := List.mem_iff_getElem.1 ht
  have := (h i hi).outs
  rw [this]
  split <;> simp
theorem paths_len {K : List KT} (h : ∀ t ∈ K, t.outs.length ≤ 2) : (filesL ++ K.flatMap (·.outs)).length ≤ 4 + 2 * K.length := by
  have key : ∀ K : List KT, (∀ t ∈ K, t.outs.length ≤ 2) → (K.flatMap (·.outs)).length ≤ 2 * K.length := by
    intro K
    induction K with
    | nil => intro _; simp
    | cons t K ih =>
      intro h
      have h1 := h t (by simp)
      have h2 := ih (fun u hu => h u (List.mem_cons_of_mem _ hu))
      simp only [List.flatMap_cons, List.length_append, List.length_cons]; omega
  have := key K h
  rw [List.length_append]
  have e : filesL.length = 4 := rfl
  omega

/-- Where the second loop stands. -/
structure PRel (w wr : World) (back : Bool) (n : Nat) (K : List KT) (M : Nat → Prop) (v : Nat → Value) (cO cI : List Value) (vp : Value) : Prop where
  plan : KPl wr w.heap.size M v K ((List.range K.length).map (lineOf back n)) cO cI
  chain : Chain K back n
  paths : wr.ownsRow (w.heap.size + 1) 9 1 vp (filesL ++ K.flatMap (·.outs)).length ((filesL ++ K.flatMap (·.outs)).map Value.string)
  away : ∀ q, vp.ownBlock = some q → ¬ M q
  sep : ∀ q, vp.ownBlock = some q → ∀ u ∈ cO ++ cI, u.ownBlock ≠ some q
  low : ∀ q, M q → w.heap.size ≤ q
  bel : Below w.heap.size w wr

def PlanPost (w w1 : World) (back : Bool) (n : Nat) : Prop :=
  ∃ K M v cO cI, K.length = n ∧ Chain K back n ∧ KPl w1 w.heap.size M v (if back = true then K.reverse else K) ((List.range n).map (lineOf back n)) cO cI ∧ Below w.heap.size w w1

section
variable {w w1 W Wb : World} {pb : Nat} {M M1 : Nat → Prop} {v v1 : Nat → Value} {K : List KT} {ord : List Nat} {cO cI : List Value}
theorem KPl.mem {u : Value} (P : KPl w pb M v K ord cO cI) (h : u ∈ cO ++ cI) : ∀ q, u.ownBlock = some q → ¬ M q ∧ q < w.heap.size := by
  rw [List.mem_append] at h
  rcases h with h | h
  · obtain ⟨i, hi, rfl⟩ := List.mem_iff_getElem.1 h
    obtain ⟨x, h1, _, h3⟩ := P.eO i (by rw [← P.lO]; exact hi)
    rw [List.getElem?_eq_getElem hi] at h1
    injection h1 with h1
    rw [h1]; exact h3
  · obtain ⟨i, hi, rfl⟩ := List.mem_iff_getElem.1 h
    obtain ⟨x, h1, _, h3⟩ := P.eI i (by rw [← P.lI]; exact hi)
    rw [List.getElem?_eq_getElem hi] at h1
    injection h1 with h1
    rw [h1]; exact h3
/-- Behind an append to a list of words that is none of the plan's. -/
theorem KPl.path {vp : Value} (P : KPl w pb M v K ord cO cI) (hg : w.grownBy w1 vp.ownBlock) (ha : ∀ q, vp.ownBlock = some q → ¬ M q) (hs : ∀ q, vp.ownBlock = some q → ∀ u ∈ cO ++ cI, u.ownBlock ≠ some q) : KPl w1 pb M v K ord cO cI := by
  have hS : Same (fun k => vp.ownBlock = some k) w w1 := (Same.refl _ w).grown hg (fun k hk _ => hk)
  refine ⟨P.R.block (fun k hk hM => hS.block k hk (fun e => ha k e hM)) hS.size, P.lO, P.lI, fun i hi => ?_, fun i hi => ?_⟩
  · obtain ⟨u, h1, h2, h3⟩ := P.eO i hi
    exact ⟨u, h1, h2.same hS (fun k hk e => hs k e u (List.mem_append_left _ (List.mem_of_getElem? h1)) hk), fun q hq => ⟨(h3 q hq).1, Nat.lt_of_lt_of_le (h3 q hq).2 hS.size⟩⟩
  · obtain ⟨u, h1, h2, h3⟩ := P.eI i hi
    exact ⟨u, h1, h2.same hS (fun k hk e => hs k e u (List.mem_append_right _ (List.mem_of_getElem? h1)) hk), fun q hq => ⟨(h3 q hq).1, Nat.lt_of_lt_of_le (h3 q hq).2 hS.size⟩⟩
theorem rows_ord_at (k : Nat) : ∀ j, j < 7 → up (rowsOf K ord cO cI) 6 (rowsOf K ord cO cI 6 ++ [.int .i64 (k : Int)]) j = rowsOf K (ord ++ [k]) cO cI j := by
  intro j hj
  rcases (show j = 0 ∨ j = 1 ∨ j = 2 ∨ j = 3 ∨ j = 4 ∨ j = 5 ∨ j = 6 by omega) with rfl | rfl | rfl | rfl | rfl | rfl | rfl
  all_goals simp [up, rowsOf]
theorem KR.rows {xs ys : Nat → List Value} (R : KR w pb M v xs) (h : ∀ j, j < 7 → xs j = ys j) : KR w pb M v ys :=
  ⟨R.blk, fun j hj => by rw [← h j hj]; exact R.own j hj, R.mine, R.apart, R.top, R.old, fun j hj => by rw [← h j hj]; exact R.few j hj⟩
/-- Behind the append of a number to the order. -/
theorem KPl.ordered (P : KPl w pb M v K ord cO cI) {gg cap k n : Nat} (hn : n = ord.length) (h12 : n < 12) (hWb : Below w.heap.size w Wb)
    (hown : w1.ownsRow (pb + 1) 3 1 (.slice (some ⟨gg, 0, none⟩) (n + 1) cap) (n + 1) (rowsOf K ord cO cI 6 ++ [.int .i64 (k : Int)]))
    (hg : Wb.grownBy w1 (v 6).ownBlock) (hat : (v 6).ownBlock = some gg ∨ w.heap.size ≤ gg) :
    ∃ M1 v1, KPl (w1.setCell ⟨pb, 6, none⟩ (.slice (some ⟨gg, 0, none⟩) (n + 1) cap)) pb M1 v1 K (ord ++ [k]) cO cI ∧ Same M w (w1.setCell ⟨pb, 6, none⟩ (.slice (some ⟨gg, 0, none⟩) (n + 1) cap)) ∧ ∀ q, M1 q → M q ∨ w.heap.size ≤ q := by
  obtain ⟨M1, R1, hS, hM⟩ := P.R.app (j := 6) (n := n) (by omega) (by rw [hn]; simp [rowsOf]) h12 hWb hown hg hat
  obtain ⟨kO, kI⟩ := P.keep hS hM
  exact ⟨M1, _, ⟨R1.rows (rows_ord_at k), P.lO, P.lI, kO, kI⟩, hS, hM⟩
/-- One more round of the second loop. -/
theorem PRel.next {w wr w1 w2 W3 : World} {back : Bool} {n ki gg cap : Nat} {K : List KT} {M M1 M3 : Nat → Prop} {v v1 v3 : Nat → Value} {cO cI : List Value} {ap : Option Addr} {cp : Nat} {t : KT} {vO vI : Value} {paths : List ByteArray}
    (HR : PRel w wr back n K M v cO cI (.slice ap paths.length cp)) (hpt : filesL ++ K.flatMap (·.outs) = paths) (hki : lineOf back n K.length = ki) (hT : TW t ki paths)
    (P1 : KPl w1 w.heap.size M1 v1 (K ++ [t]) ((List.range K.length).map (lineOf back n)) (cO ++ [vO]) (cI ++ [vI])) (hM1 : ∀ q, M1 q → M q ∨ wr.heap.size ≤ q) (hb1 : Below w.heap.size w w1)
    (hpo1 : w1.ownsRow (w.heap.size + 1) 9 1 (.slice ap paths.length cp) paths.length (paths.map Value.string))
    (haw1 : ∀ q, (Value.slice ap paths.length cp).ownBlock = some q → ¬ M1 q) (hsp1 : ∀ q, (Value.slice ap paths.length cp).ownBlock = some q → ∀ u ∈ (cO ++ [vO]) ++ (cI ++ [vI]), u.ownBlock ≠ some q)
    (hown2 : w2.ownsRow (w.heap.size + 1) 9 1 (.slice (some ⟨gg, 0, none⟩) (paths.length + t.outs.length) cap) (paths.length + t.outs.length) (paths.map Value.string ++ t.outs.map Value.string))
    (hg2 : w1.grownBy w2 (Value.slice ap paths.length cp).ownBlock) (hat2 : (Value.slice ap paths.length cp).ownBlock = some gg ∨ gg = w1.heap.size)
    (P3 : KPl W3 w.heap.size M3 v3 (K ++ [t]) ((List.range K.length).map (lineOf back n) ++ [ki]) (cO ++ [vO]) (cI ++ [vI])) (hS3 : Same M1 w2 W3) (hM3 : ∀ q, M3 q → M1 q ∨ w2.heap.size ≤ q) :
    PRel w W3 back n (K ++ [t]) M3 v3 (cO ++ [vO]) (cI ++ [vI]) (.slice (some ⟨gg, 0, none⟩) (paths.length + t.outs.length) cap) := by
  have hb1s := hb1.size
  have hg2s := hg2.size
  have hrs := HR.bel.size
  have hnM : ¬ M1 gg := by
    rcases hat2 with h | h
    · exact haw1 gg h
    · intro hm; have := P1.R.old gg hm; omega
  have hgl := (hown2.lt gg rfl).2
  have hlow1 : ∀ q, M1 q → w.heap.size ≤ q := fun q hq => (hM1 q hq).elim (HR.low q) (fun h => by omega)
  have hb2 : Below w.heap.size w w2 := hb1.grown hg2 hb1s (fun j hj => by have := (hpo1.lt j hj).1; omega)
  have hpe : filesL ++ (K ++ [t]).flatMap (·.outs) = paths ++ t.outs := by
    rw [List.flatMap_append, ← List.append_assoc, hpt]; simp
  refine ⟨?_, HR.chain.snoc (by rw [hki, hpt]; exact hT), ?_, ?_, ?_, fun q hq => ?_, hb2.trans (hS3.below hb2.size hlow1)⟩
  · have e : (List.range (K ++ [t]).length).map (lineOf back n) = (List.range K.length).map (lineOf back n) ++ [ki] := by
      rw [List.length_append, List.length_singleton, List.range_succ, List.map_append, List.map_singleton, hki]
    rw [e]; exact P3
  · rw [hpe]
    have h := hS3.owns hown2 (fun k hk => by have : k = gg := by simpa [Value.ownBlock] using hk.symm
                                             rw [this]; exact hnM)
    rw [List.length_append, List.map_append]; exact h
  · intro q hq
    have : q = gg := by simpa [Value.ownBlock] using hq.symm
    rw [this]
    exact (KR.drop hS3 hM3 ⟨hnM, hgl⟩).1
  · intro q hq u hu
    have : q = gg := by simpa [Value.ownBlock] using hq.symm
    rw [this]
    rcases hat2 with h | h
    · exact hsp1 gg h u hu
    · intro e
      have := (P1.mem hu gg e).2
      omega
  · rcases hM3 q hq with h | h
    · exact hlow1 q h
    · have := hb2.size; omega
theorem KPl.added' (P : KPl w pb M v K ord cO cI) {k n : Nat} {paths : List ByteArray} (h : AddPost w w1 pb M (rowsOf K ord cO cI) k paths n) :
    ∃ t vO vI M1 v1, TW t k paths ∧ KPl w1 pb M1 v1 (K ++ [t]) ord (cO ++ [vO]) (cI ++ [vI]) ∧ Same M w w1 ∧ (∀ q, M1 q → M q ∨ w.heap.size ≤ q) ∧ (∀ q, vO.ownBlock = some q → w.heap.size ≤ q) ∧ ∀ q, vI.ownBlock = some q → w.heap.size ≤ q := by
  obtain ⟨t, vO, vI, M1, v1, hT, hR, sO, sI, aO, aI, hS, hM⟩ := h
  rw [rows_add] at hR
  obtain ⟨kO, kI⟩ := P.keep hS hM
  refine ⟨t, vO, vI, M1, v1, hT, ⟨hR, by simp [P.lO], by simp [P.lI], fun i hi => ?_, fun i hi => ?_⟩, hS, hM, fun q hq => (aO q hq).1, fun q hq => (aI q hq).1⟩
  · rw [List.length_append, List.length_singleton] at hi
    by_cases e : i < K.length
    · obtain ⟨u, h1, h2, h3⟩ := kO i e
      refine ⟨u, by rw [List.getElem?_append_left (by rw [P.lO]; exact e)]; exact h1, ?_, h3⟩
      rw [List.getElem_append_left e]; exact h2
    · have : i = K.length := by omega
      subst this
      refine ⟨vO, by rw [← P.lO]; simp, ?_, fun q hq => (aO q hq).2⟩
      rw [List.getElem_append_right (Nat.le_refl _)]; simpa using sO
  · rw [List.length_append, List.length_singleton] at hi
    by_cases e : i < K.length
    · obtain ⟨u, h1, h2, h3⟩ := kI i e
      refine ⟨u, by rw [List.getElem?_append_left (by rw [P.lI]; exact e)]; exact h1, ?_, h3⟩
      rw [List.getElem_append_left e]; exact h2
    · have : i = K.length := by omega
      subst this
      refine ⟨vI, by rw [← P.lI]; simp, ?_, fun q hq => (aI q hq).2⟩
      rw [List.getElem_append_right (Nat.le_refl _)]; simpa using sI
end
end Go.Proofs.YtoabakgmjcnodaaDoor
