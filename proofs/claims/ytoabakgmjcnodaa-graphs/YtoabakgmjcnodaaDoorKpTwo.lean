import Derived.Test.YtoabakgmjcnodaaDoorKpAdd
import Derived.Test.YtoabakgmjcnodaaDoorOwnK
namespace Go.Proofs.YtoabakgmjcnodaaDoor
open Go.ChangeShapes Go.WideShapes Go.ChangeAt Go.RowKit

def rowsOf (K : List KT) (ord : List Nat) (cO cI : List Value) : Nat → List Value
  | 0 => K.map fun t => .string t.act
  | 1 => cO
  | 2 => cI
  | 3 => K.map fun t => .int .i64 (t.cost : Int)
  | 4 => K.map fun t => .int .i64 (t.jobs : Int)
  | 5 => K.map fun t => .int .i64 (t.pool : Int)
  | _ => ord.map fun (n : Nat) => .int .i64 (n : Int)

structure KPl (w : World) (pb : Nat) (M : Nat → Prop) (v : Nat → Value) (K : List KT) (ord : List Nat) (cO cI : List Value) : Prop where
  R : KR w pb M v (rowsOf K ord cO cI)
  lO : cO.length = K.length
  lI : cI.length = K.length
  eO : ∀ i (h : i < K.length), ∃ u, cO[i]? = some u ∧ Strs w u K[i].outs ∧ ∀ q, u.ownBlock = some q → ¬ M q ∧ q < w.heap.size
  eI : ∀ i (h : i < K.length), ∃ u, cI[i]? = some u ∧ Strs w u K[i].ins ∧ ∀ q, u.ownBlock = some q → ¬ M q ∧ q < w.heap.size

section
variable {w w1 : World} {pb : Nat} {M M1 : Nat → Prop} {v v1 : Nat → Value} {K : List KT} {ord : List Nat} {cO cI : List Value}
theorem KPl.few (P : KPl w pb M v K ord cO cI) : K.length ≤ 12 ∧ ord.length ≤ 12 := by
  have h0 := P.R.few 0 (by omega)
  have h6 := P.R.few 6 (by omega)
  simp [rowsOf] at h0 h6
  exact ⟨h0, h6⟩
theorem KPl.same (P : KPl w pb M v K ord cO cI) (h : Below w.heap.size w w1) : KPl w1 pb M v K ord cO cI := by
  refine ⟨P.R.same h, P.lO, P.lI, fun i hi => ?_, fun i hi => ?_⟩
  · obtain ⟨u, h1, h2, h3⟩ := P.eO i hi
    exact ⟨u, h1, h2.below h, fun q hq => ⟨(h3 q hq).1, Nat.lt_of_lt_of_le (h3 q hq).2 h.size⟩⟩
  · obtain ⟨u, h1, h2, h3⟩ := P.eI i hi
    exact ⟨u, h1, h2.below h, fun q hq => ⟨(h3 q hq).1, Nat.lt_of_lt_of_le (h3 q hq).2 h.size⟩⟩
theorem KPl.len (P : KPl w pb M v K ord cO cI) : ∀ j, j < 6 → (rowsOf K ord cO cI j).length = K.length := by
  intro j hj
  rcases (show j = 0 ∨ j = 1 ∨ j = 2 ∨ j = 3 ∨ j = 4 ∨ j = 5 by omega) with rfl | rfl | rfl | rfl | rfl | rfl
  · simp [rowsOf]
  · exact P.lO
  · exact P.lI
  all_goals simp [rowsOf]
theorem rows_add (t : KT) (vO vI : Value) : (fun j => if j < 6 then rowsOf K ord cO cI j ++ [if j = 0 then .string t.act else if j = 1 then vO else if j = 2 then vI else if j = 3 then .int .i64 t.cost else if j = 4 then .int .i64 t.jobs else .int .i64 t.pool] else rowsOf K ord cO cI j) =
    rowsOf (K ++ [t]) ord (cO ++ [vO]) (cI ++ [vI]) := by
  funext j
  rcases (show j = 0 ∨ j = 1 ∨ j = 2 ∨ j = 3 ∨ j = 4 ∨ j = 5 ∨ 6 ≤ j by omega) with rfl | rfl | rfl | rfl | rfl | rfl | h
  · simp [rowsOf]
  · simp [rowsOf]
  · simp [rowsOf]
  · simp [rowsOf]
  · simp [rowsOf]
  · simp [rowsOf]
  · obtain ⟨q, rfl⟩ : ∃ q, j = q + 6 := ⟨j - 6, by omega⟩
    rw [if_neg (by omega)]; rfl
/-- Lists of words that are not written into. -/
theorem words_keep {L : List (List ByteArray)} {c : List Value} (hS : Same M w w1) (hM : ∀ q, M1 q → M q ∨ w.heap.size ≤ q)
    (h : ∀ i (h : i < L.length), ∃ u, c[i]? = some u ∧ Strs w u L[i] ∧ ∀ q, u.ownBlock = some q → ¬ M q ∧ q < w.heap.size) :
    ∀ i (h : i < L.length), ∃ u, c[i]? = some u ∧ Strs w1 u L[i] ∧ ∀ q, u.ownBlock = some q → ¬ M1 q ∧ q < w1.heap.size := by
  intro i hi
  obtain ⟨u, h1, h2, h3⟩ := h i hi
  refine ⟨u, h1, h2.same hS (fun q hq => (h3 q hq).1), fun q hq => ?_⟩
  have := KR.drop hS hM (h3 q hq)
  exact ⟨this.1, this.2.1⟩
theorem KPl.keep (P : KPl w pb M v K ord cO cI) (hS : Same M w w1) (hM : ∀ q, M1 q → M q ∨ w.heap.size ≤ q) :
    (∀ i (h : i < K.length), ∃ u, cO[i]? = some u ∧ Strs w1 u K[i].outs ∧ ∀ q, u.ownBlock = some q → ¬ M1 q ∧ q < w1.heap.size) ∧
    (∀ i (h : i < K.length), ∃ u, cI[i]? = some u ∧ Strs w1 u K[i].ins ∧ ∀ q, u.ownBlock = some q → ¬ M1 q ∧ q < w1.heap.size) := by
  constructor
  · intro i hi
    obtain ⟨u, h1, h2, h3⟩ := P.eO i hi
    exact ⟨u, h1, h2.same hS (fun q hq => (h3 q hq).1), fun q hq => by have := KR.drop hS hM (h3 q hq); exact ⟨this.1, this.2.1⟩⟩
  · intro i hi
    obtain ⟨u, h1, h2, h3⟩ := P.eI i hi
    exact ⟨u, h1, h2.same hS (fun q hq => (h3 q hq).1), fun q hq => by have := KR.drop hS hM (h3 q hq); exact ⟨this.1, this.2.1⟩⟩
/-- Behind add. -/
theorem KPl.added (P : KPl w pb M v K ord cO cI) {k n : Nat} {paths : List ByteArray} (h : AddPost w w1 pb M (rowsOf K ord cO cI) k paths n) :
    ∃ t vO vI M1 v1, TW t k paths ∧ KPl w1 pb M1 v1 (K ++ [t]) ord (cO ++ [vO]) (cI ++ [vI]) ∧ Same M w w1 ∧ ∀ q, M1 q → M q ∨ w.heap.size ≤ q := by
  obtain ⟨t, vO, vI, M1, v1, hT, hR, sO, sI, aO, aI, hS, hM⟩ := h
  rw [rows_add] at hR
  obtain ⟨kO, kI⟩ := P.keep hS hM
  refine ⟨t, vO, vI, M1, v1, hT, ⟨hR, by simp [P.lO], by simp [P.lI], fun i hi => ?_, fun i hi => ?_⟩, hS, hM⟩
  · rw [List.length_append, List.length_singleton] at hi
    by_cases e : i < K.length
    · obtain ⟨u, h1, h2, h3⟩ := kO i e
      refine ⟨u, by rw [List.getElem?_append_left (by rw [P.lO]; exact e)]; exact h1, ?_, h3⟩
      rw [List.getElem_append_left e]; exact h2
    · have : i = K.length := by omega
      subst this
      refine ⟨vO, by rw [← P.lO]; simp, ?_, fun q hq => (aO q hq).2⟩
      rw [List.getElem_append_right (Nat.le_refl _)]; simpa using sO
  · rw [List.length_append, List.length_singleton] at hi
    by_cases e : i < K.length
    · obtain ⟨u, h1, h2, h3⟩ := kI i e
      refine ⟨u, by rw [List.getElem?_append_left (by rw [P.lI]; exact e)]; exact h1, ?_, h3⟩
      rw [List.getElem_append_left e]; exact h2
    · have : i = K.length := by omega
      subst this
      refine ⟨vI, by rw [← P.lI]; simp, ?_, fun q hq => (aI q hq).2⟩
      rw [List.getElem_append_right (Nat.le_refl _)]; simpa using sI
/-- A cell of a row. -/
theorem KR.at {xs : Nat → List Value} (R : KR w pb M v xs) {j : Nat} (hj : j < 7) {i : Nat} {u : Value} (hu : (xs j)[i]? = some u) :
    ∃ g c, v j = .slice (some ⟨g, 0, none⟩) (xs j).length c ∧ w.cell? ⟨pb, j, none⟩ = some (.slice (some ⟨g, 0, none⟩) (xs j).length c) ∧ w.cell? ⟨g, i, none⟩ = some u ∧ M g ∧ pb + 1 ≤ g := by
  have ho := R.own j hj
  have hc := (R.cell j hj).1
  have hi : i < (xs j).length := (List.getElem?_eq_some_iff.1 hu).1
  rcases ho.2 with ⟨_, h0⟩ | ⟨g, cap, cur, e, hB, hg, hle, _⟩
  · omega
  · refine ⟨g, cap, e, by rw [hc, e], ?_, R.mine j hj g (by rw [e]; rfl), hB⟩
    have := ho.cells (g := g) (by rw [e]; rfl) i u hu
    rwa [addr_add] at this
theorem KPl.at (P : KPl w pb M v K ord cO cI) {j : Nat} (hj : j < 6) {i : Nat} {u : Value} (hu : (rowsOf K ord cO cI j)[i]? = some u) :
    ∃ g c, w.cell? ⟨pb, j, none⟩ = some (.slice (some ⟨g, 0, none⟩) K.length c) ∧ w.cell? ⟨g, i, none⟩ = some u := by
  obtain ⟨g, c, _, h1, h2, _⟩ := P.R.at (by omega) hu
  rw [P.len j hj] at h1
  exact ⟨g, c, h1, h2⟩
end

/-- Does a task with these inputs wait for one with these outputs? -/
def kwB (ins outs : List ByteArray) : Bool := ins.any fun x => hasB outs x
def kwTo (ins outs : List ByteArray) (k : Nat) : Prop := ∀ i (h : i < ins.length), i < k → hasB outs ins[i] = false
theorem kwTo_succ {ins outs : List ByteArray} {k : Nat} (h : kwTo ins outs k) (hk : k < ins.length) (h1 : hasB outs ins[k] = false) : kwTo ins outs (k + 1) := by
  intro i hi hik
  by_cases e : i = k
  · subst e; exact h1
  · exact h i hi (by omega)

set_option maxHeartbeats 2000000 in
theorem kp_waits {w : World} {pb : Nat} {M : Nat → Prop} {v : Nat → Value} {K : List KT} {ord : List Nat} {cO cI : List Value} (P : KPl w pb M v K ord cO cI) (a b : Nat) (ha : a < K.length) (hb : b < K.length) (hl : ∀ t ∈ K, t.outs.length ≤ 1000 ∧ t.ins.length ≤ 1000) :
    Calls Tryd.prog 24 #[.pointer (some ⟨pb, 0, none⟩), .int .i64 a, .int .i64 b] w fun e w' => e = .returned (.bool (kwB K[a].ins K[b].outs)) ∧ Below w.heap.size w w' := by
  have hf := P.few.1
  have hla := (hl _ (List.getElem_mem ha)).2
  have hlb := (hl _ (List.getElem_mem hb)).1
  obtain ⟨uI, hI1, hI2, _⟩ := P.eI a ha
  obtain ⟨uO, hO1, hO2, _⟩ := P.eO b hb
  obtain ⟨gI, cI1, pI, xI⟩ := P.at (j := 2) (by omega) (i := a) hI1
  obtain ⟨gO, cO1, pO, xO⟩ := P.at (j := 1) (by omega) (i := b) hO1
  generalize K[a].ins = ins at *
  generalize K[b].outs = outs at *
  obtain ⟨aI, cI2, rfl, _, _⟩ := id hI2
  obtain ⟨aO, cO2, rfl, _, _⟩ := id hO2
  have HI : Hid (Strs w (.slice aI ins.length cI2) ins) := hI2
  have HO : Hid (Strs w (.slice aO outs.length cO2) outs) := hO2
  generalize hP : kwB ins outs = R
  have HP : Hid (kwB ins outs = R) := hP
  generalize K.length = n at *
  clear hP hI2 hO2 hl hI1 hO1 P
  go_enter Tryd.func24, Tryd.ntmps24
  go_wp2_with fail
  go_loopw [6, 7, 8] (fun _ i _ wr => ∃ k : Nat, k ≤ ins.length ∧ i = .int .i64 k ∧ kwTo ins outs k ∧ Below w.heap.size w wr) (fun _ i _ _ => ins.length - (intOf i).toNat)
  case atStart => exact ⟨0, Nat.zero_le _, rfl, fun i hi h => by omega, Below.refl _ _⟩
  case round =>
    obtain ⟨k, hk, rfl, hno, hbel⟩ := hrel
    have q1 := (hbel.cell (p := ⟨pb, 2, none⟩) (block_lt_of_cell pI)).trans pI
    have q2 := (hbel.cell (p := ⟨gI, a, none⟩) (block_lt_of_cell xI)).trans xI
    have q3 := (hbel.cell (p := ⟨pb, 1, none⟩) (block_lt_of_cell pO)).trans pO
    have q4 := (hbel.cell (p := ⟨gO, b, none⟩) (block_lt_of_cell xO)).trans xO
    by_cases hlt : k < ins.length
    · obtain ⟨bi, oi, hx, hc⟩ := strs_at (HI.out.below hbel) hlt
      subst hx
      have HN : Hid (hasB outs ins[k] = false → kwTo ins outs (k + 1)) := fun h => kwTo_succ hno hlt h
      have HY : Hid (hasB outs ins[k] = true → kwB ins outs = true) := fun h => by unfold kwB; rw [List.any_eq_true]; exact ⟨_, List.getElem_mem hlt, h⟩
      generalize ins[k] = x at *
      have CIN : Hid (∀ n, Calls Tryd.prog 35 #[.slice aO outs.length cO2, .string x] (wr.drewN n) fun e w' => e = .returned (.bool (hasB outs x)) ∧ w' = wr.drewN n) := fun n => kp_in _ outs x _ ((HO.out.below hbel).heap (drewN_heap _ _)) hlb
      obtain ⟨r, hr⟩ : ∃ r, hasB outs x = r := ⟨_, rfl⟩
      have HRR : Hid (hasB outs x = r) := hr
      rw [hr] at CIN
      clear hr
      cases r
      · go_wp2_with fail
        go_quiet ((go_at_call 35; exact Calls.quiet_of_same (CIN.out _)))
        go_wp2
        go_roundw
        case rel => exact ⟨k + 1, by omega, by go_num, HN.out HRR.out, below_drewN hbel _⟩
        case measure => simp [intOf]; omega
      · go_wp2_with fail
        go_quiet ((go_at_call 35; exact Calls.quiet_of_same (CIN.out _)))
        go_wp2
        go_ret
        exact ⟨ret_bool (by rw [← HP.out, HY.out HRR.out]), below_drewN hbel _⟩
    · have HF : Hid (kwB ins outs = false) := by
        unfold kwB; rw [Hid, List.any_eq_false]
        intro x hx
        obtain ⟨i, hi, rfl⟩ := List.mem_iff_getElem.1 hx
        rw [hno i hi (by omega)]; simp
      go_wp2
      go_ret
      exact ⟨ret_bool (by rw [← HP.out, HF.out]), hbel⟩

def dg (n : Nat) : ByteArray := digs.extract n (n + 1)
/-- One line more. -/
def kHead (s : ByteArray) (t : KT) : ByteArray := ((((s ++ ⟨#[10, 116, 97, 115, 107]⟩) ++ wordsK t.outs) ++ ⟨#[32, 61, 32]⟩) ++ t.act) ++ wordsK t.ins
def kCost (s : ByteArray) (n : Nat) : ByteArray := (s ++ ⟨#[32, 124, 32, 99, 111, 115, 116, 32]⟩) ++ dg n
def kPool (s : ByteArray) (n : Nat) : ByteArray := (s ++ ⟨#[32, 112, 111, 111, 108, 32, 112]⟩) ++ dg n
def kJobs (s : ByteArray) (n : Nat) : ByteArray := (s ++ ⟨#[32, 106, 111, 98, 115, 32]⟩) ++ dg n
def kAddL (s : ByteArray) (t : KT) : ByteArray := if 0 < t.pool then kJobs (kPool (kCost (kHead s t) t.cost) t.pool) t.jobs else kJobs (kCost (kHead s t) t.cost) t.jobs
def headT : ByteArray := ⟨#[112, 111, 111, 108, 32, 112, 49, 32, 49, 10, 112, 111, 111, 108, 32, 112, 50, 32, 50, 10, 35, 32, 116, 104, 101, 32, 116, 104, 105, 114, 100, 32, 111, 110, 101, 10, 10, 112, 111, 111, 108, 32, 112, 51, 32, 51]⟩
def kText (K : List KT) : ByteArray := K.foldl kAddL headT
theorem kText_next {K : List KT} {k : Nat} (h : k < K.length) : kText (K.take (k + 1)) = kAddL (kText (K.take k)) K[k] := by
  unfold kText
  rw [List.take_succ_eq_append_getElem h, List.foldl_append]; rfl

/-- What is asked of the tasks. -/
def Fits (t : KT) : Prop := t.outs.length ≤ 2 ∧ t.ins.length ≤ 4 ∧ (∀ x ∈ t.outs, x.size ≤ 16) ∧ (∀ x ∈ t.ins, x.size ≤ 16) ∧ t.act.size ≤ 5 ∧ t.cost ≤ 9 ∧ t.jobs ≤ 9 ∧ t.pool ≤ 9
theorem words_few {l : List ByteArray} (h : ∀ x ∈ l, x.size ≤ 16) : (wordsK l).size ≤ l.length * 17 := by
  have := wordsK_size l h l.length
  rwa [List.take_length] at this
theorem dg_size {n : Nat} (h : n ≤ 9) : (dg n).size = 1 := by
  unfold dg; rw [digs_ext h]; rfl
theorem addL_size {s : ByteArray} {t : KT} (h : Fits t) : (kAddL s t).size ≤ s.size + 200 := by
  obtain ⟨h1, h2, h3, h4, h5, h6, h7, h8⟩ := h
  have e1 := words_few h3
  have e2 := words_few h4
  have e3 := dg_size h6
  have e4 := dg_size h7
  have e5 := dg_size h8
  have n1 : (⟨#[10, 116, 97, 115, 107]⟩ : ByteArray).size = 5 := rfl
  have n2 : (⟨#[32, 61, 32]⟩ : ByteArray).size = 3 := rfl
  have n3 : (⟨#[32, 124, 32, 99, 111, 115, 116, 32]⟩ : ByteArray).size = 8 := rfl
  have n4 : (⟨#[32, 112, 111, 111, 108, 32, 112]⟩ : ByteArray).size = 7 := rfl
  have n5 : (⟨#[32, 106, 111, 98, 115, 32]⟩ : ByteArray).size = 6 := rfl
  unfold kAddL
  split
  all_goals
    simp only [kJobs, kPool, kCost, kHead, ByteArray.size_append]
    omega
theorem kText_size {K : List KT} (h : ∀ t ∈ K, Fits t) : ∀ k, k ≤ K.length → (kText (K.take k)).size ≤ 46 + k * 200
  | 0, _ => by simp [kText, headT, ByteArray.size]
  | k + 1, hk => by
    have ih := kText_size h k (by omega)
    rw [kText_next (by omega)]
    have := addL_size (s := kText (K.take k)) (h _ (List.getElem_mem (show k < K.length by omega)))
    omega

theorem dig_slice (n : Nat) (h : n ≤ 9) (w : World) : Sem.run Tryd.prog (Instr.slice 9 (.string ⟨#[48, 49, 50, 51, 52, 53, 54, 55, 56, 57]⟩) (some (.int .i64 (n : Int))) (some (.int .i64 ((n : Int) + 1))) none) w = .ok (.string (dg n)) w := by
  unfold dg digs
  rcases (show n = 0 ∨ n = 1 ∨ n = 2 ∨ n = 3 ∨ n = 4 ∨ n = 5 ∨ n = 6 ∨ n = 7 ∨ n = 8 ∨ n = 9 by omega) with rfl | rfl | rfl | rfl | rfl | rfl | rfl | rfl | rfl | rfl
  all_goals go_simp
set_option maxRecDepth 10000 in
set_option maxHeartbeats 1000000 in
theorem kp_text {w : World} {pb : Nat} {M : Nat → Prop} {v : Nat → Value} {K : List KT} {ord : List Nat} {cO cI : List Value} (P : KPl w pb M v K ord cO cI) (hK : ∀ t ∈ K, Fits t) :
    Calls Tryd.prog 11 #[.pointer (some ⟨pb, 0, none⟩), .bool false] w fun e w' => e = .returned (.string (kText K)) ∧ Below w.heap.size w w' := by
  have hf := P.few.1
  obtain ⟨a0, q0, hv0, _, hc0, _⟩ := P.R.ready 0 (by omega) rfl (P.len 0 (by omega))
  go_enter Tryd.func11, Tryd.ntmps11
  go_wp2_with fail
  go_loopw [5, 6] (fun s i wr => ∃ k : Nat, k ≤ K.length ∧ i = .int .i64 k ∧ s = .string (kText (K.take k)) ∧ Below w.heap.size w wr) (fun _ i _ => K.length - (intOf i).toNat)
  case atStart => exact ⟨0, Nat.zero_le _, rfl, rfl, Below.refl _ _⟩
  case round =>
    obtain ⟨k, hk, rfl, rfl, hbel⟩ := hrel
    have c0 := (hbel.cell (p := ⟨pb, 0, none⟩) (block_lt_of_cell hc0)).trans hc0
    by_cases hlt : k < K.length
    · have P1 := P.same hbel
      obtain ⟨f1, f2, f3, f4, f8, f5, f6, f7⟩ := hK _ (List.getElem_mem hlt)
      have hz0 := kText_size hK k hk
      have hz1 := words_few f3
      have hz2 := words_few f4
      have HNX : Hid (kText (K.take (k + 1)) = kAddL (kText (K.take k)) K[k]) := kText_next hlt
      obtain ⟨uO, hO1, hO2, _⟩ := P1.eO k hlt
      obtain ⟨uI, hI1, hI2, _⟩ := P1.eI k hlt
      obtain ⟨g0, d0, y0, x0⟩ := P1.at (j := 0) (by omega) (i := k) (u := .string K[k].act) (by simp [rowsOf, hlt])
      obtain ⟨g1, d1, y1, x1⟩ := P1.at (j := 1) (by omega) (i := k) hO1
      obtain ⟨g2, d2, y2, x2⟩ := P1.at (j := 2) (by omega) (i := k) hI1
      obtain ⟨g3, d3, y3, x3⟩ := P1.at (j := 3) (by omega) (i := k) (u := .int .i64 (K[k].cost : Int)) (by simp [rowsOf, hlt])
      obtain ⟨g4, d4, y4, x4⟩ := P1.at (j := 4) (by omega) (i := k) (u := .int .i64 (K[k].jobs : Int)) (by simp [rowsOf, hlt])
      obtain ⟨g5, d5, y5, x5⟩ := P1.at (j := 5) (by omega) (i := k) (u := .int .i64 (K[k].pool : Int)) (by simp [rowsOf, hlt])
      generalize K[k] = t at *
      obtain ⟨act, outs, ins, cost, jobs, pool⟩ := t
      simp only at f1 f2 f3 f4 f5 f6 f7 f8 hz1 hz2 hO2 hI2 x0 x3 x4 x5
      rw [y0] at c0
      injection c0 with c0
      obtain ⟨aI, cI2, rfl, _, _⟩ := id hI2
      obtain ⟨aO, cO2, rfl, _, _⟩ := id hO2
      have CW1 : Hid (∀ n, Calls Tryd.prog 22 #[.slice aO outs.length cO2] (wr.drewN n) fun e w' => e = .returned (.string (wordsK outs)) ∧ w' = wr.drewN n) := fun n => kp_words _ outs _ (hO2.heap (drewN_heap _ _)) (by omega) f3
      have CW2 : Hid (∀ n, Calls Tryd.prog 22 #[.slice aI ins.length cI2] (wr.drewN n) fun e w' => e = .returned (.string (wordsK ins)) ∧ w' = wr.drewN n) := fun n => kp_words _ ins _ (hI2.heap (drewN_heap _ _)) (by omega) f4
      have hz3 : (kText (K.take k)).size ≤ 3000 := by omega
      have hz4 : (wordsK outs).size ≤ 34 := by omega
      have hz5 : (wordsK ins).size ≤ 68 := by omega
      clear c0 hO1 hI1 P1 f1 f2 f3 f4 hz0 hz1 hz2
      generalize kText (K.take k) = s at *
      generalize K.length = n at *
      have HW1 : Hid (∀ n, ∀ q, (wr.drewN n).cell? q = wr.cell? q) := fun n q => by simp
      have n1 : (⟨#[10, 116, 97, 115, 107]⟩ : ByteArray).size = 5 := rfl
      have n2 : (⟨#[32, 61, 32]⟩ : ByteArray).size = 3 := rfl
      have n3 : (⟨#[32, 124, 32, 99, 111, 115, 116, 32]⟩ : ByteArray).size = 8 := rfl
      have n4 : (⟨#[32, 112, 111, 111, 108, 32, 112]⟩ : ByteArray).size = 7 := rfl
      have n5 : (⟨#[32, 106, 111, 98, 115, 32]⟩ : ByteArray).size = 6 := rfl
      have hz6 : (((((s ++ ⟨#[10, 116, 97, 115, 107]⟩) ++ wordsK outs) ++ ⟨#[32, 61, 32]⟩) ++ act) ++ wordsK ins).size ≤ 3200 := by
        simp only [ByteArray.size_append]; omega
      have fc : (cost : Int) ≤ 9 := by omega
      have fj : (jobs : Int) ≤ 9 := by omega
      have fp : (pool : Int) ≤ 9 := by omega
      have wc : IntKind.i64.wrap ((cost : Int) + 1) = (cost : Int) + 1 := by rw [IntKind.wrap_i64]; omega
      have wj : IntKind.i64.wrap ((jobs : Int) + 1) = (jobs : Int) + 1 := by rw [IntKind.wrap_i64]; omega
      have wp : IntKind.i64.wrap ((pool : Int) + 1) = (pool : Int) + 1 := by rw [IntKind.wrap_i64]; omega
      by_cases hp : 0 < pool
      · skip
        go_wp2_with fail
        go_quiet (first | (go_at_call_of 22 (Value.slice aO outs.length cO2); exact Calls.quiet_of_same (CW1.out _)) | (go_at_call_of 22 (Value.slice aI ins.length cI2); exact Calls.quiet_of_same (CW2.out _)))
        go_wp2_with fail
        obtain ⟨S1, hS1⟩ : ∃ S1, ((((s ++ ⟨#[10, 116, 97, 115, 107]⟩) ++ wordsK outs) ++ ⟨#[32, 61, 32]⟩) ++ act) ++ wordsK ins = S1 := ⟨_, rfl⟩
        rw [hS1] at hz6
        rw [hS1]
        have HS1 : Hid (((((s ++ ⟨#[10, 116, 97, 115, 107]⟩) ++ wordsK outs) ++ ⟨#[32, 61, 32]⟩) ++ act) ++ wordsK ins = S1) := hS1
        clear hS1 n1 n2 n3 n4 n5 hz3 hz4 hz5
        obtain ⟨W, hW⟩ : ∃ W, wr.drewN nq = W := ⟨_, rfl⟩
        have hbW := below_drewN hbel nq
        rw [hW] at hbW
        have hCW : ∀ q, W.cell? q = wr.cell? q := fun q => by rw [← hW]; simp
        rw [hW]
        replace y3 := (hCW _).trans y3
        replace x3 := (hCW _).trans x3
        replace y4 := (hCW _).trans y4
        replace x4 := (hCW _).trans x4
        replace y5 := (hCW _).trans y5
        replace x5 := (hCW _).trans x5
        clear hW hCW y0 x0 y1 x1 y2 x2 CW1 CW2 HW1
        have dc := dig_slice cost f5
        have dj := dig_slice jobs f6
        have dp := dig_slice pool f7
        have lc := dg_size f5
        have lj := dg_size f6
        have lp := dg_size f7
        have z1 : ¬ 9223372036854775807 < S1.size + 8 := by omega
        have z2 : ¬ 9223372036854775807 < S1.size + 8 + 1 := by omega
        go_quiet (fail)
        go_wp2_with fail
        obtain ⟨S2, hSS⟩ : ∃ SX, (S1 ++ (⟨#[32, 124, 32, 99, 111, 115, 116, 32]⟩)) ++ dg cost = SX := ⟨_, rfl⟩
        have hz7 : S2.size ≤ 3300 := by
          rw [← hSS, ByteArray.size_append, ByteArray.size_append, show (ByteArray.size (⟨#[32, 124, 32, 99, 111, 115, 116, 32]⟩)) = 8 from rfl]; omega
        have HS2 : Hid ((S1 ++ (⟨#[32, 124, 32, 99, 111, 115, 116, 32]⟩)) ++ dg cost = S2) := hSS
        rw [hSS]
        clear hSS z1 z2
        have z1 : ¬ 9223372036854775807 < S2.size + 7 := by omega
        have z2 : ¬ 9223372036854775807 < S2.size + 7 + 1 := by omega
        go_quiet (fail)
        go_wp2_with fail
        obtain ⟨S3, hSS⟩ : ∃ SX, (S2 ++ (⟨#[32, 112, 111, 111, 108, 32, 112]⟩)) ++ dg pool = SX := ⟨_, rfl⟩
        have hz8 : S3.size ≤ 3400 := by
          rw [← hSS, ByteArray.size_append, ByteArray.size_append, show (ByteArray.size (⟨#[32, 112, 111, 111, 108, 32, 112]⟩)) = 7 from rfl]; omega
        have HS3 : Hid ((S2 ++ (⟨#[32, 112, 111, 111, 108, 32, 112]⟩)) ++ dg pool = S3) := hSS
        rw [hSS]
        clear hSS z1 z2
        have z1 : ¬ 9223372036854775807 < S3.size + 6 := by omega
        have z2 : ¬ 9223372036854775807 < S3.size + 6 + 1 := by omega
        go_quiet (fail)
        go_wp2_with fail
        obtain ⟨S4, hSS⟩ : ∃ SX, (S3 ++ (⟨#[32, 106, 111, 98, 115, 32]⟩)) ++ dg jobs = SX := ⟨_, rfl⟩
        have hz9 : S4.size ≤ 3500 := by
          rw [← hSS, ByteArray.size_append, ByteArray.size_append, show (ByteArray.size (⟨#[32, 106, 111, 98, 115, 32]⟩)) = 6 from rfl]; omega
        have HS4 : Hid ((S3 ++ (⟨#[32, 106, 111, 98, 115, 32]⟩)) ++ dg jobs = S4) := hSS
        rw [hSS]
        clear hSS z1 z2
        go_wp2
        go_roundw
        case rel => exact ⟨k + 1, by omega, by go_num, by rw [HNX.out]; unfold kAddL; rw [if_pos hp]; show _ = Value.string (kJobs (kPool (kCost (kHead s _) cost) pool) jobs); rw [← HS4.out, ← HS3.out, ← HS2.out, ← HS1.out]; rfl, below_drewN hbW _⟩
        case measure => simp [intOf]; omega
      · skip
        go_wp2_with fail
        go_quiet (first | (go_at_call_of 22 (Value.slice aO outs.length cO2); exact Calls.quiet_of_same (CW1.out _)) | (go_at_call_of 22 (Value.slice aI ins.length cI2); exact Calls.quiet_of_same (CW2.out _)))
        go_wp2_with fail
        obtain ⟨S1, hS1⟩ : ∃ S1, ((((s ++ ⟨#[10, 116, 97, 115, 107]⟩) ++ wordsK outs) ++ ⟨#[32, 61, 32]⟩) ++ act) ++ wordsK ins = S1 := ⟨_, rfl⟩
        rw [hS1] at hz6
        rw [hS1]
        have HS1 : Hid (((((s ++ ⟨#[10, 116, 97, 115, 107]⟩) ++ wordsK outs) ++ ⟨#[32, 61, 32]⟩) ++ act) ++ wordsK ins = S1) := hS1
        clear hS1 n1 n2 n3 n4 n5 hz3 hz4 hz5
        obtain ⟨W, hW⟩ : ∃ W, wr.drewN nq = W := ⟨_, rfl⟩
        have hbW := below_drewN hbel nq
        rw [hW] at hbW
        have hCW : ∀ q, W.cell? q = wr.cell? q := fun q => by rw [← hW]; simp
        rw [hW]
        replace y3 := (hCW _).trans y3
        replace x3 := (hCW _).trans x3
        replace y4 := (hCW _).trans y4
        replace x4 := (hCW _).trans x4
        replace y5 := (hCW _).trans y5
        replace x5 := (hCW _).trans x5
        clear hW hCW y0 x0 y1 x1 y2 x2 CW1 CW2 HW1
        have dc := dig_slice cost f5
        have dj := dig_slice jobs f6
        have dp := dig_slice pool f7
        have lc := dg_size f5
        have lj := dg_size f6
        have lp := dg_size f7
        have z1 : ¬ 9223372036854775807 < S1.size + 8 := by omega
        have z2 : ¬ 9223372036854775807 < S1.size + 8 + 1 := by omega
        go_quiet (fail)
        go_wp2_with fail
        obtain ⟨S2, hSS⟩ : ∃ SX, (S1 ++ (⟨#[32, 124, 32, 99, 111, 115, 116, 32]⟩)) ++ dg cost = SX := ⟨_, rfl⟩
        have hz7 : S2.size ≤ 3300 := by
          rw [← hSS, ByteArray.size_append, ByteArray.size_append, show (ByteArray.size (⟨#[32, 124, 32, 99, 111, 115, 116, 32]⟩)) = 8 from rfl]; omega
        have HS2 : Hid ((S1 ++ (⟨#[32, 124, 32, 99, 111, 115, 116, 32]⟩)) ++ dg cost = S2) := hSS
        rw [hSS]
        clear hSS z1 z2
        have z1 : ¬ 9223372036854775807 < S2.size + 6 := by omega
        have z2 : ¬ 9223372036854775807 < S2.size + 6 + 1 := by omega
        go_quiet (fail)
        go_wp2_with fail
        obtain ⟨S4, hSS⟩ : ∃ SX, (S2 ++ (⟨#[32, 106, 111, 98, 115, 32]⟩)) ++ dg jobs = SX := ⟨_, rfl⟩
        have hz9 : S4.size ≤ 3500 := by
          rw [← hSS, ByteArray.size_append, ByteArray.size_append, show (ByteArray.size (⟨#[32, 106, 111, 98, 115, 32]⟩)) = 6 from rfl]; omega
        have HS4 : Hid ((S2 ++ (⟨#[32, 106, 111, 98, 115, 32]⟩)) ++ dg jobs = S4) := hSS
        rw [hSS]
        clear hSS z1 z2
        go_wp2
        go_roundw
        case rel => exact ⟨k + 1, by omega, by go_num, by rw [HNX.out]; unfold kAddL; rw [if_neg hp]; show _ = Value.string (kJobs (kCost (kHead s _) cost) jobs); rw [← HS4.out, ← HS2.out, ← HS1.out]; rfl, below_drewN hbW _⟩
        case measure => simp [intOf]; omega
    · have HE : Hid (K.take k = K) := List.take_of_length_le (by omega)
      go_wp2
      go_ret
      exact ⟨by rw [HE.out]; rfl, hbel⟩

theorem rows_rev {K : List KT} {ord : List Nat} {cO cI : List Value} {j : Nat} (hj : j < 6) : rowsOf K.reverse ord cO.reverse cI.reverse j = (rowsOf K ord cO cI j).reverse := by
  rcases (show j = 0 ∨ j = 1 ∨ j = 2 ∨ j = 3 ∨ j = 4 ∨ j = 5 by omega) with rfl | rfl | rfl | rfl | rfl | rfl
  all_goals simp [rowsOf]
theorem six_set {w : World} {pb : Nat} {t : TypeId} {a0 a1 a2 a3 a4 a5 a6 b0 b1 b2 b3 b4 b5 : Value} (h : w.heap[pb]? = some (.cells #[a0, a1, a2, a3, a4, a5, a6] t (0, 0))) :
    ((((((w.setCell ⟨pb, 0, none⟩ b0).setCell ⟨pb, 1, none⟩ b1).setCell ⟨pb, 2, none⟩ b2).setCell ⟨pb, 3, none⟩ b3).setCell ⟨pb, 4, none⟩ b4).setCell ⟨pb, 5, none⟩ b5).heap[pb]? = some (.cells #[b0, b1, b2, b3, b4, b5, a6] t (0, 0)) :=
  blk_set (blk_set (blk_set (blk_set (blk_set (blk_set h rfl) rfl) rfl) rfl) rfl) rfl
theorem six_other (w : World) {pb k : Nat} (b0 b1 b2 b3 b4 b5 : Value) (h : k ≠ pb) :
    ((((((w.setCell ⟨pb, 0, none⟩ b0).setCell ⟨pb, 1, none⟩ b1).setCell ⟨pb, 2, none⟩ b2).setCell ⟨pb, 3, none⟩ b3).setCell ⟨pb, 4, none⟩ b4).setCell ⟨pb, 5, none⟩ b5).heap[k]? = w.heap[k]? := by
  have e : ∀ (w : World) (j : Nat) (b : Value), (w.setCell ⟨pb, j, none⟩ b).heap[k]? = w.heap[k]? := fun w j b => heap_setCell_other _ _ _ _ (fun e => h e)
  rw [e, e, e, e, e, e]

/-- The rows of a second plan, that were laid later, are now those of the first. -/
theorem turn_end {w wr W : World} {pb : Nat} {M Mq : Nat → Prop} {v Vq : Nat → Value} {K : List KT} {ord : List Nat} {cO cI : List Value} {X : Nat → List Value} (P : KPl w pb M v K ord cO cI)
    (R : KR wr w.heap.size Mq Vq X) (hX : ∀ j, j < 6 → X j = (rowsOf K ord cO cI j).reverse) (hlow : ∀ k, Mq k → w.heap.size ≤ k) (hbel : Below w.heap.size w wr)
    (hblk : W.heap[pb]? = some (.cells #[Vq 0, Vq 1, Vq 2, Vq 3, Vq 4, Vq 5, v 6] 39 (0, 0))) (hoth : ∀ k, k ≠ pb → W.heap[k]? = wr.heap[k]?) (hsz : W.heap.size = wr.heap.size) (hos : W.os = wr.os) (htp : W.tape = wr.tape) (hout : W.output = wr.output) :
    ∃ M1 v1, KPl W pb M1 v1 K.reverse ord cO.reverse cI.reverse ∧ Same M w W ∧ ∀ q, M1 q → M q ∨ w.heap.size ≤ q := by
  have hpb := blk_lt P.R.blk
  have hbs := hbel.size
  have hS : Same M w W := by
    refine ⟨hos.trans hbel.os, htp.trans hbel.tape, hout.trans hbel.output, by omega, fun k hk hn => ?_⟩
    rw [hoth k (fun e => hn (e ▸ P.R.top))]; exact hbel.block k hk
  have hold : ∀ j, j < 7 → ∀ k, (v j).ownBlock = some k → pb + 1 ≤ k ∧ k < w.heap.size := fun j hj k hk => (P.R.own j hj).lt k hk
  have hnew : ∀ j, j < 7 → ∀ k, (Vq j).ownBlock = some k → w.heap.size + 1 ≤ k ∧ k < wr.heap.size := fun j hj k hk => (R.own j hj).lt k hk
  have hM : ∀ q, (M q ∨ Mq q) → M q ∨ w.heap.size ≤ q := fun q h => h.imp id (hlow q)
  have kO : ∀ (c : List Value) (L : KT → List ByteArray), c.length = K.length → (∀ i (h : i < K.length), ∃ u, c[i]? = some u ∧ Strs w u (L K[i]) ∧ ∀ q, u.ownBlock = some q → ¬ M q ∧ q < w.heap.size) →
      ∀ i (h : i < K.reverse.length), ∃ u, c.reverse[i]? = some u ∧ Strs W u (L K.reverse[i]) ∧ ∀ q, u.ownBlock = some q → ¬ (M q ∨ Mq q) ∧ q < W.heap.size := by
    intro c L hc h i hi
    rw [List.length_reverse] at hi
    obtain ⟨u, h1, h2, h3⟩ := h (K.length - 1 - i) (by omega)
    refine ⟨u, ?_, ?_, fun q hq => ?_⟩
    · rw [List.getElem?_reverse (by omega), hc]; exact h1
    · rw [List.getElem_reverse]
      exact h2.same hS (fun q hq => (h3 q hq).1)
    · have := KR.drop (M1 := fun q => M q ∨ Mq q) hS hM (h3 q hq)
      exact ⟨this.1, this.2.1⟩
  refine ⟨fun k => M k ∨ Mq k, fun j => if j < 6 then Vq j else v j, ⟨⟨?_, ?_, ?_, ?_, .inl P.R.top, ?_, ?_⟩, by simp [P.lO], by simp [P.lI], kO cO (·.outs) P.lO P.eO, kO cI (·.ins) P.lI P.eI⟩, hS, hM⟩
  · exact hblk
  · intro j hj
    by_cases h6 : j < 6
    · rw [rows_rev h6, ← hX j h6]
      show W.ownsRow _ _ _ (if j < 6 then Vq j else v j) _ _
      rw [if_pos h6]
      have ho := R.own j hj
      refine ⟨ho.1, ?_⟩
      rcases ho.2 with hn | ⟨g, cap, cur, e, hB, hgg, rest⟩
      · exact .inl hn
      · refine .inr ⟨g, cap, cur, e, by omega, ?_, rest⟩
        rw [hoth g (by omega)]; exact hgg
    · have : j = 6 := by omega
      subst this
      show W.ownsRow _ _ _ (v 6) _ _
      have ho := P.R.own 6 hj
      refine ⟨ho.1, ?_⟩
      rcases ho.2 with hn | ⟨g, cap, cur, e, hB, hgg, rest⟩
      · exact .inl hn
      · refine .inr ⟨g, cap, cur, e, hB, ?_, rest⟩
        rw [hoth g (by omega), hbel.block g (blk_lt hgg)]; exact hgg
  · intro j hj k hk
    by_cases h6 : j < 6
    · simp only [if_pos h6] at hk; exact .inr (R.mine j hj k hk)
    · simp only [if_neg h6] at hk; exact .inl (P.R.mine j hj k hk)
  · intro i j hi hj hij k hki hkj
    by_cases hi6 : i < 6
    · simp only [if_pos hi6] at hki
      by_cases hj6 : j < 6
      · simp only [if_pos hj6] at hkj; exact R.apart i j hi hj hij k hki hkj
      · simp only [if_neg hj6] at hkj
        have := (hnew i hi k hki).1
        have := (hold j hj k hkj).2
        omega
    · simp only [if_neg hi6] at hki
      by_cases hj6 : j < 6
      · simp only [if_pos hj6] at hkj
        have := (hnew j hj k hkj).1
        have := (hold i hi k hki).2
        omega
      · simp only [if_neg hj6] at hkj; exact P.R.apart i j hi hj hij k hki hkj
  · intro k hk
    rcases hk with h | h
    · have := P.R.old k h; omega
    · have := R.old k h; omega
  · intro j hj
    by_cases h6 : j < 6
    · rw [rows_rev h6, List.length_reverse]; exact P.R.few j hj
    · have : j = 6 := by omega
      subst this
      exact P.R.few 6 hj
theorem turn_end6 {w wr : World} {pb : Nat} {M Mq : Nat → Prop} {v Vq : Nat → Value} {K : List KT} {ord : List Nat} {cO cI : List Value} {X : Nat → List Value} (P : KPl w pb M v K ord cO cI)
    (R : KR wr w.heap.size Mq Vq X) (hX : ∀ j, j < 6 → X j = (rowsOf K ord cO cI j).reverse) (hlow : ∀ k, Mq k → w.heap.size ≤ k) (hbel : Below w.heap.size w wr) {b0 b1 b2 b3 b4 b5 : Value}
    (hE : Vq 0 = b0 ∧ Vq 1 = b1 ∧ Vq 2 = b2 ∧ Vq 3 = b3 ∧ Vq 4 = b4 ∧ Vq 5 = b5) :
    ∃ M1 v1, KPl ((((((wr.setCell ⟨pb, 0, none⟩ b0).setCell ⟨pb, 1, none⟩ b1).setCell ⟨pb, 2, none⟩ b2).setCell ⟨pb, 3, none⟩ b3).setCell ⟨pb, 4, none⟩ b4).setCell ⟨pb, 5, none⟩ b5) pb M1 v1 K.reverse ord cO.reverse cI.reverse ∧
      Same M w ((((((wr.setCell ⟨pb, 0, none⟩ b0).setCell ⟨pb, 1, none⟩ b1).setCell ⟨pb, 2, none⟩ b2).setCell ⟨pb, 3, none⟩ b3).setCell ⟨pb, 4, none⟩ b4).setCell ⟨pb, 5, none⟩ b5) ∧ ∀ q, M1 q → M q ∨ w.heap.size ≤ q := by
  obtain ⟨rfl, rfl, rfl, rfl, rfl, rfl⟩ := hE
  have hbk := (P.same hbel).R.blk
  have hb := six_set (b0 := Vq 0) (b1 := Vq 1) (b2 := Vq 2) (b3 := Vq 3) (b4 := Vq 4) (b5 := Vq 5) hbk
  have ho := fun k (hk : k ≠ pb) => six_other wr (Vq 0) (Vq 1) (Vq 2) (Vq 3) (Vq 4) (Vq 5) hk
  have hS : Same (fun k => k = pb) wr _ := ((((((Same.refl (fun k => k = pb) wr).setCell (p := ⟨pb, 0, none⟩) (fun _ => rfl) (Vq 0)).setCell (p := ⟨pb, 1, none⟩) (fun _ => rfl) (Vq 1)).setCell (p := ⟨pb, 2, none⟩) (fun _ => rfl) (Vq 2)).setCell (p := ⟨pb, 3, none⟩) (fun _ => rfl) (Vq 3)).setCell (p := ⟨pb, 4, none⟩) (fun _ => rfl) (Vq 4)).setCell (p := ⟨pb, 5, none⟩) (fun _ => rfl) (Vq 5)
  have hz : ((((((wr.setCell ⟨pb, 0, none⟩ (Vq 0)).setCell ⟨pb, 1, none⟩ (Vq 1)).setCell ⟨pb, 2, none⟩ (Vq 2)).setCell ⟨pb, 3, none⟩ (Vq 3)).setCell ⟨pb, 4, none⟩ (Vq 4)).setCell ⟨pb, 5, none⟩ (Vq 5)).heap.size = wr.heap.size := by simp only [World.size_setCell]
  exact turn_end (W := (((((wr.setCell ⟨pb, 0, none⟩ (Vq 0)).setCell ⟨pb, 1, none⟩ (Vq 1)).setCell ⟨pb, 2, none⟩ (Vq 2)).setCell ⟨pb, 3, none⟩ (Vq 3)).setCell ⟨pb, 4, none⟩ (Vq 4)).setCell ⟨pb, 5, none⟩ (Vq 5)) P R hX hlow hbel hb ho hz hS.os hS.tape hS.output
end Go.Proofs.YtoabakgmjcnodaaDoor
