import Derived.Test.YtoabakgmjcnodaaDoorWeighsWalk
import Derived.Test.YtoabakgmjcnodaaDoorKpOne
namespace Go.Proofs.YtoabakgmjcnodaaDoor
open Go.ChangeShapes Go.WideShapes Go.ChangeAt Go.RowKit

/-- Each with the byte c ahead of it. -/
def sepL (c : UInt8) (ws : List ByteArray) : List UInt8 := ws.flatMap fun x => c :: x.data.toList
theorem sepL_nil (c : UInt8) : sepL c [] = [] := rfl
theorem sepL_cons (c : UInt8) (x : ByteArray) (ws : List ByteArray) : sepL c (x :: ws) = c :: x.data.toList ++ sepL c ws := by simp [sepL]
theorem sepL_append (c : UInt8) (a b : List ByteArray) : sepL c (a ++ b) = sepL c a ++ sepL c b := by simp [sepL]

theorem bs_list (l : List UInt8) : (bs l).data.toList = l := by simp [bs]
theorem ba_append (a b : ByteArray) : (a ++ b).data.toList = a.data.toList ++ b.data.toList := by simp
theorem ba_len (a : ByteArray) : a.data.toList.length = a.size := by simp
theorem ext_list (s : ByteArray) (i j : Nat) : (s.extract i j).data.toList = (s.data.toList.drop i).take (j - i) := by
  rw [ByteArray.data_extract, Array.toList_extract]

/-- A beginning is cut as if it were all. -/
theorem pcs_pre {s a : ByteArray} {c : UInt8} {r : List UInt8} (h : s.data.toList = a.data.toList ++ r) : ∀ k, k ≤ a.size → pcs s c k = pcs a c k
  | 0, _ => rfl
  | k + 1, hk => by
    have ih := pcs_pre (c := c) h k (by omega)
    have hl := congrArg List.length h
    rw [List.length_append, ba_len, ba_len] at hl
    have hi : s.data.toList[k]? = a.data.toList[k]? := by
      rw [h, List.getElem?_append_left (by rw [ba_len]; omega)]
    have hp := (pcs_le a c k).2
    have hx : s.extract (pcs a c k).2 k = a.extract (pcs a c k).2 k := by
      apply ba_ext
      rw [ext_list, ext_list, h, List.drop_append_of_le_length (by rw [ba_len]; omega), List.take_append_of_le_length (by rw [List.length_drop, ba_len]; omega)]
    by_cases hc : a.data.toList[k]? = some c
    · rw [pcs_cut (.inr (by rw [hi]; exact hc)), pcs_cut (.inr hc), ih, hx]
    · rw [pcs_on (by rw [hi]; rintro (h1 | h1); · omega
                     · exact hc h1), pcs_on (by rintro (h1 | h1); · omega
                                                · exact hc h1), ih]
theorem pcs_skip {s : ByteArray} {c : UInt8} {m : Nat} (h : ∀ k, m ≤ k → s.data.toList[k]? ≠ some c) : ∀ k, m ≤ k → k ≤ s.size → pcs s c k = pcs s c m
  | 0, hm, _ => by have : m = 0 := by omega
                   rw [this]
  | k + 1, hm, hk => by
    by_cases e : m = k + 1
    · rw [e]
    · rw [pcs_on (by rintro (h1 | h1); · omega
                     · exact h k (by omega) h1), pcs_skip h k (by omega) (by omega)]
theorem pcs_snoc {s a b : ByteArray} {c : UInt8} (h : s.data.toList = a.data.toList ++ c :: b.data.toList) (hb : c ∉ b.data.toList) : (pcs s c (s.size + 1)).1 = (pcs a c (a.size + 1)).1 ++ [b] := by
  have hl := congrArg List.length h
  simp only [List.length_append, List.length_cons, ba_len] at hl
  have h1 : pcs s c (a.size + 1) = pcs a c (a.size + 1) := by
    have hc : s.data.toList[a.size]? = some c := by rw [h, ← ba_len a]; simp
    rw [pcs_cut (.inr hc), pcs_cut (.inl rfl), pcs_pre h a.size (Nat.le_refl _)]
    have hp := (pcs_le a c a.size).2
    have hx : s.extract (pcs a c a.size).2 a.size = a.extract (pcs a c a.size).2 a.size := by
      apply ba_ext
      rw [ext_list, ext_list, h, List.drop_append_of_le_length (by rw [ba_len]; omega), List.take_append_of_le_length (by rw [List.length_drop, ba_len]; omega)]
    rw [hx]
  have h2 : pcs s c s.size = pcs s c (a.size + 1) := by
    refine pcs_skip (fun k hk => ?_) _ (by omega) (Nat.le_refl _)
    rw [h, List.getElem?_append_right (by rw [ba_len]; omega), ba_len]
    obtain ⟨j, rfl⟩ : ∃ j, k = a.size + 1 + j := ⟨k - (a.size + 1), by omega⟩
    rw [show a.size + 1 + j - a.size = j + 1 by omega, List.getElem?_cons_succ]
    intro he
    exact hb (List.mem_of_getElem? he)
  rw [pcs_cut (.inl rfl), h2, h1]
  have h3 : (pcs a c (a.size + 1)).2 = a.size + 1 := by rw [pcs_cut (.inl rfl)]
  have h4 : s.extract (a.size + 1) s.size = b := by
    apply ba_ext
    rw [ext_list, h, hl]
    have e : a.data.toList ++ c :: b.data.toList = (a.data.toList ++ [c]) ++ b.data.toList := by simp
    rw [e, List.drop_append_of_le_length (by simp), List.drop_of_length_le (by simp), List.nil_append, List.take_of_length_le (by rw [ba_len]; omega)]
  rw [h3, h4]
theorem pcs_sep (c : UInt8) : ∀ (ws : List ByteArray) (a s : ByteArray), s.data.toList = a.data.toList ++ sepL c ws → (∀ x ∈ ws, c ∉ x.data.toList) → (pcs s c (s.size + 1)).1 = (pcs a c (a.size + 1)).1 ++ ws
  | [], a, s, h, _ => by
    rw [sepL_nil, List.append_nil] at h
    rw [ba_ext h, List.append_nil]
  | x :: ws, a, s, h, hn => by
    rw [sepL_cons] at h
    have := pcs_sep c ws (bs (a.data.toList ++ c :: x.data.toList)) s (by rw [bs_list, h]; simp) (fun y hy => hn y (List.mem_cons_of_mem _ hy))
    rw [this, pcs_snoc (a := a) (b := x) (by rw [bs_list]) (hn x (by simp))]
    simp
theorem pcs_one {a : ByteArray} {c : UInt8} (h : c ∉ a.data.toList) : (pcs a c (a.size + 1)).1 = [a] := by
  rw [pcs_cut (.inl rfl), pcs_skip (m := 0) (fun k _ he => h (List.mem_of_getElem? he)) _ (Nat.zero_le _) (Nat.le_refl _)]
  show [] ++ [a.extract 0 a.size] = [a]
  rw [List.nil_append]
  congr 1
  apply ba_ext
  rw [ext_list, List.drop_zero, List.take_of_length_le (by rw [ba_len]; omega)]

/-- A line of its first word and others. -/
def lineB (x : ByteArray) (ws : List ByteArray) : ByteArray := bs (x.data.toList ++ sepL 32 ws)
theorem words_line {x : ByteArray} {ws : List ByteArray} (h : (32 : UInt8) ∉ x.data.toList) (hw : ∀ y ∈ ws, (32 : UInt8) ∉ y.data.toList) : wordsOf (lineB x ws) = x :: ws := by
  unfold wordsOf lineB
  rw [pcs_sep 32 ws x _ (by rw [bs_list]) hw, pcs_one h]; rfl
theorem lines_sep {s a : ByteArray} {ls : List ByteArray} (h : s.data.toList = a.data.toList ++ sepL 10 ls) (hn : ∀ x ∈ ls, (10 : UInt8) ∉ x.data.toList) : linesOf s = linesOf a ++ ls := pcs_sep 10 ls a s h hn

/-- A name has neither blanks nor line ends in it. -/
theorem name_free {l : List UInt8} (h : nameB l = true) : (32 : UInt8) ∉ l ∧ (10 : UInt8) ∉ l := by
  unfold nameB at h
  simp only [Bool.and_eq_true] at h
  have h2 := List.all_eq_true.1 h.2
  constructor
  · intro hm; have := h2 _ hm; revert this; decide
  · intro hm; have := h2 _ hm; revert this; decide
theorem line_free {x : ByteArray} {ws : List ByteArray} (h : (10 : UInt8) ∉ x.data.toList) (hw : ∀ y ∈ ws, (10 : UInt8) ∉ y.data.toList) : (10 : UInt8) ∉ (lineB x ws).data.toList := by
  unfold lineB
  rw [bs_list, List.mem_append]
  rintro (h1 | h1)
  · exact h h1
  · unfold sepL at h1
    rw [List.mem_flatMap] at h1
    obtain ⟨y, hy, h1⟩ := h1
    rw [List.mem_cons] at h1
    rcases h1 with h1 | h1
    · revert h1; decide
    · exact hw y hy h1

/-- Names in a line of a task. -/
theorem name_not {x : ByteArray} (h : nameB x.data.toList = true) : isEq x = false ∧ isBar x = false := by
  have key : ∀ l : List UInt8, nameB l = true → (l == [61]) = false ∧ (l == [124]) = false := by
    intro l hl
    constructor
    · rw [beq_eq_false_iff_ne]; rintro rfl; revert hl; decide
    · rw [beq_eq_false_iff_ne]; rintro rfl; revert hl; decide
  unfold isEq isBar
  rw [ByteArray.toList_eq]
  exact key _ h
theorem frun_outs : ∀ (l : List ByteArray) (t : FS), t.mode = 0 → (∀ x ∈ l, nameB x.data.toList = true) → frun t l = some { t with outs := t.outs ++ l }
  | [], t, _, _ => by simp [frun]
  | x :: l, t, hm, hn => by
    have h1 := hn x (by simp)
    have h2 := name_not h1
    have : fstep t x = some { t with outs := t.outs ++ [x] } := by
      unfold fstep; rw [hm]; simp [h1, h2.1]
    rw [frun, this, Option.bind_some, frun_outs l { t with outs := t.outs ++ [x] } hm (fun y hy => hn y (List.mem_cons_of_mem _ hy))]
    simp
theorem frun_ins : ∀ (l : List ByteArray) (t : FS), t.mode = 2 → (∀ x ∈ l, nameB x.data.toList = true) → frun t l = some { t with ins := t.ins ++ l }
  | [], t, _, _ => by simp [frun]
  | x :: l, t, hm, hn => by
    have h1 := hn x (by simp)
    have h2 := name_not h1
    have : fstep t x = some { t with ins := t.ins ++ [x] } := by
      unfold fstep; rw [hm]; simp [h1, h2.2]
    rw [frun, this, Option.bind_some, frun_ins l { t with ins := t.ins ++ [x] } hm (fun y hy => hn y (List.mem_cons_of_mem _ hy))]
    simp
theorem frun_made {outs ins : List ByteArray} {act : ByteArray} (h0 : outs ≠ []) (ho : ∀ x ∈ outs, nameB x.data.toList = true) (ha : nameB act.data.toList = true) (hi : ∀ x ∈ ins, nameB x.data.toList = true) :
    frun fs0 (outs ++ [bs [61], act] ++ ins) = some ⟨2, outs, act, ins, 0, 0, ByteArray.empty⟩ := by
  rw [frun_append, frun_append, frun_outs outs fs0 rfl ho]
  have e1 : fstep { fs0 with outs := fs0.outs ++ outs } (bs [61]) = some ⟨1, outs, ByteArray.empty, [], 0, 0, ByteArray.empty⟩ := by
    unfold fstep
    have : isEq (bs [61]) = true := by decide +kernel
    simp [fs0, this, h0]
  have e2 : fstep ⟨1, outs, ByteArray.empty, [], 0, 0, ByteArray.empty⟩ act = some ⟨2, outs, act, [], 0, 0, ByteArray.empty⟩ := by
    unfold fstep; simp [ha]
  rw [Option.bind_some, frun, e1, Option.bind_some, frun, e2, Option.bind_some, frun, Option.bind_some, frun_ins _ _ rfl hi]
  simp

def dig (n : Nat) : ByteArray := bs [UInt8.ofNat (48 + n)]
def pname (n : Nat) : ByteArray := bs [112, UInt8.ofNat (48 + n)]
def filesL : List ByteArray := [numB 102 0, numB 102 1, numB 102 2, numB 102 3]
def tskB : ByteArray := bs [116, 97, 115, 107]
def costB : ByteArray := bs [99, 111, 115, 116]
def jobsB : ByteArray := bs [106, 111, 98, 115]
def poolB : ByteArray := bs [112, 111, 111, 108]
def catB : ByteArray := bs [99, 97, 116]

/-- Its words. -/
def ktail (t : KT) : List ByteArray := [bs [124], costB, dig t.cost] ++ (if 0 < t.pool then [poolB, pname t.pool] else []) ++ [jobsB, dig t.jobs]
def kwords (t : KT) : List ByteArray := (t.outs ++ [bs [61], t.act] ++ t.ins) ++ ktail t
def kline (t : KT) : ByteArray := lineB tskB (kwords t)
def toTS (t : KT) : TS := ⟨t.outs, t.act, t.ins, t.cost, t.jobs, (t.pool : Int) - 1⟩

/-- A path of this kind. -/
def Pth (x : ByteArray) : Prop := x.size = 3 ∧ nameB x.data.toList = true
/-- It is right as line k. -/
structure TL (t : KT) (k : Nat) : Prop where
  outs : t.outs = [numB 116 k] ∨ t.outs = [numB 116 k, numB 117 k]
  wants : wantsB t.act t.outs.length t.ins.length = true
  act : nameB t.act.data.toList = true
  short : t.act.size ≤ 5
  ins : ∀ x ∈ t.ins, Pth x
  few : t.ins.length ≤ 4
  cost : 1 ≤ t.cost ∧ t.cost ≤ 9
  jobs : 1 ≤ t.jobs ∧ t.jobs ≤ 9
  pool : t.pool ≤ 3

theorem bs_inj {a b : List UInt8} (h : bs a = bs b) : a = b := by
  have := congrArg (fun x : ByteArray => x.data.toList) h
  simpa [bs_list] using this
theorem d_inj {a b : Nat} (ha : a ≤ 9) (hb : b ≤ 9) (h : UInt8.ofNat (48 + a) = UInt8.ofNat (48 + b)) : a = b := by
  have := congrArg UInt8.toNat h
  simp at this; omega
theorem numB_inj {c d : UInt8} {a b : Nat} (ha : a < 100) (hb : b < 100) (h : numB c a = numB d b) : c = d ∧ a = b := by
  have h1 := bs_inj h
  simp only [List.cons.injEq, and_true] at h1
  obtain ⟨h0, h1, h2⟩ := h1
  have e1 := d_inj (by omega) (by omega) h1
  have e2 := d_inj (by omega) (by omega) h2
  exact ⟨h0, by omega⟩
theorem ok_dig {n : Nat} (h : n ≤ 9) : okByte (UInt8.ofNat (48 + n)) = true := by
  rcases (show n = 0 ∨ n = 1 ∨ n = 2 ∨ n = 3 ∨ n = 4 ∨ n = 5 ∨ n = 6 ∨ n = 7 ∨ n = 8 ∨ n = 9 by omega) with rfl | rfl | rfl | rfl | rfl | rfl | rfl | rfl | rfl | rfl <;> decide
theorem numB_pth {c : UInt8} {n : Nat} (hc : okByte c = true) (hn : n < 100) : Pth (numB c n) := by
  refine ⟨by simp [numB, bs, ByteArray.size], ?_⟩
  have e : (numB c n).data.toList = [c, UInt8.ofNat (48 + n / 10), UInt8.ofNat (48 + n % 10)] := bs_list _
  rw [e]
  have h1 := ok_dig (show n / 10 ≤ 9 by omega)
  have h2 := ok_dig (show n % 10 ≤ 9 by omega)
  generalize UInt8.ofNat (48 + n / 10) = a at *
  generalize UInt8.ofNat (48 + n % 10) = b at *
  simp [nameB, hc, h1, h2]
theorem TL.outs_pth {t : KT} {k : Nat} (h : TL t k) (hk : k < 100) : ∀ x ∈ t.outs, Pth x := by
  intro x hx
  rcases h.outs with e | e
  · rw [e] at hx; simp at hx; subst hx; exact numB_pth (by decide) hk
  · rw [e] at hx; simp at hx; rcases hx with rfl | rfl
    · exact numB_pth (by decide) hk
    · exact numB_pth (by decide) hk
theorem TL.out_of {t : KT} {k : Nat} (h : TL t k) : ∀ x ∈ t.outs, x = numB 116 k ∨ x = numB 117 k := by
  intro x hx
  rcases h.outs with e | e
  · rw [e] at hx; simp at hx; exact .inl hx
  · rw [e] at hx; simpa using hx
theorem TL.first {t : KT} {k : Nat} (h : TL t k) : numB 116 k ∈ t.outs ∧ t.outs ≠ [] ∧ t.outs.length ≤ 2 ∧ t.outs.Nodup := by
  have hne : numB 116 k ≠ numB 117 k := by
    intro e
    have := bs_inj e
    simp at this
  rcases h.outs with e | e
  · rw [e]; simp
  · rw [e]; simp [hne]
theorem file_of {x : ByteArray} (h : x ∈ filesL) : ∃ j, j < 4 ∧ x = numB 102 j := by
  simp [filesL] at h
  rcases h with rfl | rfl | rfl | rfl
  · exact ⟨0, by omega, rfl⟩
  · exact ⟨1, by omega, rfl⟩
  · exact ⟨2, by omega, rfl⟩
  · exact ⟨3, by omega, rfl⟩
theorem file_pth {x : ByteArray} (h : x ∈ filesL) : Pth x := by
  obtain ⟨j, hj, rfl⟩ := file_of h
  exact numB_pth (by decide) (by omega)
theorem file_out {x : ByteArray} {t : KT} {k : Nat} (h : TL t k) (hk : k < 100) (hx : x ∈ filesL) : x ∉ t.outs := by
  intro hm
  obtain ⟨j, hj, rfl⟩ := file_of hx
  rcases h.out_of _ hm with e | e
  · have := (numB_inj (by omega) hk e).1; revert this; decide
  · have := (numB_inj (by omega) hk e).1; revert this; decide
theorem out_uniq {x : ByteArray} {t t1 : KT} {k k1 : Nat} (h : TL t k) (h1 : TL t1 k1) (hk : k < 100) (hk1 : k1 < 100) (hx : x ∈ t.outs) (hx1 : x ∈ t1.outs) : k = k1 := by
  rcases h.out_of _ hx with e | e <;> rcases h1.out_of _ hx1 with e1 | e1
  all_goals
    rw [e] at e1
    exact (numB_inj hk hk1 e1).2

-- the words of a line
theorem dig_num {n : Nat} (h1 : 1 ≤ n) (h9 : n ≤ 9) : digN (dig n).data.toList = n := (digN_iff _ n h1 h9).2 (bs_list _)
theorem pname_name {n : Nat} (h : n ≤ 9) : nameB (pname n).data.toList = true := by
  rw [show (pname n).data.toList = [112, UInt8.ofNat (48 + n)] from bs_list _]
  have : okByte 112 = true := by decide
  have h1 := ok_dig h
  generalize UInt8.ofNat (48 + n) = a at *
  simp [nameB, h1, this]
theorem pname_size (n : Nat) : (pname n).size = 2 := by simp [pname, bs, ByteArray.size]
def kpool (t : KT) : ByteArray := if 0 < t.pool then pname t.pool else ByteArray.empty
theorem frun_tail {t : KT} {k : Nat} (h : TL t k) : frun ⟨2, t.outs, t.act, t.ins, 0, 0, ByteArray.empty⟩ (ktail t) = some ⟨3, t.outs, t.act, t.ins, t.cost, t.jobs, kpool t⟩ := by
  have hc := dig_num h.cost.1 h.cost.2
  have hj := dig_num h.jobs.1 h.jobs.2
  have c1 : 0 < t.cost := h.cost.1
  have j1 : 0 < t.jobs := h.jobs.1
  have b1 : isBar (bs [124]) = true := by decide +kernel
  have b2 : isCost costB = true := by decide +kernel
  have b3 : isCost jobsB = false := by decide +kernel
  have b4 : isJobs jobsB = true := by decide +kernel
  have b5 : isCost poolB = false := by decide +kernel
  have b6 : isJobs poolB = false := by decide +kernel
  have b7 : isPool poolB = true := by decide +kernel
  unfold ktail kpool
  by_cases hp : 0 < t.pool
  · have hn := pname_name (show t.pool ≤ 9 by have := h.pool; omega)
    rw [if_pos hp, if_pos hp]
    simp [frun, fstep, hc, hj, b1, b2, b3, b4, b5, b6, b7, hn, c1, j1]
  · rw [if_neg hp, if_neg hp]
    simp [frun, fstep, hc, hj, b1, b2, b3, b4, c1, j1]
theorem frun_k {t : KT} {k : Nat} (h : TL t k) (hk : k < 100) : frun fs0 (kwords t) = some ⟨3, t.outs, t.act, t.ins, t.cost, t.jobs, kpool t⟩ := by
  unfold kwords
  rw [frun_append, frun_made h.first.2.1 (fun x hx => (h.outs_pth hk x hx).2) h.act (fun x hx => (h.ins x hx).2), Option.bind_some, frun_tail h]
theorem free_of {x : ByteArray} (h : nameB x.data.toList = true) : (32 : UInt8) ∉ x.data.toList ∧ (10 : UInt8) ∉ x.data.toList := name_free h
theorem dig_free {n : Nat} (h1 : n ≤ 9) : (32 : UInt8) ∉ (dig n).data.toList ∧ (10 : UInt8) ∉ (dig n).data.toList := by
  apply name_free
  rw [show (dig n).data.toList = [UInt8.ofNat (48 + n)] from bs_list _]
  have h2 := ok_dig h1
  generalize UInt8.ofNat (48 + n) = a at *
  simp [nameB, h2]
theorem eq_free : (32 : UInt8) ∉ (bs [61]).data.toList ∧ (10 : UInt8) ∉ (bs [61]).data.toList := by rw [bs_list]; decide
theorem kwords_free {t : KT} {k : Nat} (h : TL t k) (hk : k < 100) : ∀ x ∈ kwords t, (32 : UInt8) ∉ x.data.toList ∧ (10 : UInt8) ∉ x.data.toList := by
  intro x hx
  unfold kwords ktail at hx
  simp only [List.mem_append, List.mem_cons, List.not_mem_nil, or_false] at hx
  rcases hx with ((hx | rfl | rfl) | hx) | (((rfl | rfl | rfl) | hx) | (rfl | rfl))
  · exact free_of (h.outs_pth hk x hx).2
  · exact eq_free
  · exact free_of h.act
  · exact free_of (h.ins x hx).2
  · rw [bs_list]; decide
  · rw [costB, bs_list]; decide
  · exact dig_free h.cost.2
  · split at hx
    · simp at hx
      rcases hx with rfl | rfl
      · rw [poolB, bs_list]; decide
      · exact free_of (pname_name (by have := h.pool; omega))
    · simp at hx
  · rw [jobsB, bs_list]; decide
  · exact dig_free h.jobs.2
theorem tsk_free : (32 : UInt8) ∉ tskB.data.toList ∧ (10 : UInt8) ∉ tskB.data.toList := by rw [tskB, bs_list]; decide
theorem kline_free {t : KT} {k : Nat} (h : TL t k) (hk : k < 100) : (10 : UInt8) ∉ (kline t).data.toList := line_free tsk_free.2 (fun y hy => (kwords_free h hk y hy).2)

/-- A line of a task. -/
theorem refLine_task (S : PS) {ws : List ByteArray} (hw : ∀ y ∈ ws, (32 : UInt8) ∉ y.data.toList) : refLine S (lineB tskB ws) = taskLine S ws := by
  have e : (lineB tskB ws).data.toList = 116 :: 97 :: 115 :: 107 :: sepL 32 ws := by
    unfold lineB; rw [bs_list, tskB, bs_list]; rfl
  have hsz : (lineB tskB ws).size ≠ 0 := by rw [← ba_len, e]; simp
  have h1 : isNote (lineB tskB ws) = false := by
    unfold isNote
    rw [e, decide_eq_false hsz]; rfl
  rw [refLine_eq S h1 (words_line tsk_free.1 hw) (x := tskB) rfl]
  have h2 : isPool tskB = false := by decide +kernel
  have h3 : isTask tskB = true := by decide +kernel
  rw [if_neg (by rw [h2]; simp), if_neg (by rw [h3]; simp)]; rfl

-- who makes what
theorem tl_eq {x y : ByteArray} : (x.toList == y.toList) = decide (x = y) := by
  rw [Bool.eq_iff_iff, beq_iff_eq, decide_eq_true_iff, ByteArray.toList_eq, ByteArray.toList_eq]
  exact ⟨ba_ext, fun h => by rw [h]⟩
theorem place_out {ss : List ByteArray} {x : ByteArray} (h : x ∉ ss) : placeI ss x = -1 := by
  refine place_miss (fun i y _ hy => ?_)
  rw [tl_eq, decide_eq_false_iff_not]; rintro rfl; exact h (List.mem_of_getElem? hy)
theorem place_in {ss : List ByteArray} {x : ByteArray} (h : x ∈ ss) : 0 ≤ placeI ss x := by
  unfold placeI
  split
  · omega
  · rename_i hn
    rw [List.findIdx?_eq_none_iff] at hn
    have := hn x h
    simp at this
theorem maker_out {l : List TS} {x : ByteArray} (h : ∀ t ∈ l, x ∉ t.outs) : makerI l x = -1 :=
  maker_miss (fun i hi _ => by rw [place_out (h _ (List.getElem_mem hi))]; omega)
def Apart (l : List TS) : Prop := ∀ a b (ha : a < l.length) (hb : b < l.length) x, x ∈ l[a].outs → x ∈ l[b].outs → a = b
theorem maker_in {l : List TS} (hA : Apart l) {x : ByteArray} {b : Nat} (hb : b < l.length) (hx : x ∈ l[b].outs) : makerI l x = b := by
  refine maker_hit (fun i hi hib => ?_) hb (place_in hx)
  rw [place_out (fun hm => by have := hA i b hi hb x hm hx; omega)]; omega
theorem maker_lt (l : List TS) (x : ByteArray) : makerI l x < l.length := by
  unfold makerI
  split
  · rename_i i h
    rw [List.findIdx?_eq_some_iff_getElem] at h
    obtain ⟨h, _⟩ := h
    omega
  · omega
theorem twice_no {l : List TS} {outs : List ByteArray} (h : ∀ x ∈ outs, ∀ t ∈ l, x ∉ t.outs) (hn : outs.Nodup) : twiceB l outs = false := by
  refine twice_miss (fun i hi => ?_)
  have e : outs.getD i ByteArray.empty = outs[i] := by simp [hi]
  unfold twiceAt
  rw [e, maker_out (h _ (List.getElem_mem hi)), place_out ?_]
  · decide
  · intro hm
    obtain ⟨j, hj, he⟩ := List.mem_iff_getElem.1 hm
    rw [List.length_take] at hj
    rw [List.getElem_take] at he
    have hji : j < i := by omega
    exact List.pairwise_iff_getElem.1 hn j i (by omega) hi hji he

def pools3 : List ByteArray := [pname 1, pname 2, pname 3]
def psOf (l : List TS) : PS := ⟨l, pools3, [1, 2, 3]⟩
theorem place3 {n : Nat} (h1 : 1 ≤ n) (h3 : n ≤ 3) : placeI pools3 (pname n) = (n : Int) - 1 := by
  rcases (show n = 1 ∨ n = 2 ∨ n = 3 by omega) with rfl | rfl | rfl <;> decide +kernel
theorem new_k (l : List TS) {t : KT} {k : Nat} (h : TL t k) : newTask (psOf l) ⟨3, t.outs, t.act, t.ins, t.cost, t.jobs, kpool t⟩ = toTS t := by
  have h1 := h.cost.1
  have h2 := h.jobs.1
  unfold newTask toTS kpool psOf
  simp only
  rw [if_neg (by omega), if_neg (by omega)]
  by_cases hp : 0 < t.pool
  · rw [if_pos hp, if_neg (by rw [pname_size]; omega), place3 hp h.pool]
  · rw [if_neg hp, if_pos (show ByteArray.empty.size = 0 from rfl)]
    have : t.pool = 0 := by omega
    rw [this]; rfl
theorem ref_k {l : List TS} {t : KT} {k : Nat} (h : TL t k) (hk : k < 100) (hl : l.length < 24) (hx : ∀ x ∈ t.outs, ∀ u ∈ l, x ∉ u.outs) : refLine (psOf l) (kline t) = (psOf (l ++ [toTS t]), 0) := by
  unfold kline
  rw [refLine_task _ (fun y hy => (kwords_free h hk y hy).1), taskLine_whole _ (frun_k h hk)]
  · unfold refTask
    rw [if_neg (by show ¬ l.length = 24; omega), if_neg, if_neg (by rw [show wantsB _ _ _ = true from h.wants]; simp), if_neg (by show ¬ twiceB l t.outs = true; rw [twice_no hx h.first.2.2.2]; simp), new_k l h]
    · rfl
    · rintro ⟨h1, h2⟩
      simp only [kpool] at h1 h2
      by_cases hp : 0 < t.pool
      · rw [if_pos hp] at h2
        have : placeI pools3 (pname t.pool) < 0 := h2
        rw [place3 hp h.pool] at this; omega
      · rw [if_neg hp] at h1; exact h1 rfl
  · have : 0 < t.cost := h.cost.1
    simp [fwhole, this]

theorem refRun_append (a b : List ByteArray) : ∀ (S S1 : PS) (i : Nat), refRun S i a = (S1, none) → refRun S i (a ++ b) = refRun S1 (i + a.length) b := by
  induction a with
  | nil => intro S S1 i h; injection h with h _; subst h; rfl
  | cons y r ih =>
    intro S S1 i h
    simp only [refRun] at h
    split at h
    · rename_i h0
      simp only [List.cons_append, refRun, h0, if_true]
      rw [ih _ _ _ h, List.length_cons, Nat.add_assoc, Nat.add_comm 1]
    · injection h with _ h; cases h

/-- Tasks, each right at its line. -/
def Lined (K : List KT) : Prop := K.length ≤ 12 ∧ ∀ k (h : k < K.length), TL K[k] k
theorem Lined.apart {K : List KT} (h : Lined K) : Apart (K.map toTS) := by
  intro a b ha hb x hx hx1
  rw [List.length_map] at ha hb
  rw [List.getElem_map] at hx hx1
  have := h.1
  exact out_uniq (h.2 a ha) (h.2 b hb) (by omega) (by omega) hx hx1
theorem run_tasks {K : List KT} (h : Lined K) : ∀ k, k ≤ K.length → refRun (psOf []) 5 ((K.take k).map kline) = (psOf ((K.take k).map toTS), none)
  | 0, _ => by simp [refRun]
  | k + 1, hk => by
    have ih := run_tasks h k (by omega)
    have hk2 : k < K.length := by omega
    have h12 := h.1
    rw [List.take_succ_eq_append_getElem hk2, List.map_append, List.map_append]
    show refRun _ _ (_ ++ [kline K[k]]) = _
    rw [refRun_snoc _ _ _ _ _ ih]
    have hl : ((K.take k).map toTS).length < 24 := by rw [List.length_map, List.length_take]; omega
    have hr := ref_k (l := (K.take k).map toTS) (h.2 k hk2) (by omega) hl (by
      intro x hx u hu
      rw [List.mem_map] at hu
      obtain ⟨t, ht, rfl⟩ := hu
      obtain ⟨j, hj, rfl⟩ := List.mem_iff_getElem.1 ht
      rw [List.length_take] at hj
      rw [List.getElem_take]
      intro hx1
      have := out_uniq (h.2 k hk2) (h.2 j (by omega)) (by omega) (by omega) hx hx1
      omega)
    rw [hr]; rfl

/-- The first lines. -/
def headB : ByteArray := ⟨#[112, 111, 111, 108, 32, 112, 49, 32, 49, 10, 112, 111, 111, 108, 32, 112, 50, 32, 50, 10, 35, 32, 116, 104, 101, 32, 116, 104, 105, 114, 100, 32, 111, 110, 101, 10, 10, 112, 111, 111, 108, 32, 112, 51, 32, 51]⟩
def headL : List ByteArray := [bs [112, 111, 111, 108, 32, 112, 49, 32, 49], bs [112, 111, 111, 108, 32, 112, 50, 32, 50], bs [35, 32, 116, 104, 101, 32, 116, 104, 105, 114, 100, 32, 111, 110, 101], bs [], bs [112, 111, 111, 108, 32, 112, 51, 32, 51]]
theorem head_lines : linesOf headB = headL := by decide +kernel
theorem head_one (l : List ByteArray) (d : List Nat) (n : Nat) (h1 : 1 ≤ n) (h9 : n ≤ 9) (hl : pname n ∉ l) (h6 : l.length < 6) :
    refLine ⟨[], l, d⟩ (bs [112, 111, 111, 108, 32, 112, UInt8.ofNat (48 + n), 32, UInt8.ofNat (48 + n)]) = (⟨[], l ++ [pname n], d ++ [n]⟩, 0) := by
  have e : bs [112, 111, 111, 108, 32, 112, UInt8.ofNat (48 + n), 32, UInt8.ofNat (48 + n)] = lineB poolB [pname n, dig n] := by
    apply ba_ext
    simp only [lineB, bs_list, poolB, sepL, pname, dig, List.flatMap_cons, List.flatMap_nil]
    rfl
  have h2 : isNote (lineB poolB [pname n, dig n]) = false := by
    rw [← e]
    unfold isNote
    rw [bs_list]
    rw [decide_eq_false (by rw [← ba_len, bs_list]; simp)]; rfl
  have hw := words_line (x := poolB) (ws := [pname n, dig n]) (by rw [poolB, bs_list]; decide) (by
    intro y hy
    simp only [List.mem_cons, List.not_mem_nil, or_false] at hy
    rcases hy with rfl | rfl
    · exact (free_of (pname_name h9)).1
    · exact (dig_free h9).1)
  rw [e, refLine_eq _ h2 hw (x := poolB) rfl, if_pos (by decide +kernel)]
  unfold poolLine
  rw [if_neg (by simp), if_neg (by
    show ¬ (nameB (pname n).data.toList = false ∨ digN (dig n).data.toList = 0)
    rw [pname_name h9, dig_num h1 h9]
    rintro (h | h)
    · cases h
    · omega), if_neg (by
    show ¬ 0 ≤ placeI l (pname n)
    rw [place_out hl]; omega), if_neg (by show ¬ l.length = 6; omega)]
  show (_, _) = _
  rw [show ([poolB, pname n, dig n] : List ByteArray).getD 2 ByteArray.empty = dig n from rfl, dig_num h1 h9]
  rfl
theorem pname_ne {a b : Nat} (h1 : a ≤ 9) (h2 : b ≤ 9) (h : a ≠ b) : pname a ≠ pname b := by
  intro e
  have := bs_inj e
  simp only [List.cons.injEq, true_and, and_true] at this
  exact h (d_inj h1 h2 this)
theorem head_run : refRun ps0 0 headL = (psOf [], none) := by
  have n12 : pname 2 ∉ [pname 1] := by simp; exact pname_ne (by omega) (by omega) (by omega)
  have n3 : pname 3 ∉ [pname 1, pname 2] := by simp; exact ⟨pname_ne (by omega) (by omega) (by omega), pname_ne (by omega) (by omega) (by omega)⟩
  have e1 := head_one [] [] 1 (by omega) (by omega) (by simp) (by simp)
  have e2 := head_one [pname 1] [1] 2 (by omega) (by omega) n12 (by simp)
  have e3 := head_one [pname 1, pname 2] [1, 2] 3 (by omega) (by omega) n3 (by simp)
  have e4 : ∀ S, refLine S (bs [35, 32, 116, 104, 101, 32, 116, 104, 105, 114, 100, 32, 111, 110, 101]) = (S, 0) := fun S => by
    unfold refLine; rw [if_pos (by decide +kernel)]
  have e5 : ∀ S, refLine S (bs []) = (S, 0) := fun S => by
    unfold refLine; rw [if_pos (by decide +kernel)]
  have f1 : refLine ps0 (bs [112, 111, 111, 108, 32, 112, 49, 32, 49]) = (⟨[], [pname 1], [1]⟩, 0) := e1
  have f2 : refLine ⟨[], [pname 1], [1]⟩ (bs [112, 111, 111, 108, 32, 112, 50, 32, 50]) = (⟨[], [pname 1, pname 2], [1, 2]⟩, 0) := e2
  have f3 : refLine ⟨[], [pname 1, pname 2], [1, 2]⟩ (bs [112, 111, 111, 108, 32, 112, 51, 32, 51]) = (⟨[], [pname 1, pname 2, pname 3], [1, 2, 3]⟩, 0) := e3
  simp only [headL, refRun, f1, f2, f3, e4, e5, if_true]
  rfl

/-- The whole text, and lines behind it. -/
theorem text_run {K : List KT} (h : Lined K) {s : ByteArray} {more : List ByteArray} (hs : s.data.toList = headB.data.toList ++ sepL 10 (K.map kline ++ more)) (hm : ∀ x ∈ more, (10 : UInt8) ∉ x.data.toList) :
    linesOf s = headL ++ (K.map kline ++ more) ∧ refRun ps0 0 (linesOf s) = refRun (psOf (K.map toTS)) (5 + K.length) more := by
  have h12 := h.1
  have h1 : linesOf s = headL ++ (K.map kline ++ more) := by
    rw [lines_sep hs ?_, head_lines]
    intro x hx
    rw [List.mem_append] at hx
    rcases hx with hx | hx
    · rw [List.mem_map] at hx
      obtain ⟨t, ht, rfl⟩ := hx
      obtain ⟨j, hj, rfl⟩ := List.mem_iff_getElem.1 ht
      exact kline_free (h.2 j hj) (by omega)
    · exact hm x hx
  refine ⟨h1, ?_⟩
  rw [h1, refRun_append _ _ _ _ _ head_run]
  have h2 := run_tasks h K.length (Nat.le_refl _)
  rw [List.take_length] at h2
  rw [show 0 + headL.length = 5 from rfl, refRun_append _ _ _ _ _ h2, List.length_map]

def lsOf (T : List TS) : List (List Nat) := (List.range T.length).map fun a => (List.range T.length).filter (waitsM T a)
theorem lsOf_get {T : List TS} {a : Nat} (h : a < T.length) : (lsOf T).getD a [] = (List.range T.length).filter (waitsM T a) := by simp [lsOf, h]
theorem waits_lt {T : List TS} {a b : Nat} (h : waitsM T a b = true) : b < T.length := by
  unfold waitsM waitsL at h
  rw [List.any_eq_true] at h
  obtain ⟨x, _, hx⟩ := h
  have := maker_lt T x
  have e : makerI T x = b := by simpa using hx
  omega
theorem lsOf_has (T : List TS) : ∀ a b, a < T.length → waitsM T a b = ((lsOf T).getD a []).contains b := by
  intro a b ha
  rw [lsOf_get ha, Bool.eq_iff_iff]
  simp only [List.contains_iff_mem, List.mem_filter, List.mem_range]
  exact ⟨fun h => ⟨waits_lt h, h⟩, fun h => h.2⟩
theorem lsOf_lt (T : List TS) : ∀ a, a < T.length → ∀ x ∈ (lsOf T).getD a [], x < T.length := by
  intro a ha x hx
  rw [lsOf_get ha] at hx
  simp at hx
  exact hx.1
theorem waits_iff {T : List TS} {a : Nat} (ha : a < T.length) (b : Nat) : waitsM T a b = true ↔ ∃ x ∈ T[a].ins, makerI T x = b := by
  unfold waitsM waitsL
  have e : T.getD a ⟨[], ByteArray.empty, [], 0, 0, 0⟩ = T[a] := by simp [ha]
  rw [e, List.any_eq_true]
  simp

theorem cnt_all {f : Nat → Bool} : ∀ n, (∀ i, i < n → f i = true) → cnt f n = n
  | 0, _ => rfl
  | n + 1, h => by
    simp only [cnt]
    rw [cnt_all n (fun i hi => h i (by omega)), if_pos (h n (by omega))]
/-- One that waits for itself. -/
theorem ring_self {T : List TS} (hA : Apart T) {a : Nat} (ha : a < T.length) {x : ByteArray} (hi : x ∈ T[a].ins) (ho : x ∈ T[a].outs) : ringB (waitsM T) T.length = true := by
  rw [ring_eq (lsOf_has T) (lsOf_lt T), decide_eq_true_iff]
  have hw : a ∈ (lsOf T).getD a [] := by
    rw [lsOf_get ha]
    simp only [List.mem_filter, List.mem_range]
    exact ⟨ha, (waits_iff ha a).2 ⟨x, hi, maker_in hA ha ho⟩⟩
  have hG := good_iter (lsOf T) T.length (T.length + 1)
  have hno : a ∉ ordIter (lsOf T) T.length (T.length + 1) := by
    intro hm
    obtain ⟨pre, suf, e⟩ := List.append_of_mem hm
    have := hG pre a suf e
    exact this.1 (this.2 a hw)
  have hl := ordIter_len (lsOf T) T.length (T.length + 1)
  have hle : (ordIter (lsOf T) T.length (T.length + 1)).length ≤ T.length := by rw [hl]; exact cnt_le _ _
  by_cases e : (ordIter (lsOf T) T.length (T.length + 1)).length = T.length
  · exact absurd (iter_full e a ha) hno
  · omega

theorem pass_keep (ls : List (List Nat)) (o : List Nat) {x : Nat} (h : x ∈ o) : ∀ j, x ∈ ordPass ls o j
  | 0 => h
  | j + 1 => by
    have ih := pass_keep ls o h j
    simp only [ordPass, ordStep]
    split
    · simp [ih]
    · exact ih
theorem pass_take (ls : List (List Nat)) (o : List Nat) {x : Nat} (h : ∀ y ∈ ls.getD x [], y ∈ o) : ∀ j, x < j → x ∈ ordPass ls o j
  | 0, hx => by omega
  | j + 1, hx => by
    by_cases e : x = j
    · subst e
      simp only [ordPass, ordStep]
      split
      · simp
      · rename_i hc
        by_cases hm : x ∈ ordPass ls o x
        · exact hm
        · exfalso
          apply hc
          refine ⟨by simpa using hm, ?_⟩
          rw [List.all_eq_true]
          intro y hy
          simpa using pass_keep ls o (h y hy) x
    · have ih := pass_take ls o h j (by omega)
      simp only [ordPass, ordStep]
      split
      · simp [ih]
      · exact ih
theorem iter_has {ls : List (List Nat)} {ord : List Nat} {n : Nat} (hG : Good ls ord) (hlt : ∀ x ∈ ord, x < n) : ∀ r, r ≤ ord.length → ∀ x ∈ ord.take r, x ∈ ordIter ls n r
  | 0, _, x, hx => by simp at hx
  | r + 1, hr, x, hx => by
    have hr2 : r < ord.length := by omega
    rw [List.take_succ_eq_append_getElem hr2, List.mem_append, List.mem_singleton] at hx
    have ih := iter_has hG hlt r (by omega)
    simp only [ordIter]
    rcases hx with hx | rfl
    · exact pass_keep _ _ (ih x hx) n
    · refine pass_take _ _ (fun y hy => ih y ?_) n (hlt _ (List.getElem_mem hr2))
      have e : ord = ord.take r ++ ord[r] :: ord.drop (r + 1) := by rw [← List.drop_eq_getElem_cons hr2, List.take_append_drop]
      exact (hG _ _ _ e).2 y hy
theorem iter_more {ls : List (List Nat)} {n : Nat} {x : Nat} : ∀ (d r : Nat), x ∈ ordIter ls n r → x ∈ ordIter ls n (r + d)
  | 0, _, h => h
  | d + 1, r, h => by
    have := iter_more d r h
    show x ∈ ordPass ls (ordIter ls n (r + d)) n
    exact pass_keep _ _ this n
theorem ring_none {T : List TS} {ord : List Nat} (hG : Good (lsOf T) ord) (hlt : ∀ x ∈ ord, x < T.length) (hall : ∀ i, i < T.length → i ∈ ord) (hlen : ord.length = T.length) : ringB (waitsM T) T.length = false := by
  rw [ring_eq (lsOf_has T) (lsOf_lt T), decide_eq_false_iff_not, ordIter_len, cnt_all]
  · omega
  · intro i hi
    have h1 := iter_has hG hlt ord.length (Nat.le_refl _) i (by rw [List.take_length]; exact hall i hi)
    rw [hlen] at h1
    simpa using iter_more 1 _ h1

/-- Weights from the order's end on. -/
def gRun (c : Nat → Nat) (W : Nat → Nat → Bool) (n : Nat) : List Nat → Nat → Nat
  | [] => fun _ => 0
  | x :: r => upd (gRun c W n r) x (c x + wMost W (gRun c W n r) x n)
theorem gRun_fix {c : Nat → Nat} {W : Nat → Nat → Bool} {n : Nat} {ls : List (List Nat)} {o : List Nat} (hG : Good ls o) (hall : ∀ i, i < n → i ∈ o) (hW : ∀ a b, a < n → W a b = (ls.getD a []).contains b) :
    ∀ (suf pre : List Nat), o = pre ++ suf → ∀ a ∈ suf, ∃ m, IsMx (fun b => b < n) (fun b => W b a) (gRun c W n suf) m ∧ gRun c W n suf a = c a + m
  | [], _, _, a, ha => by simp at ha
  | x :: suf, pre, e, a, ha => by
    have hns : x ∉ suf := by
      intro hm
      obtain ⟨p1, s1, e1⟩ := List.append_of_mem hm
      have := (hG (pre ++ x :: p1) x s1 (by rw [e, e1]; simp)).1
      exact this (by simp)
    rw [List.mem_cons] at ha
    by_cases hax : a = x
    · subst hax
      refine ⟨wMost W (gRun c W n suf) a n, ?_, by simp only [gRun, upd_same]⟩
      refine (most_is W (gRun c W n suf) a n).congr (fun b => Iff.rfl) (fun b hb hp => ?_)
      have hbs := behind hG hall hW e hb hp
      simp only [gRun]
      rw [upd_other (by rintro rfl; exact hns hbs)]
    · have has : a ∈ suf := ha.resolve_left hax
      obtain ⟨m, h1, h2⟩ := gRun_fix hG hall hW suf (pre ++ [x]) (by rw [e]; simp) a has
      refine ⟨m, h1.congr (fun b => Iff.rfl) (fun b hb hp => ?_), by simp only [gRun]; rw [upd_other hax]; exact h2⟩
      obtain ⟨p1, s1, e1⟩ := List.append_of_mem has
      have hbs : b ∈ s1 := behind (pre := pre ++ x :: p1) (suf := s1) hG hall hW (by rw [e, e1]; simp) hb hp
      simp only [gRun]
      rw [upd_other (by rintro rfl; exact hns (by rw [e1]; simp [hbs]))]
theorem gRun_eq {c : Nat → Nat} {W : Nat → Nat → Bool} {n : Nat} {ls : List (List Nat)} {o : List Nat} (hG : Good ls o) (hall : ∀ i, i < n → i ∈ o) (hlt : ∀ x ∈ o, x < n) (hW : ∀ a b, a < n → W a b = (ls.getD a []).contains b) (hlen : o.length ≤ n + 1) :
    ∀ a, a < n → wRounds c W n (n + 1) a = gRun c W n o a := by
  intro a ha
  have hF : Fix c W n (gRun c W n o) := fun b hb => gRun_fix hG hall hW o [] rfl b (hall b hb)
  exact conv hG hall hW hlt hF o [] rfl (n + 1) hlen a (hall a ha)

/-- A plan whose tasks come in an order. -/
structure Ordd (K : List KT) (ord : List Nat) : Prop where
  lined : Lined K
  len : ord.length = K.length
  lt : ∀ x ∈ ord, x < K.length
  all : ∀ i, i < K.length → i ∈ ord
  good : ∀ pre x suf, ord = pre ++ x :: suf → x ∉ pre ∧ ∀ t, K[x]? = some t → ∀ y ∈ t.ins, y ∈ filesL ∨ ∃ b t1, b ∈ pre ∧ K[b]? = some t1 ∧ y ∈ t1.outs
theorem Ordd.ord {K : List KT} {ord : List Nat} (h : Ordd K ord) : Good (lsOf (K.map toTS)) ord := by
  intro pre x suf e
  obtain ⟨h1, h2⟩ := h.good pre x suf e
  refine ⟨h1, fun y hy => ?_⟩
  have hx : x < K.length := h.lt x (by rw [e]; simp)
  have hx2 : x < (K.map toTS).length := by simpa using hx
  have h12 := h.lined.1
  rw [lsOf_get hx2] at hy
  simp only [List.mem_filter] at hy
  obtain ⟨z, hz, hm⟩ := (waits_iff hx2 y).1 hy.2
  rw [List.getElem_map] at hz
  rcases h2 K[x] (List.getElem?_eq_getElem hx) z hz with hf | ⟨b, t1, hb, ht1, hz1⟩
  · exfalso
    have : makerI (K.map toTS) z = -1 := maker_out (fun t ht => by
      rw [List.mem_map] at ht
      obtain ⟨u, hu, rfl⟩ := ht
      obtain ⟨j, hj, rfl⟩ := List.mem_iff_getElem.1 hu
      exact file_out (h.lined.2 j hj) (by omega) hf)
    omega
  · obtain ⟨hbl, hbe⟩ := List.getElem?_eq_some_iff.1 ht1
    have hbl2 : b < (K.map toTS).length := by simpa using hbl
    have := maker_in h.lined.apart hbl2 (x := z) (by rw [List.getElem_map, hbe]; exact hz1)
    have : y = b := by omega
    rw [this]; exact hb

/-- A task with no options behind it. -/
def catW (o : ByteArray) (ins : List ByteArray) : List ByteArray := [o] ++ [bs [61], catB] ++ ins
theorem catW_free {o : ByteArray} {ins : List ByteArray} (ho : nameB o.data.toList = true) (hi : ∀ x ∈ ins, nameB x.data.toList = true) : ∀ x ∈ catW o ins, (32 : UInt8) ∉ x.data.toList ∧ (10 : UInt8) ∉ x.data.toList := by
  intro x hx
  unfold catW at hx
  simp only [List.mem_append, List.mem_cons, List.not_mem_nil, or_false] at hx
  rcases hx with (rfl | rfl | rfl) | hx
  · exact free_of ho
  · exact eq_free
  · rw [catB, bs_list]; decide
  · exact free_of (hi x hx)
def catTS (o : ByteArray) (ins : List ByteArray) : TS := ⟨[o], catB, ins, 1, 1, -1⟩
theorem ref_cat {l : List TS} {o : ByteArray} {ins : List ByteArray} (ho : nameB o.data.toList = true) (hi : ∀ x ∈ ins, nameB x.data.toList = true) (h4 : ins.length ≤ 4) (hl : l.length < 24) :
    refLine (psOf l) (lineB tskB (catW o ins)) = if twiceB l [o] = true then (psOf l, 5) else (psOf (l ++ [catTS o ins]), 0) := by
  have hf : frun fs0 (catW o ins) = some ⟨2, [o], catB, ins, 0, 0, ByteArray.empty⟩ := frun_made (by simp) (by simpa using ho) (by decide +kernel) hi
  rw [refLine_task _ (fun y hy => (catW_free ho hi y hy).1), taskLine_whole _ hf rfl]
  unfold refTask
  have hw : wantsB catB 1 ins.length = true := by
    have : (catB.toList == [99, 97, 116]) = true := by decide +kernel
    simp [wantsB, this, h4]
  rw [if_neg (by show ¬ l.length = 24; omega), if_neg (by rintro ⟨h, _⟩; exact h rfl), if_neg (by show ¬ wantsB catB 1 ins.length = false; rw [hw]; simp)]
  rfl
theorem twice_yes {l : List TS} {o : ByteArray} {t : TS} (ht : t ∈ l) (ho : o ∈ t.outs) : twiceB l [o] = true := by
  refine twice_hit (k := 0) (by simp) ?_
  unfold twiceAt
  have : 0 ≤ makerI l o := by
    unfold makerI
    split
    · omega
    · rename_i hn
      rw [List.findIdx?_eq_none_iff] at hn
      have := hn t ht
      rw [decide_eq_false_iff_not] at this
      exact absurd (place_in ho) this
  simp [this]
theorem far_out {K : List KT} (h : Lined K) {x : ByteArray} (hx : x.size ≠ 3) : ∀ t ∈ K.map toTS, x ∉ t.outs := by
  intro t ht hm
  rw [List.mem_map] at ht
  obtain ⟨u, hu, rfl⟩ := ht
  obtain ⟨j, hj, rfl⟩ := List.mem_iff_getElem.1 hu
  have h12 := h.1
  exact hx ((h.2 j hj).outs_pth (by omega) x hm).1
theorem once_new {l : List TS} {o : ByteArray} (h : ∀ t ∈ l, o ∉ t.outs) : twiceB l [o] = false := twice_no (fun x hx t ht => by rw [List.mem_singleton] at hx; subst hx; exact h t ht) (by simp)
theorem Apart.snoc {l : List TS} {t : TS} (h : Apart l) (hn : ∀ x ∈ t.outs, ∀ u ∈ l, x ∉ u.outs) : Apart (l ++ [t]) := by
  intro a b ha hb x hxa hxb
  rw [List.length_append, List.length_singleton] at ha hb
  by_cases ea : a < l.length
  · rw [List.getElem_append_left ea] at hxa
    by_cases eb : b < l.length
    · rw [List.getElem_append_left eb] at hxb
      exact h a b ea eb x hxa hxb
    · have : b = l.length := by omega
      subst this
      rw [List.getElem_append_right (Nat.le_refl _)] at hxb
      simp at hxb
      exact absurd hxa (hn x hxb _ (List.getElem_mem ea))
  · have : a = l.length := by omega
    subst this
    rw [List.getElem_append_right (Nat.le_refl _)] at hxa
    simp at hxa
    by_cases eb : b < l.length
    · rw [List.getElem_append_left eb] at hxb
      exact absurd hxb (hn x hxa _ (List.getElem_mem eb))
    · omega
theorem sepL_len (c : UInt8) (ws : List ByteArray) {m : Nat} (h : ∀ x ∈ ws, x.size ≤ m) : (sepL c ws).length ≤ ws.length * (m + 1) := by
  induction ws with
  | nil => simp [sepL]
  | cons x r ih =>
    rw [sepL_cons, List.length_append, List.length_cons, ba_len, List.length_cons, Nat.add_mul]
    have := ih (fun y hy => h y (List.mem_cons_of_mem _ hy))
    have := h x (by simp)
    omega
theorem kline_size {t : KT} {k : Nat} (h : TL t k) (hk : k < 100) : (kline t).size ≤ 60 := by
  rw [← ba_len]
  unfold kline lineB
  rw [bs_list, List.length_append]
  unfold kwords ktail
  rw [sepL_append, sepL_append, sepL_append, sepL_append, sepL_append]
  simp only [List.length_append]
  have h1 := sepL_len 32 t.outs (m := 3) (fun x hx => by have := (h.outs_pth hk x hx).1; omega)
  have h2 := sepL_len 32 t.ins (m := 3) (fun x hx => by have := (h.ins x hx).1; omega)
  have h3 := h.first.2.2.1
  have h4 := h.few
  have h5 : (sepL 32 [bs [61], t.act]).length ≤ 8 := by
    rw [sepL_cons, sepL_cons, sepL_nil]
    simp only [List.length_append, List.length_cons, List.length_nil, bs_list, ba_len]
    have := h.short
    omega
  have h6 : (sepL 32 [bs [124], costB, dig t.cost]).length = 9 := by
    rw [sepL_cons, sepL_cons, sepL_cons, sepL_nil]
    simp only [List.length_append, List.length_cons, List.length_nil, bs_list, costB, dig]
  have h7 : (sepL 32 [jobsB, dig t.jobs]).length = 7 := by
    rw [sepL_cons, sepL_cons, sepL_nil]
    simp only [List.length_append, List.length_cons, List.length_nil, bs_list, jobsB, dig]
  have h8 : (sepL 32 (if 0 < t.pool then [poolB, pname t.pool] else [])).length ≤ 8 := by
    split
    · rw [sepL_cons, sepL_cons, sepL_nil]
      simp only [List.length_append, List.length_cons, List.length_nil, bs_list, poolB, pname]
      omega
    · simp [sepL]
  have h9 : tskB.data.toList.length = 4 := by rw [tskB, bs_list]; rfl
  omega
end Go.Proofs.YtoabakgmjcnodaaDoor
