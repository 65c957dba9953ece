/-
  Two ways to weigh tasks, and that they say the same (plain functions; nothing of the program).
-/
import Derived.Test.YtoabakgmjcnodaaDoorOrdSpec
namespace Go.Proofs.YtoabakgmjcnodaaDoor

def upd (f : Nat → Nat) (j v : Nat) : Nat → Nat := fun i => if i = j then v else f i
theorem upd_same (f : Nat → Nat) (j v : Nat) : upd f j v j = v := by simp [upd]
theorem upd_other {f : Nat → Nat} {j v i : Nat} (h : i ≠ j) : upd f j v i = f i := by simp [upd, h]

/-- The greatest of those of the first k that wait for a. -/
def wMost (W : Nat → Nat → Bool) (f : Nat → Nat) (a : Nat) : Nat → Nat
  | 0 => 0
  | k + 1 => if W k a = true ∧ wMost W f a k < f k then f k else wMost W f a k
def wPass (c : Nat → Nat) (W : Nat → Nat → Bool) (n : Nat) (f : Nat → Nat) : Nat → Nat → Nat
  | 0 => f
  | j + 1 => upd (wPass c W n f j) j (c j + wMost W (wPass c W n f j) j n)
def wRounds (c : Nat → Nat) (W : Nat → Nat → Bool) (n : Nat) : Nat → Nat → Nat
  | 0 => fun _ => 0
  | r + 1 => wPass c W n (wRounds c W n r) n

/-- m is the greatest of f over those of S of which p holds; 0 where there is none. -/
def IsMx (S : Nat → Prop) (p : Nat → Bool) (f : Nat → Nat) (m : Nat) : Prop := (∀ b, S b → p b = true → f b ≤ m) ∧ (m = 0 ∨ ∃ b, S b ∧ p b = true ∧ f b = m)
theorem IsMx.uniq {S : Nat → Prop} {p : Nat → Bool} {f : Nat → Nat} {m m1 : Nat} (h : IsMx S p f m) (h1 : IsMx S p f m1) : m = m1 := by
  have a : m ≤ m1 := by
    rcases h.2 with e | ⟨b, hb, hp, e⟩
    · omega
    · rw [← e]; exact h1.1 b hb hp
  have b : m1 ≤ m := by
    rcases h1.2 with e | ⟨b, hb, hp, e⟩
    · omega
    · rw [← e]; exact h.1 b hb hp
  omega
theorem IsMx.congr {S T : Nat → Prop} {p q : Nat → Bool} {f g : Nat → Nat} {m : Nat} (h : IsMx S p f m) (e : ∀ b, (S b ∧ p b = true) ↔ (T b ∧ q b = true)) (e1 : ∀ b, S b → p b = true → f b = g b) : IsMx T q g m := by
  refine ⟨fun b hb hq => ?_, ?_⟩
  · have := (e b).2 ⟨hb, hq⟩
    rw [← e1 b this.1 this.2]; exact h.1 b this.1 this.2
  · rcases h.2 with e2 | ⟨b, hb, hp, e2⟩
    · exact .inl e2
    · have := (e b).1 ⟨hb, hp⟩
      exact .inr ⟨b, this.1, this.2, by rw [← e1 b hb hp]; exact e2⟩
theorem most_is (W : Nat → Nat → Bool) (f : Nat → Nat) (a : Nat) : ∀ n, IsMx (fun b => b < n) (fun b => W b a) f (wMost W f a n)
  | 0 => ⟨fun b h => by omega, .inl rfl⟩
  | n + 1 => by
    have ih := most_is W f a n
    simp only [wMost]
    split
    · rename_i hc
      refine ⟨fun b hb hp => ?_, .inr ⟨n, by omega, hc.1, rfl⟩⟩
      by_cases e : b = n
      · subst e; exact Nat.le_refl _
      · have := ih.1 b (by omega) hp; omega
    · rename_i hc
      refine ⟨fun b hb hp => ?_, ?_⟩
      · by_cases e : b = n
        · subst e; exact Nat.le_of_not_lt (fun h => hc ⟨hp, h⟩)
        · exact ih.1 b (by omega) hp
      · rcases ih.2 with e | ⟨b, hb, hp, e⟩
        · exact .inl e
        · exact .inr ⟨b, by omega, hp, e⟩
/-- The weights: each its cost and the greatest of those that wait. -/
def Fix (c : Nat → Nat) (W : Nat → Nat → Bool) (n : Nat) (f : Nat → Nat) : Prop := ∀ a, a < n → ∃ m, IsMx (fun b => b < n) (fun b => W b a) f m ∧ f a = c a + m

/-- An order in which each stands behind those that it waits for. -/
def Good (ls : List (List Nat)) (o : List Nat) : Prop := ∀ pre x suf, o = pre ++ x :: suf → x ∉ pre ∧ ∀ y ∈ ls.getD x [], y ∈ pre
theorem Good.nil (ls : List (List Nat)) : Good ls [] := fun pre x suf h => by simp at h
theorem Good.snoc {ls : List (List Nat)} {o : List Nat} {j : Nat} (h : Good ls o) (h1 : j ∉ o) (h2 : ∀ y ∈ ls.getD j [], y ∈ o) : Good ls (o ++ [j]) := by
  intro pre x suf e
  rcases List.eq_nil_or_concat suf with rfl | ⟨suf', z, rfl⟩
  · have h3 : o = pre ∧ [j] = [x] := List.append_inj' e rfl
    obtain ⟨rfl, h4⟩ := h3
    injection h4 with h4 _; subst h4
    exact ⟨h1, h2⟩
  · have e2 : o ++ [j] = (pre ++ x :: suf') ++ [z] := by rw [e]; simp
    have h3 := List.append_inj' e2 rfl
    exact h pre x suf' h3.1
theorem good_pass {ls : List (List Nat)} {o : List Nat} (h : Good ls o) : ∀ j, Good ls (ordPass ls o j)
  | 0 => h
  | j + 1 => by
    have ih := good_pass h j
    simp only [ordPass, ordStep]
    split
    · rename_i hc
      refine ih.snoc (by simpa using hc.1) (fun y hy => ?_)
      have := List.all_eq_true.1 hc.2 y hy
      simpa using this
    · exact ih
theorem good_iter (ls : List (List Nat)) (n : Nat) : ∀ r, Good ls (ordIter ls n r)
  | 0 => Good.nil ls
  | r + 1 => good_pass (good_iter ls n r) n
theorem cnt_full {f : Nat → Bool} : ∀ {n : Nat}, cnt f n = n → ∀ i, i < n → f i = true
  | 0, _, i, hi => by omega
  | n + 1, h, i, hi => by
    simp only [cnt] at h
    have := cnt_le f n
    by_cases hf : f n = true
    · rw [if_pos hf] at h
      by_cases e : i = n
      · rw [e]; exact hf
      · exact cnt_full (n := n) (by omega) i (by omega)
    · rw [if_neg hf] at h; omega
theorem iter_full {ls : List (List Nat)} {n r : Nat} (h : (ordIter ls n r).length = n) : ∀ i, i < n → i ∈ ordIter ls n r := by
  intro i hi
  have h1 := ordIter_len ls n r
  rw [h] at h1
  have := cnt_full h1.symm i hi
  simpa using this

section
variable {c : Nat → Nat} {W : Nat → Nat → Bool} {ls : List (List Nat)} {n : Nat} {o : List Nat} {f : Nat → Nat}
/-- Whoever waits for one of them stands behind it. -/
theorem behind (hG : Good ls o) (hall : ∀ i, i < n → i ∈ o) (hW : ∀ a b, a < n → W a b = (ls.getD a []).contains b) {pre suf : List Nat} {a b : Nat} (e : o = pre ++ a :: suf) (hb : b < n) (hw : W b a = true) : b ∈ suf := by
  obtain ⟨p1, s1, e1⟩ := List.append_of_mem (hall b hb)
  have h1 := hG p1 b s1 e1
  rw [hW b a hb] at hw
  have ha : a ∈ p1 := h1.2 a (by simpa using hw)
  have hmem : b ∈ pre ++ a :: suf := by rw [← e]; exact hall b hb
  rw [List.mem_append, List.mem_cons] at hmem
  have h2 := hG pre a suf e
  have key : ∀ p2 s2, pre = p2 ++ b :: s2 → False := by
    intro p2 s2 e2
    have e3 : o = p2 ++ b :: (s2 ++ a :: suf) := by rw [e, e2]; simp
    have h3 := hG p2 b _ e3
    have : a ∈ p2 := h3.2 a (by simpa using hw)
    exact h2.1 (by rw [e2]; simp [this])
  rcases hmem with h | h | h
  · obtain ⟨p2, s2, e2⟩ := List.append_of_mem h
    exact (key p2 s2 e2).elim
  · subst h
    have : b ∈ pre := h2.2 b (by simpa using hw)
    exact (h2.1 this).elim
  · exact h
/-- Round by round the weights come out right, from the order's end on. -/
theorem conv (hG : Good ls o) (hall : ∀ i, i < n → i ∈ o) (hW : ∀ a b, a < n → W a b = (ls.getD a []).contains b) (hlt : ∀ x ∈ o, x < n) (hF : Fix c W n f) :
    ∀ (suf pre : List Nat), o = pre ++ suf → ∀ r, suf.length ≤ r → ∀ a ∈ suf, wRounds c W n r a = f a
  | [], _, _, _, _, a, ha => by simp at ha
  | x :: suf, pre, e, r, hr, a, ha => by
    obtain ⟨r, rfl⟩ : ∃ q, r = q + 1 := ⟨r - 1, by simp at hr; omega⟩
    have ih := conv hG hall hW hlt hF suf (pre ++ [x]) (by rw [e]; simp) r (by simp at hr; omega)
    have hw : ∀ y ∈ x :: suf, ∀ b, b < n → W b y = true → b ∈ suf := by
      intro y hy b hb hwy
      rw [List.mem_cons] at hy
      rcases hy with rfl | hy
      · exact behind hG hall hW e hb hwy
      · obtain ⟨p1, s1, e1⟩ := List.append_of_mem hy
        have := behind (pre := pre ++ x :: p1) (suf := s1) hG hall hW (by rw [e, e1]; simp) hb hwy
        rw [e1]; simp [this]
    have hpass : ∀ j, j ≤ n → (∀ y ∈ suf, wPass c W n (wRounds c W n r) j y = f y) ∧ (x < j → wPass c W n (wRounds c W n r) j x = f x) := by
      intro j
      induction j with
      | zero => intro _; exact ⟨ih, fun h => by omega⟩
      | succ j ihj =>
        intro hj
        obtain ⟨h1, h2⟩ := ihj (by omega)
        have hval : j ∈ x :: suf → c j + wMost W (wPass c W n (wRounds c W n r) j) j n = f j := by
          intro hjm
          obtain ⟨m, hm1, hm2⟩ := hF j (by omega)
          have hm3 := most_is W (wPass c W n (wRounds c W n r) j) j n
          have hm4 : IsMx (fun b => b < n) (fun b => W b j) f (wMost W (wPass c W n (wRounds c W n r) j) j n) := hm3.congr (fun b => Iff.rfl) (fun b hb hp => h1 b (hw j hjm b hb hp))
          rw [hm2, hm1.uniq hm4]
        simp only [wPass]
        refine ⟨fun y hy => ?_, fun hxj => ?_⟩
        · by_cases ey : y = j
          · subst ey; rw [upd_same]; exact hval (by simp [hy])
          · rw [upd_other ey]; exact h1 y hy
        · by_cases ex : x = j
          · subst ex; rw [upd_same]; exact hval (by simp)
          · rw [upd_other ex]; exact h2 (by omega)
    have hfin := hpass n (Nat.le_refl _)
    show wPass c W n (wRounds c W n r) n a = f a
    rw [List.mem_cons] at ha
    rcases ha with rfl | ha
    · exact hfin.2 (hlt a (by rw [e]; simp))
    · exact hfin.1 a ha
end

/-- The other way: from the order's end on, each hands its weight to those that it waits for. -/
def oHand (x : Nat) (f : Nat → Nat) : List Nat → Nat → Nat
  | [] => f
  | y :: r => oHand x (upd f y (max (f y) (f x))) r
def oStep (c : Nat → Nat) (ls : List (List Nat)) (x : Nat) (f : Nat → Nat) : Nat → Nat := oHand x (upd f x (f x + c x)) (ls.getD x [])
def oRun (c : Nat → Nat) (ls : List (List Nat)) : List Nat → Nat → Nat
  | [] => fun _ => 0
  | x :: r => oStep c ls x (oRun c ls r)
theorem hand_eq {x : Nat} : ∀ (l : List Nat) (f : Nat → Nat), x ∉ l → ∀ y, oHand x f l y = if y ∈ l then max (f y) (f x) else f y
  | [], f, _, y => by simp [oHand]
  | z :: r, f, h, y => by
    rw [List.mem_cons, not_or] at h
    simp only [oHand]
    rw [hand_eq r _ h.2 y, upd_other h.1]
    by_cases hy : y ∈ r
    · rw [if_pos hy, if_pos (by simp [hy])]
      by_cases e : y = z
      · subst e; rw [upd_same]; omega
      · rw [upd_other e]
    · rw [if_neg hy]
      by_cases e : y = z
      · subst e; rw [upd_same, if_pos (by simp)]
      · rw [upd_other e, if_neg (by simp [e, hy])]
section
variable {c : Nat → Nat} {W : Nat → Nat → Bool} {ls : List (List Nat)} {n : Nat} {o : List Nat}
theorem run_inv (hG : Good ls o) (hW : ∀ a b, a < n → W a b = (ls.getD a []).contains b) (hlt : ∀ x ∈ o, x < n) :
    ∀ (suf pre : List Nat), o = pre ++ suf → ∀ x, ∃ m, IsMx (fun b => b ∈ suf) (fun b => W b x) (oRun c ls suf) m ∧ oRun c ls suf x = (if x ∈ suf then c x + m else m)
  | [], _, _, x => ⟨0, ⟨fun b h => by simp at h, .inl rfl⟩, by simp [oRun]⟩
  | z :: suf, pre, e, x => by
    have ih := run_inv hG hW hlt suf (pre ++ [z]) (by rw [e]; simp)
    have hgz := hG pre z suf e
    have hzn : z < n := hlt z (by rw [e]; simp)
    have hz1 : z ∉ ls.getD z [] := fun h => hgz.1 (hgz.2 z h)
    have hnot : ∀ y ∈ suf, y ∉ ls.getD z [] := by
      intro y hy hyl
      have hyp := hgz.2 y hyl
      obtain ⟨p1, s1, e1⟩ := List.append_of_mem hy
      have := (hG (pre ++ z :: p1) y s1 (by rw [e, e1]; simp)).1
      exact this (by simp [hyp])
    have hzs : z ∉ suf := by
      intro h
      obtain ⟨p1, s1, e1⟩ := List.append_of_mem h
      have := (hG (pre ++ z :: p1) z s1 (by rw [e, e1]; simp)).1
      exact this (by simp)
    have hstep : ∀ y, oRun c ls (z :: suf) y = if y ∈ ls.getD z [] then max (upd (oRun c ls suf) z (oRun c ls suf z + c z) y) (oRun c ls suf z + c z) else upd (oRun c ls suf) z (oRun c ls suf z + c z) y := by
      intro y
      show oHand z (upd (oRun c ls suf) z (oRun c ls suf z + c z)) (ls.getD z []) y = _
      rw [hand_eq _ _ hz1 y, upd_same]
    have hold : ∀ y ∈ suf, oRun c ls (z :: suf) y = oRun c ls suf y := by
      intro y hy
      rw [hstep, if_neg (hnot y hy), upd_other (fun e => hzs (by rw [← e]; exact hy))]
    have hzv : oRun c ls (z :: suf) z = oRun c ls suf z + c z := by rw [hstep, if_neg hz1, upd_same]
    obtain ⟨m, hm, hx⟩ := ih x
    by_cases hxz : x = z
    · subst hxz
      refine ⟨m, ?_, ?_⟩
      · refine ⟨fun b hb hp => ?_, ?_⟩
        · replace hb : b ∈ _ :: suf := hb
          replace hp : W b x = true := hp
          rw [List.mem_cons] at hb
          rcases hb with rfl | hb
          · rw [hW _ _ hzn] at hp; exact absurd (by simpa using hp) hz1
          · rw [hold b hb]; exact hm.1 b hb hp
        · rcases hm.2 with e1 | ⟨b, hb, hp, e1⟩
          · exact .inl e1
          · exact .inr ⟨b, by simp [hb], hp, by rw [hold b hb]; exact e1⟩
      · rw [if_pos (by simp), hzv, hx, if_neg hzs]; omega
    · by_cases hwx : x ∈ ls.getD z []
      · have hxs : x ∉ suf := fun h => hnot x h hwx
        have hv : oRun c ls (z :: suf) x = max m (oRun c ls suf z + c z) := by
          rw [hstep, if_pos hwx, upd_other hxz, hx, if_neg hxs]
        refine ⟨max m (oRun c ls suf z + c z), ⟨fun b hb hp => ?_, ?_⟩, ?_⟩
        · replace hb : b ∈ z :: suf := hb
          replace hp : W b x = true := hp
          rw [List.mem_cons] at hb
          rcases hb with rfl | hb
          · rw [hzv]; omega
          · rw [hold b hb]; have := hm.1 b hb hp; omega
        · by_cases hle : m ≤ oRun c ls suf z + c z
          · right
            refine ⟨z, by simp, by show W z x = true; rw [hW _ _ hzn]; simpa using hwx, by rw [hzv]; omega⟩
          · rcases hm.2 with e1 | ⟨b, hb, hp, e1⟩
            · omega
            · exact .inr ⟨b, by simp [hb], hp, by rw [hold b hb]; omega⟩
        · rw [if_neg (by simp [hxz, hxs]), hv]
      · refine ⟨m, ⟨fun b hb hp => ?_, ?_⟩, ?_⟩
        · replace hb : b ∈ z :: suf := hb
          replace hp : W b x = true := hp
          rw [List.mem_cons] at hb
          rcases hb with rfl | hb
          · rw [hW _ _ hzn] at hp; exact absurd (by simpa using hp) hwx
          · rw [hold b hb]; exact hm.1 b hb hp
        · rcases hm.2 with e1 | ⟨b, hb, hp, e1⟩
          · exact .inl e1
          · exact .inr ⟨b, by simp [hb], hp, by rw [hold b hb]; exact e1⟩
        · rw [hstep, if_neg hwx, upd_other hxz, hx]
          by_cases hxs : x ∈ suf
          · rw [if_pos hxs, if_pos (by simp [hxs])]
          · rw [if_neg hxs, if_neg (by simp [hxz, hxs])]
theorem run_fix (hG : Good ls o) (hall : ∀ i, i < n → i ∈ o) (hW : ∀ a b, a < n → W a b = (ls.getD a []).contains b) (hlt : ∀ x ∈ o, x < n) : Fix c W n (oRun c ls o) := by
  intro a ha
  obtain ⟨m, hm, hx⟩ := run_inv (c := c) hG hW hlt o [] rfl a
  rw [if_pos (hall a ha)] at hx
  exact ⟨m, hm.congr (fun b => and_congr_left fun _ => ⟨hlt b, hall b⟩) (fun _ _ _ => rfl), hx⟩
/-- The two ways say the same. -/
theorem weigh_same (hG : Good ls o) (hall : ∀ i, i < n → i ∈ o) (hW : ∀ a b, a < n → W a b = (ls.getD a []).contains b) (hlt : ∀ x ∈ o, x < n) (hlen : o.length ≤ n + 1) : ∀ a, a < n → wRounds c W n (n + 1) a = oRun c ls o a :=
  fun a ha => conv hG hall hW hlt (run_fix hG hall hW hlt) o [] rfl (n + 1) hlen a (hall a ha)
end
end Go.Proofs.YtoabakgmjcnodaaDoor
