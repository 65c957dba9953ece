/-
  The map of records by fingerprint: its keys are arrays; of an element the value itself is told.
-/
import Derived.Test.YtoabakgmjcnodaaLkH
import Derived.Maps.OwnSet
import Derived.Maps.OwnRows
import Derived.WideKeyPair
namespace Go.Proofs.Ytoabakgmjcnodaa
open Go.ChangeShapes Go.WideShapes Go.ChangeAt Go.RowKit Go.Sort Go.Maps

theorem arrKey : WideMaps.ArrKey Try.prog 24 22 2 := ⟨Try.underlying24, plain22, cells22, by kernel_rfl⟩
theorem lawD : Keyed Try.prog 24 := Keyed.of_law arrKey.law
def encK (d : Nat × Nat) : Value := .agg #[.int .u64 (d.1 : Nat), .int .u64 (d.2 : Nat)]
def klit (d : Nat × Nat) : Lit := .string (keyBytes [.int .u64 (d.1 : Nat), .int .u64 (d.2 : Nat)])
theorem wf_u64 {n : Nat} (h : U64 n) : (Lit.int .u64 (n : Int)).wf = true := by
  unfold U64 at h
  simp [Lit.wf, IntKind.min, IntKind.max, IntKind.signed, IntKind.bits]
  omega
theorem typesSize : ∃ m, Try.prog.types.size = m + 1 := ⟨Try.prog.types.size - 1, by
  have : 0 < Try.prog.types.size := by
    have h : decide (0 < Try.prog.types.size) = true := by kernel_rfl
    exact of_decide_eq_true h
  omega⟩
theorem keyD {d : Nat × Nat} (h0 : U64 d.1) (h1 : U64 d.2) : keyOf Try.prog 24 (encK d) = some (klit d) :=
  WideMaps.keyOf_pair arrKey Try.underlying22 typesSize (wf_u64 h0) (wf_u64 h1)
theorem encK_inj {a b : Nat × Nat} (h : encK a = encK b) : a = b := by
  obtain ⟨a0, a1⟩ := a
  obtain ⟨b0, b1⟩ := b
  simp only [encK, Value.agg.injEq] at h
  simp only [Array.mk.injEq, List.cons.injEq, Value.int.injEq, true_and, and_true] at h
  obtain ⟨h0, h1⟩ := h
  rw [show a0 = b0 by omega, show a1 = b1 by omega]
theorem klit_inj {a b : Nat × Nat} (a0 : U64 a.1) (a1 : U64 a.2) (b0 : U64 b.1) (b1 : U64 b.2) (h : klit a = klit b) : a = b := by
  refine encK_inj (lawD.inj (keyD a0 a1) ?_)
  rw [h]
  exact keyD b0 b1
theorem u64_of_wf {a : Int} (h : (Lit.int .u64 a).wf = true) : ∃ n : Nat, a = (n : Int) ∧ U64 n := by
  simp [Lit.wf, IntKind.min, IntKind.max, IntKind.signed, IntKind.bits] at h
  exact ⟨a.toNat, by omega, by unfold U64; omega⟩
/-- A key that can be read is a digest. -/
theorem keyD_inv {key : Value} {kl : Lit} (h : keyOf Try.prog 24 key = some kl) : ∃ d : Nat × Nat, key = encK d ∧ kl = klit d ∧ U64 d.1 ∧ U64 d.2 := by
  obtain ⟨xs, L, rfl, h1, rfl⟩ := keyOf_top arrKey.wide h
  obtain ⟨m, hm⟩ := typesSize
  rw [hm] at h1
  unfold Program.keyLits at h1
  simp only [arrKey.hu] at h1
  split at h1
  · rename_i hl
    rw [arrKey.size] at hl
    obtain ⟨l⟩ := xs
    match l, hl with
    | [c0, c1], _ =>
      rw [show List.range 2 = [0, 1] from rfl, List.mapM_cons, List.mapM_cons, List.mapM_nil] at h1
      simp only [Option.map_eq_some_iff, bind, Option.bind_eq_some_iff, pure, Option.some.injEq, arrKey.one] at h1
      obtain ⟨ls, ⟨y0, k0, _, ⟨y1, k1, _, rfl, rfl⟩, rfl⟩, rfl⟩ := h1
      have w0 := k0
      have w1 := k1
      obtain ⟨a, ea, rfl⟩ := keyLits_int' Try.underlying22 k0
      obtain ⟨b, eb, rfl⟩ := keyLits_int' Try.underlying22 k1
      simp at ea eb
      subst ea; subst eb
      unfold Program.keyLits at w0 w1
      rw [Try.underlying22] at w0 w1
      simp at w0 w1
      obtain ⟨n0, rfl, u0⟩ := u64_of_wf w0
      obtain ⟨n1, rfl, u1⟩ := u64_of_wf w1
      exact ⟨(n0, n1), rfl, rfl, u0, u1⟩
  · cases h1

/-- Of an element: the value itself. -/
def heldR (v : Value) : Option (DataW Value × List MemPlace) := some (.held v, [])
/-- The map of some entries, one laid behind the other. -/
def mapD (es : List ((Nat × Nat) × Value)) : DataW Value := es.foldl (fun D p => D.put (klit p.1) (.held p.2)) (.map [])
def lastV (es : List ((Nat × Nat) × Value)) (k : Nat × Nat) : Option Value := es.foldl (fun o p => if p.1 = k then some p.2 else o) none
theorem mapD_snoc (es : List ((Nat × Nat) × Value)) (p : (Nat × Nat) × Value) : mapD (es ++ [p]) = (mapD es).put (klit p.1) (.held p.2) := by simp [mapD]
theorem lastV_snoc (es : List ((Nat × Nat) × Value)) (p : (Nat × Nat) × Value) (k : Nat × Nat) : lastV (es ++ [p]) k = if p.1 = k then some p.2 else lastV es k := by simp [lastV]
theorem mapD_isMap (es : List ((Nat × Nat) × Value)) : IsMap (mapD es) := by
  have key : ∀ (es : List ((Nat × Nat) × Value)) (D : DataW Value), IsMap D → IsMap (es.foldl (fun D p => D.put (klit p.1) (.held p.2)) D) := by
    intro es
    induction es with
    | nil => exact fun D h => h
    | cons p es ih => exact fun D h => ih _ (h.put _ _)
  exact key es _ isMap_empty
def KU (k : Nat × Nat) : Prop := U64 k.1 ∧ U64 k.2
theorem klit_key {k : Nat × Nat} (h : KU k) : WideAt.IsKeyLit (klit k) := lawD.key (keyD h.1 h.2)
theorem mapD_at (es : List ((Nat × Nat) × Value)) (hes : ∀ p ∈ es, KU p.1) {k : Nat × Nat} (hk : KU k) (z : DataW Value) : (mapD es).atKey (klit k) z = match lastV es k with | some v => .held v | none => z := by
  have key : ∀ (n : Nat) (es : List ((Nat × Nat) × Value)), es.length = n → (∀ p ∈ es, KU p.1) → (mapD es).atKey (klit k) z = match lastV es k with | some v => .held v | none => z := by
    intro n
    induction n with
    | zero =>
      intro es h _
      have : es = [] := List.length_eq_zero_iff.1 h
      subst this; simp [lastV, mapD, DataW.atKey]
    | succ n ihn =>
      intro es h hes
      rcases List.eq_nil_or_concat es with rfl | ⟨es', p, rfl⟩
      · simp at h
      · rw [List.concat_eq_append] at hes h ⊢
        rw [mapD_snoc, lastV_snoc]
        by_cases e : p.1 = k
        · rw [if_pos e, e, atKey_put_same (mapD_isMap _) (klit_key hk)]
        · rw [if_neg e]
          have hp := hes p (by simp)
          rw [atKey_put_other (fun h => e (klit_inj hp.1 hp.2 hk.1 hk.2 h.symm))]
          exact ihn es' (by simpa using h) (fun q hq => hes q (by simp [hq]))
  exact key _ es rfl hes
theorem mapD_has (es : List ((Nat × Nat) × Value)) (hes : ∀ p ∈ es, KU p.1) {k : Nat × Nat} (hk : KU k) : has (mapD es) (klit k) = true ↔ ∃ p ∈ es, p.1 = k := by
  have key : ∀ (n : Nat) (es : List ((Nat × Nat) × Value)), es.length = n → (∀ p ∈ es, KU p.1) → (has (mapD es) (klit k) = true ↔ ∃ p ∈ es, p.1 = k) := by
    intro n
    induction n with
    | zero =>
      intro es h _
      have : es = [] := List.length_eq_zero_iff.1 h
      subst this; simp [mapD, has_eq]
    | succ n ihn =>
      intro es h hes
      rcases List.eq_nil_or_concat es with rfl | ⟨es', p, rfl⟩
      · simp at h
      · rw [List.concat_eq_append] at hes h ⊢
        rw [mapD_snoc]
        by_cases e : p.1 = k
        · rw [e, has_put_same (mapD_isMap _) (klit_key hk)]
          exact ⟨fun _ => ⟨p, by simp, e⟩, fun _ => rfl⟩
        · have hp := hes p (by simp)
          rw [has_put_other (fun h => e (klit_inj hp.1 hp.2 hk.1 hk.2 h.symm)), ihn es' (by simpa using h) (fun q hq => hes q (by simp [hq]))]
          constructor
          · rintro ⟨q, hq, hqk⟩; exact ⟨q, by simp [hq], hqk⟩
          · rintro ⟨q, hq, hqk⟩
            rw [List.mem_append, List.mem_singleton] at hq
            rcases hq with hq | rfl
            · exact ⟨q, hq, hqk⟩
            · exact absurd hqk e
  exact key _ es rfl hes
/-- The keys that have come so far. -/
def CollD (D0 : DataW Value) (left : Lit → Bool) (ss : List (Nat × Nat)) : Prop := ss.Nodup ∧ (∀ x ∈ ss, KU x) ∧ ∀ x, KU x → (x ∈ ss ↔ (has D0 (klit x) = true ∧ left (klit x) = false))
theorem CollD.start (D0 : DataW Value) : CollD D0 (has D0) [] := ⟨List.nodup_nil, fun x h => (by cases h), fun x _ => (by cases has D0 (klit x) <;> simp)⟩
theorem CollD.step {D0 : DataW Value} {left : Lit → Bool} {ss : List (Nat × Nat)} (h : CollD D0 left ss) {x : Nat × Nat} {y : DataW Value} (hx : KU x) (hlk : left (klit x) = true) (hat : ∀ zd, D0.atKey (klit x) zd = y) : CollD D0 (fun z => left z && !z.sameKey (klit x)) (ss ++ [x]) := by
  have hhas : has D0 (klit x) = true := has_true_of_atKey hat
  have hnew : x ∉ ss := fun hm => by have := ((h.2.2 x hx).1 hm).2; rw [hlk] at this; cases this
  refine ⟨List.nodup_append.2 ⟨h.1, by simp, fun a ha b hb => by simp at hb; subst hb; exact fun e => hnew (e ▸ ha)⟩, fun z hz => ?_, fun y hy => ?_⟩
  · rw [List.mem_append, List.mem_singleton] at hz
    rcases hz with hz | rfl
    · exact h.2.1 z hz
    · exact hx
  · by_cases e : y = x
    · subst e
      have : (klit y).sameKey (klit y) = true := by simp [klit, Lit.sameKey]
      simp [hhas, this]
    · have hs : (klit y).sameKey (klit x) = false := sameKey_ne (fun h => e (klit_inj hy.1 hy.2 hx.1 hx.2 h))
      simp [h.2.2 y hy, e, hs]
/-- The entries that some records lay. -/
def Els (w : World) (es : List ((Nat × Nat) × Value)) (l : List Rc) : Prop :=
  es.length = l.length ∧ ∀ i (h : i < l.length), ∃ vO, es[i]? = some (prt l[i], .agg #[.int .u64 (l[i].p0 : Nat), .int .u64 (l[i].p1 : Nat), vO]) ∧ Ds w vO l[i].outs
theorem Els.snoc {w w1 : World} {es : List ((Nat × Nat) × Value)} {l : List Rc} {r : Rc} {vO : Value} (h : Els w es l) (hd : Ds w1 vO r.outs) (hk : ∀ v o, Ds w v o → Ds w1 v o) : Els w1 (es ++ [(prt r, .agg #[.int .u64 (r.p0 : Nat), .int .u64 (r.p1 : Nat), vO])]) (l ++ [r]) := by
  refine ⟨by simp [h.1], fun i hi => ?_⟩
  rw [List.length_append, List.length_singleton] at hi
  by_cases e : i < l.length
  · obtain ⟨u, h0, h1⟩ := h.2 i e
    rw [List.getElem_append_left e]
    exact ⟨u, by rw [List.getElem?_append_left (by rw [h.1]; exact e)]; exact h0, hk _ _ h1⟩
  · have e2 : i = l.length := by omega
    subst e2
    rw [List.getElem_append_right (Nat.le_refl _)]
    simp only [Nat.sub_self, List.getElem_cons_zero]
    exact ⟨vO, by rw [← h.1]; simp, hd⟩
theorem Els.mono {w w1 : World} {es : List ((Nat × Nat) × Value)} {l : List Rc} (h : Els w es l) (hk : ∀ v o, Ds w v o → Ds w1 v o) : Els w1 es l :=
  ⟨h.1, fun i hi => by obtain ⟨u, h0, h1⟩ := h.2 i hi; exact ⟨u, h0, hk _ _ h1⟩⟩
theorem Els.last {w : World} {es : List ((Nat × Nat) × Value)} {l : List Rc} (h : Els w es l) (k : Nat × Nat) : match lastF l k with
    | none => lastV es k = none
    | some r => ∃ vO, lastV es k = some (.agg #[.int .u64 (r.p0 : Nat), .int .u64 (r.p1 : Nat), vO]) ∧ Ds w vO r.outs ∧ r ∈ l := by
  have key : ∀ (n : Nat) (l : List Rc) (es : List ((Nat × Nat) × Value)), l.length = n → Els w es l → match lastF l k with
      | none => lastV es k = none
      | some r => ∃ vO, lastV es k = some (.agg #[.int .u64 (r.p0 : Nat), .int .u64 (r.p1 : Nat), vO]) ∧ Ds w vO r.outs ∧ r ∈ l := by
    intro n
    induction n with
    | zero =>
      intro l es hn h
      have : l = [] := List.length_eq_zero_iff.1 hn
      subst this
      have : es = [] := List.length_eq_zero_iff.1 (by simpa using h.1)
      subst this; rfl
    | succ n ihn =>
      intro l es hn h
      rcases List.eq_nil_or_concat l with rfl | ⟨l', r, rfl⟩
      · have : es = [] := List.length_eq_zero_iff.1 (by simpa using h.1)
        subst this; rfl
      · rw [List.concat_eq_append] at h hn ⊢
        rcases List.eq_nil_or_concat es with rfl | ⟨es', p, rfl⟩
        · have := h.1; simp at this
        · rw [List.concat_eq_append] at h ⊢
          have hl : es'.length = l'.length := by simpa using h.1
          have h' : Els w es' l' := ⟨hl, fun i hi => by
            obtain ⟨u, h0, h1⟩ := h.2 i (by simp; omega)
            rw [List.getElem_append_left hi] at h0 h1
            rw [List.getElem?_append_left (by omega)] at h0
            exact ⟨u, h0, h1⟩⟩
          obtain ⟨u, h0, h1⟩ := h.2 l'.length (by simp)
          rw [List.getElem_append_right (Nat.le_refl _)] at h0 h1
          simp only [Nat.sub_self, List.getElem_cons_zero] at h0 h1
          rw [← hl] at h0
          simp at h0
          subst h0
          rw [lastF_snoc, lastV_snoc]
          by_cases e : prt r = k
          · rw [if_pos e, if_pos e]
            exact ⟨u, rfl, h1, by simp⟩
          · rw [if_neg e, if_neg e]
            have ih := ihn l' es' (by simpa using hn) h'
            split at ih
            · exact ih
            · obtain ⟨v, a, b, c⟩ := ih
              exact ⟨v, a, b, by simp [c]⟩
  exact key _ l es rfl h
theorem Els.keys {w : World} {es : List ((Nat × Nat) × Value)} {l : List Rc} (h : Els w es l) (k : Nat × Nat) : (∃ p ∈ es, p.1 = k) ↔ ∃ r ∈ l, prt r = k := by
  constructor
  · rintro ⟨p, hp, rfl⟩
    obtain ⟨i, hi, rfl⟩ := List.getElem_of_mem hp
    obtain ⟨u, h0, _⟩ := h.2 i (by rw [← h.1]; exact hi)
    rw [List.getElem?_eq_getElem hi] at h0
    injection h0 with h0
    exact ⟨_, List.getElem_mem (by rw [← h.1]; exact hi), by rw [h0]⟩
  · rintro ⟨r, hr, rfl⟩
    obtain ⟨i, hi, rfl⟩ := List.getElem_of_mem hr
    obtain ⟨u, h0, _⟩ := h.2 i hi
    exact ⟨_, List.mem_of_getElem? h0, rfl⟩
end Go.Proofs.Ytoabakgmjcnodaa
