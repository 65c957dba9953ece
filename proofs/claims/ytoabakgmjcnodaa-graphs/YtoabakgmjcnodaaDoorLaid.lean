/-
  What the rows' lists of package-level variables give, and a world that holds them.
-/
import Derived.Test.YtoabakgmjcnodaaDoorRows
import Derived.Test.YtoabakgmjcnodaaDoorOwnE
import Derived.Test.YtoabakgmjcnodaaDoorShelf
import Derived.WalkKit
import Derived.ProofKit
import Derived.OpenShut
import Derived.Deep.DeepHandedRow
import Derived.ShutString
import Derived.MakeChecks
namespace Go.Proofs.YtoabakgmjcnodaaDoor
open Go.ChangeShapes Go.WideShapes Go.ChangeAt Go.RowKit

theorem own : ownKnob Tryd.prog.godebug = none := by kernel_rfl
theorem gShapes : Tryd.prog.globalNamed "mill/plan.shapes" = some 0 := by kernel_rfl
theorem gShapesType : (Tryd.prog.globals[0]?).map (·.type) = some 120 := by kernel_rfl
theorem cellsTab : Tryd.prog.cellsOf 120 = 20 := by kernel_rfl
theorem cellsShape : Tryd.prog.cellsOf 119 = 4 := by kernel_rfl
theorem cellsString : Tryd.prog.cellsOf 9 = 1 := by kernel_rfl
theorem cellsInt : Tryd.prog.cellsOf 3 = 1 := by kernel_rfl

theorem take4 {α : Type} {l : List α} (h : l.length = 4) {a b c d : α} (ha : (l.drop 0).take 1 = [a]) (hb : (l.drop 1).take 1 = [b]) (hc : (l.drop 2).take 1 = [c]) (hd : (l.drop 3).take 1 = [d]) : l = [a, b, c, d] := by
  match l, h with
  | [x0, x1, x2, x3], _ => simp at ha hb hc hd; simp [ha, hb, hc, hd]
/-- One row of the table. -/
theorem shape_cells {W : World} {fuel : Nat} {cs : List Value} {s : ByteArray} {a b c : Int} {y : DataW Unit × List MemPlace}
    (h : DataW.trod (fun _ => ()) Tryd.prog W 0 (fun _ => true) false fuel 119 cs = some y) (hy : y.1 = .agg [.lit (.string s.data.toList), .lit (.int .i64 a), .lit (.int .i64 b), .lit (.int .i64 c)]) :
    cs = [.string s, .int .i64 a, .int .i64 b, .int .i64 c] := by
  obtain ⟨xs, n, _, rfl, hl, hlen, hf⟩ := DataW.trod_struct Tryd.underlying119 h
  rw [cellsShape] at hl
  match xs, hlen with
  | [y0, y1, y2, y3], _ =>
    have f0 : DataW.trod _ Tryd.prog W 0 (fun _ => true) false n 9 ((cs.drop 0).take (Tryd.prog.cellsOf 9)) = some y0 := hf 0 _ rfl
    have f1 : DataW.trod _ Tryd.prog W 0 (fun _ => true) false n 3 ((cs.drop 1).take (Tryd.prog.cellsOf 3)) = some y1 := hf 1 _ rfl
    have f2 : DataW.trod _ Tryd.prog W 0 (fun _ => true) false n 3 ((cs.drop 2).take (Tryd.prog.cellsOf 3)) = some y2 := hf 2 _ rfl
    have f3 : DataW.trod _ Tryd.prog W 0 (fun _ => true) false n 3 ((cs.drop 3).take (Tryd.prog.cellsOf 3)) = some y3 := hf 3 _ rfl
    rw [cellsString] at f0
    rw [cellsInt] at f1 f2 f3
    obtain ⟨s0, e0, g0, _⟩ := DataW.trod_string Tryd.underlying9 f0
    obtain ⟨n1, e1, g1, _⟩ := DataW.trod_int Tryd.underlying3 f1
    obtain ⟨n2, e2, g2, _⟩ := DataW.trod_int Tryd.underlying3 f2
    obtain ⟨n3, e3, g3, _⟩ := DataW.trod_int Tryd.underlying3 f3
    subst g0 g1 g2 g3
    simp only [List.map_cons, List.map_nil, DataW.agg.injEq, List.cons.injEq, DataW.lit.injEq, Lit.string.injEq, Lit.int.injEq, true_and, and_true] at hy
    obtain ⟨h0, rfl, rfl, rfl⟩ := hy
    rw [WideShapes.bytes_inj h0] at e0
    exact take4 hl e0 e1 e2 e3
theorem take20 {α : Type} {l : List α} (h : l.length = 20) {a b c d e : List α} (ha : (l.drop 0).take 4 = a) (hb : (l.drop 4).take 4 = b) (hc : (l.drop 8).take 4 = c) (hd : (l.drop 12).take 4 = d) (he : (l.drop 16).take 4 = e) : l = a ++ b ++ c ++ d ++ e := by
  subst ha hb hc hd he
  match l, h with
  | [x0, x1, x2, x3, x4, x5, x6, x7, x8, x9, x10, x11, x12, x13, x14, x15, x16, x17, x18, x19], _ => rfl
/-- What the list gives. -/
theorem vars_of {W : World} (h : laidMetH Tryd.prog Rows.checksRow.laid W) (hsh : W.ShapedOpen Tryd.prog) : Vars W := by
  refine ⟨?_, Tryd.laysM146.s1_3 W hsh⟩
  rw [MakeChecks.laidMetH_plain _ _ _ (by kernel_rfl)] at h
  obtain ⟨ps, ⟨_, _, _, _, _, _, _, _, _, _, ⟨g1, t1, cs1, f1, p1, q1, hg1, ht1, hv1, hd1, _, _⟩, _⟩, _, _⟩ := h
  obtain rfl := Option.some.inj (gShapes.symm.trans hg1)
  obtain rfl := Option.some.inj (gShapesType.symm.trans ht1)
  obtain ⟨xs, m, _, hx, hlen, hn, hel⟩ := DataW.trod_array Tryd.underlying120 hd1
  rw [cellsTab] at hlen
  simp only [cellsShape] at hel
  match xs, hn, hx, hel with
  | [y0, y1, y2, y3, y4], _, hx, hel =>
    have e0 := hel 0 (by decide)
    have e1 := hel 1 (by decide)
    have e2 := hel 2 (by decide)
    have e3 := hel 3 (by decide)
    have e4 := hel 4 (by decide)
    simp only [Rows.laid_mill_plan_shapes, List.map_cons, List.map_nil, Prod.mk.injEq, DataW.agg.injEq, List.cons.injEq, and_true] at hx
    obtain ⟨⟨x0, x1, x2, x3, x4⟩, _⟩ := hx
    have c0 := shape_cells (s := ⟨#[99, 97, 116]⟩) (show DataW.trod _ _ _ _ _ _ _ _ _ = some y0 from e0) x0.symm
    have c1 := shape_cells (s := ⟨#[114, 101, 118]⟩) (show DataW.trod _ _ _ _ _ _ _ _ _ = some y1 from e1) x1.symm
    have c2 := shape_cells (s := ⟨#[104, 97, 108, 102]⟩) (show DataW.trod _ _ _ _ _ _ _ _ _ = some y2 from e2) x2.symm
    have c3 := shape_cells (s := ⟨#[99, 111, 117, 110, 116]⟩) (show DataW.trod _ _ _ _ _ _ _ _ _ = some y3 from e3) x3.symm
    have c4 := shape_cells (s := ⟨#[103, 97, 116, 101]⟩) (show DataW.trod _ _ _ _ _ _ _ _ _ = some y4 from e4) x4.symm
    have hcs : cs1 = shapesC := by
      have := take20 hlen c0 c1 c2 c3 c4
      apply Array.ext'
      rw [this]; rfl
    subst hcs
    simp only [World.var?, gShapes, Option.bind_some] at hv1
    split at hv1
    · rename_i cs t fr hw
      injection hv1 with hv1; subst hv1
      exact ⟨t, fr, hw⟩
    · cases hv1

/-- The cells of a table. -/
def cellOf : DataW Unit → Value
  | .lit (.int k n) => .int k n
  | .lit (.string s) => .string ⟨s.toArray⟩
  | _ => .int .i64 0
def rowOf : DataW Unit → List Value
  | .agg l => l.map cellOf
  | d => [cellOf d]
def tabOf : DataW Unit → Array Value
  | .agg l => (l.flatMap rowOf).toArray
  | _ => #[]
def layAt (d : DataW Unit) : Obj → Obj
  | .cells _ t fr => .cells (tabOf d) t fr
  | o => o
/-- A world that holds the three tables. -/
noncomputable def laidWorld (os : Os) : World :=
  { World.holding Tryd.prog os ⟨#[], #[], []⟩ with heap := (((World.holding Tryd.prog os ⟨#[], #[], []⟩).heap.modify 0 (layAt Rows.laid_mill_plan_shapes)).modify 2 (layAt Rows.laid_unicode_utf8_first)).modify 3 (layAt Rows.laid_unicode_utf8_acceptRanges) }
set_option maxRecDepth 100000 in
theorem laid_met (os : Os) (args : Array Value) : laidMet Tryd.prog Rows.checksRow.laid ((laidWorld os).forCall (fun _ _ => 0) ⟨#[], args, []⟩).memory :=
  laidMet_of_run' 8 (by kernel_rfl) (by kernel_rfl)
end Go.Proofs.YtoabakgmjcnodaaDoor
