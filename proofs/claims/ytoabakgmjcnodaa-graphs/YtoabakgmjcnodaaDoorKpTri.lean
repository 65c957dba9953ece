import Derived.Test.YtoabakgmjcnodaaDoorGrTwo
import Derived.Test.YtoabakgmjcnodaaDoorKpW
import Derived.Deep.QuietTactic
import Derived.BigQuiet
import Derived.Test.YtoabakgmjcnodaaDoorKpQ
import Derived.Deep.Slices
import Derived.Carry
import Derived.OpenShut
namespace Go.Proofs.YtoabakgmjcnodaaDoor
open Go.ChangeShapes Go.WideShapes Go.ChangeAt Go.RowKit

set_option maxHeartbeats 1000000 in
/-- Two lists that are the same. -/
theorem kp_sameInts (v v1 : Value) (l : List Nat) (w : World) (hv : Ints w v l) (hv1 : Ints w v1 l) (hn : l.length ≤ 4000) :
    Calls Tryd.prog 13 #[v, v1] w fun e w' => e = .returned (.bool true) ∧ Below w.heap.size w w' := by
  obtain ⟨a, c, rfl, _, _⟩ := id hv
  obtain ⟨a1, c1, rfl, _, _⟩ := id hv1
  have hll : ((l.length : Int) != l.length) = false := by simp
  go_enter Tryd.func13, Tryd.ntmps13
  go_wp2
  go_loopw [4, 5] (fun _ i wr => ∃ k : Nat, k ≤ l.length ∧ i = .int .i64 k ∧ Below w.heap.size w wr) (fun _ i _ => l.length - (intOf i).toNat)
  case atStart => exact ⟨0, Nat.zero_le _, rfl, Below.refl _ _⟩
  case round =>
    obtain ⟨k, hk, rfl, hbel⟩ := hrel
    by_cases hlt : k < l.length
    · obtain ⟨b, off, hx, hc⟩ := ints_at (hv.below hbel) hlt
      obtain ⟨b1, off1, hx1, hc1⟩ := ints_at (hv1.below hbel) hlt
      subst hx hx1
      obtain ⟨x, hx⟩ : ∃ x, l[k] = x := ⟨_, rfl⟩
      rw [hx] at hc hc1
      clear hx
      have hxx : ((x : Int) != x) = false := by simp
      go_wp2_with fail
      go_region
      all_goals
        go_wp2
        go_roundw
        case rel => exact ⟨k + 1, by omega, by go_num, hbel.drew⟩
        case measure => simp [intOf]; omega
    · go_wp2
      go_ret
      exact ⟨ret_bool rfl, hbel⟩

theorem kp_check {s : ByteArray} {a b : Nat} (hs : (refRead s).2 = (a, b)) (hz : s.size ≤ 4000) (w : World) (hV : Vars w) :
    Calls Tryd.prog 6 #[.string s] w fun e w' => e = .returned (.tuple #[.int .i64 a, .int .i64 b]) ∧ Below w.heap.size w w' := by
  have h := own_Check s w hV (by unfold maxLen; omega)
  rw [(read_same s).1, hs] at h
  exact h

set_option maxRecDepth 10000 in
set_option maxHeartbeats 4000000 in
theorem kp_graphs_of (w : World) (aL : Option Addr) (nL cL n : Nat) (back : Bool) (h12 : n ≤ 12) (hV : Vars w)
    (hpl : Calls Tryd.prog 10 #[.slice aL nL cL, .bool back] w fun e w' => e = .returned (.pointer (some ⟨w.heap.size, 0, none⟩)) ∧ PlanPost w w' back n) :
    Calls Tryd.prog 5 #[.slice aL nL cL, .bool back] w fun e w' => e = .returned (.bool true) ∧ Below w.heap.size w w' := by
  have HPL : Hid (Calls Tryd.prog 10 #[.slice aL nL cL, .bool back] w fun e w' => e = .returned (.pointer (some ⟨w.heap.size, 0, none⟩)) ∧ PlanPost w w' back n) := hpl
  have HV : Hid (Vars w) := hV
  have H2 := hV.two
  clear hpl hV
  go_enter Tryd.func5, Tryd.ntmps5
  go_wp2_with fail
  refine HPL.out.mono ?_
  rintro e w1 ⟨rfl, K0, M, v, cO, cI, hK0, hch, hP, hb1⟩
  replace hP : KPl w1 w.heap.size M v (byLine back K0) ((List.range n).map (lineOf back n)) cO cI := hP
  have hO := hch.ordd hK0 h12
  have hlen : (byLine back K0).length = n := by rw [byLine_len, hK0]
  generalize byLine back K0 = K at *
  generalize (List.range n).map (lineOf back n) = ord at *
  clear HPL hch hK0 K0
  have hl := hO.lined
  have hts := text_size hl
  have hx := read_x hO
  have hy := read_y hO
  have hp := read_plain hO
  have hp2 : (refRead (kText K)).2 = (K.length, 0) := by rw [hp]
  have hwp := weigh_plain hO
  obtain ⟨T, hT⟩ : ∃ T, kText K = T := ⟨_, rfl⟩
  have HZ : Hid (∀ (b : Nat) (t : KT) (o : ByteArray), K[b]? = some t → o ∈ t.outs → (refRead (((T ++ litZ) ++ o) ++ litZ2)).2 = (K.length + 7, 6)) := by
    intro b t o hb ho
    rw [← hT]; exact read_z hO hb ho
  have HTX : Hid (Calls Tryd.prog 11 #[.pointer (some ⟨w.heap.size, 0, none⟩), .bool false] w1 fun e w' => e = .returned (.string T) ∧ Below w1.heap.size w1 w') := by
    rw [← hT]; exact kp_text hP hl.fits
  rw [hT] at hts hx hy hp2 hwp
  rw [hlen] at hx hy hp2
  have HX : Hid ((refRead (T ++ litX)).2 = (n + 6, 6)) := hx
  have HY : Hid ((refRead (T ++ litY)).2 = (n + 6, 5)) := hy
  have HPP : Hid ((refRead T).2 = (n, 0)) := hp2
  have HWP : Hid (weighL T = (List.range K.length).map (gRun (costT (K.map toTS)) (waitsM (K.map toTS)) K.length ord)) := hwp
  have HP : Hid (KPl w1 w.heap.size M v K ord cO cI) := hP
  have HLEN : Hid (K.length = n) := hlen
  have HOD : Hid (Ordd K ord) := hO
  clear hx hy hp hp2 hwp hP hlen hO hT hl
  have hz1 : ¬ 9223372036854775807 < T.size + 15 := by omega
  have hz2 : ¬ 9223372036854775807 < T.size + 26 := by omega
  have hz3 : ¬ 9223372036854775807 < T.size + 14 := by omega
  go_wp2_with fail
  refine HTX.out.mono ?_
  rintro e w2 ⟨rfl, hb2⟩
  have hB2 := hb1.trans (hb2.mono hb1.size)
  go_wp2_with fail
  refine (kp_check HPP.out (by omega) w2 (HV.out.below hB2 H2)).mono ?_
  rintro e w3 ⟨rfl, hb3⟩
  have hB3 := hB2.trans (hb3.mono hB2.size)
  have h13 : Below w1.heap.size w1 w3 := hb2.trans (hb3.mono hb2.size)
  have P3 := HP.out.same h13
  obtain ⟨a0, q0, -, -, c0, -⟩ := P3.R.ready 0 (by omega) rfl (P3.len 0 (by omega))
  rw [HLEN.out] at c0
  have hnn : ((n : Int) != n) = false := by simp
  go_wp2_with fail
  refine (own_Weights T w3 (HV.out.below hB3 H2) (by unfold maxLen; omega)).mono ?_
  rintro e w4 ⟨vw, rfl, hiw, hb4⟩
  have hB4 := hB3.trans (hb4.mono hB3.size)
  have h14 : Below w1.heap.size w1 w4 := h13.trans (hb4.mono h13.size)
  obtain ⟨aw, cw, rfl, -, -⟩ := id hiw
  have hwl : (weighL T).length = n := by rw [HWP.out, List.length_map, List.length_range, HLEN.out]
  have he0 : ((refRead T).2.2 : Int) = 0 := by rw [HPP.out]; rfl
  have HKW : Hid (Calls Tryd.prog 14 #[.pointer (some ⟨w.heap.size, 0, none⟩)] w4 fun e w' => e = .returned (.slice (some ⟨w4.heap.size, 0, none⟩) n n) ∧
      Ints w' (.slice (some ⟨w4.heap.size, 0, none⟩) n n) (weighL T) ∧ Below w4.heap.size w4 w') := by
    have hl := HOD.out.lined
    have h := kp_weights (HP.out.same h14) (fun t ht => ⟨by have := (hl.fits t ht).1; omega, by have := (hl.fits t ht).2.1; omega⟩) (costT (K.map toTS)) (waitsM (K.map toTS)) (fun a b ha hb => waits_k hl a b ha hb) (fun a ha => costs_k ha) (cost9 hl) HOD.out.lt
    rw [HLEN.out] at h
    refine h.mono ?_
    rintro e w' ⟨he, hr, hb⟩
    refine ⟨he, ?_, hb⟩
    have hi := Ints.row hr
    rw [HWP.out, HLEN.out]
    exact hi
  go_wp2_with fail
  refine HKW.out.mono ?_
  rintro e w5 ⟨rfl, hik, hb5⟩
  have hB5 := hB4.trans (hb5.mono hB4.size)
  have h15 : Below w1.heap.size w1 w5 := h14.trans (hb5.mono h14.size)
  have HSI : Hid (Calls Tryd.prog 13 #[.slice aw n cw, .slice (some ⟨w4.heap.size, 0, none⟩) n n] w5 fun e w' => e = .returned (.bool true) ∧ Below w5.heap.size w5 w') := by
    have h := kp_sameInts _ _ (weighL T) w5 (hiw.below hb5) hik (by omega)
    rw [hwl] at h
    exact h
  go_wp2_with fail
  refine HSI.out.mono ?_
  rintro e w6 ⟨rfl, hb6⟩
  have hB6 := hB5.trans (hb6.mono hB5.size)
  have h16 : Below w1.heap.size w1 w6 := h15.trans (hb6.mono h15.size)
  have P6 := HP.out.same h16
  obtain ⟨a6, q6, -, -, c6, -⟩ := P6.R.ready 0 (by omega) rfl (P6.len 0 (by omega))
  rw [HLEN.out] at c6
  clear hiw hik HSI HKW P3 P6 c0
  have CX := kp_check HX.out (by rw [ByteArray.size_append]; have : litX.size = 15 := rfl; omega) w6 (HV.out.below hB6 H2)
  have HCX : Hid (Calls Tryd.prog 6 #[.string (T ++ ⟨#[10, 116, 97, 115, 107, 32, 120, 32, 61, 32, 99, 97, 116, 32, 120]⟩)] w6 fun e w' => e = .returned (.tuple #[.int .i64 (n + 6 : Nat), .int .i64 (6 : Nat)]) ∧ Below w6.heap.size w6 w') := CX
  clear CX
  go_wp2_with fail
  refine HCX.out.mono ?_
  rintro e w7 ⟨rfl, hb7⟩
  have hB7 := hB6.trans (hb7.mono hB6.size)
  have h17 : Below w1.heap.size w1 w7 := h16.trans (hb7.mono h16.size)
  have CY := kp_check HY.out (by rw [ByteArray.size_append]; have : litY.size = 26 := rfl; omega) w7 (HV.out.below hB7 H2)
  have HCY : Hid (Calls Tryd.prog 6 #[.string (T ++ ⟨#[10, 116, 97, 115, 107, 32, 121, 32, 61, 32, 99, 97, 116, 10, 116, 97, 115, 107, 32, 121, 32, 61, 32, 99, 97, 116]⟩)] w7 fun e w' => e = .returned (.tuple #[.int .i64 (n + 6 : Nat), .int .i64 (5 : Nat)]) ∧ Below w7.heap.size w7 w') := CY
  clear CY
  go_wp2_with fail
  refine HCY.out.mono ?_
  rintro e w8 ⟨rfl, hb8⟩
  have hB8 := hB7.trans (hb8.mono hB7.size)
  have h18 : Below w1.heap.size w1 w8 := h17.trans (hb8.mono h17.size)
  have P8 := HP.out.same h18
  obtain ⟨a8, q8, -, -, c8, -⟩ := P8.R.ready 0 (by omega) rfl (P8.len 0 (by omega))
  rw [HLEN.out] at c8
  have hd1 : (((n : Int) + 6) != 5 + (n : Int) + 1) = false := by simp; omega
  have hd2 : (((n : Int) + 6) == 5 + (n : Int) + 1) = true := by simp; omega
  have hwr : IntKind.i64.wrap (5 + (n : Int) + 1) = 5 + (n : Int) + 1 := by rw [IntKind.wrap_i64]; omega
  have hOL : ord.length = n := by rw [HOD.out.len, HLEN.out]
  have HOL : Hid (ord.length = n) := hOL
  clear hOL
  by_cases hn0 : n = 0
  · have hz : ((n : Int) == 0) = true := by rw [hn0]; rfl
    clear hn0
    go_wp2
    go_ret
    exact ⟨ret_bool rfl, hB8⟩
  · have hz : ((n : Int) == 0) = false := by rw [beq_eq_false_iff_ne]; omega
    obtain ⟨m, hm⟩ : ∃ m, n = m + 1 := ⟨n - 1, by omega⟩
    have hmo : m < ord.length := by rw [HOL.out]; omega
    obtain ⟨g6, d6, y6, x6⟩ := P8.ord_at hmo
    rw [HOL.out] at y6
    have hbl : ord[m] < K.length := HOD.out.lt _ (List.getElem_mem hmo)
    generalize ord[m] = b at *
    obtain ⟨uO, hu1, hu2, -⟩ := P8.eO b hbl
    obtain ⟨gO, dO, yO, xO⟩ := P8.at (j := 1) (by omega) (i := b) hu1
    have hfs := HOD.out.lined.2 b hbl
    have hpos : 0 < K[b].outs.length := List.length_pos_iff.2 hfs.first.2.1
    have HOS : Hid (K[b].outs[0].size = 3) := (hfs.outs_pth (by have := HOD.out.lined.1; omega) _ (List.getElem_mem hpos)).1
    have HZZ : Hid ((refRead (((T ++ litZ) ++ K[b].outs[0]) ++ litZ2)).2 = (K.length + 7, 6)) := HZ.out b K[b] _ (List.getElem?_eq_getElem hbl) (List.getElem_mem hpos)
    obtain ⟨bo, fo, ⟨co, rfl⟩, hcell⟩ : ∃ bo fo, (∃ c, uO = .slice (some ⟨bo, fo, none⟩) K[b].outs.length c) ∧ w8.cell? ⟨bo, fo, none⟩ = some (.string K[b].outs[0]) := by
      obtain ⟨a, c, e, _, h⟩ := hu2
      rcases h with h | ⟨b1, off, rfl, hc⟩
      · rw [h] at hpos; simp at hpos
      · exact ⟨b1, off, ⟨c, e⟩, hc 0 hpos⟩
    rw [HLEN.out] at yO HZZ hbl
    generalize K[b].outs[0] = o at *
    generalize K[b].outs.length = lo at *
    have hos := HOS.out
    have hz4 : ¬ 9223372036854775807 < T.size + 14 + o.size := by omega
    have hz5 : ¬ 9223372036854775807 < T.size + 14 + o.size + 19 := by omega
    have hz6 : ¬ 9223372036854775807 < T.size + 14 + 3 := by omega
    have hz7 : ¬ 9223372036854775807 < T.size + 14 + 3 + 19 := by omega
    have hmn : m < n := by omega
    have hwm : IntKind.i64.wrap ((n : Int) - 1) = (m : Int) := by rw [IntKind.wrap_i64]; omega
    have hm1 : (n : Int) - 1 = (m : Int) := by omega
    have HM : Hid (n = m + 1) := hm
    have HCZ : Hid (∀ w9, Vars w9 → Calls Tryd.prog 6 #[.string (((T ++ ⟨#[10, 116, 97, 115, 107, 32, 122, 32, 61, 32, 99, 97, 116, 32]⟩) ++ o) ++ ⟨#[10, 116, 97, 115, 107, 32, 122, 50, 32, 61, 32, 99, 97, 116, 32, 122, 32, 122, 50]⟩)] w9 fun e w' => e = .returned (.tuple #[.int .i64 (n + 7 : Nat), .int .i64 (6 : Nat)]) ∧ Below w9.heap.size w9 w') := by
      intro w9 hV9
      exact kp_check HZZ.out (by rw [ByteArray.size_append, ByteArray.size_append, ByteArray.size_append]; have : litZ.size = 14 := rfl; have : litZ2.size = 19 := rfl; omega) w9 hV9
    have he1 : (((n : Int) + 7) == 5 + (n : Int) + 2) = true := by simp; omega
    have hwr2 : IntKind.i64.wrap (5 + (n : Int) + 2) = 5 + (n : Int) + 2 := by rw [IntKind.wrap_i64]; omega
    clear hm hn0 HOS hfs hu1 hu2 HZZ P8 hmo
    go_upto_region 15 with fail
    go_quiet (fail)
    have hb9 := below_drewN (Below.refl w8.heap.size w8) nq
    have hB9 := hB8.trans (hb9.mono hB8.size)
    have yO9 : (w8.drewN nq).cell? _ = _ := yO
    have xO9 : (w8.drewN nq).cell? _ = _ := xO
    have hc9 : (w8.drewN nq).cell? _ = _ := hcell
    generalize w8.drewN nq = w9 at *
    clear yO xO hcell
    go_wp2_with fail
    refine (HCZ.out w9 (HV.out.below hB9 H2)).mono ?_
    rintro e w10 ⟨rfl, hb10⟩
    go_wp2
    go_ret
    exact ⟨ret_bool rfl, hB9.trans (hb10.mono hB9.size)⟩

theorem cellsRaw : Tryd.prog.cellsOf 60 = 5 := by kernel_rfl
theorem cellsInt1 : Tryd.prog.cellsOf 3 = 1 := by kernel_rfl
theorem cellsInts : Tryd.prog.cellsOf 29 = 1 := by kernel_rfl
theorem laidOut : laidOutB Tryd.prog = true := by kernel_rfl

section
variable {H : Type} {enc : TypeId × Value → H} {W : World}
theorem take5 {α : Type} {l : List α} (h : l.length = 5) {a b c d e : α} (ha : (l.drop 0).take 1 = [a]) (hb : (l.drop 1).take 1 = [b]) (hc : (l.drop 2).take 1 = [c]) (hd : (l.drop 3).take 1 = [d]) (he : (l.drop 4).take 1 = [e]) : l = [a, b, c, d, e] := by
  match l, h with
  | [x0, x1, x2, x3, x4], _ => simp at ha hb hc hd he; simp [ha, hb, hc, hd, he]
theorem zs_of {fuel : Nat} {cs : List Value} {x : DataW H × List MemPlace} (h : DataW.trod enc Tryd.prog W 0 (fun _ => true) true fuel 29 cs = some x) : ∃ v zs, cs = [v] ∧ Zs W v zs := by
  rcases open_ints Tryd.underlying29 Tryd.underlying3 cellsInt1 h with ⟨h0, _⟩ | ⟨a, len, cap, zs, h0, _, hl, hm, hz, _, hc, hw⟩
  · exact ⟨_, [], h0, none, 0, rfl, Nat.zero_le _, fun z hz => (by cases hz), .inl rfl⟩
  · have hz2 : zs.length = cap := by simpa using hz
    have hlen : (zs.take len).length = len := by rw [List.length_take]; omega
    refine ⟨_, zs.take len, h0, some a, cap, by rw [hlen], by omega, fun z hz => bounds_i64 (hw z (List.mem_of_mem_take hz)), ?_⟩
    by_cases hl0 : len = 0
    · left; rw [hl0]; rfl
    · obtain ⟨b, off, rfl, hcell⟩ := Go.ints_at hc (by omega)
      right
      refine ⟨b, off, rfl, fun i hi => ?_⟩
      rw [hlen] at hi
      rw [hcell i (by omega), List.getElem_take]
      congr 2
      simp [show i < zs.length by omega]
theorem raw_of {fuel : Nat} {cs : List Value} {x : DataW H × List MemPlace} (h : DataW.trod enc Tryd.prog W 0 (fun _ => true) true fuel 60 cs = some x) :
    ∃ r : RawV, cs = [.int .i64 r.kind, r.vI, .int .i64 r.cost, .int .i64 r.jobs, .int .i64 r.pool] ∧ I64 r.kind ∧ I64 r.cost ∧ I64 r.jobs ∧ I64 r.pool ∧ Zs W r.vI r.zs := by
  obtain ⟨xs, n, _, _, hl, hlen, hf⟩ := DataW.trod_struct Tryd.underlying60 h
  rw [cellsRaw] at hl
  match xs, hlen with
  | [y0, y1, y2, y3, y4], _ =>
    have f0 : DataW.trod _ Tryd.prog W 0 (fun _ => true) true n 3 ((cs.drop 0).take (Tryd.prog.cellsOf 3)) = some y0 := hf 0 _ rfl
    have f1 : DataW.trod _ Tryd.prog W 0 (fun _ => true) true n 29 ((cs.drop 1).take (Tryd.prog.cellsOf 29)) = some y1 := hf 1 _ rfl
    have f2 : DataW.trod _ Tryd.prog W 0 (fun _ => true) true n 3 ((cs.drop 2).take (Tryd.prog.cellsOf 3)) = some y2 := hf 2 _ rfl
    have f3 : DataW.trod _ Tryd.prog W 0 (fun _ => true) true n 3 ((cs.drop 3).take (Tryd.prog.cellsOf 3)) = some y3 := hf 3 _ rfl
    have f4 : DataW.trod _ Tryd.prog W 0 (fun _ => true) true n 3 ((cs.drop 4).take (Tryd.prog.cellsOf 3)) = some y4 := hf 4 _ rfl
    rw [cellsInt1] at f0 f2 f3 f4
    rw [cellsInts] at f1
    obtain ⟨n0, e0, _, w0⟩ := DataW.trod_int Tryd.underlying3 f0
    obtain ⟨v, zs, e1, hz⟩ := zs_of f1
    obtain ⟨n2, e2, _, w2⟩ := DataW.trod_int Tryd.underlying3 f2
    obtain ⟨n3, e3, _, w3⟩ := DataW.trod_int Tryd.underlying3 f3
    obtain ⟨n4, e4, _, w4⟩ := DataW.trod_int Tryd.underlying3 f4
    exact ⟨⟨n0, v, zs, n2, n3, n4⟩, take5 hl e0 e1 e2 e3 e4, bounds_i64 w0, bounds_i64 w2, bounds_i64 w3, bounds_i64 w4, hz⟩
set_option maxRecDepth 100000 in
theorem raws_of {base : Nat} {v : Value} {d : DataW H} {ps : List MemPlace} (hval : Value.okWide Tryd.prog W .any base 32 v) (h : DataW.Trod enc Tryd.prog W 0 (fun _ => true) true 32 v d ps) : ∃ l, Raws W v l := by
  obtain ⟨a0, len0, cap0, rfl⟩ := okWide_slice Tryd.underlying32 hval
  obtain ⟨fuel, hf⟩ := h
  have hcs : (Value.slice a0 len0 cap0).cells.toList = [.slice a0 len0 cap0] := rfl
  rw [hcs] at hf
  rcases Go.Deep.open_slice Tryd.underlying32 hf with ⟨h0, _⟩ | ⟨a, len, cap, m, n, D, Pl, h0, _, hl, hm, hm2, _, hel⟩
  · injection h0 with h0 _
    rw [h0]
    exact ⟨[], none, 0, rfl, Nat.zero_le _, fun r hr => (by cases hr), .inl rfl⟩
  · injection h0 with h0 _
    rw [h0]
    have hmc : m = cap := by simpa using hm2
    subst hmc
    rw [cellsRaw] at hel
    have hall : ∀ i, i < len → ∃ r : RawV, (I64 r.kind ∧ I64 r.cost ∧ I64 r.jobs ∧ I64 r.pool ∧ Zs W r.vI r.zs) ∧ ∀ j u, [Value.int .i64 r.kind, r.vI, .int .i64 r.cost, .int .i64 r.jobs, .int .i64 r.pool][j]? = some u → W.cell? ((a.add (i * 5)).add j) = some u := by
      intro i hi
      obtain ⟨cs', hcs', ht⟩ := hel i (by omega)
      obtain ⟨r, rfl, hr⟩ := raw_of ht
      refine ⟨r, hr, fun j u hu => ?_⟩
      have hh := World.cells?_some hcs'
      have hj : j < 5 := by have := (List.getElem?_eq_some_iff.1 hu).1; simpa using this
      exact (hh.2.2 j hj).trans hu
    have : Inhabited RawV := ⟨⟨0, .int .i64 0, [], 0, 0, 0⟩⟩
    obtain ⟨f, hf2⟩ := Go.Deep.choose_lt hall
    refine ⟨(List.range len).map f, some a, m, by simp, by simp; omega, fun r hr => ?_, ?_⟩
    · rw [List.mem_map] at hr
      obtain ⟨i, hi, rfl⟩ := hr
      exact (hf2 i (List.mem_range.1 hi)).1
    · by_cases hl0 : len = 0
      · left; rw [hl0]; rfl
      · right
        obtain ⟨b, off, spot⟩ := a
        have hspot : spot = none := by
          have h1 := (hf2 0 (by omega)).2 0 _ rfl
          simpa [Addr.add] using World.cell?_spot h1
        subst hspot
        refine ⟨b, off, rfl, fun i hi => ?_⟩
        rw [List.length_map, List.length_range] at hi
        have h1 := (hf2 i hi).2
        have ea : ∀ j, ((⟨b, off, none⟩ : Addr).add (i * 5)).add j = ⟨b, off + i * 5 + j, none⟩ := fun j => by rw [addr_add_off, addr_add_off]
        have g0 := h1 0 _ rfl
        have g1 := h1 1 _ rfl
        have g2 := h1 2 _ rfl
        have g3 := h1 3 _ rfl
        have g4 := h1 4 _ rfl
        rw [ea] at g0 g1 g2 g3 g4
        simp only [List.getElem_map, List.getElem_range]
        exact ⟨g0, g1, g2, g3, g4⟩
end

theorem kp_graphs (w : World) (vL : Value) (l : List RawV) (hL : Raws w vL l) (back : Bool) (hV : Vars w) :
    Calls Tryd.prog 5 #[vL, .bool back] w fun e w' => e = .returned (.bool true) ∧ Below w.heap.size w w' := by
  obtain ⟨a, c, hv, _, _⟩ := id hL
  subst hv
  exact kp_graphs_of w a l.length c (min l.length 12) back (by omega) hV (kp_plan w _ l hL back)
end Go.Proofs.YtoabakgmjcnodaaDoor
