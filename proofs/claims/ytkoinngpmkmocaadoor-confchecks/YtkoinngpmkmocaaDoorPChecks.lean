import Derived.Test.YtkoinngpmkmocaaDoorCM
import Derived.Test.YtkoinngpmkmocaaDoorCards
import Derived.Test.YtkoinngpmkmocaaDoorTie
import Derived.Deep.DeepHandedRow
import Derived.Lib.LaidTab
import Derived.Stop.LaidErr
import Derived.SliceStrings
import Derived.Deep.Slices
import Derived.Deep.Strs
import Derived.SizedLaws
namespace Go.Proofs.YtkoinngpmkmocaaDoor.confChecks
open Go.ChangeShapes Go.WideShapes Go.ChangeAt Go.RowKit

theorem own : ownKnob Tryd.prog.godebug = none := by kernel_rfl
theorem laidOut : laidOutB Tryd.prog = true := by kernel_rfl
theorem gC : Tryd.prog.globalNamed "weft/addr.classRows" = some 0 := by kernel_rfl
theorem gCType : (Tryd.prog.globals[0]?).map (·.type) = some 132 := by kernel_rfl
theorem u132 : Tryd.prog.underlying 132 = some (.array 4 131) := by kernel_rfl
theorem cells132 : Tryd.prog.cellsOf 132 = 12 := by kernel_rfl
theorem cells131 : Tryd.prog.cellsOf 131 = 3 := by kernel_rfl
theorem cells24 : Tryd.prog.cellsOf 24 = 1 := by kernel_rfl
theorem cells3 : Tryd.prog.cellsOf 3 = 1 := by kernel_rfl
theorem cells2 : Tryd.prog.cellsOf 2 = 1 := by kernel_rfl
theorem cells26 : Tryd.prog.cellsOf 26 = 2 := by kernel_rfl
theorem cells27 : Tryd.prog.cellsOf 27 = 1 := by kernel_rfl
theorem cells63 : Tryd.prog.cellsOf 63 = 3 := by kernel_rfl
theorem cells29 : Tryd.prog.cellsOf 29 = 18 := by kernel_rfl
theorem bytes63 : Tryd.prog.bytesOf 63 = 24 := by kernel_rfl
theorem und22 : Tryd.prog.underlying 22 = some (.slice 29) := by kernel_rfl
theorem und2 : Tryd.prog.underlying 2 = some (.int .i64) := by kernel_rfl
theorem und131 : ∃ f0 f1 f2, Tryd.prog.underlying 131 = some (.struct #[f0, f1, f2]) ∧ f0.type = 24 ∧ f0.offset = 0 ∧ f1.type = 3 ∧ f1.offset = 1 ∧ f2.type = 3 ∧ f2.offset = 2 := ⟨_, _, _, Tryd.underlying131, rfl, rfl, rfl, rfl, rfl, rfl⟩
theorem und26 : ∃ f0 f1, Tryd.prog.underlying 26 = some (.struct #[f0, f1]) ∧ f0.type = 24 ∧ f0.offset = 0 ∧ f1.type = 3 ∧ f1.offset = 1 := ⟨_, _, Tryd.underlying26, rfl, rfl, rfl, rfl⟩
theorem und63 : ∃ f0 f1, Tryd.prog.underlying 63 = some (.struct #[f0, f1]) ∧ f0.type = 3 ∧ f0.offset = 0 ∧ f1.type = 26 ∧ f1.offset = 1 := ⟨_, _, Tryd.underlying63, rfl, rfl, rfl, rfl⟩
theorem und29' : ∃ f0 f1 f2 f3 f4 f5 f6 f7 f8 f9 f10 f11 f12 f13 f14 f15 f16, Tryd.prog.underlying 29 = some (.struct #[f0, f1, f2, f3, f4, f5, f6, f7, f8, f9, f10, f11, f12, f13, f14, f15, f16]) ∧ f0.type = 26 ∧ f0.offset = 0 ∧ f1.type = 3 ∧ f1.offset = 2 ∧ f2.type = 24 ∧ f2.offset = 3 ∧ f3.type = 24 ∧ f3.offset = 4 ∧ f4.type = 3 ∧ f4.offset = 5 ∧ f5.type = 3 ∧ f5.offset = 6 ∧ f6.type = 3 ∧ f6.offset = 7 ∧ f7.type = 2 ∧ f7.offset = 8 ∧ f8.type = 2 ∧ f8.offset = 9 ∧ f9.type = 3 ∧ f9.offset = 10 ∧ f10.type = 3 ∧ f10.offset = 11 ∧ f11.type = 24 ∧ f11.offset = 12 ∧ f12.type = 3 ∧ f12.offset = 13 ∧ f13.type = 3 ∧ f13.offset = 14 ∧ f14.type = 3 ∧ f14.offset = 15 ∧ f15.type = 3 ∧ f15.offset = 16 ∧ f16.type = 27 ∧ f16.offset = 17 :=
  ⟨_, _, _, _, _, _, _, _, _, _, _, _, _, _, _, _, _, Tryd.underlying29, rfl, rfl, rfl, rfl, rfl, rfl, rfl, rfl, rfl, rfl, rfl, rfl, rfl, rfl, rfl, rfl, rfl, rfl, rfl, rfl, rfl, rfl, rfl, rfl, rfl, rfl, rfl, rfl, rfl, rfl, rfl, rfl, rfl, rfl⟩

section
variable {H : Type} {enc : TypeId × Value → H} {W : World} {sp : Nat → Bool} {held : Bool}

theorem row3 {fuel : Nat} {cs : List Value} {a b c : Int} {p : List MemPlace} (h : DataW.trod enc Tryd.prog W 0 sp held fuel 131 cs = some (.agg [.lit (.int .u32 a), .lit (.int .i64 b), .lit (.int .i64 c)], p)) :
    cs = [.int .u32 a, .int .i64 b, .int .i64 c] := by
  obtain ⟨f0, f1, f2, hu, t0, o0, t1, o1, t2, o2⟩ := und131
  obtain ⟨y0, y1, y2, n, hx, hl, g0, g1, g2⟩ := Go.Deep.trod_struct3 hu h
  rw [t0, o0, cells24] at g0
  rw [t1, o1, cells3] at g1
  rw [t2, o2, cells3] at g2
  rw [cells131] at hl
  obtain ⟨z0, e0, rfl, _⟩ := DataW.trod_int Tryd.underlying24 g0
  obtain ⟨z1, e1, rfl, _⟩ := DataW.trod_int Tryd.underlying3 g1
  obtain ⟨z2, e2, rfl, _⟩ := DataW.trod_int Tryd.underlying3 g2
  simp at hx
  obtain ⟨⟨rfl, rfl, rfl⟩, _⟩ := hx
  match cs, hl with
  | [c0, c1, c2], _ => simp at e0 e1 e2; rw [e0, e1, e2]
end

theorem tabC {W : World} (h : laidMetH Tryd.prog Rows.confChecksRow.laid W) : TabC W := by
  have h1 : laidMet Tryd.prog Rows.confChecksRow.laid W := h
  have h2 : laidMet Tryd.prog [("weft/addr.classRows", Rows.laid_weft_addr_classRows)] W := h1
  obtain ⟨ps, ⟨g, t, cs, fuel, p, q, hg, ht, hvar, hd, _, _⟩, _⟩ := h2
  obtain rfl := Option.some.inj (gC.symm.trans hg)
  obtain rfl := Option.some.inj (gCType.symm.trans ht)
  obtain ⟨xs, m, _, hx, hl, hxl, hall⟩ := DataW.trod_array u132 hd
  rw [cells132] at hl
  rw [cells131] at hall
  unfold Rows.laid_weft_addr_classRows at hx
  match xs, hxl with
  | [y0, y1, y2, y3], _ =>
    simp at hx
    obtain ⟨⟨e0, e1, e2, e3⟩, _⟩ := hx
    obtain ⟨d0, q0⟩ := y0
    obtain ⟨d1, q1⟩ := y1
    obtain ⟨d2, q2⟩ := y2
    obtain ⟨d3, q3⟩ := y3
    simp only at e0 e1 e2 e3
    subst e0 e1 e2 e3
    have r0 := row3 (hall 0 (by omega))
    have r1 := row3 (hall 1 (by omega))
    have r2 := row3 (hall 2 (by omega))
    have r3 := row3 (hall 3 (by omega))
    have hcs : cs.toList = rowsC := by
      match hc : cs.toList, hl with
      | [c0, c1, c2, c3, c4, c5, c6, c7, c8, c9, c10, c11], _ =>
        rw [hc] at r0 r1 r2 r3
        simp at r0 r1 r2 r3
        obtain ⟨rfl, rfl, rfl⟩ := r0
        obtain ⟨rfl, rfl, rfl⟩ := r1
        obtain ⟨rfl, rfl, rfl⟩ := r2
        obtain ⟨rfl, rfl, rfl⟩ := r3
        rfl
    have hcell : ∀ j (hj : j < 12), W.cell? ⟨0, j, none⟩ = some rowsC[j] := by
      intro j hj
      have h3 := World.var?_cell gC hvar j
      rw [h3, ← Array.getElem?_toList, hcs]
      exact List.getElem?_eq_getElem hj
    refine ⟨hcell, ?_⟩
    have h4 := World.block_lt_of_cell? W _ (hcell 0 (by omega))
    exact h4

theorem u32_wf {a : Int} (h : (Lit.int .u32 a).wf = true) : ∃ n : Nat, a = (n : Int) ∧ n < 4294967296 := by
  have h' : (decide (IntKind.u32.min ≤ a) && decide (a ≤ IntKind.u32.max)) = true := h
  rw [show IntKind.u32.min = 0 from by decide +kernel, show IntKind.u32.max = 4294967295 from by decide +kernel] at h'
  simp at h'
  exact ⟨a.toNat, by omega, by omega⟩

theorem i64_wf {a : Int} (h : (Lit.int .i64 a).wf = true) : -9223372036854775808 ≤ a ∧ a ≤ 9223372036854775807 := by
  have h' : (decide (IntKind.i64.min ≤ a) && decide (a ≤ IntKind.i64.max)) = true := h
  rw [show IntKind.i64.min = -9223372036854775808 from by decide +kernel, show IntKind.i64.max = 9223372036854775807 from by decide +kernel] at h'
  simpa using h'

theorem add_plain' (g off i : Nat) : (⟨g, off, none⟩ : Addr).add i = ⟨g, off + i, none⟩ := by unfold Addr.add; split <;> simp_all

theorem spot_none {W : World} {a : Addr} {v : Value} (z0 : W.cell? a = some v) : ∃ g off, a = ⟨g, off, none⟩ ∧ g < W.heap.size := by
  have hlt := World.block_lt_of_cell? W a z0
  obtain ⟨g, off, sp⟩ := a
  cases sp with
  | none => exact ⟨g, off, rfl, hlt⟩
  | some s =>
    exfalso
    simp only [World.cell?] at z0
    split at z0 <;> simp at z0

/-- A reserved subnet that reads. -/
theorem open_r {H : Type} {enc : TypeId × Value → H} {W : World} {sp : Nat → Bool} {held : Bool} {fuel : Nat} {cs : List Value} {x : DataW H × List MemPlace} (h : DataW.trod enc Tryd.prog W 0 sp held fuel 63 cs = some x) :
    ∃ r : Rsv, r.2.1 < 4294967296 ∧ cs = rv3 r := by
  obtain ⟨f0, f1, hu, t0, o0, t1, o1⟩ := und63
  obtain ⟨_, _, n, _, hl, g0, g1⟩ := trod_struct2 hu h
  rw [t0, o0, cells3] at g0
  rw [t1, o1, cells26] at g1
  rw [cells63] at hl
  obtain ⟨z0, e0, _, _⟩ := DataW.trod_int Tryd.underlying3 g0
  obtain ⟨k0, k1, hv, s0, p0, s1, p1⟩ := und26
  obtain ⟨_, _, n1, _, _, b0, b1⟩ := trod_struct2 hv g1
  rw [s0, p0, cells24] at b0
  rw [s1, p1, cells3] at b1
  obtain ⟨z1, e1, _, wf1⟩ := DataW.trod_int Tryd.underlying24 b0
  obtain ⟨a, rfl, ha⟩ := u32_wf wf1
  obtain ⟨z2, e2, _, _⟩ := DataW.trod_int Tryd.underlying3 b1
  match cs, hl with
  | [c0, c1, c2], _ =>
    simp at e0 e1 e2
    exact ⟨(z0, a, z2), ha, by simp [rv3, e0, e1, e2]⟩

set_option maxRecDepth 100000 in
/-- A slice of reserved subnets that came in, within another thing. -/
theorem open_rs {H : Type} {enc : TypeId × Value → H} {W : World} {fuel : Nat} {cs : List Value} {x : DataW H × List MemPlace} (hf : DataW.trod enc Tryd.prog W 0 (fun _ => true) true fuel 27 cs = some x) :
    ∃ v R, cs = [v] ∧ SeesV W v R ∧ (R ≠ [] → ∃ es sp, x.1 = .slice es sp ∧ es.length = R.length) := by
  rcases Go.Deep.open_slice und27 hf with ⟨h1, _⟩ | ⟨a, len, cap, m, n, D, Pl, h1, _, hlc, hcm, hm, hxx, hx⟩
  · exact ⟨_, [], h1, ⟨none, 0, rfl, by simp, by unfold maxLen; omega, fun j hj => absurd hj (by simp)⟩, fun h => absurd rfl h⟩
  · simp at hm
    subst hm
    have key : ∀ i, i < len → ∃ r : Rsv, r.2.1 < 4294967296 ∧ ∀ j (hj : j < 3), W.cell? ((a.add (i * 3)).add j) = some ((rv3 r)[j]'hj) := by
      intro i hi
      obtain ⟨cs', k1, k2⟩ := hx i (by omega)
      rw [cells63] at k1
      obtain ⟨_, _, hc⟩ := World.cells?_some k1
      obtain ⟨r, ha, hr⟩ := open_r k2
      refine ⟨r, ha, fun j hj => ?_⟩
      rw [hc j hj, hr]
      exact List.getElem?_eq_getElem hj
    have hch : ∃ F : Nat → Rsv, ∀ i, i < len → (F i).2.1 < 4294967296 ∧ ∀ j (hj : j < 3), W.cell? ((a.add (i * 3)).add j) = some ((rv3 (F i))[j]'hj) := by
      refine ⟨fun i => if h : i < len then (key i h).choose else (0, 0, 0), fun i hi => ?_⟩
      simp only [dif_pos hi]
      exact (key i hi).choose_spec
    obtain ⟨F, hF⟩ := hch
    refine ⟨_, (List.range len).map F, h1, ⟨some a, m, by simp, by simpa using hlc, hcm, fun j hj => ?_⟩, fun _ => ⟨_, _, by rw [hxx], by simp⟩⟩
    have hj' : j < len := by simpa using hj
    obtain ⟨g, off, rfl, hg⟩ : ∃ g off, a = ⟨g, off, none⟩ ∧ g < W.heap.size := by
      have z0 := (hF 0 (by omega)).2 0 (by omega)
      have e : (a.add (0 * 3)).add 0 = a := by simp [Addr.add]
      rw [e] at z0
      exact spot_none z0
    have y0 := (hF j hj').2 0 (by omega)
    have y1 := (hF j hj').2 1 (by omega)
    have y2 := (hF j hj').2 2 (by omega)
    rw [add_plain', add_plain'] at y0 y1 y2
    refine ⟨g, off, rfl, hg, ?_, ?_, ?_, ?_⟩
    · rw [Nat.add_zero] at y0; rw [y0]; simp [rv3]
    · rw [y1]; simp [rv3]
    · rw [y2]; simp [rv3]
    · simpa using (hF j hj').1

theorem weights_all {H : Type} {P : Program} {e : TypeId} : ∀ {ds : List (DataW H)} {d : DataW H}, d ∈ ds → ∀ n ∈ d.weights P e, n ∈ DataW.weightsAll P e ds
  | a :: t, d, hd, n, hn => by
    simp only [DataW.weightsAll, List.mem_append]
    rcases List.mem_cons.1 hd with rfl | h
    · exact .inl hn
    · exact .inr (weights_all h n hn)

set_option maxRecDepth 100000 in
/-- A configuration that reads. -/
theorem open_cfg {H : Type} {enc : TypeId × Value → H} {W : World} {fuel : Nat} {cs : List Value} {x : DataW H × List MemPlace} (h : DataW.trod enc Tryd.prog W 0 (fun _ => true) true fuel 29 cs = some x) (hw : ∀ n ∈ x.1.weights Tryd.prog 29, n ≤ reachBytes) :
    ∃ (c : Cfg) (R : List Rsv), cs = c.cells.toList ∧ SeesV W c.rv R ∧ (R.length + 2) * 24 ≤ 140737488355328 := by
  obtain ⟨f0, f1, f2, f3, f4, f5, f6, f7, f8, f9, f10, f11, f12, f13, f14, f15, f16, hu, t0, o0, t1, o1, t2, o2, t3, o3, t4, o4, t5, o5, t6, o6, t7, o7, t8, o8, t9, o9, t10, o10, t11, o11, t12, o12, t13, o13, t14, o14, t15, o15, t16, o16⟩ := und29'
  obtain ⟨xs, n, _, rfl, hl, hxl, hf⟩ := DataW.trod_struct hu h
  match xs, hxl with
  | [y0, y1, y2, y3, y4, y5, y6, y7, y8, y9, y10, y11, y12, y13, y14, y15, y16], _ =>
    have g0 := hf 0 f0 rfl
    have g1 := hf 1 f1 rfl
    have g2 := hf 2 f2 rfl
    have g3 := hf 3 f3 rfl
    have g4 := hf 4 f4 rfl
    have g5 := hf 5 f5 rfl
    have g6 := hf 6 f6 rfl
    have g7 := hf 7 f7 rfl
    have g8 := hf 8 f8 rfl
    have g9 := hf 9 f9 rfl
    have g10 := hf 10 f10 rfl
    have g11 := hf 11 f11 rfl
    have g12 := hf 12 f12 rfl
    have g13 := hf 13 f13 rfl
    have g14 := hf 14 f14 rfl
    have g15 := hf 15 f15 rfl
    have g16 := hf 16 f16 rfl
    rw [t0, o0, cells26] at g0
    rw [t1, o1, cells3] at g1
    rw [t2, o2, cells24] at g2
    rw [t3, o3, cells24] at g3
    rw [t4, o4, cells3] at g4
    rw [t5, o5, cells3] at g5
    rw [t6, o6, cells3] at g6
    rw [t7, o7, cells2] at g7
    rw [t8, o8, cells2] at g8
    rw [t9, o9, cells3] at g9
    rw [t10, o10, cells3] at g10
    rw [t11, o11, cells24] at g11
    rw [t12, o12, cells3] at g12
    rw [t13, o13, cells3] at g13
    rw [t14, o14, cells3] at g14
    rw [t15, o15, cells3] at g15
    rw [t16, o16, cells27] at g16
    rw [cells29] at hl
    obtain ⟨k0, k1, hv, s0, p0, s1, p1⟩ := und26
    obtain ⟨_, _, n1, _, _, b0, b1⟩ := trod_struct2 hv g0
    rw [s0, p0, cells24] at b0
    rw [s1, p1, cells3] at b1
    obtain ⟨zn, en, _, wn⟩ := DataW.trod_int Tryd.underlying24 b0
    obtain ⟨net, rfl, hnet⟩ := u32_wf wn
    obtain ⟨nlen, enl, _, wnl⟩ := DataW.trod_int Tryd.underlying3 b1
    obtain ⟨slen, e1, _, w1⟩ := DataW.trod_int Tryd.underlying3 g1
    obtain ⟨z2, e2, _, w2⟩ := DataW.trod_int Tryd.underlying24 g2
    obtain ⟨min, rfl, hmin⟩ := u32_wf w2
    obtain ⟨z3, e3, _, w3⟩ := DataW.trod_int Tryd.underlying24 g3
    obtain ⟨max, rfl, hmax⟩ := u32_wf w3
    obtain ⟨vni, e4, _, w4⟩ := DataW.trod_int Tryd.underlying3 g4
    obtain ⟨port, e5, _, w5⟩ := DataW.trod_int Tryd.underlying3 g5
    obtain ⟨mtu, e6, _, w6⟩ := DataW.trod_int Tryd.underlying3 g6
    obtain ⟨ttl, e7, _, w7⟩ := DataW.trod_int und2 g7
    obtain ⟨renew, e8, _, w8⟩ := DataW.trod_int und2 g8
    obtain ⟨log, e9, _, w9⟩ := DataW.trod_int Tryd.underlying3 g9
    obtain ⟨hosts, e10, _, w10⟩ := DataW.trod_int Tryd.underlying3 g10
    obtain ⟨z11, e11, _, w11⟩ := DataW.trod_int Tryd.underlying24 g11
    obtain ⟨first, rfl, hfirst⟩ := u32_wf w11
    obtain ⟨routes, e12, _, w12⟩ := DataW.trod_int Tryd.underlying3 g12
    obtain ⟨neighs, e13, _, w13⟩ := DataW.trod_int Tryd.underlying3 g13
    obtain ⟨fdbs, e14, _, w14⟩ := DataW.trod_int Tryd.underlying3 g14
    obtain ⟨room, e15, _, w15⟩ := DataW.trod_int Tryd.underlying3 g15
    obtain ⟨v, R, e16, hv, hd⟩ := open_rs g16
    refine ⟨⟨net, nlen, slen, min, max, vni, port, mtu, ttl, renew, log, hosts, first, routes, neighs, fdbs, room, v, hnet, hmin, hmax, hfirst, i64_wf w7, i64_wf wnl, i64_wf w10⟩, R, ?_, hv, ?_⟩
    · match cs, hl with
      | [c0, c1, c2, c3, c4, c5, c6, c7, c8, c9, c10, c11, c12, c13, c14, c15, c16, c17], _ =>
        simp at en enl e1 e2 e3 e4 e5 e6 e7 e8 e9 e10 e11 e12 e13 e14 e15 e16
        simp [Cfg.cells, en, enl, e1, e2, e3, e4, e5, e6, e7, e8, e9, e10, e11, e12, e13, e14, e15, e16]
    · by_cases e : R = []
      · rw [e]; simp
      · obtain ⟨es, sp, hes, hle⟩ := hd e
        have hm : (es.length + sp.length) * 24 ∈ (DataW.agg ([y0, y1, y2, y3, y4, y5, y6, y7, y8, y9, y10, y11, y12, y13, y14, y15, y16].map (·.1))).weights Tryd.prog 29 := by
          simp only [DataW.weights, hu]
          refine DataW.weights_mem_each (j := 16) (t := 27) (d := y16.1) (by simp [t16]) rfl _ ?_
          rw [hes]
          simp [DataW.weights, bytes63]
        have := hw _ hm
        unfold reachBytes at this
        omega

set_option maxRecDepth 100000 in
/-- A slice of configurations that came in. -/
theorem open_cfgs {H : Type} {enc : TypeId × Value → H} {W : World} {base : Nat} {v : Value} {d : DataW H} {ps : List MemPlace} (hval : Value.okWide Tryd.prog W .any base 22 v) (h : DataW.Trod enc Tryd.prog W 0 (fun _ => true) true 22 v d ps) (hw : ∀ x ∈ d.weights Tryd.prog 22, x ≤ reachBytes) :
    ∃ L, SeesC W v L := by
  obtain ⟨a0, len, cap, rfl⟩ := okWide_slice und22 hval
  obtain ⟨fuel, hf⟩ := h
  rcases Go.Deep.open_slice und22 hf with ⟨h1, _⟩ | ⟨a, len', cap', m, n, D, Pl, h1, _, hlc, hcm, hm, hxx, hx⟩
  · simp [Value.cells] at h1
    obtain ⟨rfl, rfl, rfl⟩ := h1
    exact ⟨[], none, 0, rfl, by simp, by unfold maxLen; omega, fun j hj => absurd hj (by simp)⟩
  · simp [Value.cells] at h1
    obtain ⟨rfl, rfl, rfl⟩ := h1
    simp at hm
    subst hm
    simp only [Prod.mk.injEq] at hxx
    obtain ⟨rfl, _⟩ := hxx
    have key : ∀ i, i < len → ∃ cR : Cfg × List Rsv, (SeesV W cR.1.rv cR.2 ∧ (cR.2.length + 2) * 24 ≤ 140737488355328) ∧ ∀ j (hj : j < 18), W.cell? ((a.add (i * 18)).add j) = some (cR.1.cells[j]'hj) := by
      intro i hi
      obtain ⟨cs', k1, k2⟩ := hx i (by omega)
      rw [cells29] at k1
      obtain ⟨_, _, hc⟩ := World.cells?_some k1
      obtain ⟨c, R, ho, hs, hb⟩ := open_cfg k2 fun x hx' => hw x (by
        simp only [DataW.weights, und22, List.mem_cons, List.mem_append]
        exact .inr (.inl (weights_all (d := D i) (List.mem_map.2 ⟨i, by simpa using hi, rfl⟩) x hx')))
      refine ⟨(c, R), ⟨hs, hb⟩, fun j hj => ?_⟩
      rw [hc j hj, ho]
      exact List.getElem?_eq_getElem hj
    by_cases h0 : len = 0
    · subst h0
      exact ⟨[], some a, m, rfl, by simp, hcm, fun j hj => absurd hj (by simp)⟩
    obtain ⟨cR0, _⟩ := key 0 (by omega)
    obtain ⟨F, hF⟩ : ∃ F : Nat → Cfg × List Rsv, ∀ i, i < len → (SeesV W (F i).1.rv (F i).2 ∧ ((F i).2.length + 2) * 24 ≤ 140737488355328) ∧ ∀ j (hj : j < 18), W.cell? ((a.add (i * 18)).add j) = some ((F i).1.cells[j]'hj) := by
      refine ⟨fun i => if h : i < len then (key i h).choose else cR0, fun i hi => ?_⟩
      simp only [dif_pos hi]
      exact (key i hi).choose_spec
    refine ⟨(List.range len).map F, some a, m, by simp, by simpa using hlc, hcm, fun j hj => ?_⟩
    have hj' : j < len := by simpa using hj
    obtain ⟨g, off, rfl, hg⟩ : ∃ g off, a = ⟨g, off, none⟩ ∧ g < W.heap.size := by
      have z0 := (hF 0 (by omega)).2 0 (by omega)
      have e : (a.add (0 * 18)).add 0 = a := by simp [Addr.add]
      rw [e] at z0
      exact spot_none z0
    refine ⟨by simpa using (hF j hj').1, g, off, rfl, hg, fun i hi => ?_⟩
    have hh := (hF j hj').2 i hi
    rw [add_plain', add_plain'] at hh
    rw [hh]
    simp only [List.getElem_map, List.getElem_range]
    rfl

set_option maxRecDepth 100000 in
theorem contract (H : Type) (enc : TypeId × Value → H) (W : World) (base : Nat) (args : Array Value) (ds gs : List (DataW H)) (before : List MemPlace)
    (hval : ∀ (j : Nat) t v, Tryd.f3.params[j]? = some t → args[j]? = some v → Value.okWide Tryd.prog W .any base t v)
    (hW : DataW.Whole enc Tryd.prog Tryd.f3.params.toList Rows.confChecksSpec.vars false W args.toList ds gs before) (hsz0 : (DataW.weightsEach Tryd.prog (Tryd.f3.params.toList ++ (OpenSpec.ofChange Rows.confChecksSpec).bare.plain.varTypes Tryd.prog) (ds ++ gs)).all (· ≤ reachBytes) = true) (hL : laidMetH Tryd.prog Rows.confChecksRow.laid W) :
    Calls Tryd.prog 3 args W fun e W' => ∃ v, e = .returned v ∧ Rows.confChecksSpec.post enc Tryd.prog Tryd.f3 false true false false W args v W' := by
  have hsz : (DataW.weightsEach Tryd.prog (Tryd.f3.params.toList ++ Rows.confChecksSpec.plain.varTypes Tryd.prog) (ds ++ gs)).all (· ≤ reachBytes) = true := hsz0
  have hW' := hW
  obtain ⟨p, q, hA0, hV, rfl, hfz, hnd⟩ := hW
  have hA : DataW.TrodAll enc Tryd.prog W 0 (fun _ => true) true Tryd.f3.params.toList args.toList ds p := hA0
  rw [Tryd.params3] at hA hval hsz
  obtain ⟨v0, vs0, d0, ds0, p0, q0, hargs, rfl, rfl, h0, r0⟩ := trodAll_cons hA
  obtain ⟨rfl, rfl, rfl⟩ := trodAll_nil r0
  obtain rfl : args = #[v0] := by cases args; simp_all
  obtain ⟨rfl, rfl⟩ := trodVars_none hV
  clear hA0
  simp only [List.append_nil] at hW'
  have hw0 : ∀ x ∈ d0.weights Tryd.prog 22, x ≤ reachBytes := fun x hx => by
    have := List.all_eq_true.1 hsz _ (DataW.weights_mem_each (j := 0) (t := 22) rfl rfl x hx)
    simpa using this
  obtain ⟨L, hs⟩ := open_cfgs (hval 0 22 v0 rfl rfl) h0 hw0
  have hlt : ∀ x ∈ p0, x.block < W.heap.size := fun x hx => hW'.lt x (by simpa using hx)
  refine (confChecks_walk v0 L W hs (tabC hL)).mono fun e W' ⟨he, hg⟩ => ?_
  subst he
  exact ⟨_, rfl, _, _, _, [], p0 ++ [], [], hW', trodAll_cons_mk (shut_bool Tryd.underlying4 _) trodAll_mk0, trodAll_cons_mk (Below.trod laidOut (by kernel_rfl) (of_decide_eq_true (by kernel_rfl)) h0 hg hlt) trodAll_mk0, rfl, hg.frame _, fun h => by cases h⟩

/-- The cells of a table of numbers, or of rows of numbers. -/
def aggCells : DataW Unit → Array Value
  | .agg ds => (ds.flatMap fun d => match d with
    | .lit (.int k z) => [Value.int k z]
    | .agg es => es.map fun e => match e with | .lit (.int k z) => Value.int k z | _ => .bool false
    | _ => [.bool false]).toArray
  | _ => #[]

def put (d : DataW Unit) : Obj → Obj
  | .cells _ t frozen => .cells (aggCells d) t frozen
  | o => o

/-- A world for the witness: the settled one, the tables holding what their initialisers lay. -/
noncomputable def laidWorld (os : Os) : World :=
  { World.holding Tryd.prog os ⟨#[], #[], []⟩ with heap := (World.holding Tryd.prog os ⟨#[], #[], []⟩).heap.modify 0 (put Rows.laid_weft_addr_classRows) }
theorem laid_met (os : Os) : laidMet Tryd.prog Rows.confChecksRow.laid ((laidWorld os).forCall (fun _ _ => 0) ⟨#[], #[.slice none 0 0], []⟩).memory :=
  laidMet_of_run' 8 (by kernel_rfl) (by kernel_rfl)
theorem reads (os : Os) {H : Type} (enc : TypeId × Value → H) : ∃ places, DataW.whole enc Tryd.prog ((laidWorld os).forCall (fun _ _ => 0) ⟨#[], #[.slice none 0 0], []⟩).memory Tryd.f3.params.toList Rows.confChecksSpec.vars false #[Value.slice none 0 0].toList 8 = some ([.nil], [], places) :=
  ⟨[], by kernel_rfl⟩

set_option maxRecDepth 100000 in
theorem lifted (os : Os) (started : os.Started) (H : Type) (enc : TypeId × Value → H) (F : Stop.Interp) :
    ReturnsInHanded {} Tryd.checked os 3 .any ((OpenSpec.ofChange Rows.confChecksSpec).preRow enc Tryd.prog Tryd.f3 Rows.confChecksRow.domain false Rows.confChecksRow.laid) (((OpenSpec.ofChange Rows.confChecksSpec).at F).post enc Tryd.prog Tryd.f3 false true false false) := by
  obtain ⟨places, hx⟩ := reads os enc
  refine returnsInHanded_of_row (C := Tryd.checked) (s := OpenSpec.ofChange Rows.confChecksSpec) own started (by kernel_rfl) Tryd.func3
    (witness_row_at (enc := enc) (C := Tryd.checked) false (laidWorld os) #[.slice none 0 0] rfl (by kernel_rfl) (by kernel_rfl) (by kernel_rfl)
      (OpenSpec.preRow_of_cond 8 hx (by kernel_rfl) (fun k hk => by cases hk) (by kernel_rfl) (laid_met os))) ?_
  intro W base args ds gs before hval hW _ _ hsz hL _ _
  exact contract H enc W base args ds gs before hval hW hsz hL

theorem said : Rows.ConfChecksSaid :=
  OpenClaim.holds_of_cond 3 Tryd.f3 rfl rfl rfl rfl rfl rfl rfl ⟨rfl, rfl, rfl, rfl, rfl⟩ rfl rfl rfl rfl rfl (by kernel_rfl) Tryd.func3 (by kernel_rfl)
    (of_decide_eq_true (by kernel_rfl)) (by unfold Func.isWrapper; first | (rw [if_pos (by decide +kernel)]; kernel_rfl) | (rw [if_neg (by decide +kernel)]; exact ⟨rfl, rfl⟩))
    (fun os started H enc _ F => by rw [OpenClaim.pre_eq_preRow]; exact lifted os started H enc F)

/-- No parameter wants a stand-in; the program has looks of its own. -/
theorem plain (f : FuncId) (fn : Func) (hf : Tryd.pinned.checked.prog.funcNamed "weft/weftlaw2.ConfChecks" = some f) (hfn : Tryd.pinned.checked.prog.funcs[f]? = some fn) :
    true = Tryd.pinned.checked.prog.looks [] ∧ ∀ (j : Nat) t, fn.params[j]? = some t → Tryd.pinned.checked.prog.wantsStandIn t = false := by
  obtain rfl : f = 3 := Option.some.inj ((show Tryd.prog.funcNamed "weft/weftlaw2.ConfChecks" = some 3 by kernel_rfl).symm.trans hf) |>.symm
  obtain rfl : fn = Tryd.f3 := (Option.some.inj (Tryd.func3.symm.trans hfn)).symm
  refine ⟨by kernel_rfl, fun j t ht => ?_⟩
  rw [Tryd.params3] at ht
  obtain rfl : t = 22 := by simpa using Array.mem_of_getElem? ht
  exact (show Tryd.prog.wantsStandIn 22 = false by kernel_rfl)

theorem card : Rows.ConfChecksCardSaid :=
  Claim7.holds_tied_plain_at .later [] _ _ _ _ said (fun _ h => by cases h) (by kernel_rfl) (fun _ h => by cases h) confChecks_row_tie rfl ⟨rfl, rfl⟩ (by kernel_rfl) rfl plain (by kernel_rfl)
end Go.Proofs.YtkoinngpmkmocaaDoor.confChecks
namespace Go.Proofs.YtkoinngpmkmocaaDoor
theorem confChecks_holds : Rows.ConfChecksCardSaid := confChecks.card
#print axioms confChecks_holds
end Go.Proofs.YtkoinngpmkmocaaDoor
