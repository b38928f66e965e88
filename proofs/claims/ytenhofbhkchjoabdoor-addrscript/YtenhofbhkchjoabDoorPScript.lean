import Derived.Test.YtenhofbhkchjoabDoorSF
import Derived.Deep.SlicePairs
import Derived.SizedLaws
import Derived.Test.YtenhofbhkchjoabDoorCards
import Derived.Test.YtenhofbhkchjoabDoorTie
import Derived.Deep.DeepHandedRow
import Derived.Lib.LaidTab
import Derived.Stop.LaidErr
import Derived.SliceStrings
import Derived.Deep.Slices
import Derived.Deep.Strs
namespace Go.Proofs.YtenhofbhkchjoabDoor.addrScript
open Go.ChangeShapes Go.WideShapes Go.ChangeAt Go.RowKit

theorem own : ownKnob Tryd.prog.godebug = none := by kernel_rfl
theorem laidOut : laidOutB Tryd.prog = true := by kernel_rfl
theorem gTab : Tryd.prog.globalNamed "internal/strconv.uint64pow10" = some 2 := by kernel_rfl
theorem gTabType : (Tryd.prog.globals[2]?).map (·.type) = some 114 := by kernel_rfl
theorem u114 : Tryd.prog.underlying 114 = some (.array 20 103) := by kernel_rfl
theorem u103 : Tryd.prog.underlying 103 = some (.int .u64) := by kernel_rfl
theorem cells114 : Tryd.prog.cellsOf 114 = 20 := by kernel_rfl
theorem cells103 : Tryd.prog.cellsOf 103 = 1 := by kernel_rfl
theorem cells9 : Tryd.prog.cellsOf 9 = 1 := by kernel_rfl
theorem powData : (Rows.laid_internal_strconv_uint64pow10 : DataW Unit) = Lib.tabData .u64 Lib.pow10Tab := by kernel_rfl

/-- What the row's list gives: the table of powers of ten. -/
theorem table {W : World} (h : laidMetH Tryd.prog Rows.addrScriptRow.laid W) : Lib.TabIs Tryd.prog W "internal/strconv.uint64pow10" .u64 Lib.pow10Tab := by
  have h1 : laidMet Tryd.prog Rows.addrScriptRow.laid W := h
  have h2 : laidMet Tryd.prog [("internal/strconv.uint64pow10", Rows.laid_internal_strconv_uint64pow10), ("weft/addr.classRows", Rows.laid_weft_addr_classRows)] W := h1.tail.tail
  rw [powData] at h2
  exact Lib.tabIs_of_head (rest := [("weft/addr.classRows", Rows.laid_weft_addr_classRows)]) gTab gTabType u114 u103 cells103 cells114 h2

theorem tab {W : World} (h : laidMetH Tryd.prog Rows.addrScriptRow.laid W) : Tab W := by
  refine ⟨table h, fun g hg => ?_⟩
  have h1 := table h
  unfold Lib.TabIs World.var? at h1
  rw [hg] at h1
  simp only [Option.bind_some] at h1
  rcases Nat.lt_or_ge g W.heap.size with e | e
  · exact e
  · rw [Array.getElem?_eq_none e] at h1; cases h1


theorem gC : Tryd.prog.globalNamed "weft/addr.classRows" = some 0 := by kernel_rfl
theorem gCType : (Tryd.prog.globals[0]?).map (·.type) = some 84 := by kernel_rfl
theorem u84 : Tryd.prog.underlying 84 = some (.array 4 83) := by kernel_rfl
theorem cells84 : Tryd.prog.cellsOf 84 = 12 := by kernel_rfl
theorem cells83 : Tryd.prog.cellsOf 83 = 3 := by kernel_rfl
theorem cells29 : Tryd.prog.cellsOf 29 = 1 := by kernel_rfl
theorem cells3 : Tryd.prog.cellsOf 3 = 1 := by kernel_rfl
theorem cells5 : Tryd.prog.cellsOf 5 = 1 := by kernel_rfl
theorem cells31 : Tryd.prog.cellsOf 31 = 2 := by kernel_rfl
theorem cells33 : Tryd.prog.cellsOf 33 = 6 := by kernel_rfl
theorem cells35 : Tryd.prog.cellsOf 35 = 9 := by kernel_rfl
theorem und5 : Tryd.prog.underlying 5 = some (.int .u8) := by kernel_rfl
theorem und33 : Tryd.prog.underlying 33 = some (.array 6 5) := by kernel_rfl
theorem und26 : Tryd.prog.underlying 26 = some (.slice 35) := by kernel_rfl
theorem und83 : ∃ f0 f1 f2, Tryd.prog.underlying 83 = some (.struct #[f0, f1, f2]) ∧ f0.type = 29 ∧ f0.offset = 0 ∧ f1.type = 3 ∧ f1.offset = 1 ∧ f2.type = 3 ∧ f2.offset = 2 := ⟨_, _, _, Tryd.underlying83, rfl, rfl, rfl, rfl, rfl, rfl⟩
theorem und31 : ∃ f0 f1, Tryd.prog.underlying 31 = some (.struct #[f0, f1]) ∧ f0.type = 29 ∧ f0.offset = 0 ∧ f1.type = 3 ∧ f1.offset = 1 := ⟨_, _, Tryd.underlying31, rfl, rfl, rfl, rfl⟩
theorem und35 : ∃ f0 f1 f2, Tryd.prog.underlying 35 = some (.struct #[f0, f1, f2]) ∧ f0.type = 29 ∧ f0.offset = 0 ∧ f1.type = 31 ∧ f1.offset = 1 ∧ f2.type = 33 ∧ f2.offset = 3 := ⟨_, _, _, Tryd.underlying35, rfl, rfl, rfl, rfl, rfl, rfl⟩

section
variable {H : Type} {enc : TypeId × Value → H} {W : World} {sp : Nat → Bool} {held : Bool}

theorem row3 {fuel : Nat} {cs : List Value} {a b c : Int} {p : List MemPlace} (h : DataW.trod enc Tryd.prog W 0 sp held fuel 83 cs = some (.agg [.lit (.int .u32 a), .lit (.int .i64 b), .lit (.int .i64 c)], p)) :
    cs = [.int .u32 a, .int .i64 b, .int .i64 c] := by
  obtain ⟨f0, f1, f2, hu, t0, o0, t1, o1, t2, o2⟩ := und83
  obtain ⟨y0, y1, y2, n, hx, hl, g0, g1, g2⟩ := Go.Deep.trod_struct3 hu h
  rw [t0, o0, cells29] at g0
  rw [t1, o1, cells3] at g1
  rw [t2, o2, cells3] at g2
  rw [cells83] at hl
  obtain ⟨z0, e0, rfl, _⟩ := DataW.trod_int Tryd.underlying29 g0
  obtain ⟨z1, e1, rfl, _⟩ := DataW.trod_int Tryd.underlying3 g1
  obtain ⟨z2, e2, rfl, _⟩ := DataW.trod_int Tryd.underlying3 g2
  simp at hx
  obtain ⟨⟨rfl, rfl, rfl⟩, _⟩ := hx
  match cs, hl with
  | [c0, c1, c2], _ => simp at e0 e1 e2; rw [e0, e1, e2]
end

theorem tabC {W : World} (h : laidMetH Tryd.prog Rows.addrScriptRow.laid W) : TabC W := by
  have h1 : laidMet Tryd.prog Rows.addrScriptRow.laid W := h
  have h2 : laidMet Tryd.prog [("weft/addr.classRows", Rows.laid_weft_addr_classRows)] W := h1.tail.tail.tail
  obtain ⟨ps, ⟨g, t, cs, fuel, p, q, hg, ht, hvar, hd, _, _⟩, _⟩ := h2
  obtain rfl := Option.some.inj (gC.symm.trans hg)
  obtain rfl := Option.some.inj (gCType.symm.trans ht)
  obtain ⟨xs, m, _, hx, hl, hxl, hall⟩ := DataW.trod_array u84 hd
  rw [cells84] at hl
  rw [cells83] at hall
  unfold Rows.laid_weft_addr_classRows at hx
  match xs, hxl with
  | [y0, y1, y2, y3], _ =>
    simp at hx
    obtain ⟨⟨e0, e1, e2, e3⟩, _⟩ := hx
    obtain ⟨d0, q0⟩ := y0
    obtain ⟨d1, q1⟩ := y1
    obtain ⟨d2, q2⟩ := y2
    obtain ⟨d3, q3⟩ := y3
    simp only at e0 e1 e2 e3
    subst e0 e1 e2 e3
    have r0 := row3 (hall 0 (by omega))
    have r1 := row3 (hall 1 (by omega))
    have r2 := row3 (hall 2 (by omega))
    have r3 := row3 (hall 3 (by omega))
    have hcs : cs.toList = rowsC := by
      match hc : cs.toList, hl with
      | [c0, c1, c2, c3, c4, c5, c6, c7, c8, c9, c10, c11], _ =>
        rw [hc] at r0 r1 r2 r3
        simp at r0 r1 r2 r3
        obtain ⟨rfl, rfl, rfl⟩ := r0
        obtain ⟨rfl, rfl, rfl⟩ := r1
        obtain ⟨rfl, rfl, rfl⟩ := r2
        obtain ⟨rfl, rfl, rfl⟩ := r3
        rfl
    have hcell : ∀ j (hj : j < 12), W.cell? ⟨0, j, none⟩ = some rowsC[j] := by
      intro j hj
      have h3 := World.var?_cell gC hvar j
      rw [h3, ← Array.getElem?_toList, hcs]
      exact List.getElem?_eq_getElem hj
    refine ⟨hcell, ?_⟩
    have h4 := World.block_lt_of_cell? W _ (hcell 0 (by omega))
    exact h4

theorem u32_wf {a : Int} (h : (Lit.int .u32 a).wf = true) : ∃ n : Nat, a = (n : Int) ∧ n < 4294967296 := by
  have h' : (decide (IntKind.u32.min ≤ a) && decide (a ≤ IntKind.u32.max)) = true := h
  rw [show IntKind.u32.min = 0 from by decide +kernel, show IntKind.u32.max = 4294967295 from by decide +kernel] at h'
  simp at h'
  exact ⟨a.toNat, by omega, by omega⟩
theorem u8_wf {a : Int} (h : (Lit.int .u8 a).wf = true) : ∃ n : Nat, a = (n : Int) ∧ n < 256 := by
  have h' : (decide (IntKind.u8.min ≤ a) && decide (a ≤ IntKind.u8.max)) = true := h
  rw [show IntKind.u8.min = 0 from by decide +kernel, show IntKind.u8.max = 255 from by decide +kernel] at h'
  simp at h'
  exact ⟨a.toNat, by omega, by omega⟩

/-- An item that reads. -/
theorem open_item {H : Type} {enc : TypeId × Value → H} {W : World} {sp : Nat → Bool} {held : Bool} {fuel : Nat} {cs : List Value} {x : DataW H × List MemPlace} (h : DataW.trod enc Tryd.prog W 0 sp held fuel 35 cs = some x) :
    ∃ I : Itm, cs = I.cells.toList := by
  obtain ⟨f0, f1, f2, hu, t0, o0, t1, o1, t2, o2⟩ := und35
  obtain ⟨y0, y1, y2, n, hx, hl, g0, g1, g2⟩ := Go.Deep.trod_struct3 hu h
  rw [t0, o0, cells29] at g0
  rw [t1, o1, cells31] at g1
  rw [t2, o2, cells33] at g2
  rw [cells35] at hl
  obtain ⟨z0, e0, _, wf0⟩ := DataW.trod_int Tryd.underlying29 g0
  obtain ⟨a, rfl, ha⟩ := u32_wf wf0
  obtain ⟨k0, k1, hv, s0, p0, s1, p1⟩ := und31
  obtain ⟨_, _, n1, _, hl1, b0, b1⟩ := trod_struct2 hv g1
  rw [s0, p0, cells29] at b0
  rw [s1, p1, cells3] at b1
  obtain ⟨z1, e1, _, wf1⟩ := DataW.trod_int Tryd.underlying29 b0
  obtain ⟨px, rfl, hpx⟩ := u32_wf wf1
  obtain ⟨z2, e2, _, _⟩ := DataW.trod_int Tryd.underlying3 b1
  obtain ⟨xs, m, _, _, hl2, hxl, hall⟩ := DataW.trod_array und33 g2
  rw [cells5] at hall
  have key : ∀ i, i < 6 → ∃ k : Nat, k < 256 ∧ ((List.take 6 (List.drop 3 cs)).drop (i * 1)).take 1 = [.int .u8 (k : Int)] := by
    intro i hi
    have hh := hall i hi
    rw [List.getElem?_eq_getElem (by omega)] at hh
    obtain ⟨z, e, _, wf⟩ := DataW.trod_int und5 hh
    obtain ⟨k, rfl, hk⟩ := u8_wf wf
    exact ⟨k, hk, e⟩
  match cs, hl with
  | [c0, c1, c2, c3, c4, c5, c6, c7, c8], _ =>
    simp at e0 e1 e2
    subst e0 e1 e2
    obtain ⟨m0, q0, r0⟩ := key 0 (by omega)
    obtain ⟨m1, q1, r1⟩ := key 1 (by omega)
    obtain ⟨m2, q2, r2⟩ := key 2 (by omega)
    obtain ⟨m3, q3, r3⟩ := key 3 (by omega)
    obtain ⟨m4, q4, r4⟩ := key 4 (by omega)
    obtain ⟨m5, q5, r5⟩ := key 5 (by omega)
    simp at r0 r1 r2 r3 r4 r5
    subst r0 r1 r2 r3 r4 r5
    refine ⟨⟨a, px, z2, fun k => [m0, m1, m2, m3, m4, m5].getD k 0, ha, hpx, fun k hk => ?_⟩, rfl⟩
    match k, hk with
    | 0, _ => exact q0
    | 1, _ => exact q1
    | 2, _ => exact q2
    | 3, _ => exact q3
    | 4, _ => exact q4
    | 5, _ => exact q5


theorem cells9' : Tryd.prog.cellsOf 9 = 1 := by kernel_rfl
theorem cells39 : Tryd.prog.cellsOf 39 = 1 := by kernel_rfl
theorem cells45 : Tryd.prog.cellsOf 45 = 15 := by kernel_rfl
theorem bytes31 : Tryd.prog.bytesOf 31 = 16 := by kernel_rfl
theorem bytes45 : Tryd.prog.bytesOf 45 = 96 := by kernel_rfl
theorem und37 : Tryd.prog.underlying 37 = some (.slice 45) := by kernel_rfl
theorem und39 : Tryd.prog.underlying 39 = some (.slice 31) := by kernel_rfl
theorem und9 : Tryd.prog.underlying 9 = some .string := by kernel_rfl
theorem und45 : ∃ f0 f1 f2 f3 f4 f5 f6, Tryd.prog.underlying 45 = some (.struct #[f0, f1, f2, f3, f4, f5, f6]) ∧ f0.type = 3 ∧ f0.offset = 0 ∧ f1.type = 9 ∧ f1.offset = 1 ∧ f2.type = 35 ∧ f2.offset = 2 ∧ f3.type = 29 ∧ f3.offset = 11 ∧ f4.type = 29 ∧ f4.offset = 12 ∧ f5.type = 39 ∧ f5.offset = 13 ∧ f6.type = 3 ∧ f6.offset = 14 :=
  ⟨_, _, _, _, _, _, _, Tryd.underlying45, rfl, rfl, rfl, rfl, rfl, rfl, rfl, rfl, rfl, rfl, rfl, rfl, rfl, rfl⟩

/-- A slice of prefixes that came in, within another thing. -/
theorem open_ps {H : Type} {enc : TypeId × Value → H} {W : World} {fuel : Nat} {cs : List Value} {x : DataW H × List MemPlace} (hf : DataW.trod enc Tryd.prog W 0 (fun _ => true) true fuel 39 cs = some x) :
    ∃ v L, cs = [v] ∧ Mg.Sees W v L ∧ Mg.Adr L ∧ (L ≠ [] → ∃ es sp, x.1 = .slice es sp ∧ es.length = L.length) := by
  obtain ⟨k0, k1, hv, s0, p0, s1, p1⟩ := und31
  rcases Go.Deep.open_slice_pairs und39 hv cells31 p0 p1 (by rw [s0]; exact cells29) (by rw [s1]; exact cells3) hf with ⟨h1, h2⟩ | ⟨a, len, cap, m, k, V0, V1, D0, D1, P0, P1, h1, _, hlc, hcm, hm, hx, hc⟩
  · exact ⟨_, [], h1, ⟨none, 0, rfl, by simp, by unfold maxLen; omega, fun j hj => absurd hj (by simp)⟩, fun p hp => absurd hp (by simp), fun h => absurd rfl h⟩
  · simp at hm
    subst hm
    have key : ∀ i, i < len → ∃ (x : Nat) (y : Int), x < 4294967296 ∧ V0 i = .int .u32 (x : Int) ∧ V1 i = .int .i64 y := by
      intro i hi
      obtain ⟨_, _, t0, t1⟩ := hc i (by omega)
      rw [s0] at t0
      rw [s1] at t1
      obtain ⟨n0, e0, _, w0⟩ := DataW.trod_int Tryd.underlying29 t0
      obtain ⟨n1, e1, _, _⟩ := DataW.trod_int Tryd.underlying3 t1
      simp at e0 e1
      obtain ⟨x, rfl, hx⟩ := u32_wf w0
      exact ⟨x, n1, hx, e0, e1⟩
    refine ⟨_, (List.range len).map fun i => ((intOf (V0 i)).toNat, intOf (V1 i)), h1, ⟨some a, m, by simp, by simpa using hlc, hcm, fun j hj => ?_⟩, fun p hp => ?_, fun _ => ?_⟩
    · have hj' : j < len := by simpa using hj
      obtain ⟨x, y, _, e0, e1⟩ := key j hj'
      obtain ⟨k0, k1, _, _⟩ := hc j (by omega)
      have hsp : ∃ g off, a = ⟨g, off, none⟩ ∧ g < W.heap.size := by
        obtain ⟨z0, _, _, _⟩ := hc 0 (by omega)
        simp only [Nat.zero_mul] at z0
        have e : a.add 0 = a := by simp [Addr.add]
        rw [e] at z0
        have hlt := World.block_lt_of_cell? W a z0
        obtain ⟨g, off, sp⟩ := a
        cases sp with
        | none => exact ⟨g, off, rfl, hlt⟩
        | some s =>
          exfalso
          simp only [World.cell?] at z0
          split at z0 <;> simp at z0
      obtain ⟨g, off, rfl, hg⟩ := hsp
      rw [add_plain] at k0 k1
      refine ⟨g, off, rfl, hg, ?_, ?_⟩
      · rw [k0, e0]; simp [e0, intOf]
      · rw [Nat.add_assoc, k1, e1]; simp [e1, intOf]
    · obtain ⟨i, hi, rfl⟩ := List.mem_map.1 hp
      obtain ⟨x, y, hx, e0, _⟩ := key i (by simpa using hi)
      simp [e0, intOf]; exact hx
    · exact ⟨_, _, by rw [hx], by simp⟩

theorem weights_all {H : Type} {P : Program} {e : TypeId} : ∀ {ds : List (DataW H)} {d : DataW H}, d ∈ ds → ∀ n ∈ d.weights P e, n ∈ DataW.weightsAll P e ds
  | a :: t, d, hd, n, hn => by
    simp only [DataW.weightsAll, List.mem_append]
    rcases List.mem_cons.1 hd with rfl | h
    · exact .inl hn
    · exact .inr (weights_all h n hn)

set_option maxRecDepth 100000 in
/-- A step that reads. -/
theorem open_op {H : Type} {enc : TypeId × Value → H} {W : World} {fuel : Nat} {cs : List Value} {x : DataW H × List MemPlace} (h : DataW.trod enc Tryd.prog W 0 (fun _ => true) true fuel 45 cs = some x) (hw : ∀ n ∈ x.1.weights Tryd.prog 45, n ≤ reachBytes) :
    ∃ (o : Mg.Stp) (D : List (Nat × Int)), cs = o.cells.toList ∧ Mg.Fit W o D := by
  obtain ⟨f0, f1, f2, f3, f4, f5, f6, hu, t0, o0, t1, o1, t2, o2, t3, o3, t4, o4, t5, o5, t6, o6⟩ := und45
  obtain ⟨xs, n, _, rfl, hl, hxl, hf⟩ := DataW.trod_struct hu h
  match xs, hxl with
  | [y0, y1, y2, y3, y4, y5, y6], _ =>
    have g0 := hf 0 f0 rfl
    have g1 := hf 1 f1 rfl
    have g2 := hf 2 f2 rfl
    have g3 := hf 3 f3 rfl
    have g4 := hf 4 f4 rfl
    have g5 := hf 5 f5 rfl
    have g6 := hf 6 f6 rfl
    rw [t0, o0, cells3] at g0
    rw [t1, o1, cells9'] at g1
    rw [t2, o2, cells35] at g2
    rw [t3, o3, cells29] at g3
    rw [t4, o4, cells29] at g4
    rw [t5, o5, cells39] at g5
    rw [t6, o6, cells3] at g6
    rw [cells45] at hl
    obtain ⟨z0, e0, _, _⟩ := DataW.trod_int Tryd.underlying3 g0
    obtain ⟨s, e1, _, hs⟩ := DataW.trod_string und9 g1
    obtain ⟨I, e2⟩ := open_item g2
    obtain ⟨z3, e3, _, w3⟩ := DataW.trod_int Tryd.underlying29 g3
    obtain ⟨lo, rfl, hlo⟩ := u32_wf w3
    obtain ⟨z4, e4, _, w4⟩ := DataW.trod_int Tryd.underlying29 g4
    obtain ⟨hi, rfl, hhi⟩ := u32_wf w4
    obtain ⟨v, D, e5, hv, ha, hd⟩ := open_ps g5
    obtain ⟨z6, e6, _, _⟩ := DataW.trod_int Tryd.underlying3 g6
    refine ⟨⟨z0, s, I, lo, hi, v, z6, hlo, hhi⟩, D, ?_, hs, hv, ha, ?_⟩
    · match cs, hl with
      | [c0, c1, c2, c3, c4, c5, c6, c7, c8, c9, c10, c11, c12, c13, c14], _ =>
        simp [Itm.cells] at e0 e1 e2 e3 e4 e5 e6
        obtain ⟨q0, q1, q2, q3, q4, q5, q6, q7, q8⟩ := e2
        simp [Mg.Stp.cells, e0, e1, e3, e4, e5, e6, q0, q1, q2, q3, q4, q5, q6, q7, q8]
    · by_cases e : D = []
      · rw [e]; simp
      · obtain ⟨es, sp, hes, hle⟩ := hd e
        have hm : (es.length + sp.length) * 16 ∈ (DataW.agg ([y0, y1, y2, y3, y4, y5, y6].map (·.1))).weights Tryd.prog 45 := by
          simp only [DataW.weights, hu]
          refine DataW.weights_mem_each (j := 5) (t := 39) (d := y5.1) (by simp [t5]) rfl _ ?_
          rw [hes]
          simp [DataW.weights, bytes31]
        have := hw _ hm
        unfold reachBytes at this
        omega

set_option maxRecDepth 100000 in
/-- A slice of steps that came in. -/
theorem open_ops {H : Type} {enc : TypeId × Value → H} {W : World} {base : Nat} {v : Value} {d : DataW H} {ps : List MemPlace} (hval : Value.okWide Tryd.prog W .any base 37 v) (h : DataW.Trod enc Tryd.prog W 0 (fun _ => true) true 37 v d ps) (hw : ∀ x ∈ d.weights Tryd.prog 37, x ≤ reachBytes) :
    ∃ L, Mg.SeesO W v L ∧ L.length * 96 ≤ 140737488355328 := by
  obtain ⟨a0, len, cap, rfl⟩ := okWide_slice und37 hval
  obtain ⟨fuel, hf⟩ := h
  rcases Go.Deep.open_slice und37 hf with ⟨h1, _⟩ | ⟨a, len', cap', m, n, D, Pl, h1, _, hlc, hcm, hm, hxx, hx⟩
  · simp [Value.cells] at h1
    obtain ⟨rfl, rfl, rfl⟩ := h1
    exact ⟨[], ⟨none, 0, rfl, by simp, by unfold maxLen; omega, fun j hj => absurd hj (by simp)⟩, by simp⟩
  · simp [Value.cells] at h1
    obtain ⟨rfl, rfl, rfl⟩ := h1
    simp at hm
    subst hm
    simp only [Prod.mk.injEq] at hxx
    obtain ⟨rfl, _⟩ := hxx
    have hlen : len * 96 ≤ 140737488355328 := by
      have := hw ((len + (m - len)) * 96) (by simp [DataW.weights, bytes45])
      unfold reachBytes at this
      omega
    have key : ∀ i, i < len → ∃ o : Mg.Stp, (∃ E, Mg.Fit W o E) ∧ ∀ j (hj : j < 15), W.cell? ((a.add (i * 15)).add j) = some (o.cells[j]'hj) := by
      intro i hi
      obtain ⟨cs', k1, k2⟩ := hx i (by omega)
      rw [cells45] at k1
      obtain ⟨_, _, hc⟩ := World.cells?_some k1
      obtain ⟨o, E, ho, hF⟩ := open_op k2 fun x hx' => hw x (by
        simp only [DataW.weights, und37, List.mem_cons, List.mem_append]
        exact .inr (.inl (weights_all (d := D i) (List.mem_map.2 ⟨i, by simpa using hi, rfl⟩) x hx')))
      refine ⟨o, ⟨E, hF⟩, fun j hj => ?_⟩
      rw [hc j hj, ho]
      exact List.getElem?_eq_getElem hj
    have hch : ∃ F : Nat → Mg.Stp, ∀ i, i < len → (∃ E, Mg.Fit W (F i) E) ∧ ∀ j (hj : j < 15), W.cell? ((a.add (i * 15)).add j) = some ((F i).cells[j]'hj) := by
      by_cases h0 : len = 0
      · exact ⟨fun _ => ⟨0, ByteArray.empty, ⟨0, 0, 0, fun _ => 0, by omega, by omega, fun _ _ => by omega⟩, 0, 0, .bool false, 0, by omega, by omega⟩, fun i hi => by omega⟩
      · obtain ⟨I0, _⟩ := key 0 (by omega)
        refine ⟨fun i => if h : i < len then (key i h).choose else I0, fun i hi => ?_⟩
        simp only [dif_pos hi]
        exact (key i hi).choose_spec
    obtain ⟨F, hF⟩ := hch
    refine ⟨(List.range len).map F, ⟨some a, m, by simp, by simpa using hlc, hcm, fun j hj => ?_⟩, by simpa using hlen⟩
    have hj' : j < len := by simpa using hj
    have hsp : ∃ g off, a = ⟨g, off, none⟩ ∧ g < W.heap.size := by
      have z0 := (hF 0 (by omega)).2 0 (by omega)
      have e : (a.add (0 * 15)).add 0 = a := by simp [Addr.add]
      rw [e] at z0
      have hlt := World.block_lt_of_cell? W a z0
      obtain ⟨g, off, sp⟩ := a
      cases sp with
      | none => exact ⟨g, off, rfl, hlt⟩
      | some s =>
        exfalso
        simp only [World.cell?] at z0
        split at z0 <;> simp at z0
    obtain ⟨g, off, rfl, hg⟩ := hsp
    refine ⟨by simpa using (hF j hj').1, g, off, rfl, hg, fun i hi => ?_⟩
    have hh := (hF j hj').2 i hi
    rw [add_plain, add_plain] at hh
    rw [hh]
    simp only [List.getElem_map, List.getElem_range]
    rfl

set_option maxRecDepth 100000 in
theorem contract (H : Type) (enc : TypeId × Value → H) (W : World) (base : Nat) (args : Array Value) (ds gs : List (DataW H)) (before : List MemPlace)
    (hval : ∀ (j : Nat) t v, Tryd.f5.params[j]? = some t → args[j]? = some v → Value.okWide Tryd.prog W .any base t v)
    (hW : DataW.Whole enc Tryd.prog Tryd.f5.params.toList Rows.addrScriptSpec.vars false W args.toList ds gs before) (hsz0 : (DataW.weightsEach Tryd.prog (Tryd.f5.params.toList ++ (OpenSpec.ofChange Rows.addrScriptSpec).bare.plain.varTypes Tryd.prog) (ds ++ gs)).all (· ≤ reachBytes) = true) (hL : laidMetH Tryd.prog Rows.addrScriptRow.laid W) :
    Calls Tryd.prog 5 args W fun e W' => ∃ v, e = .returned v ∧ Rows.addrScriptSpec.post enc Tryd.prog Tryd.f5 false true false false W args v W' := by
  have hsz : (DataW.weightsEach Tryd.prog (Tryd.f5.params.toList ++ Rows.addrScriptSpec.plain.varTypes Tryd.prog) (ds ++ gs)).all (· ≤ reachBytes) = true := hsz0
  have hW' := hW
  obtain ⟨p, q, hA0, hV, rfl, hfz, hnd⟩ := hW
  have hA : DataW.TrodAll enc Tryd.prog W 0 (fun _ => true) true Tryd.f5.params.toList args.toList ds p := hA0
  rw [Tryd.params5] at hA hval hsz
  obtain ⟨v0, vs0, d0, ds0, p0, q0, hargs, rfl, rfl, h0, r0⟩ := trodAll_cons hA
  obtain ⟨rfl, rfl, rfl⟩ := trodAll_nil r0
  obtain rfl : args = #[v0] := by cases args; simp_all
  obtain ⟨rfl, rfl⟩ := trodVars_none hV
  clear hA0
  simp only [List.append_nil] at hW'
  have hw0 : ∀ x ∈ d0.weights Tryd.prog 37, x ≤ reachBytes := fun x hx => by
    have := List.all_eq_true.1 hsz _ (DataW.weights_mem_each (j := 0) (t := 37) rfl rfl x hx)
    simpa using this
  obtain ⟨L, hs, hbig⟩ := open_ops (hval 0 37 v0 rfl rfl) h0 hw0
  have hlt : ∀ x ∈ p0, x.block < W.heap.size := fun x hx => hW'.lt x (by simpa using hx)
  refine (Mg.addrScript_walk v0 L W hs (tab hL) (tabC hL) hbig).mono fun e W' ⟨he, hg⟩ => ?_
  subst he
  exact ⟨_, rfl, _, _, _, [], p0 ++ [], [], hW', trodAll_cons_mk (shut_bool Tryd.underlying4 _) trodAll_mk0, trodAll_cons_mk (Below.trod laidOut (by kernel_rfl) (of_decide_eq_true (by kernel_rfl)) h0 hg hlt) trodAll_mk0, rfl, hg.frame _, fun h => by cases h⟩

/-- The cells of a table of numbers, or of rows of numbers. -/
def aggCells : DataW Unit → Array Value
  | .agg ds => (ds.flatMap fun d => match d with
    | .lit (.int k z) => [Value.int k z]
    | .agg es => es.map fun e => match e with | .lit (.int k z) => Value.int k z | _ => .bool false
    | _ => [.bool false]).toArray
  | _ => #[]

def put (d : DataW Unit) : Obj → Obj
  | .cells _ t frozen => .cells (aggCells d) t frozen
  | o => o

/-- A world for the witness: the settled one, the tables holding what their initialisers lay. -/
noncomputable def laidWorld (os : Os) : World :=
  { World.holding Tryd.prog os ⟨#[], #[], []⟩ with heap := ((((World.holding Tryd.prog os ⟨#[], #[], []⟩).heap.modify 0 (put Rows.laid_weft_addr_classRows)).modify 2 (put Rows.laid_internal_strconv_uint64pow10)).modify 3 (put Rows.laid_math_bits_deBruijn32tab)).modify 4 (put Rows.laid_math_bits_deBruijn64tab) }
theorem laid_met (os : Os) : laidMet Tryd.prog Rows.addrScriptRow.laid ((laidWorld os).forCall (fun _ _ => 0) ⟨#[], #[.slice none 0 0], []⟩).memory :=
  laidMet_of_run' 8 (by kernel_rfl) (by kernel_rfl)
theorem reads (os : Os) {H : Type} (enc : TypeId × Value → H) : ∃ places, DataW.whole enc Tryd.prog ((laidWorld os).forCall (fun _ _ => 0) ⟨#[], #[.slice none 0 0], []⟩).memory Tryd.f5.params.toList Rows.addrScriptSpec.vars false #[Value.slice none 0 0].toList 8 = some ([.nil], [], places) :=
  ⟨[], by kernel_rfl⟩

set_option maxRecDepth 100000 in
theorem lifted (os : Os) (started : os.Started) (H : Type) (enc : TypeId × Value → H) (F : Stop.Interp) :
    ReturnsInHanded {} Tryd.checked os 5 .any ((OpenSpec.ofChange Rows.addrScriptSpec).preRow enc Tryd.prog Tryd.f5 Rows.addrScriptRow.domain false Rows.addrScriptRow.laid) (((OpenSpec.ofChange Rows.addrScriptSpec).at F).post enc Tryd.prog Tryd.f5 false true false false) := by
  obtain ⟨places, hx⟩ := reads os enc
  refine returnsInHanded_of_row (C := Tryd.checked) (s := OpenSpec.ofChange Rows.addrScriptSpec) own started (by kernel_rfl) Tryd.func5
    (witness_row_at (enc := enc) (C := Tryd.checked) false (laidWorld os) #[.slice none 0 0] rfl (by kernel_rfl) (by kernel_rfl) (by kernel_rfl)
      (OpenSpec.preRow_of_cond 8 hx (by kernel_rfl) (fun k hk => by cases hk) (by kernel_rfl) (laid_met os))) ?_
  intro W base args ds gs before hval hW _ _ hsz hL _ _
  exact contract H enc W base args ds gs before hval hW hsz hL

theorem said : Rows.AddrScriptSaid :=
  OpenClaim.holds_of_cond 5 Tryd.f5 rfl rfl rfl rfl rfl rfl rfl ⟨rfl, rfl, rfl, rfl, rfl⟩ rfl rfl rfl rfl rfl (by kernel_rfl) Tryd.func5 (by kernel_rfl)
    (of_decide_eq_true (by kernel_rfl)) (by unfold Func.isWrapper; first | (rw [if_pos (by decide +kernel)]; kernel_rfl) | (rw [if_neg (by decide +kernel)]; exact ⟨rfl, rfl⟩))
    (fun os started H enc _ F => by rw [OpenClaim.pre_eq_preRow]; exact lifted os started H enc F)

/-- No parameter wants a stand-in; the program's own looks are off. -/
theorem plain (f : FuncId) (fn : Func) (hf : Tryd.pinned.checked.prog.funcNamed "weft/weftlaw1.AddrScript" = some f) (hfn : Tryd.pinned.checked.prog.funcs[f]? = some fn) :
    false = Tryd.pinned.checked.prog.looks [] ∧ ∀ (j : Nat) t, fn.params[j]? = some t → Tryd.pinned.checked.prog.wantsStandIn t = false := by
  obtain rfl : f = 5 := Option.some.inj ((show Tryd.prog.funcNamed "weft/weftlaw1.AddrScript" = some 5 by kernel_rfl).symm.trans hf) |>.symm
  obtain rfl : fn = Tryd.f5 := (Option.some.inj (Tryd.func5.symm.trans hfn)).symm
  refine ⟨by kernel_rfl, fun j t ht => ?_⟩
  rw [Tryd.params5] at ht
  obtain rfl : t = 37 := by simpa using Array.mem_of_getElem? ht
  exact (show Tryd.prog.wantsStandIn 37 = false by kernel_rfl)

theorem card : Rows.AddrScriptCardSaid :=
  Claim7.holds_tied_plain_at .later [] _ _ _ _ said (fun _ h => by cases h) (by kernel_rfl) (fun _ h => by cases h) addrScript_row_tie rfl ⟨rfl, rfl⟩ (by kernel_rfl) rfl plain (by kernel_rfl)
end Go.Proofs.YtenhofbhkchjoabDoor.addrScript
namespace Go.Proofs.YtenhofbhkchjoabDoor
theorem addrScript_holds : Rows.AddrScriptCardSaid := addrScript.card
#print axioms addrScript_holds
end Go.Proofs.YtenhofbhkchjoabDoor
