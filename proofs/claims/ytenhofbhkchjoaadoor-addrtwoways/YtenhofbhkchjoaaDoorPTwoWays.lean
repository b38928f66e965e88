import Derived.Test.YtenhofbhkchjoaaDoorY
import Derived.Test.YtenhofbhkchjoaaDoorCards
import Derived.Test.YtenhofbhkchjoaaDoorTie
import Derived.Deep.DeepHandedRow
import Derived.Lib.LaidTab
import Derived.Stop.LaidErr
import Derived.SliceStrings
import Derived.Deep.Slices
import Derived.Deep.Strs
namespace Go.Proofs.YtenhofbhkchjoaaDoor.addrTwoWays
open Go.ChangeShapes Go.WideShapes Go.ChangeAt Go.RowKit

theorem own : ownKnob Tryd.prog.godebug = none := by kernel_rfl
theorem laidOut : laidOutB Tryd.prog = true := by kernel_rfl
theorem gTab : Tryd.prog.globalNamed "internal/strconv.uint64pow10" = some 1 := by kernel_rfl
theorem gTabType : (Tryd.prog.globals[1]?).map (·.type) = some 69 := by kernel_rfl
theorem u114 : Tryd.prog.underlying 69 = some (.array 20 61) := by kernel_rfl
theorem u103 : Tryd.prog.underlying 61 = some (.int .u64) := by kernel_rfl
theorem cells114 : Tryd.prog.cellsOf 69 = 20 := by kernel_rfl
theorem cells103 : Tryd.prog.cellsOf 61 = 1 := by kernel_rfl
theorem cells9 : Tryd.prog.cellsOf 9 = 1 := by kernel_rfl
theorem powData : (Rows.laid_internal_strconv_uint64pow10 : DataW Unit) = Lib.tabData .u64 Lib.pow10Tab := by kernel_rfl

/-- What the row's list gives: the table of powers of ten. -/
theorem table {W : World} (h : laidMetH Tryd.prog Rows.addrTwoWaysRow.laid W) : Lib.TabIs Tryd.prog W "internal/strconv.uint64pow10" .u64 Lib.pow10Tab := by
  have h1 : laidMet Tryd.prog Rows.addrTwoWaysRow.laid W := h
  have h2 : laidMet Tryd.prog [("internal/strconv.uint64pow10", Rows.laid_internal_strconv_uint64pow10)] W := h1.tail.tail
  rw [powData] at h2
  exact Lib.tabIs_of_head (rest := []) gTab gTabType u114 u103 cells103 cells114 h2

theorem tab {W : World} (h : laidMetH Tryd.prog Rows.addrTwoWaysRow.laid W) : Tab W := by
  refine ⟨table h, fun g hg => ?_⟩
  have h1 := table h
  unfold Lib.TabIs World.var? at h1
  rw [hg] at h1
  simp only [Option.bind_some] at h1
  rcases Nat.lt_or_ge g W.heap.size with e | e
  · exact e
  · rw [Array.getElem?_eq_none e] at h1; cases h1


theorem cells29 : Tryd.prog.cellsOf 26 = 1 := by kernel_rfl
theorem cells3 : Tryd.prog.cellsOf 3 = 1 := by kernel_rfl
theorem cells5 : Tryd.prog.cellsOf 5 = 1 := by kernel_rfl
theorem cells31 : Tryd.prog.cellsOf 28 = 2 := by kernel_rfl
theorem cells33 : Tryd.prog.cellsOf 30 = 6 := by kernel_rfl
theorem cells35 : Tryd.prog.cellsOf 32 = 9 := by kernel_rfl
theorem und5 : Tryd.prog.underlying 5 = some (.int .u8) := by kernel_rfl
theorem und33 : Tryd.prog.underlying 30 = some (.array 6 5) := by kernel_rfl
theorem und26 : Tryd.prog.underlying 22 = some (.slice 32) := by kernel_rfl
theorem und31 : ∃ f0 f1, Tryd.prog.underlying 28 = some (.struct #[f0, f1]) ∧ f0.type = 26 ∧ f0.offset = 0 ∧ f1.type = 3 ∧ f1.offset = 1 := ⟨_, _, Tryd.underlying28, rfl, rfl, rfl, rfl⟩
theorem und35 : ∃ f0 f1 f2, Tryd.prog.underlying 32 = some (.struct #[f0, f1, f2]) ∧ f0.type = 26 ∧ f0.offset = 0 ∧ f1.type = 28 ∧ f1.offset = 1 ∧ f2.type = 30 ∧ f2.offset = 3 := ⟨_, _, _, Tryd.underlying32, rfl, rfl, rfl, rfl, rfl, rfl⟩

theorem u32_wf {a : Int} (h : (Lit.int .u32 a).wf = true) : ∃ n : Nat, a = (n : Int) ∧ n < 4294967296 := by
  have h' : (decide (IntKind.u32.min ≤ a) && decide (a ≤ IntKind.u32.max)) = true := h
  rw [show IntKind.u32.min = 0 from by decide +kernel, show IntKind.u32.max = 4294967295 from by decide +kernel] at h'
  simp at h'
  exact ⟨a.toNat, by omega, by omega⟩
theorem u8_wf {a : Int} (h : (Lit.int .u8 a).wf = true) : ∃ n : Nat, a = (n : Int) ∧ n < 256 := by
  have h' : (decide (IntKind.u8.min ≤ a) && decide (a ≤ IntKind.u8.max)) = true := h
  rw [show IntKind.u8.min = 0 from by decide +kernel, show IntKind.u8.max = 255 from by decide +kernel] at h'
  simp at h'
  exact ⟨a.toNat, by omega, by omega⟩

/-- An item that reads. -/
theorem open_item {H : Type} {enc : TypeId × Value → H} {W : World} {sp : Nat → Bool} {held : Bool} {fuel : Nat} {cs : List Value} {x : DataW H × List MemPlace} (h : DataW.trod enc Tryd.prog W 0 sp held fuel 32 cs = some x) :
    ∃ I : Itm, cs = I.cells.toList := by
  obtain ⟨f0, f1, f2, hu, t0, o0, t1, o1, t2, o2⟩ := und35
  obtain ⟨y0, y1, y2, n, hx, hl, g0, g1, g2⟩ := Go.Deep.trod_struct3 hu h
  rw [t0, o0, cells29] at g0
  rw [t1, o1, cells31] at g1
  rw [t2, o2, cells33] at g2
  rw [cells35] at hl
  obtain ⟨z0, e0, _, wf0⟩ := DataW.trod_int Tryd.underlying26 g0
  obtain ⟨a, rfl, ha⟩ := u32_wf wf0
  obtain ⟨k0, k1, hv, s0, p0, s1, p1⟩ := und31
  obtain ⟨_, _, n1, _, hl1, b0, b1⟩ := trod_struct2 hv g1
  rw [s0, p0, cells29] at b0
  rw [s1, p1, cells3] at b1
  obtain ⟨z1, e1, _, wf1⟩ := DataW.trod_int Tryd.underlying26 b0
  obtain ⟨px, rfl, hpx⟩ := u32_wf wf1
  obtain ⟨z2, e2, _, _⟩ := DataW.trod_int Tryd.underlying3 b1
  obtain ⟨xs, m, _, _, hl2, hxl, hall⟩ := DataW.trod_array und33 g2
  rw [cells5] at hall
  have key : ∀ i, i < 6 → ∃ k : Nat, k < 256 ∧ ((List.take 6 (List.drop 3 cs)).drop (i * 1)).take 1 = [.int .u8 (k : Int)] := by
    intro i hi
    have hh := hall i hi
    rw [List.getElem?_eq_getElem (by omega)] at hh
    obtain ⟨z, e, _, wf⟩ := DataW.trod_int und5 hh
    obtain ⟨k, rfl, hk⟩ := u8_wf wf
    exact ⟨k, hk, e⟩
  match cs, hl with
  | [c0, c1, c2, c3, c4, c5, c6, c7, c8], _ =>
    simp at e0 e1 e2
    subst e0 e1 e2
    obtain ⟨m0, q0, r0⟩ := key 0 (by omega)
    obtain ⟨m1, q1, r1⟩ := key 1 (by omega)
    obtain ⟨m2, q2, r2⟩ := key 2 (by omega)
    obtain ⟨m3, q3, r3⟩ := key 3 (by omega)
    obtain ⟨m4, q4, r4⟩ := key 4 (by omega)
    obtain ⟨m5, q5, r5⟩ := key 5 (by omega)
    simp at r0 r1 r2 r3 r4 r5
    subst r0 r1 r2 r3 r4 r5
    refine ⟨⟨a, px, z2, fun k => [m0, m1, m2, m3, m4, m5].getD k 0, ha, hpx, fun k hk => ?_⟩, rfl⟩
    match k, hk with
    | 0, _ => exact q0
    | 1, _ => exact q1
    | 2, _ => exact q2
    | 3, _ => exact q3
    | 4, _ => exact q4
    | 5, _ => exact q5

set_option maxRecDepth 100000 in
/-- A slice of items that came in. -/
theorem open_items {H : Type} {enc : TypeId × Value → H} {W : World} {base : Nat} {v : Value} {d : DataW H} {ps : List MemPlace} (hval : Value.okWide Tryd.prog W .any base 22 v) (h : DataW.Trod enc Tryd.prog W 0 (fun _ => true) true 22 v d ps) :
    ∃ L, SeesI W v L := by
  obtain ⟨a0, len, cap, rfl⟩ := okWide_slice und26 hval
  obtain ⟨fuel, hf⟩ := h
  rcases Go.Deep.open_slice und26 hf with ⟨h1, _⟩ | ⟨a, len', cap', m, n, D, Pl, h1, _, hlc, hcm, hm, _, hx⟩
  · simp [Value.cells] at h1
    obtain ⟨rfl, rfl, rfl⟩ := h1
    exact ⟨[], none, 0, rfl, by simp, by unfold maxLen; omega, fun j hj => absurd hj (by simp)⟩
  · simp [Value.cells] at h1
    obtain ⟨rfl, rfl, rfl⟩ := h1
    simp at hm
    subst hm
    have key : ∀ i, i < len → ∃ I : Itm, ∀ j (hj : j < 9), W.cell? ((a.add (i * 9)).add j) = some (I.cells[j]'hj) := by
      intro i hi
      obtain ⟨cs', k1, k2⟩ := hx i (by omega)
      rw [cells35] at k1
      obtain ⟨_, _, hc⟩ := World.cells?_some k1
      obtain ⟨I, hI⟩ := open_item k2
      refine ⟨I, fun j hj => ?_⟩
      rw [hc j hj, hI]
      exact List.getElem?_eq_getElem hj
    have hch : ∃ F : Nat → Itm, ∀ i, i < len → ∀ j (hj : j < 9), W.cell? ((a.add (i * 9)).add j) = some ((F i).cells[j]'hj) := by
      by_cases h0 : len = 0
      · exact ⟨fun _ => ⟨0, 0, 0, fun _ => 0, by omega, by omega, fun _ _ => by omega⟩, fun i hi => by omega⟩
      · obtain ⟨I0, _⟩ := key 0 (by omega)
        refine ⟨fun i => if h : i < len then (key i h).choose else I0, fun i hi => ?_⟩
        simp only [dif_pos hi]
        exact (key i hi).choose_spec
    obtain ⟨F, hF⟩ := hch
    refine ⟨(List.range len).map F, some a, m, by simp, by simpa using hlc, hcm, fun j hj => ?_⟩
    have hj' : j < len := by simpa using hj
    have hsp : ∃ g off, a = ⟨g, off, none⟩ ∧ g < W.heap.size := by
      have z0 := hF 0 (by omega) 0 (by omega)
      have e : (a.add (0 * 9)).add 0 = a := by simp [Addr.add]
      rw [e] at z0
      have hlt := World.block_lt_of_cell? W a z0
      obtain ⟨g, off, sp⟩ := a
      cases sp with
      | none => exact ⟨g, off, rfl, hlt⟩
      | some s =>
        exfalso
        simp only [World.cell?] at z0
        split at z0 <;> simp at z0
    obtain ⟨g, off, rfl, hg⟩ := hsp
    refine ⟨g, off, rfl, hg, fun i hi => ?_⟩
    have hh := hF j hj' i hi
    rw [add_plain, add_plain] at hh
    rw [hh]
    simp only [List.getElem_map, List.getElem_range]
    rfl

set_option maxRecDepth 100000 in
/-- A slice of texts that came in. -/
theorem open_texts {H : Type} {enc : TypeId × Value → H} {W : World} {base : Nat} {v : Value} {d : DataW H} {ps : List MemPlace} (hval : Value.okWide Tryd.prog W .any base 23 v) (h : DataW.Trod enc Tryd.prog W 0 (fun _ => true) true 23 v d ps) :
    ∃ T, SeesS W v T := by
  obtain ⟨a0, len, cap, rfl⟩ := okWide_slice Tryd.underlying23 hval
  obtain ⟨fuel, hf⟩ := h
  rcases open_strings Tryd.underlying23 Tryd.underlying9 cells9 hf with ⟨h1, _⟩ | ⟨a, len', cap', ss, h1, _, hlc, hcm, hss, _, hc, hz⟩
  · simp [Value.cells] at h1
    obtain ⟨rfl, rfl, rfl⟩ := h1
    exact ⟨[], none, 0, rfl, by simp, by unfold maxLen; omega, fun j hj => absurd hj (by simp)⟩
  · simp [Value.cells] at h1
    obtain ⟨rfl, rfl, rfl⟩ := h1
    simp at hss
    have hlen : (ss.take len).length = len := by rw [List.length_take]; omega
    refine ⟨ss.take len, some a, cap, by rw [hlen], by rw [hlen]; exact hlc, hcm, fun j hj => ?_⟩
    have hj' : j < len := by rw [hlen] at hj; exact hj
    have hcj := hc j (by omega)
    have hsp : ∃ g off, a = ⟨g, off, none⟩ ∧ g < W.heap.size := by
      have z0 := hc 0 (by omega)
      have e : a.add 0 = a := by simp [Addr.add]
      rw [e] at z0
      have hlt := World.block_lt_of_cell? W a z0
      obtain ⟨g, off, sp⟩ := a
      cases sp with
      | none => exact ⟨g, off, rfl, hlt⟩
      | some s =>
        exfalso
        simp only [World.cell?] at z0
        split at z0 <;> simp at z0
    obtain ⟨g, off, rfl, hg⟩ := hsp
    rw [add_plain] at hcj
    have hel : (ss.take len)[j] = ss.getD j ByteArray.empty := by
      rw [List.getElem_take, List.getD_eq_getElem?_getD, List.getElem?_eq_getElem (by omega)]; rfl
    refine ⟨g, off, rfl, hg, by rw [hcj, hel], ?_⟩
    exact hz _ (List.mem_of_mem_take (List.getElem_mem hj))

set_option maxRecDepth 100000 in
theorem contract (H : Type) (enc : TypeId × Value → H) (W : World) (base : Nat) (args : Array Value) (ds gs : List (DataW H)) (before : List MemPlace)
    (hval : ∀ (j : Nat) t v, Tryd.f3.params[j]? = some t → args[j]? = some v → Value.okWide Tryd.prog W .any base t v)
    (hW : DataW.Whole enc Tryd.prog Tryd.f3.params.toList Rows.addrTwoWaysSpec.vars false W args.toList ds gs before) (hL : laidMetH Tryd.prog Rows.addrTwoWaysRow.laid W) :
    Calls Tryd.prog 3 args W fun e W' => ∃ v, e = .returned v ∧ Rows.addrTwoWaysSpec.post enc Tryd.prog Tryd.f3 false true false false W args v W' := by
  have hW' := hW
  obtain ⟨p, q, hA0, hV, rfl, hfz, hnd⟩ := hW
  have hA : DataW.TrodAll enc Tryd.prog W 0 (fun _ => true) true Tryd.f3.params.toList args.toList ds p := hA0
  rw [Tryd.params3] at hA hval
  obtain ⟨v0, vs0, d0, ds0, p0, q0, hargs, rfl, rfl, h0, r0⟩ := trodAll_cons hA
  obtain ⟨v1, vs1, d1, ds1, p1, q1, rfl, rfl, rfl, h1, r1⟩ := trodAll_cons r0
  obtain ⟨rfl, rfl, rfl⟩ := trodAll_nil r1
  obtain rfl : args = #[v0, v1] := by cases args; simp_all
  obtain ⟨rfl, rfl⟩ := trodVars_none hV
  clear hA0
  simp only [List.append_nil] at hW'
  obtain ⟨L, hs⟩ := open_items (hval 0 22 v0 rfl rfl) h0
  obtain ⟨T, ht⟩ := open_texts (hval 1 23 v1 rfl rfl) h1
  have hlt : ∀ x ∈ p0, x.block < W.heap.size := fun x hx => hW'.lt x (by simp [hx])
  have hlt1 : ∀ x ∈ p1, x.block < W.heap.size := fun x hx => hW'.lt x (by simp [hx])
  refine (addrTwoWays_walk v0 v1 L T W hs ht (tab hL)).mono fun e W' ⟨he, hg⟩ => ?_
  subst he
  exact ⟨_, rfl, _, _, _, [], p0 ++ (p1 ++ []), [], hW', trodAll_cons_mk (shut_bool Tryd.underlying4 _) trodAll_mk0, trodAll_cons_mk (Below.trod laidOut (by kernel_rfl) (of_decide_eq_true (by kernel_rfl)) h0 hg hlt) (trodAll_cons_mk (Below.trod laidOut (by kernel_rfl) (of_decide_eq_true (by kernel_rfl)) h1 hg hlt1) trodAll_mk0), rfl, hg.frame _, fun h => by cases h⟩

/-- The cells of a table of numbers, or of rows of numbers. -/
def aggCells : DataW Unit → Array Value
  | .agg ds => (ds.flatMap fun d => match d with
    | .lit (.int k z) => [Value.int k z]
    | .agg es => es.map fun e => match e with | .lit (.int k z) => Value.int k z | _ => .bool false
    | _ => [.bool false]).toArray
  | _ => #[]

def put (d : DataW Unit) : Obj → Obj
  | .cells _ t frozen => .cells (aggCells d) t frozen
  | o => o

/-- A world for the witness: the settled one, the tables holding what their initialisers lay. -/
noncomputable def laidWorld (os : Os) : World :=
  { World.holding Tryd.prog os ⟨#[], #[], []⟩ with heap := (((World.holding Tryd.prog os ⟨#[], #[], []⟩).heap.modify 1 (put Rows.laid_internal_strconv_uint64pow10)).modify 2 (put Rows.laid_math_bits_deBruijn32tab)).modify 3 (put Rows.laid_math_bits_deBruijn64tab) }
theorem laid_met (os : Os) : laidMet Tryd.prog Rows.addrTwoWaysRow.laid ((laidWorld os).forCall (fun _ _ => 0) ⟨#[], #[.slice none 0 0, .slice none 0 0], []⟩).memory :=
  laidMet_of_run' 8 (by kernel_rfl) (by kernel_rfl)
theorem reads (os : Os) {H : Type} (enc : TypeId × Value → H) : ∃ places, DataW.whole enc Tryd.prog ((laidWorld os).forCall (fun _ _ => 0) ⟨#[], #[.slice none 0 0, .slice none 0 0], []⟩).memory Tryd.f3.params.toList Rows.addrTwoWaysSpec.vars false #[Value.slice none 0 0, Value.slice none 0 0].toList 8 = some ([.nil, .nil], [], places) :=
  ⟨[], by kernel_rfl⟩

set_option maxRecDepth 100000 in
theorem lifted (os : Os) (started : os.Started) (H : Type) (enc : TypeId × Value → H) (F : Stop.Interp) :
    ReturnsInHanded {} Tryd.checked os 3 .any ((OpenSpec.ofChange Rows.addrTwoWaysSpec).preRow enc Tryd.prog Tryd.f3 Rows.addrTwoWaysRow.domain false Rows.addrTwoWaysRow.laid) (((OpenSpec.ofChange Rows.addrTwoWaysSpec).at F).post enc Tryd.prog Tryd.f3 false true false false) := by
  obtain ⟨places, hx⟩ := reads os enc
  refine returnsInHanded_of_row (C := Tryd.checked) (s := OpenSpec.ofChange Rows.addrTwoWaysSpec) own started (by kernel_rfl) Tryd.func3
    (witness_row_at (enc := enc) (C := Tryd.checked) false (laidWorld os) #[.slice none 0 0, .slice none 0 0] rfl (by kernel_rfl) (by kernel_rfl) (by kernel_rfl)
      (OpenSpec.preRow_of_cond 8 hx (by kernel_rfl) (fun k hk => by cases hk) (by kernel_rfl) (laid_met os))) ?_
  intro W base args ds gs before hval hW _ _ _ hL _ _
  exact contract H enc W base args ds gs before hval hW hL

theorem said : Rows.AddrTwoWaysSaid :=
  OpenClaim.holds_of_cond 3 Tryd.f3 rfl rfl rfl rfl rfl rfl rfl ⟨rfl, rfl, rfl, rfl, rfl⟩ rfl rfl rfl rfl rfl (by kernel_rfl) Tryd.func3 (by kernel_rfl)
    (of_decide_eq_true (by kernel_rfl)) (by unfold Func.isWrapper; first | (rw [if_pos (by decide +kernel)]; kernel_rfl) | (rw [if_neg (by decide +kernel)]; exact ⟨rfl, rfl⟩))
    (fun os started H enc _ F => by rw [OpenClaim.pre_eq_preRow]; exact lifted os started H enc F)

/-- No parameter wants a stand-in; the program's own looks are off. -/
theorem plain (f : FuncId) (fn : Func) (hf : Tryd.pinned.checked.prog.funcNamed "weft/weftlaw1.AddrTwoWays" = some f) (hfn : Tryd.pinned.checked.prog.funcs[f]? = some fn) :
    false = Tryd.pinned.checked.prog.looks [] ∧ ∀ (j : Nat) t, fn.params[j]? = some t → Tryd.pinned.checked.prog.wantsStandIn t = false := by
  obtain rfl : f = 3 := Option.some.inj ((show Tryd.prog.funcNamed "weft/weftlaw1.AddrTwoWays" = some 3 by kernel_rfl).symm.trans hf) |>.symm
  obtain rfl : fn = Tryd.f3 := (Option.some.inj (Tryd.func3.symm.trans hfn)).symm
  refine ⟨by kernel_rfl, fun j t ht => ?_⟩
  rw [Tryd.params3] at ht
  have ht' := Array.mem_of_getElem? ht
  simp at ht'
  rcases ht' with rfl | rfl
  · exact (show Tryd.prog.wantsStandIn 22 = false by kernel_rfl)
  · exact (show Tryd.prog.wantsStandIn 23 = false by kernel_rfl)

theorem card : Rows.AddrTwoWaysCardSaid :=
  Claim7.holds_tied_plain_at .later [] _ _ _ _ said (fun _ h => by cases h) (by kernel_rfl) (fun _ h => by cases h) addrTwoWays_row_tie rfl ⟨rfl, rfl⟩ (by kernel_rfl) rfl plain (by kernel_rfl)
end Go.Proofs.YtenhofbhkchjoaaDoor.addrTwoWays
namespace Go.Proofs.YtenhofbhkchjoaaDoor
theorem addrTwoWays_holds : Rows.AddrTwoWaysCardSaid := addrTwoWays.card
#print axioms addrTwoWays_holds
end Go.Proofs.YtenhofbhkchjoaaDoor
