/-
  What comes in.
-/
import Derived.Test.YtaelfhjhinfikabDP
import Derived.Deep.Slices
import Derived.SizedLaws
namespace Go.Proofs.Ytaelfhjhinfikab
open Go.ChangeShapes Go.WideShapes Go.ChangeAt Go.RowKit Me
set_option maxHeartbeats 1000000
set_option maxRecDepth 100000

theorem wf_u8 {a : Int} (h : (Lit.int .u8 a).wf = true) : ∃ n : Nat, a = (n : Int) ∧ n < 256 := by
  have h' : (decide (IntKind.u8.min ≤ a) && decide (a ≤ IntKind.u8.max)) = true := h
  rw [show IntKind.u8.min = 0 from by decide +kernel, show IntKind.u8.max = 255 from by decide +kernel] at h'
  simp at h'
  exact ⟨a.toNat, by omega, by omega⟩
theorem u32_wf {a : Int} (h : (Lit.int .u32 a).wf = true) : ∃ n : Nat, a = (n : Int) ∧ n < 4294967296 := by
  have h' : (decide (IntKind.u32.min ≤ a) && decide (a ≤ IntKind.u32.max)) = true := h
  rw [show IntKind.u32.min = 0 from by decide +kernel, show IntKind.u32.max = 4294967295 from by decide +kernel] at h'
  simp at h'
  exact ⟨a.toNat, by omega, by omega⟩
theorem i64_wf {a : Int} (h : (Lit.int .i64 a).wf = true) : -9223372036854775808 ≤ a ∧ a ≤ 9223372036854775807 := by
  have h' : (decide (IntKind.i64.min ≤ a) && decide (a ≤ IntKind.i64.max)) = true := h
  rw [show IntKind.i64.min = -9223372036854775808 from by decide +kernel, show IntKind.i64.max = 9223372036854775807 from by decide +kernel] at h'
  simpa using h'

theorem add_plain (g off i : Nat) : (⟨g, off, none⟩ : Addr).add i = ⟨g, off + i, none⟩ := by simp [Addr.add]
theorem cellsAdr : Try.prog.cellsOf 38 = 1 := by kernel_rfl
theorem cellsInt : Try.prog.cellsOf 3 = 1 := by kernel_rfl
theorem cellsBys : Try.prog.cellsOf 39 = 1 := by kernel_rfl
theorem cellsByt : Try.prog.cellsOf 5 = 1 := by kernel_rfl
theorem cellsSns : Try.prog.cellsOf 33 = 1 := by kernel_rfl
theorem cellsSn : Try.prog.cellsOf 41 = 2 := by kernel_rfl
theorem cellsOp : Try.prog.cellsOf 35 = 5 := by kernel_rfl
theorem uOs : Try.prog.underlying 22 = some (.slice 35) := by kernel_rfl
theorem uAd : Try.prog.underlying 38 = some (.int .u32) := by kernel_rfl
theorem u5 : Try.prog.underlying 5 = some (.int .u8) := by kernel_rfl

theorem spot_none {W : World} {a : Addr} {v : Value} (h : W.cell? a = some v) : ∃ g off, a = ⟨g, off, none⟩ ∧ g < W.heap.size := by
  have hlt := World.block_lt_of_cell? W a h
  obtain ⟨g, off, sp⟩ := a
  cases sp with
  | none => exact ⟨g, off, rfl, hlt⟩
  | some s =>
    exfalso
    simp only [World.cell?] at h
    split at h <;> simp at h

instance : Nonempty Stp := ⟨⟨0, [], 0, 0, 0⟩⟩
instance : Nonempty Value := ⟨.bool true⟩
theorem pickF {α : Type} [Nonempty α] {n : Nat} {P : Nat → α → Prop} (h : ∀ i, i < n → ∃ x, P i x) : ∃ F : Nat → α, ∀ i, i < n → P i (F i) := by
  classical
  refine ⟨fun i => if h' : i < n then (h i h').choose else Classical.choice inferInstance, fun i hi => ?_⟩
  simp only [dif_pos hi]
  exact (h i hi).choose_spec

section
variable {H : Type} {enc : TypeId × Value → H} {W : World}

theorem open_bytes {fuel : Nat} {cs : List Value} {x : DataW H × List MemPlace} (hf : DataW.trod enc Try.prog W 0 (fun _ => true) true fuel 39 cs = some x) :
    ∃ v L, cs = [v] ∧ SeesB (fun k => k < W.heap.size) W v L := by
  rcases Go.Deep.open_slice uB hf with ⟨h1, hx⟩ | ⟨a, len, cap, m, n, D, Pl, h1, _, hlc, hcm, hm, hxx, hx⟩
  · exact ⟨_, [], h1, seesB_nil _ W⟩
  · simp at hm
    subst hm
    have key : ∀ i, i < len → ∃ y : Nat, y < 256 ∧ W.cell? (a.add i) = some (.int .u8 (y : Int)) := by
      intro i hi
      obtain ⟨cs', k1, k2⟩ := hx i (by omega)
      rw [cellsByt, Nat.mul_one] at k1
      obtain ⟨_, hlen, hc⟩ := World.cells?_some k1
      obtain ⟨z, e, _, hz⟩ := DataW.trod_int u5 k2
      obtain ⟨y, rfl, hy⟩ := wf_u8 hz
      refine ⟨y, hy, ?_⟩
      have := hc 0 (by omega)
      rw [e] at this
      simpa [Addr.add] using this
    by_cases h0 : len = 0
    · subst h0
      exact ⟨_, [], h1, ⟨some a, m, rfl, ⟨by simp, fun e => by cases e⟩, hcm, fun j hj => absurd hj (by simp)⟩⟩
    obtain ⟨F, hF⟩ := pickF key
    obtain ⟨g, off, rfl, hg⟩ : ∃ g off, a = ⟨g, off, none⟩ ∧ g < W.heap.size := by
      have z0 := (hF 0 (by omega)).2
      have e : a.add 0 = a := by simp [Addr.add]
      rw [e] at z0
      exact spot_none z0
    refine ⟨_, (List.range len).map F, h1, ⟨some ⟨g, off, none⟩, m, by simp, ⟨by simpa using hlc, fun e => by cases e⟩, hcm, fun j hj => ?_⟩⟩
    have hj' : j < len := by simpa using hj
    simp only [List.getElem_map, List.getElem_range]
    obtain ⟨q1, q2⟩ := hF j hj'
    rw [add_plain] at q2
    exact ⟨g, off, rfl, ⟨hg, hg⟩, q2, q1⟩

theorem open_sent {fuel : Nat} {cs : List Value} {x : DataW H × List MemPlace} (hf : DataW.trod enc Try.prog W 0 (fun _ => true) true fuel 41 cs = some x) :
    ∃ (ad : Nat) (v : Value) (L : List Nat), cs = [.int .u32 (ad : Int), v] ∧ ad < 4294967296 ∧ SeesB (fun k => k < W.heap.size) W v L := by
  obtain ⟨xs, n, _, rfl, hl, hxl, hff⟩ := DataW.trod_struct Try.underlying41 hf
  rw [cellsSn] at hl
  match xs, hxl, cs, hl with
  | [y0, y1], _, [v0, v1], _ =>
    have g0 := hff 0 _ rfl
    have g1 := hff 1 _ rfl
    simp [cellsAdr, cellsBys] at g0 g1
    obtain ⟨n0, e0, _, w0⟩ := DataW.trod_int uAd g0
    obtain ⟨v, L, e1, hs⟩ := open_bytes g1
    simp at e0 e1
    subst e0 e1
    obtain ⟨a0, rfl, h0⟩ := u32_wf w0
    exact ⟨a0, _, L, rfl, h0, hs⟩

theorem open_sents {fuel : Nat} {cs : List Value} {x : DataW H × List MemPlace} (hf : DataW.trod enc Try.prog W 0 (fun _ => true) true fuel 33 cs = some x) :
    ∃ v L, cs = [v] ∧ SeesS (fun k => k < W.heap.size) W v L := by
  rcases Go.Deep.open_slice uS hf with ⟨h1, hx⟩ | ⟨a, len, cap, m, n, D, Pl, h1, _, hlc, hcm, hm, hxx, hx⟩
  · exact ⟨_, [], h1, seesS_nil _ W⟩
  · simp at hm
    subst hm
    have key : ∀ i, i < len → ∃ y : Nat × Value × List Nat, y.1 < 4294967296 ∧ W.cell? ((a.add (i * 2)).add 0) = some (.int .u32 (y.1 : Int)) ∧ W.cell? ((a.add (i * 2)).add 1) = some y.2.1 ∧ SeesB (fun k => k < W.heap.size) W y.2.1 y.2.2 := by
      intro i hi
      obtain ⟨cs', k1, k2⟩ := hx i (by omega)
      rw [cellsSn] at k1
      obtain ⟨_, hlen, hc⟩ := World.cells?_some k1
      obtain ⟨ad, v, L, hcs, had, hs⟩ := open_sent k2
      refine ⟨(ad, v, L), had, ?_, ?_, hs⟩
      · have := hc 0 (by omega)
        rw [hcs] at this
        simpa using this
      · have := hc 1 (by omega)
        rw [hcs] at this
        simpa using this
    by_cases h0 : len = 0
    · subst h0
      exact ⟨_, [], h1, ⟨some a, m, rfl, ⟨by simp, fun e => by cases e⟩, hcm, fun j hj => absurd hj (by simp)⟩⟩
    obtain ⟨F, hF⟩ := pickF key
    obtain ⟨g, off, rfl, hg⟩ : ∃ g off, a = ⟨g, off, none⟩ ∧ g < W.heap.size := by
      have z0 := (hF 0 (by omega)).2.1
      have e : (a.add (0 * 2)).add 0 = a := by simp [Addr.add]
      rw [e] at z0
      exact spot_none z0
    refine ⟨_, (List.range len).map fun i => ⟨(F i).1, (F i).2.2⟩, h1, ⟨some ⟨g, off, none⟩, m, by simp, ⟨by simpa using hlc, fun e => by cases e⟩, hcm, fun j hj => ?_⟩⟩
    have hj' : j < len := by simpa using hj
    simp only [List.getElem_map, List.getElem_range]
    obtain ⟨q1, q2, q3, q4⟩ := hF j hj'
    simp only [add_plain] at q2 q3
    exact ⟨g, off, _, rfl, ⟨hg, hg⟩, q2, q3, q4, q1⟩

theorem open_op {fuel : Nat} {cs : List Value} {x : DataW H × List MemPlace} (hf : DataW.trod enc Try.prog W 0 (fun _ => true) true fuel 35 cs = some x) :
    ∃ (o : Stp) (v : Value), cs = [.int .i64 o.k, v, .int .i64 o.i, .int .i64 o.a, .int .u8 (o.x : Int)] ∧ o.x < 256 ∧ SeesS (fun k => k < W.heap.size) W v o.L := by
  obtain ⟨xs, n, _, rfl, hl, hxl, hff⟩ := DataW.trod_struct Try.underlying35 hf
  rw [cellsOp] at hl
  match xs, hxl, cs, hl with
  | [y0, y1, y2, y3, y4], _, [v0, v1, v2, v3, v4], _ =>
    have g0 := hff 0 _ rfl
    have g1 := hff 1 _ rfl
    have g2 := hff 2 _ rfl
    have g3 := hff 3 _ rfl
    have g4 := hff 4 _ rfl
    simp [cellsInt, cellsSns, cellsByt] at g0 g1 g2 g3 g4
    obtain ⟨n0, e0, _, w0⟩ := DataW.trod_int Try.underlying3 g0
    obtain ⟨v, L, e1, hs⟩ := open_sents g1
    obtain ⟨n2, e2, _, w2⟩ := DataW.trod_int Try.underlying3 g2
    obtain ⟨n3, e3, _, w3⟩ := DataW.trod_int Try.underlying3 g3
    obtain ⟨n4, e4, _, w4⟩ := DataW.trod_int u5 g4
    simp at e0 e1 e2 e3 e4
    subst e0 e1 e2 e3 e4
    obtain ⟨a0, rfl, h0⟩ := wf_u8 w4
    exact ⟨⟨n0, L, n2, n3, a0⟩, _, rfl, h0, hs⟩

theorem open_os {base : Nat} {v : Value} {d : DataW H} {ps : List MemPlace} (hval : Value.okWide Try.prog W .any base 22 v) (h : DataW.Trod enc Try.prog W 0 (fun _ => true) true 22 v d ps) :
    ∃ S : List Stp, SeesO (fun k => k < W.heap.size) W v S := by
  obtain ⟨a0, len, cap, rfl⟩ := okWide_slice uOs hval
  obtain ⟨fuel, hf⟩ := h
  rcases Go.Deep.open_slice uOs hf with ⟨h1, _⟩ | ⟨a, len', cap', m, n, D, Pl, h1, _, hlc, hcm, hm, hxx, hx⟩
  · simp [Value.cells] at h1
    obtain ⟨rfl, rfl, rfl⟩ := h1
    exact ⟨[], ⟨none, 0, rfl, by simp, by unfold maxLen; omega, fun j hj => absurd hj (by simp)⟩⟩
  · simp [Value.cells] at h1
    obtain ⟨rfl, rfl, rfl⟩ := h1
    simp at hm
    subst hm
    have key : ∀ i, i < len → ∃ y : Stp × Value, (W.cell? ((a.add (i * 5)).add 0) = some (.int .i64 y.1.k) ∧ W.cell? ((a.add (i * 5)).add 1) = some y.2 ∧ W.cell? ((a.add (i * 5)).add 2) = some (.int .i64 y.1.i) ∧ W.cell? ((a.add (i * 5)).add 3) = some (.int .i64 y.1.a) ∧ W.cell? ((a.add (i * 5)).add 4) = some (.int .u8 (y.1.x : Int))) ∧ SeesS (fun k => k < W.heap.size) W y.2 y.1.L ∧ y.1.x < 256 := by
      intro i hi
      obtain ⟨cs', k1, k2⟩ := hx i (by omega)
      rw [cellsOp] at k1
      obtain ⟨_, hlen, hc⟩ := World.cells?_some k1
      obtain ⟨o, v, hcs, hx2, hs⟩ := open_op k2
      refine ⟨(o, v), ⟨?_, ?_, ?_, ?_, ?_⟩, hs, hx2⟩
      · have := hc 0 (by omega); rw [hcs] at this; simpa using this
      · have := hc 1 (by omega); rw [hcs] at this; simpa using this
      · have := hc 2 (by omega); rw [hcs] at this; simpa using this
      · have := hc 3 (by omega); rw [hcs] at this; simpa using this
      · have := hc 4 (by omega); rw [hcs] at this; simpa using this
    by_cases h0 : len = 0
    · subst h0
      exact ⟨[], ⟨some a, m, rfl, by simp, hcm, fun j hj => absurd hj (by simp)⟩⟩
    obtain ⟨F, hF⟩ := pickF key
    obtain ⟨g, off, rfl, hg⟩ : ∃ g off, a = ⟨g, off, none⟩ ∧ g < W.heap.size := by
      have z0 := (hF 0 (by omega)).1.1
      have e : (a.add (0 * 5)).add 0 = a := by simp [Addr.add]
      rw [e] at z0
      exact spot_none z0
    refine ⟨(List.range len).map fun i => (F i).1, ⟨some ⟨g, off, none⟩, m, by simp, by simpa using hlc, hcm, fun j hj => ?_⟩⟩
    have hj' : j < len := by simpa using hj
    simp only [List.getElem_map, List.getElem_range]
    obtain ⟨q1, q2, q3⟩ := hF j hj'
    simp only [add_plain] at q1
    exact ⟨g, off, _, rfl, ⟨hg, hg⟩, q1, q2, q3⟩

theorem open_it {base : Nat} {v : Value} {d : DataW H} {ps : List MemPlace} (hval : Value.okWide Try.prog W .any base 3 v) (h : DataW.Trod enc Try.prog W 0 (fun _ => true) true 3 v d ps) :
    ∃ n : Int, v = .int .i64 n ∧ -9223372036854775808 ≤ n ∧ n ≤ 9223372036854775807 := by
  obtain ⟨n, rfl⟩ := okWide_int Try.underlying3 hval
  obtain ⟨fuel, hf⟩ := h
  obtain ⟨n', e, _, hw⟩ := DataW.trod_int Try.underlying3 hf
  simp [Value.cells] at e
  subst e
  exact ⟨n, rfl, i64_wf hw⟩
end
end Go.Proofs.Ytaelfhjhinfikab
