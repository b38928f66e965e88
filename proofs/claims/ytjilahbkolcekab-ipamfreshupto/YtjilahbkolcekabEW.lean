/-
  A prefix, a script, a text, a number, coming in.
-/
import Derived.Test.YtjilahbkolcekabES
import Derived.Deep.Slices
import Derived.SizedLaws
namespace Go.Proofs.Ytjilahbkolcekab
open Go.ChangeShapes Go.WideShapes Go.ChangeAt Go.RowKit Tri
set_option maxHeartbeats 1000000
set_option maxRecDepth 100000

theorem u32_wf {a : Int} (h : (Lit.int .u32 a).wf = true) : ∃ n : Nat, a = (n : Int) ∧ n < 4294967296 := by
  have h' : (decide (IntKind.u32.min ≤ a) && decide (a ≤ IntKind.u32.max)) = true := h
  rw [show IntKind.u32.min = 0 from by decide +kernel, show IntKind.u32.max = 4294967295 from by decide +kernel] at h'
  simp at h'
  exact ⟨a.toNat, by omega, by omega⟩
theorem i64_wf {a : Int} (h : (Lit.int .i64 a).wf = true) : -9223372036854775808 ≤ a ∧ a ≤ 9223372036854775807 := by
  have h' : (decide (IntKind.i64.min ≤ a) && decide (a ≤ IntKind.i64.max)) = true := h
  rw [show IntKind.i64.min = -9223372036854775808 from by decide +kernel, show IntKind.i64.max = 9223372036854775807 from by decide +kernel] at h'
  simpa using h'

theorem add_plain (g off i : Nat) : (⟨g, off, none⟩ : Addr).add i = ⟨g, off + i, none⟩ := by simp [Addr.add]
theorem cellsPre : Try.prog.cellsOf 25 = 2 := by kernel_rfl
theorem cellsAdr : Try.prog.cellsOf 23 = 1 := by kernel_rfl
theorem cellsInt : Try.prog.cellsOf 3 = 1 := by kernel_rfl
theorem cellsStr : Try.prog.cellsOf 9 = 1 := by kernel_rfl
theorem cellsOp : Try.prog.cellsOf 38 = 3 := by kernel_rfl
theorem bytesOp : Try.prog.bytesOf 38 = 32 := by kernel_rfl

theorem spot_none {W : World} {a : Addr} {v : Value} (h : W.cell? a = some v) : ∃ g off, a = ⟨g, off, none⟩ ∧ g < W.heap.size := by
  have hlt := World.block_lt_of_cell? W a h
  obtain ⟨g, off, sp⟩ := a
  cases sp with
  | none => exact ⟨g, off, rfl, hlt⟩
  | some s =>
    exfalso
    simp only [World.cell?] at h
    split at h <;> simp at h

section
variable {H : Type} {enc : TypeId × Value → H} {W : World}

theorem open_px {base : Nat} {v : Value} {d : DataW H} {ps : List MemPlace} (hval : Value.okWide Try.prog W .any base 25 v) (h : DataW.Trod enc Try.prog W 0 (fun _ => true) true 25 v d ps) :
    ∃ (x : Nat) (y : Int), v = .agg #[.int .u32 (x : Int), .int .i64 y] ∧ x < 4294967296 ∧ -9223372036854775808 ≤ y ∧ y ≤ 9223372036854775807 := by
  obtain ⟨cs, rfl, _⟩ := okWide_struct Try.underlying25 hval
  obtain ⟨fuel, hf⟩ := h
  obtain ⟨xs, n, _, _, hl, hxl, hff⟩ := DataW.trod_struct Try.underlying25 hf
  rw [cellsPre] at hl
  obtain ⟨cl⟩ := cs
  simp only [Value.cells] at hl hff
  match xs, hxl, cl, hl with
  | [y0, y1], _, [v0, v1], _ =>
    have g0 := hff 0 _ rfl
    have g1 := hff 1 _ rfl
    simp [cellsInt, cellsAdr] at g0 g1
    obtain ⟨n0, e0, _, w0⟩ := DataW.trod_int uAd g0
    obtain ⟨n1, e1, _, w1⟩ := DataW.trod_int Try.underlying3 g1
    simp at e0 e1
    subst e0 e1
    obtain ⟨a0, rfl, h0⟩ := u32_wf w0
    exact ⟨a0, n1, rfl, h0, i64_wf w1⟩

theorem open_st {base : Nat} {v : Value} {d : DataW H} {ps : List MemPlace} (hval : Value.okWide Try.prog W .any base 9 v) (h : DataW.Trod enc Try.prog W 0 (fun _ => true) true 9 v d ps) :
    ∃ s : ByteArray, v = .string s ∧ s.size ≤ maxLen := by
  obtain ⟨s, rfl⟩ := okWide_string Try.underlying9 hval
  obtain ⟨fuel, hf⟩ := h
  obtain ⟨s', e, _, hs⟩ := DataW.trod_string Try.underlying9 hf
  simp [Value.cells] at e
  subst e
  exact ⟨s, rfl, hs⟩

theorem open_it {base : Nat} {v : Value} {d : DataW H} {ps : List MemPlace} (hval : Value.okWide Try.prog W .any base 3 v) (h : DataW.Trod enc Try.prog W 0 (fun _ => true) true 3 v d ps) :
    ∃ n : Int, v = .int .i64 n ∧ -9223372036854775808 ≤ n ∧ n ≤ 9223372036854775807 := by
  obtain ⟨n, rfl⟩ := okWide_int Try.underlying3 hval
  obtain ⟨fuel, hf⟩ := h
  obtain ⟨n', e, _, hw⟩ := DataW.trod_int Try.underlying3 hf
  simp [Value.cells] at e
  subst e
  exact ⟨n, rfl, i64_wf hw⟩

theorem open_op {fuel : Nat} {cs : List Value} {x : DataW H × List MemPlace} (h : DataW.trod enc Try.prog W 0 (fun _ => true) true fuel 38 cs = some x) :
    ∃ q : Stp, (q.n.size ≤ maxLen ∧ q.a < 4294967296) ∧ cs = q.cells.toList := by
  obtain ⟨xs, n, _, rfl, hl, hxl, hff⟩ := DataW.trod_struct Try.underlying38 h
  rw [cellsOp] at hl
  match xs, hxl, cs, hl with
  | [y0, y1, y2], _, [v0, v1, v2], _ =>
    have g0 := hff 0 _ rfl
    have g1 := hff 1 _ rfl
    have g2 := hff 2 _ rfl
    simp [cellsInt, cellsStr, cellsAdr] at g0 g1 g2
    obtain ⟨n0, e0, _, w0⟩ := DataW.trod_int Try.underlying3 g0
    obtain ⟨s1, e1, _, w1⟩ := DataW.trod_string Try.underlying9 g1
    obtain ⟨m2, e2, _, w2⟩ := DataW.trod_int uAd g2
    simp at e0 e1 e2
    subst e0 e1 e2
    obtain ⟨a0, rfl, h0⟩ := u32_wf w2
    exact ⟨⟨n0, s1, a0⟩, ⟨w1, h0⟩, rfl⟩

theorem open_os {base : Nat} {v : Value} {d : DataW H} {ps : List MemPlace} (hval : Value.okWide Try.prog W .any base 26 v) (h : DataW.Trod enc Try.prog W 0 (fun _ => true) true 26 v d ps) (hw : ∀ x ∈ d.weights Try.prog 26, x ≤ reachBytes) :
    ∃ S : List Stp, SeesO W v S ∧ OkO S ∧ S.length * 32 ≤ 140737488355328 := by
  obtain ⟨a0, len, cap, rfl⟩ := okWide_slice Try.underlying26 hval
  obtain ⟨fuel, hf⟩ := h
  rcases Go.Deep.open_slice Try.underlying26 hf with ⟨h1, _⟩ | ⟨a, len', cap', m, n, D, Pl, h1, _, hlc, hcm, hm, hxx, hx⟩
  · simp [Value.cells] at h1
    obtain ⟨rfl, rfl, rfl⟩ := h1
    exact ⟨[], ⟨none, 0, rfl, by simp, by unfold maxLen; omega, fun j hj => absurd hj (by simp)⟩, (fun o ho => by cases ho), by simp⟩
  · simp [Value.cells] at h1
    obtain ⟨rfl, rfl, rfl⟩ := h1
    simp at hm
    subst hm
    simp only [Prod.mk.injEq] at hxx
    obtain ⟨rfl, _⟩ := hxx
    have hbig : len * 32 ≤ 140737488355328 := by
      have := hw ((((List.range len).map D).length + ((List.range (m - len)).map fun j => D (len + j)).length) * Try.prog.bytesOf 38) (by simp [DataW.weights, Try.underlying26])
      rw [bytesOp] at this
      simp only [List.length_map, List.length_range] at this
      unfold reachBytes at this
      omega
    have key : ∀ i, i < len → ∃ q : Stp, (q.n.size ≤ maxLen ∧ q.a < 4294967296) ∧ ∀ j (hj : j < 3), W.cell? ((a.add (i * 3)).add j) = q.cells[j]? := by
      intro i hi
      obtain ⟨cs', k1, k2⟩ := hx i (by omega)
      rw [cellsOp] at k1
      obtain ⟨_, hlen, hc⟩ := World.cells?_some k1
      obtain ⟨q, hq, hcs⟩ := open_op k2
      refine ⟨q, hq, fun j hj => ?_⟩
      rw [hc j (by omega), hcs]
      simp
    by_cases h0 : len = 0
    · subst h0
      exact ⟨[], ⟨some a, m, rfl, by simp, hcm, fun j hj => absurd hj (by simp)⟩, (fun o ho => by cases ho), by simp⟩
    obtain ⟨c0, _⟩ := key 0 (by omega)
    obtain ⟨F, hF⟩ : ∃ F : Nat → Stp, ∀ i, i < len → ((F i).n.size ≤ maxLen ∧ (F i).a < 4294967296) ∧ ∀ j (hj : j < 3), W.cell? ((a.add (i * 3)).add j) = (F i).cells[j]? := by
      refine ⟨fun i => if h : i < len then (key i h).choose else c0, fun i hi => ?_⟩
      simp only [dif_pos hi]
      exact (key i hi).choose_spec
    obtain ⟨g, off, rfl, hg⟩ : ∃ g off, a = ⟨g, off, none⟩ ∧ g < W.heap.size := by
      have z0 := (hF 0 (by omega)).2 0 (by omega)
      have e : (a.add (0 * 3)).add 0 = a := by simp [Addr.add]
      rw [e] at z0
      exact spot_none (z0.trans (by rfl))
    refine ⟨(List.range len).map F, ⟨some ⟨g, off, none⟩, m, by simp, by simpa using hlc, hcm, fun j hj => ?_⟩, fun o ho => ?_, by simpa using hbig⟩
    · have hj' : j < len := by simpa using hj
      simp only [List.getElem_map, List.getElem_range]
      have hh := (hF j hj').2
      simp only [add_plain] at hh
      exact ⟨g, off, rfl, hg, hh 0 (by omega), hh 1 (by omega), hh 2 (by omega)⟩
    · obtain ⟨i, hi, rfl⟩ := List.mem_map.1 ho
      exact (hF i (by simpa using hi)).1
end
end Go.Proofs.Ytjilahbkolcekab
