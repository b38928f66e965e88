/-
  What came in, opened.
-/
import Derived.Test.YthbjfbalgejndaaTJ
import Derived.Deep.Slices
import Derived.Deep.SlicePairs
import Derived.SizedLaws
namespace Go.Proofs.Ythbjfbalgejndaa
open Go.ChangeShapes Go.WideShapes Go.ChangeAt Go.RowKit H
set_option maxRecDepth 100000

theorem ownT : ownKnob Try.prog.godebug = none := by kernel_rfl
theorem laidOutT : laidOutB Try.prog = true := by kernel_rfl
theorem cells35 : Try.prog.cellsOf 35 = 2 := by kernel_rfl
theorem cells3 : Try.prog.cellsOf 3 = 1 := by kernel_rfl
theorem cells2 : Try.prog.cellsOf 2 = 1 := by kernel_rfl
theorem bytes35 : Try.prog.bytesOf 35 = 16 := by kernel_rfl

theorem wf64 {a : Int} (h : (Lit.int .i64 a).wf = true) : In64 a := by
  have h' : (decide (IntKind.i64.min ≤ a) && decide (a ≤ IntKind.i64.max)) = true := h
  rw [show IntKind.i64.min = -9223372036854775808 from by decide +kernel, show IntKind.i64.max = 9223372036854775807 from by decide +kernel] at h'
  simp at h'
  exact ⟨h'.1, h'.2⟩

theorem add_plain (g off i : Nat) : (⟨g, off, none⟩ : Addr).add i = ⟨g, off + i, none⟩ := by simp [Addr.add]

/-- A slice of pairs that came in. -/
theorem open_pairs {H : Type} {enc : TypeId × Value → H} {W : World} {base : Nat} {v : Value} {d : DataW H} {ps : List MemPlace} (hval : Value.okWide Try.prog W .any base 25 v) (h : DataW.Trod enc Try.prog W 0 (fun _ => true) true 25 v d ps) :
    ∃ L, SeesP W v L ∧ (L ≠ [] → ∃ es sp, d = .slice es sp ∧ es.length = L.length) := by
  obtain ⟨a0, len, cap, rfl⟩ := okWide_slice Try.underlying25 hval
  obtain ⟨fuel, hf⟩ := h
  rcases Go.Deep.open_slice_pairs Try.underlying25 Try.underlying35 cells35 rfl rfl cells3 cells2 hf with ⟨h1, h2⟩ | ⟨a, len', cap', m, k, V0, V1, D0, D1, P0, P1, h1, _, hlc, hcm, hm, hx, hc⟩
  · simp [Value.cells] at h1
    obtain ⟨rfl, rfl, rfl⟩ := h1
    exact ⟨[], ⟨none, 0, rfl, by simp, by unfold maxLen; omega, fun j hj => absurd hj (by simp)⟩, fun h => absurd rfl h⟩
  · simp [Value.cells] at h1
    obtain ⟨rfl, rfl, rfl⟩ := h1
    simp at hm
    subst hm
    have key : ∀ i, i < len → ∃ x y : Int, (In64 x ∧ In64 y) ∧ V0 i = .int .i64 x ∧ V1 i = .int .i64 y := by
      intro i hi
      obtain ⟨_, _, t0, t1⟩ := hc i (by omega)
      obtain ⟨n0, e0, _, w0⟩ := DataW.trod_int Try.underlying3 t0
      obtain ⟨n1, e1, _, w1⟩ := DataW.trod_int Try.underlying2 t1
      simp at e0 e1
      exact ⟨n0, n1, ⟨wf64 w0, wf64 w1⟩, e0, e1⟩
    refine ⟨(List.range len).map fun i => (intOf (V0 i), intOf (V1 i)), ⟨some a, m, by simp, by simpa using hlc, hcm, fun j hj => ?_⟩, fun _ => ?_⟩
    · have hj' : j < len := by simpa using hj
      obtain ⟨x, y, hxy, e0, e1⟩ := key j hj'
      obtain ⟨k0, k1, _, _⟩ := hc j (by omega)
      have hsp : ∃ g off, a = ⟨g, off, none⟩ ∧ g < W.heap.size := by
        obtain ⟨z0, _, _, _⟩ := hc 0 (by omega)
        simp only [Nat.zero_mul] at z0
        have e : a.add 0 = a := by simp [Addr.add]
        rw [e] at z0
        have hlt := World.block_lt_of_cell? W a z0
        obtain ⟨g, off, sp⟩ := a
        cases sp with
        | none => exact ⟨g, off, rfl, hlt⟩
        | some s =>
          exfalso
          simp only [World.cell?] at z0
          split at z0 <;> simp at z0
      obtain ⟨g, off, rfl, hg⟩ := hsp
      rw [add_plain] at k0 k1
      refine ⟨g, off, rfl, hg, ?_, ?_, ?_, ?_⟩
      · rw [k0, e0]; simp [e0, intOf]
      · rw [Nat.add_assoc, k1, e1]; simp [e1, intOf]
      · simp [e0, intOf]; exact hxy.1
      · simp [e1, intOf]; exact hxy.2
    · simp at hx
      exact ⟨_, _, hx.1, by simp⟩
end Go.Proofs.Ythbjfbalgejndaa
