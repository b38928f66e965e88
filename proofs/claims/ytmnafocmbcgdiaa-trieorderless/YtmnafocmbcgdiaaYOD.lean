/-
  Lists of prefixes that come in.
-/
import Derived.Test.YtmnafocmbcgdiaaZC
import Derived.Deep.Slices
import Derived.Deep.SlicePairs
import Derived.SizedLaws
namespace Go.Proofs.Ytmnafocmbcgdiaa
open Go.ChangeShapes Go.WideShapes Go.ChangeAt Go.RowKit Tri N
set_option maxHeartbeats 1000000
set_option maxRecDepth 100000

theorem wf64 {a : Int} (h : (Lit.int .i64 a).wf = true) : In64 a := by
  have h' : (decide (IntKind.i64.min ≤ a) && decide (a ≤ IntKind.i64.max)) = true := h
  rw [show IntKind.i64.min = -9223372036854775808 from by decide +kernel, show IntKind.i64.max = 9223372036854775807 from by decide +kernel] at h'
  simp at h'
  exact ⟨h'.1, h'.2⟩

theorem u32_wf {a : Int} (h : (Lit.int .u32 a).wf = true) : ∃ n : Nat, a = (n : Int) ∧ n < 4294967296 := by
  have h' : (decide (IntKind.u32.min ≤ a) && decide (a ≤ IntKind.u32.max)) = true := h
  rw [show IntKind.u32.min = 0 from by decide +kernel, show IntKind.u32.max = 4294967295 from by decide +kernel] at h'
  simp at h'
  exact ⟨a.toNat, by omega, by omega⟩

theorem add_plain (g off i : Nat) : (⟨g, off, none⟩ : Addr).add i = ⟨g, off + i, none⟩ := by simp [Addr.add]
theorem cellsPre : Try.prog.cellsOf 32 = 2 := by kernel_rfl
theorem cellsAdr : Try.prog.cellsOf 30 = 1 := by kernel_rfl
theorem cellsInt : Try.prog.cellsOf 3 = 1 := by kernel_rfl
theorem bytesPre : Try.prog.bytesOf 32 = 16 := by kernel_rfl

theorem open_ps {H : Type} {enc : TypeId × Value → H} {W : World} {base : Nat} {v : Value} {d : DataW H} {ps : List MemPlace} (hval : Value.okWide Try.prog W .any base 22 v) (h : DataW.Trod enc Try.prog W 0 (fun _ => true) true 22 v d ps) :
    ∃ L, Sees W v L ∧ AdrP L ∧ (L ≠ [] → ∃ es sp, d = .slice es sp ∧ es.length = L.length) := by
  obtain ⟨a0, len, cap, rfl⟩ := okWide_slice Try.underlying22 hval
  obtain ⟨fuel, hf⟩ := h
  rcases Go.Deep.open_slice_pairs Try.underlying22 Try.underlying32 cellsPre rfl rfl cellsAdr cellsInt hf with ⟨h1, h2⟩ | ⟨a, len', cap', m, k, V0, V1, D0, D1, P0, P1, h1, _, hlc, hcm, hm, hx, hc⟩
  · simp [Value.cells] at h1
    obtain ⟨rfl, rfl, rfl⟩ := h1
    exact ⟨[], ⟨none, 0, rfl, by simp, by unfold maxLen; omega, fun j hj => absurd hj (by simp)⟩, fun p hp => absurd hp (by simp), fun h => absurd rfl h⟩
  · simp [Value.cells] at h1
    obtain ⟨rfl, rfl, rfl⟩ := h1
    simp at hm
    subst hm
    have key : ∀ i, i < len → ∃ (x : Nat) (y : Int), (x < 4294967296 ∧ In64 y) ∧ V0 i = .int .u32 (x : Int) ∧ V1 i = .int .i64 y := by
      intro i hi
      obtain ⟨_, _, t0, t1⟩ := hc i (by omega)
      obtain ⟨n0, e0, _, w0⟩ := DataW.trod_int Try.underlying30 t0
      obtain ⟨n1, e1, _, w1⟩ := DataW.trod_int Try.underlying3 t1
      simp at e0 e1
      obtain ⟨x, rfl, hx⟩ := u32_wf w0
      exact ⟨x, n1, ⟨hx, wf64 w1⟩, e0, e1⟩
    refine ⟨(List.range len).map fun i => ((intOf (V0 i)).toNat, intOf (V1 i)), ⟨some a, m, by simp, by simpa using hlc, hcm, fun j hj => ?_⟩, fun p hp => ?_, fun _ => ?_⟩
    · have hj' : j < len := by simpa using hj
      obtain ⟨x, y, _, e0, e1⟩ := key j hj'
      obtain ⟨k0, k1, _, _⟩ := hc j (by omega)
      have hsp : ∃ g off, a = ⟨g, off, none⟩ ∧ g < W.heap.size := by
        obtain ⟨z0, _, _, _⟩ := hc 0 (by omega)
        simp only [Nat.zero_mul] at z0
        have e : a.add 0 = a := by simp [Addr.add]
        rw [e] at z0
        have hlt := World.block_lt_of_cell? W a z0
        obtain ⟨g, off, sp⟩ := a
        cases sp with
        | none => exact ⟨g, off, rfl, hlt⟩
        | some s =>
          exfalso
          simp only [World.cell?] at z0
          split at z0 <;> simp at z0
      obtain ⟨g, off, rfl, hg⟩ := hsp
      rw [add_plain] at k0 k1
      refine ⟨g, off, rfl, hg, ?_, ?_⟩
      · rw [k0, e0]; simp [e0, intOf]
      · rw [Nat.add_assoc, k1, e1]; simp [e1, intOf]
    · obtain ⟨i, hi, rfl⟩ := List.mem_map.1 hp
      obtain ⟨x, y, hxy, e0, e1⟩ := key i (by simpa using hi)
      rw [e0, e1]
      simp [intOf]
      exact hxy
    · simp only [Prod.mk.injEq] at hx
      exact ⟨_, _, hx.1, by simp⟩


theorem u8_wf {a : Int} (h : (Lit.int .u8 a).wf = true) : ∃ n : Nat, a = (n : Int) ∧ n < 256 := by
  have h' : (decide (IntKind.u8.min ≤ a) && decide (a ≤ IntKind.u8.max)) = true := h
  rw [show IntKind.u8.min = 0 from by decide +kernel, show IntKind.u8.max = 255 from by decide +kernel] at h'
  simp at h'
  exact ⟨a.toNat, by omega, by omega⟩
theorem cellsU8 : Try.prog.cellsOf 5 = 1 := by kernel_rfl

theorem open_ys {H : Type} {enc : TypeId × Value → H} {W : World} {base : Nat} {v : Value} {d : DataW H} {ps : List MemPlace} (hval : Value.okWide Try.prog W .any base 71 v) (h : DataW.Trod enc Try.prog W 0 (fun _ => true) true 71 v d ps) :
    ∃ L, SeesY W v L ∧ (L ≠ [] → ∃ es sp, d = .slice es sp ∧ es.length = L.length) := by
  obtain ⟨a0, len, cap, rfl⟩ := okWide_slice Try.underlying71 hval
  obtain ⟨fuel, hf⟩ := h
  rcases Go.Deep.open_slice1 Try.underlying71 cellsU8 hf with ⟨h1, h2⟩ | ⟨a, len', cap', m, k, V, D, Pl, h1, _, hlc, hcm, hm, hx, hc⟩
  · simp [Value.cells] at h1
    obtain ⟨rfl, rfl, rfl⟩ := h1
    exact ⟨[], ⟨none, 0, rfl, by simp, by unfold maxLen; omega, fun j hj => absurd hj (by simp)⟩, fun h => absurd rfl h⟩
  · simp [Value.cells] at h1
    obtain ⟨rfl, rfl, rfl⟩ := h1
    simp at hm
    subst hm
    have key : ∀ i, i < len → ∃ (x : Nat), V i = .int .u8 (x : Int) ∧ x < 256 := by
      intro i hi
      obtain ⟨_, t0⟩ := hc i (by omega)
      obtain ⟨n0, e0, _, w0⟩ := DataW.trod_int Try.underlying5 t0
      simp at e0
      obtain ⟨x, rfl, hx⟩ := u8_wf w0
      exact ⟨x, e0, hx⟩
    refine ⟨(List.range len).map fun i => (intOf (V i)).toNat, ⟨some a, m, by simp, by simpa using hlc, hcm, fun j hj => ?_⟩, fun _ => ?_⟩
    · have hj' : j < len := by simpa using hj
      obtain ⟨x, e0, hlt8⟩ := key j hj'
      obtain ⟨k0, _⟩ := hc j (by omega)
      have hsp : ∃ g off, a = ⟨g, off, none⟩ ∧ g < W.heap.size := by
        obtain ⟨z0, _⟩ := hc 0 (by omega)
        have e : a.add 0 = a := by simp [Addr.add]
        rw [e] at z0
        have hlt := World.block_lt_of_cell? W a z0
        obtain ⟨g, off, sp⟩ := a
        cases sp with
        | none => exact ⟨g, off, rfl, hlt⟩
        | some s =>
          exfalso
          simp only [World.cell?] at z0
          split at z0 <;> simp at z0
      obtain ⟨g, off, rfl, hg⟩ := hsp
      rw [add_plain] at k0
      refine ⟨g, off, rfl, hg, ?_, ?_⟩
      · rw [k0, e0]; simp [e0, intOf]
      · simp only [List.getElem_map, List.getElem_range, e0, intOf, Int.toNat_natCast]; exact hlt8
    · simp only [Prod.mk.injEq] at hx
      exact ⟨_, _, hx.1, by simp⟩
end Go.Proofs.Ytmnafocmbcgdiaa
