/-
  Lists of prefixes that come in.
-/
import Derived.Test.YtmnafocmbcgdiaaZD
import Derived.Deep.Slices
import Derived.Deep.SlicePairs
import Derived.Deep.Strs
import Derived.SizedLaws
namespace Go.Proofs.Ytmnafocmbcgdiaa
open Go.ChangeShapes Go.WideShapes Go.ChangeAt Go.RowKit N St
set_option maxHeartbeats 1000000
set_option maxRecDepth 100000

theorem wf64 {a : Int} (h : (Lit.int .i64 a).wf = true) : In64 a := by
  have h' : (decide (IntKind.i64.min ≤ a) && decide (a ≤ IntKind.i64.max)) = true := h
  rw [show IntKind.i64.min = -9223372036854775808 from by decide +kernel, show IntKind.i64.max = 9223372036854775807 from by decide +kernel] at h'
  simp at h'
  exact ⟨h'.1, h'.2⟩

theorem u32_wf {a : Int} (h : (Lit.int .u32 a).wf = true) : ∃ n : Nat, a = (n : Int) ∧ n < 4294967296 := by
  have h' : (decide (IntKind.u32.min ≤ a) && decide (a ≤ IntKind.u32.max)) = true := h
  rw [show IntKind.u32.min = 0 from by decide +kernel, show IntKind.u32.max = 4294967295 from by decide +kernel] at h'
  simp at h'
  exact ⟨a.toNat, by omega, by omega⟩

theorem add_plain (g off i : Nat) : (⟨g, off, none⟩ : Addr).add i = ⟨g, off + i, none⟩ := by simp [Addr.add]
theorem cellsPre : Try.prog.cellsOf 32 = 2 := by kernel_rfl
theorem cellsAdr : Try.prog.cellsOf 30 = 1 := by kernel_rfl
theorem cellsInt : Try.prog.cellsOf 3 = 1 := by kernel_rfl
theorem bytesPre : Try.prog.bytesOf 32 = 16 := by kernel_rfl

theorem cellsStr : Try.prog.cellsOf 9 = 1 := by kernel_rfl

theorem open_ws {H : Type} {enc : TypeId × Value → H} {W : World} {base : Nat} {v : Value} {d : DataW H} {ps : List MemPlace} (hval : Value.okWide Try.prog W .any base 38 v) (h : DataW.Trod enc Try.prog W 0 (fun _ => true) true 38 v d ps) :
    ∃ L, SeesW W v L := by
  obtain ⟨a0, len, cap, rfl⟩ := okWide_slice Try.underlying38 hval
  obtain ⟨fuel, hf⟩ := h
  rcases Go.Deep.open_strs Try.underlying38 Try.underlying9 cellsStr hf with ⟨h1, h2⟩ | ⟨a, len', cap', m, Sx, h1, _, hlc, hcm, hm, hx, hc⟩
  · simp [Value.cells] at h1
    obtain ⟨rfl, rfl, rfl⟩ := h1
    exact ⟨[], none, 0, rfl, by simp, by unfold maxLen; omega, fun j hj => absurd hj (by simp)⟩
  · simp [Value.cells] at h1
    obtain ⟨rfl, rfl, rfl⟩ := h1
    simp at hm
    subst hm
    refine ⟨(List.range len).map Sx, some a, m, by simp, by simpa using hlc, hcm, fun j hj => ?_⟩
    have hj' : j < len := by simpa using hj
    obtain ⟨k0, _⟩ := hc j (by omega)
    have hsp : ∃ g off, a = ⟨g, off, none⟩ ∧ g < W.heap.size := by
      obtain ⟨z0, _⟩ := hc 0 (by omega)
      have e : a.add 0 = a := by simp [Addr.add]
      rw [e] at z0
      have hlt := World.block_lt_of_cell? W a z0
      obtain ⟨g, off, sp⟩ := a
      cases sp with
      | none => exact ⟨g, off, rfl, hlt⟩
      | some s =>
        exfalso
        simp only [World.cell?] at z0
        split at z0 <;> simp at z0
    obtain ⟨g, off, rfl, hg⟩ := hsp
    rw [add_plain] at k0
    refine ⟨g, off, rfl, hg, ?_⟩
    rw [k0]; simp

theorem open_pr {H : Type} {enc : TypeId × Value → H} {W : World} {base : Nat} {v : Value} {d : DataW H} {ps : List MemPlace} (hval : Value.okWide Try.prog W .any base 32 v) (h : DataW.Trod enc Try.prog W 0 (fun _ => true) true 32 v d ps) :
    ∃ (x : Nat) (y : Int), v = .agg #[.int .u32 (x : Int), .int .i64 y] ∧ x < 4294967296 ∧ In64 y := by
  obtain ⟨cs, rfl, _⟩ := okWide_struct Try.underlying32 hval
  obtain ⟨fuel, hf⟩ := h
  obtain ⟨xs, n, _, _, hl, hxl, hff⟩ := DataW.trod_struct Try.underlying32 hf
  obtain ⟨cl⟩ := cs
  simp only [Value.cells] at hl hff
  rw [cellsPre] at hl
  match xs, hxl, cl, hl with
  | [y0, y1], _, [v0, v1], _ =>
    have f0 := hff 0 _ rfl
    have f1 := hff 1 _ rfl
    simp [cellsInt, cellsAdr] at f0 f1
    obtain ⟨n0, e0, _, w0⟩ := DataW.trod_int Try.underlying30 f0
    obtain ⟨n1, e1, _, w1⟩ := DataW.trod_int Try.underlying3 f1
    simp at e0 e1
    subst e0 e1
    obtain ⟨x, rfl, hx⟩ := u32_wf w0
    exact ⟨x, n1, rfl, hx, wf64 w1⟩
end Go.Proofs.Ytmnafocmbcgdiaa
