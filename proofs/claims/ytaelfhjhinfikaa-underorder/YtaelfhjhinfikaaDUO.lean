/-
  Numbers that came in.
-/
import Derived.Test.YtaelfhjhinfikaaDU
import Derived.Test.YtaelfhjhinfikaaDQB
namespace Go.Proofs.Ytaelfhjhinfikaa
open Go.ChangeShapes Go.WideShapes Go.ChangeAt Go.RowKit Me
set_option maxHeartbeats 1000000
set_option maxRecDepth 100000
theorem uNs : Try.prog.underlying 48 = some (.slice 3) := by kernel_rfl
section
variable {H : Type} {enc : TypeId × Value → H} {W : World}
theorem open_ns {base : Nat} {v : Value} {d : DataW H} {ps : List MemPlace} (hval : Value.okWide Try.prog W .any base 48 v) (h : DataW.Trod enc Try.prog W 0 (fun _ => true) true 48 v d ps) : ∃ N, SeesN (fun k => k < W.heap.size) W v N := by
  obtain ⟨a0, len, cap, rfl⟩ := okWide_slice uNs hval
  obtain ⟨fuel, hf⟩ := h
  rcases Go.Deep.open_slice uNs hf with ⟨h1, hx⟩ | ⟨a, len', cap', m, n, D, Pl, h1, _, hlc, hcm, hm, hxx, hx⟩
  · simp [Value.cells] at h1
    obtain ⟨rfl, rfl, rfl⟩ := h1
    exact ⟨[], none, 0, rfl, Nat.le_refl _, by unfold maxLen; omega, fun j hj => absurd hj (by simp)⟩
  · simp [Value.cells] at h1
    obtain ⟨rfl, rfl, rfl⟩ := h1
    simp at hm
    subst hm
    have key : ∀ i, i < len → ∃ y : Int, (-9223372036854775808 ≤ y ∧ y ≤ 9223372036854775807) ∧ W.cell? (a.add i) = some (.int .i64 y) := by
      intro i hi
      obtain ⟨cs', k1, k2⟩ := hx i (by omega)
      rw [cellsInt, Nat.mul_one] at k1
      obtain ⟨_, hlen, hc⟩ := World.cells?_some k1
      obtain ⟨z, e, _, hz⟩ := DataW.trod_int Try.underlying3 k2
      refine ⟨z, i64_wf hz, ?_⟩
      have := hc 0 (by omega)
      rw [e] at this
      simpa [Addr.add] using this
    by_cases h0 : len = 0
    · subst h0
      exact ⟨[], some a, m, rfl, by simp, hcm, fun j hj => absurd hj (by simp)⟩
    obtain ⟨F, hF⟩ := pickF key
    obtain ⟨g, off, rfl, hg⟩ : ∃ g off, a = ⟨g, off, none⟩ ∧ g < W.heap.size := by
      have z0 := (hF 0 (by omega)).2
      have e : a.add 0 = a := by simp [Addr.add]
      rw [e] at z0
      exact spot_none z0
    refine ⟨(List.range len).map F, some ⟨g, off, none⟩, m, by simp, by simpa using hlc, hcm, fun j hj => ?_⟩
    have hj' : j < len := by simpa using hj
    simp only [List.getElem_map, List.getElem_range]
    obtain ⟨q1, q2⟩ := hF j hj'
    rw [add_plain] at q2
    exact ⟨g, off, rfl, ⟨hg, hg⟩, q2, q1⟩
end
end Go.Proofs.Ytaelfhjhinfikaa
