import Derived.Test.YthmhiehglcfepaaGreatDoorEL
import Derived.Test.YthmhiehglcfepaaGreatDoorYFlZV
import Derived.ChangeSlices
namespace Go.Proofs.YthmhiehglcfepaaGreatDoor.Fl
open Go.Proofs.YthmhiehglcfepaaGreatDoor Go.ChangeShapes Go.WideShapes Go.ChangeAt Go.RowKit
set_option maxHeartbeats 2000000
set_option maxRecDepth 100000

theorem u16s : Tryz.prog.underlying 22 = some (.slice 32) := by kernel_rfl
theorem i64s : Tryz.prog.underlying 23 = some (.slice 2) := by kernel_rfl
theorem spot_none {W : World} {a : Addr} {v : Value} (h : W.cell? a = some v) : ∃ g off, a = ⟨g, off, none⟩ := by
  obtain ⟨g, off, sp⟩ := a
  cases sp with
  | none => exact ⟨g, off, rfl⟩
  | some s =>
    exfalso
    simp only [World.cell?] at h
    split at h <;> simp at h
section
variable {H : Type} {enc : TypeId × Value → H} {W : World}
theorem open_16 {base : Nat} {v : Value} {d : DataW H} {ps : List MemPlace} (hval : Value.okWide Tryz.prog W .any base 22 v) (h : DataW.Trod enc Tryz.prog W 0 (fun _ => true) true 22 v d ps) :
    ∃ a n c, v = .slice a n c ∧ n ≤ 9223372036854775807 ∧ S16 W a n := by
  obtain ⟨a0, len, cap, rfl⟩ := okWide_slice u16s hval
  obtain ⟨fuel, hf⟩ := h
  rcases open_ints u16s u16q (by kernel_rfl) hf with ⟨h1, _⟩ | ⟨a, len', cap', zs, h1, _, hl, hm, hz, _, hc, hw⟩
  · simp [Value.cells] at h1
    obtain ⟨rfl, rfl, rfl⟩ := h1
    exact ⟨_, _, _, rfl, by omega, fun j hj => absurd hj (by omega)⟩
  · simp [Value.cells] at h1
    obtain ⟨rfl, rfl, rfl⟩ := h1
    simp only [if_true] at hz
    unfold maxLen at hm
    refine ⟨_, _, _, rfl, by omega, fun i hi => ?_⟩
    have c0 := hc i (by omega)
    have hwi := hw (zs.getD i 0) (by rw [List.getD_eq_getElem?_getD, List.getElem?_eq_getElem (by omega)]; exact List.getElem_mem _)
    obtain ⟨p, hp, hlt⟩ := q16 hwi
    rw [hp] at c0
    have z0 := hc 0 (by omega)
    rw [show a.add 0 = a from by simp [Addr.add]] at z0
    obtain ⟨g, off, rfl⟩ := spot_none z0
    exact ⟨g, off, p, rfl, by rw [Addr.add_mid] at c0; exact c0, hlt⟩
theorem open_64 {base : Nat} {v : Value} {d : DataW H} {ps : List MemPlace} (hval : Value.okWide Tryz.prog W .any base 23 v) (h : DataW.Trod enc Tryz.prog W 0 (fun _ => true) true 23 v d ps) :
    ∃ a n c, v = .slice a n c ∧ n ≤ 9223372036854775807 ∧ S64 W a n := by
  obtain ⟨a0, len, cap, rfl⟩ := okWide_slice i64s hval
  obtain ⟨fuel, hf⟩ := h
  rcases open_ints i64s i64q (by kernel_rfl) hf with ⟨h1, _⟩ | ⟨a, len', cap', zs, h1, _, hl, hm, hz, _, hc, hw⟩
  · simp [Value.cells] at h1
    obtain ⟨rfl, rfl, rfl⟩ := h1
    exact ⟨_, _, _, rfl, by omega, fun j hj => absurd hj (by omega)⟩
  · simp [Value.cells] at h1
    obtain ⟨rfl, rfl, rfl⟩ := h1
    simp only [if_true] at hz
    unfold maxLen at hm
    refine ⟨_, _, _, rfl, by omega, fun i hi => ?_⟩
    have c0 := hc i (by omega)
    have hwi := hw (zs.getD i 0) (by rw [List.getD_eq_getElem?_getD, List.getElem?_eq_getElem (by omega)]; exact List.getElem_mem _)
    have z0 := hc 0 (by omega)
    rw [show a.add 0 = a from by simp [Addr.add]] at z0
    obtain ⟨g, off, rfl⟩ := spot_none z0
    exact ⟨g, off, _, rfl, by rw [Addr.add_mid] at c0; exact c0, q64 hwi⟩
end
end Go.Proofs.YthmhiehglcfepaaGreatDoor.Fl
