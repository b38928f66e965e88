/-
  A list of lists that came in.
-/
import Derived.Test.YteoebmpfdcbbmaaDoorRT
namespace Go.Proofs.YteoebmpfdcbbmaaDoor
open Go.ChangeShapes Go.WideShapes Go.ChangeAt Go.RowKit Jn N
set_option maxRecDepth 100000

theorem cell1_B : Tryd.prog.cellsOf 31 = 1 := by kernel_rfl
section
variable {H : Type} {enc : TypeId × Value → H} {W : World}
theorem open_bss {fuel : Nat} {cs : List Value} {x : DataW H × List MemPlace} (hf : DataW.trod enc Tryd.prog W 0 (fun _ => true) true fuel 22 cs = some x) (hw : ∀ k ∈ x.1.weights Tryd.prog 22, k ≤ reachBytes) :
    ∃ v Ls, cs = [v] ∧ SeesBB W v Ls ∧ ∀ L ∈ Ls, L.length ≤ 140737488355328 := by
  rcases Go.Deep.open_slice1 uBB cell1_B hf with ⟨h1, hx⟩ | ⟨a, len, cap, m, n, V, D, Pl, h1, _, hlc, hcm, hm, hxx, hx⟩
  · exact ⟨_, [], h1, ⟨none, 0, rfl, by simp, by unfold maxLen; omega, fun j hj => absurd hj (by simp)⟩, fun L hL => by cases hL⟩
  · simp at hm
    subst hm
    subst hxx
    have key : ∀ i, i < len → ∃ L : List Nat, W.cell? (a.add i) = some (V i) ∧ SeesB W (V i) L ∧ L.length ≤ 140737488355328 := by
      intro i hi
      obtain ⟨k1, k2⟩ := hx i (by omega)
      obtain ⟨v, L, e, hs, hft, -⟩ := open_bytes k2
      simp at e
      subst e
      refine ⟨L, k1, hs, ?_⟩
      have := hft.room (fun k hk => hw k (by
        simp only [DataW.weights, uBB, List.mem_cons, List.mem_append]
        exact .inr (.inl (weights_all (d := D i) (List.mem_map.2 ⟨i, by simpa using hi, rfl⟩) k hk))))
      unfold reachBytes at this
      omega
    by_cases h0 : len = 0
    · subst h0
      exact ⟨_, [], h1, ⟨some a, m, rfl, by simp, hcm, fun j hj => absurd hj (by simp)⟩, fun L hL => by cases hL⟩
    obtain ⟨F, hF⟩ : ∃ F : Nat → List Nat, ∀ i, i < len → W.cell? (a.add i) = some (V i) ∧ SeesB W (V i) (F i) ∧ (F i).length ≤ 140737488355328 := by
      refine ⟨fun i => if h : i < len then (key i h).choose else [], fun i hi => ?_⟩
      simp only [dif_pos hi]
      exact (key i hi).choose_spec
    obtain ⟨g, off, rfl, hg⟩ : ∃ g off, a = ⟨g, off, none⟩ ∧ g < W.heap.size := by
      have z0 := (hF 0 (by omega)).1
      have e : a.add 0 = a := by simp [Addr.add]
      rw [e] at z0
      exact spot_none z0
    refine ⟨_, (List.range len).map F, h1, ⟨some ⟨g, off, none⟩, m, by simp, by simpa using hlc, hcm, fun j hj => ?_⟩, fun L hL => ?_⟩
    · have hj' : j < len := by simpa using hj
      obtain ⟨y0, y1, -⟩ := hF j hj'
      rw [Addr.add_mid] at y0
      exact ⟨g, off, _, rfl, hg, y0, by simpa using y1⟩
    · obtain ⟨i, hi, rfl⟩ := List.mem_map.1 hL
      exact (hF i (by simpa using hi)).2.2
end
end Go.Proofs.YteoebmpfdcbbmaaDoor
