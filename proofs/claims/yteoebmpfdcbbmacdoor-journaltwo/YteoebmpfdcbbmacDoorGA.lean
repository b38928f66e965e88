/-
  The law's few, plus.
-/
import Derived.Test.YteoebmpfdcbbmacDoorFC
namespace Go.Proofs.YteoebmpfdcbbmacDoor
open Go.ChangeShapes Go.WideShapes Go.ChangeAt Go.RowKit Jn N
set_option maxHeartbeats 4000000
set_option maxRecDepth 100000

theorem RecsAt.mono {w0 u : World} {B B' : Nat} {v : Value} {Ls : List (List Nat)} (h : RecsAt w0 B u v Ls) (hb : B' ≤ B) : RecsAt w0 B' u v Ls := by
  obtain ⟨Vs, h1, h2, h3⟩ := h
  exact ⟨Vs, h1.mono hb, h2, h3⟩
/-- append of one record. -/
theorem RecsAt.add {w0 u : World} {B : Nat} {v x : Value} {Ls : List (List Nat)} {L : List Nat} (h : RecsAt w0 B u v Ls) (hx : SeesB w0 x L) (hB : B ≤ u.heap.size) (hk : Ls.length + 1 ≤ 4294967296) :
    ∃ v' u', (Builtin.append_ #[38, 38] 38 #[v, .slice (some ⟨u.heap.size, 0, none⟩) 1 1]).run Tryd.prog (u.alloc (.cells #[x] 22)) = .ok v' u' ∧ RecsAt w0 B u' v' (Ls ++ [L]) ∧ Below B u u' := by
  obtain ⟨Vs, h1, h2, h3⟩ := h
  have hb : Below u.heap.size u (u.alloc (.cells #[x] 22)) := (Below.refl _ _).alloc (Nat.le_refl _) _
  have hc : (u.alloc (.cells #[x] 22)).cell? ⟨u.heap.size, 0, none⟩ = some x := by rw [cell_of_row _ _ _ _ _ _ (heap_alloc_new u _)]; rfl
  obtain ⟨a, n, c, rfl, -, -, -⟩ := hx.shape
  obtain ⟨v', u', hr, ho, hg, -, -⟩ := append_one _ 38 B u.heap.size v _ Vs (h1.below hb) hc ⟨_, _, _, rfl⟩ (Nat.le_trans hB hb.size) (by omega)
  refine ⟨v', u', hr, ⟨_, ho, by simp [h2], fun i y M hy hM => ?_⟩, ((hb.mono hB).grown hg (Nat.le_trans hB hb.size) (fun k hk => (World.ownsRow.lt (h1.below hb) k hk).1))⟩
  by_cases hi : i < Vs.length
  · rw [List.getElem?_append_left hi] at hy
    rw [List.getElem?_append_left (by omega)] at hM
    exact h3 i y M hy hM
  · rw [List.getElem?_append_right (by omega)] at hy hM
    rw [h2] at hy
    rcases hj : i - Ls.length with _ | j
    · rw [hj] at hy hM
      simp at hy hM
      rw [← hy, ← hM]; exact hx
    · rw [hj] at hy; simp at hy

end Go.Proofs.YteoebmpfdcbbmacDoor
