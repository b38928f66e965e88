import Derived.Test.YtcboenmmkaochabDoorNZ
namespace Go.Proofs.YtcboenmmkaochabDoor.N
open Go.ChangeShapes Go.WideShapes Go.ChangeAt Go.RowKit
set_option maxHeartbeats 400000
set_option maxRecDepth 100000

theorem sees_set' {w : World} {ao : Option Addr} {n cap b : Nat} {L : List Nat} {vs : List Value} (h : SeesB w (.slice ao n cap) L) (hne : ∀ a, ao = some a → a.block ≠ b) : SeesB (w.setCells b 0 vs) (.slice ao n cap) L := by
  obtain ⟨ao', cap', hv, h1, h2, h3⟩ := h
  simp at hv
  obtain ⟨rfl, hn, rfl⟩ := hv
  refine ⟨ao, cap, by rw [hn], h1, h2, fun j hj => ?_⟩
  obtain ⟨g, off, ha, hg, hc, hb⟩ := h3 j hj
  have hg' := hne _ ha
  have e := World.cell?_setCells_out b vs 0 w ⟨g, off + j, none⟩ (fun hb _ => absurd hb hg')
  exact ⟨g, off, ha, World.block_lt_of_cell? (w.setCells b 0 vs) ⟨g, off + j, none⟩ (e.trans hc), e.trans hc, hb⟩

end Go.Proofs.YtcboenmmkaochabDoor.N
