import Derived.Test.YtcelcnafcfefhaaNWB
import Derived.Test.YtcelcnafcfefhaaNZB
namespace Go.Proofs.Ytcelcnafcfefhaa.N
open Go.ChangeShapes Go.WideShapes Go.ChangeAt Go.RowKit
set_option maxHeartbeats 1000000
set_option maxRecDepth 100000

theorem hdE_ok {H : List Nat} {nb : Nat} (h : hdE H nb = 0) : M.csum H = 0 ∧ byt H 6 < 128 ∧ M.area (H.drop 20) = true ∧ M.pieceOk ((w16 H 6 % 8192 * 8 : Nat) : Int) nb (decide (byt H 6 / 32 % 2 = 1)) = true := by
  unfold hdE at h
  by_cases c1 : M.csum H = 0
  · rw [if_neg (by simp [c1])] at h
    by_cases c2 : 128 ≤ byt H 6
    · rw [if_pos c2] at h; cases h
    · rw [if_neg c2] at h
      cases c3 : M.area (H.drop 20)
      · rw [c3, if_pos rfl] at h; cases h
      · rw [c3, if_neg (by simp)] at h
        cases c4 : M.pieceOk ((w16 H 6 % 8192 * 8 : Nat) : Int) nb (decide (byt H 6 / 32 % 2 = 1))
        · rw [c4, if_pos rfl] at h; cases h
        · exact ⟨c1, by omega, rfl, rfl⟩
  · rw [if_pos c1] at h; cases h

theorem w32_lt {L : List Nat} (h : ∀ x ∈ L, x < 256) (i : Nat) : w32 L i < 4294967296 := by
  have h1 := w16_lt h i
  have h2 := w16_lt h (i + 2)
  unfold w32; omega

/-- The block that is being filled, at the heap's end of w5; three cells that are read. -/
structure Tgt (w5 u : World) : Prop where
  below : Below w5.heap.size w5 u
  row : ∃ cells : Array Value, u.heap[w5.heap.size]? = some (.cells cells 52 (0, 0)) ∧ cells.size = 11 ∧ cells[10]? = some (.slice none 0 0)

theorem tgt_drew {w5 u : World} {p q r : Addr} {a b c : Value} (h : Tgt w5 u ∧ u.cell? p = some a ∧ u.cell? q = some b ∧ u.cell? r = some c) : Tgt w5 u.drew ∧ u.drew.cell? p = some a ∧ u.drew.cell? q = some b ∧ u.drew.cell? r = some c := ⟨⟨below_drew h.1.below, h.1.row⟩, h.2.1, h.2.2.1, h.2.2.2⟩

theorem tgt_grow {w5 u u' : World} {p q r : Addr} {a b c : Value} (h : Tgt w5 u ∧ u.cell? p = some a ∧ u.cell? q = some b ∧ u.cell? r = some c) (hb : Below u.heap.size u u') : Tgt w5 u' ∧ u'.cell? p = some a ∧ u'.cell? q = some b ∧ u'.cell? r = some c := by
  obtain ⟨h, e1, e2, e3⟩ := h
  obtain ⟨cells, h1, h2, h3⟩ := h.row
  have hlt : w5.heap.size < u.heap.size := (Array.getElem?_eq_some_iff.1 h1).1
  exact ⟨⟨h.below.trans (hb.mono h.below.size), cells, (hb.block _ hlt).trans h1, h2, h3⟩, (hb.cell (World.block_lt_of_cell? u _ e1)).trans e1, (hb.cell (World.block_lt_of_cell? u _ e2)).trans e2, (hb.cell (World.block_lt_of_cell? u _ e3)).trans e3⟩

theorem tgt_cells {w5 u : World} (h : Tgt w5 u) : (∃ y, u.cell? ⟨w5.heap.size, 0, none⟩ = some y) ∧ (∃ y, u.cell? ⟨w5.heap.size, 1, none⟩ = some y) ∧ (∃ y, u.cell? ⟨w5.heap.size, 2, none⟩ = some y) ∧ (∃ y, u.cell? ⟨w5.heap.size, 3, none⟩ = some y) ∧ (∃ y, u.cell? ⟨w5.heap.size, 4, none⟩ = some y) ∧ (∃ y, u.cell? ⟨w5.heap.size, 5, none⟩ = some y) ∧ (∃ y, u.cell? ⟨w5.heap.size, 6, none⟩ = some y) ∧ (∃ y, u.cell? ⟨w5.heap.size, 7, none⟩ = some y) ∧ (∃ y, u.cell? ⟨w5.heap.size, 8, none⟩ = some y) ∧ (∃ y, u.cell? ⟨w5.heap.size, 9, none⟩ = some y) ∧ ∀ j, u.frozen? ⟨w5.heap.size, j, none⟩ = false := by
  obtain ⟨cells, h1, h2, h3⟩ := h.row
  have k : ∀ i, i < 11 → ∃ y, u.cell? ⟨w5.heap.size, i, none⟩ = some y := fun i hi => by
    rw [cell_of_row _ _ _ _ _ _ h1]
    exact ⟨_, Array.getElem?_eq_getElem (by omega)⟩
  exact ⟨k 0 (by omega), k 1 (by omega), k 2 (by omega), k 3 (by omega), k 4 (by omega), k 5 (by omega), k 6 (by omega), k 7 (by omega), k 8 (by omega), k 9 (by omega), fun j => frozen_of_row _ _ _ _ _ h1⟩

theorem tgt_set {w5 u : World} {g o1 o2 o3 j : Nat} {a b c v : Value} (h : Tgt w5 u ∧ u.cell? ⟨g, o1, none⟩ = some a ∧ u.cell? ⟨g, o2, none⟩ = some b ∧ u.cell? ⟨g, o3, none⟩ = some c) (hg : g ≠ w5.heap.size) (hj : j ≠ 10) :
    Tgt w5 (u.setCell ⟨w5.heap.size, j, none⟩ v) ∧ (u.setCell ⟨w5.heap.size, j, none⟩ v).cell? ⟨g, o1, none⟩ = some a ∧ (u.setCell ⟨w5.heap.size, j, none⟩ v).cell? ⟨g, o2, none⟩ = some b ∧ (u.setCell ⟨w5.heap.size, j, none⟩ v).cell? ⟨g, o3, none⟩ = some c := by
  obtain ⟨h, e1, e2, e3⟩ := h
  obtain ⟨cells, h1, h2, h3⟩ := h.row
  have hne : ∀ o, (u.setCell ⟨w5.heap.size, j, none⟩ v).cell? ⟨g, o, none⟩ = u.cell? ⟨g, o, none⟩ := fun o => World.cell?_setCells_out w5.heap.size [v] j u ⟨g, o, none⟩ (fun hb _ => absurd hb hg)
  refine ⟨⟨h.below.setCell (p := ⟨w5.heap.size, j, none⟩) (Nat.le_refl _) v, cells.setIfInBounds j v, ?_, by simp [h2], ?_⟩, (hne _).trans e1, (hne _).trans e2, (hne _).trans e3⟩
  · simp [World.setCell, Array.getElem?_modify, h1]
  · rw [Array.getElem?_setIfInBounds_ne hj]; exact h3

theorem Tgt.there {w5 u : World} (h : Tgt w5 u) : u.there w5.heap.size 0 10 := by
  obtain ⟨cells, h1, h2, h3⟩ := h.row
  intro i hi
  refine ⟨?_, by rw [Nat.zero_add]; exact frozen_of_row _ _ _ _ _ h1⟩
  rw [Nat.zero_add, cell_of_row _ _ _ _ _ _ h1, Array.getElem?_eq_getElem (by omega)]; rfl

theorem sees_setAt {w : World} {ao : Option Addr} {n cap b k : Nat} {L : List Nat} {x : Value} (h : SeesB w (.slice ao n cap) L) (hne : ∀ a, ao = some a → a.block ≠ b) : SeesB (w.setCell ⟨b, k, none⟩ x) (.slice ao n cap) L := by
  obtain ⟨ao', cap', hv, h1, h2, h3⟩ := h
  simp at hv
  obtain ⟨rfl, hn, rfl⟩ := hv
  refine ⟨ao, cap, by rw [hn], h1, h2, fun j hj => ?_⟩
  obtain ⟨g, off, ha, hg, hc, hb⟩ := h3 j hj
  have hg' := hne _ ha
  have e : (w.setCell ⟨b, k, none⟩ x).cell? ⟨g, off + j, none⟩ = _ := World.cell?_setCells_out b [x] k w ⟨g, off + j, none⟩ (fun hb _ => absurd hb hg')
  exact ⟨g, off, ha, World.block_lt_of_cell? _ ⟨g, off + j, none⟩ (e.trans hc), e.trans hc, hb⟩

end Go.Proofs.Ytcelcnafcfefhaa.N
