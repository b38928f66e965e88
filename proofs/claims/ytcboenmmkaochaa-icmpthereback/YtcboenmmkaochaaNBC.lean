import Derived.Test.YtcboenmmkaochaaNBB
import Derived.Test.YtcboenmmkaochaaNK
import Derived.Test.YtcboenmmkaochaaNW
namespace Go.Proofs.Ytcboenmmkaochaa.N
open Go.ChangeShapes Go.WideShapes Go.ChangeAt Go.RowKit
set_option maxHeartbeats 400000
set_option maxRecDepth 100000

theorem But.of_below {g : Nat} {w w' : World} (hb : Below w.heap.size w w') : But g w w' := ⟨hb.os, hb.tape, hb.output, hb.size, fun i hi _ => hb.block i hi⟩
theorem Blk.below {g : Nat} {w w' : World} {X : List Nat} (h : Blk w g X) (hb : Below w.heap.size w w') : Blk w' g X := (hb.block g h.lt).trans h

/-- A cut of a block of bytes. -/
theorem Blk.sees {g : Nat} {w : World} {X : List Nat} (h : Blk w g X) (hx : ∀ x ∈ X, x < 256) (o k c : Nat) (hk : o + k ≤ X.length) (hc : k ≤ c) (hcm : c ≤ maxLen) : SeesB w (.slice (some ⟨g, o, none⟩) k c) ((X.drop o).take k) := by
  have hl : ((X.drop o).take k).length = k := by rw [List.length_take, List.length_drop]; omega
  refine ⟨some ⟨g, o, none⟩, c, by rw [hl], ⟨by rw [hl]; exact hc, fun h => by cases h⟩, hcm, fun j hj => ?_⟩
  rw [hl] at hj
  have e : ((X.drop o).take k)[j]'(by rw [hl]; exact hj) = byt X (o + j) := by
    rw [List.getElem_take, List.getElem_drop]
    unfold byt
    rw [List.getD_eq_getElem?_getD, List.getElem?_eq_getElem (by omega)]
    rfl
  refine ⟨g, o, rfl, h.lt, ?_, ?_⟩
  · rw [h.cell (o + j) (by omega), e]
  · rw [e]; exact byt_lt hx _

theorem csum_gap (A B : List Nat) (hA : A.length % 2 = 0) : M.csum (A ++ 0 :: 0 :: B) = M.csum (A ++ B) := by
  unfold M.csum
  rw [M.tot_append, M.tot_append]
  have : M.par false A.length = false := by unfold M.par; rw [if_pos hA]
  rw [this]
  simp [M.tot]

end Go.Proofs.Ytcboenmmkaochaa.N
