import Derived.Test.YtcelcnafcfefhaaNY
import Derived.Test.YtcelcnafcfefhaaNG
namespace Go.Proofs.Ytcelcnafcfefhaa.N
open Go.ChangeShapes Go.WideShapes Go.ChangeAt Go.RowKit
set_option maxHeartbeats 1000000
set_option maxRecDepth 100000

theorem hd_row {u : World} {n : Nat} {h : Hd} {vo : Value} (hb : u.heap[n]? = some (.cells (hdCells h vo) 50 (0, 0))) (i : Nat) (hi : i < 10) : u.cell? ⟨n, i, none⟩ = some ((hdCells h vo)[i]'hi) := by
  rw [cell_of_row _ _ _ _ _ _ hb, Array.getElem?_eq_getElem hi]

end Go.Proofs.Ytcelcnafcfefhaa.N
