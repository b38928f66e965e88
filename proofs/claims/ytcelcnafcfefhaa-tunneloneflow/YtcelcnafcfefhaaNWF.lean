import Derived.Test.YtcelcnafcfefhaaNWC
import Derived.Test.YtcelcnafcfefhaaNWE
import Derived.Test.YtcelcnafcfefhaaNK
namespace Go.Proofs.Ytcelcnafcfefhaa.N
open Go.ChangeShapes Go.WideShapes Go.ChangeAt Go.RowKit
set_option maxHeartbeats 1000000
set_option maxRecDepth 100000

/-- The program's Parse. -/
theorem parse_code (v : Value) (L : List Nat) (w : World) (hv : SeesB w v L) (hl : L.length ≤ 140737488355328) :
    Calls Try.prog 41 #[v] w fun e w' => ∃ vo vb, e = .returned (.tuple #[.agg (pkCells (parsed L).1 vo vb), .int .i64 (parsed L).2.2]) ∧ SeesB w' vo (parsed L).1.opts ∧ SeesB w' vb (parsed L).2.1 ∧ Below w.heap.size w w' := by
  by_cases he : (exam L true).2.2 = 0
  · exact parse_good v L w hv hl he
  · exact parse_bad v L w hv hl he

end Go.Proofs.Ytcelcnafcfefhaa.N
