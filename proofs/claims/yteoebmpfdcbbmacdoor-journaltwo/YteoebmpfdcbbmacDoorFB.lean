/-
  The law's size, begun.
-/
import Derived.Test.YteoebmpfdcbbmacDoorFA
import Derived.Test.YteoebmpfdcbbmacDoorRB
namespace Go.Proofs.YteoebmpfdcbbmacDoor
open Go.ChangeShapes Go.WideShapes Go.ChangeAt Go.RowKit Jn N
set_option maxHeartbeats 4000000
set_option maxRecDepth 100000

end Go.Proofs.YteoebmpfdcbbmacDoor
