/-
  The law's clone.
-/
import Derived.Test.YteoebmpfdcbbmacDoorFC
namespace Go.Proofs.YteoebmpfdcbbmacDoor
open Go.ChangeShapes Go.WideShapes Go.ChangeAt Go.RowKit Jn N
set_option maxHeartbeats 4000000
set_option maxRecDepth 100000

end Go.Proofs.YteoebmpfdcbbmacDoor
