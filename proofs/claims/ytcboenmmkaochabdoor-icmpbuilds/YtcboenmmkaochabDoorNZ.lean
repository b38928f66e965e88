import Derived.Test.YtcboenmmkaochabDoorNX
import Derived.Test.YtcboenmmkaochabDoorNG
namespace Go.Proofs.YtcboenmmkaochabDoor.N
open Go.ChangeShapes Go.WideShapes Go.ChangeAt Go.RowKit
set_option maxHeartbeats 400000
set_option maxRecDepth 100000

theorem size29 : (Tryd.prog.info? 35).map (·.size) = some 11 := by kernel_rfl

/-- What Parse answers: the header, the body, the error. -/
def parsed (L : List Nat) : Hd × List Nat × Int :=
  if (exam L true).2.2 = 0 then (rdH (L.take (exam L true).2.1) (exam L true).1, (L.take (exam L true).2.1).drop (exam L true).1, 0) else (zeroH, [], (exam L true).2.2)

end Go.Proofs.YtcboenmmkaochabDoor.N
