import Derived.Test.YtcboenmmkaochaaNQ
namespace Go.Proofs.Ytcboenmmkaochaa.N
open Go.ChangeShapes Go.WideShapes Go.ChangeAt Go.RowKit
set_option maxHeartbeats 400000
set_option maxRecDepth 100000

end Go.Proofs.Ytcboenmmkaochaa.N
