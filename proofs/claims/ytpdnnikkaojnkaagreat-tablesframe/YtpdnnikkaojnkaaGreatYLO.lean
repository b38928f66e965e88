import Derived.Test.YtpdnnikkaojnkaaGreatYLN
namespace Go.Proofs.YtpdnnikkaojnkaaGreat.Rt
open Go.Proofs.YtpdnnikkaojnkaaGreat Go.ChangeShapes Go.WideShapes Go.ChangeAt Go.RowKit Go.Maps Tri N
set_option maxHeartbeats 4000000
set_option maxRecDepth 100000
end Go.Proofs.YtpdnnikkaojnkaaGreat.Rt
