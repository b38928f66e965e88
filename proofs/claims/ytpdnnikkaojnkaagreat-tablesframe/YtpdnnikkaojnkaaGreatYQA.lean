import Derived.Test.YtpdnnikkaojnkaaGreatYKP
namespace Go.Proofs.YtpdnnikkaojnkaaGreat.Rt
open Go.Proofs.YtpdnnikkaojnkaaGreat Go.ChangeShapes Go.WideShapes Go.ChangeAt Go.RowKit Go.Maps Tri N
end Go.Proofs.YtpdnnikkaojnkaaGreat.Rt
