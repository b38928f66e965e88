import Derived.Test.YtpdnnikkaojnkaaGreatYLO
import Derived.Test.YtpdnnikkaojnkaaGreatYLS1
namespace Go.Proofs.YtpdnnikkaojnkaaGreat.Rt
open Go.Proofs.YtpdnnikkaojnkaaGreat Go.ChangeShapes Go.WideShapes Go.ChangeAt Go.RowKit Go.Maps Tri N
set_option maxHeartbeats 8000000
set_option maxRecDepth 100000
def KK (B N : Nat) (w : World) (k1 k2 : Nat) (s1 s2 : Ks) : Prop := ∃ b1 b2, KAt w (fun c => B <= c /\ c < N) b1 s1 /\ KAt w (fun c => B <= c /\ c < N) b2 s2 /\ b1.kb = k1 /\ b2.kb = k2 /\ (∀ c, fpK b1 c -> ¬ fpK b2 c)
structure K2 (w0 : World) (N : Nat) (w : World) (k1 k2 : Nat) (s1 s2 : Ks) : Prop where
 kk : KK w0.heap.size N w k1 k2 s1 s2
 bel : Below w0.heap.size w0 w
 hi : N <= w.heap.size
end Go.Proofs.YtpdnnikkaojnkaaGreat.Rt
