import Derived.Test.YtcelcnafcfefhaaNW
namespace Go.Proofs.Ytcelcnafcfefhaa.N
open Go.ChangeShapes Go.WideShapes Go.ChangeAt Go.RowKit
set_option maxHeartbeats 1000000
set_option maxRecDepth 100000

theorem bit5 (x : Nat) : ((x : Int) / 32 % 2 == 1) = decide (x / 32 % 2 = 1) := by
  rw [Bool.eq_iff_iff]; simp; omega
theorem bit6 (x : Nat) (hx : x < 128) : ((x : Int) / 32 / 2 == 1) = decide (x / 64 % 2 = 1) := by
  rw [Bool.eq_iff_iff]; simp; omega

end Go.Proofs.Ytcelcnafcfefhaa.N
