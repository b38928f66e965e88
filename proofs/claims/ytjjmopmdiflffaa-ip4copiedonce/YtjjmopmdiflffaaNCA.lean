import Derived.Test.YtjjmopmdiflffaaNMathC
import Derived.Test.YtjjmopmdiflffaaNQ
import Derived.Test.YtjjmopmdiflffaaNF
namespace Go.Proofs.Ytjjmopmdiflffaa.N
open Go.ChangeShapes Go.WideShapes Go.ChangeAt Go.RowKit
set_option maxHeartbeats 400000
set_option maxRecDepth 100000

theorem bs_len (M : List Nat) : (bs M).length = M.length := by simp [bs]

/-- The loop that fills up to a whole word, and what the reference answers. -/
theorem area_len' {o : List Nat} (h : M.area o = true) : o.length ≤ 40 ∧ M.okO o = true := by
  unfold M.area at h
  simp at h
  exact ⟨h.1.1, h.2⟩

end Go.Proofs.Ytjjmopmdiflffaa.N
