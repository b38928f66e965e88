import Derived.Test.YtcelcnafcfefhaaNE
import Derived.Test.YtcelcnafcfefhaaNMath2
namespace Go.Proofs.Ytcelcnafcfefhaa.N
open Go.ChangeShapes Go.WideShapes Go.ChangeAt Go.RowKit
set_option maxHeartbeats 400000
set_option maxRecDepth 100000

theorem drop_at {L : List Nat} {i x : Nat} (h : L[i]? = some x) : L.drop i = x :: L.drop (i + 1) := by
  obtain ⟨hi, rfl⟩ := List.getElem?_eq_some_iff.1 h
  exact List.drop_eq_getElem_cons hi

def msr (n : Nat) (i : Int) : Nat := if i < 0 then 0 else n + 1 - i.toNat
theorem msr_neg {n : Nat} : msr n (-1) = 0 := rfl
theorem msr_pos {n : Nat} {i : Int} (h : 0 ≤ i) : msr n i = n + 1 - i.toNat := by unfold msr; rw [if_neg (by omega)]

end Go.Proofs.Ytcelcnafcfefhaa.N
