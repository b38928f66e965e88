/-
  JournalFills: all cases.
-/
import Derived.Test.YteoebmpfdcbbmaaDoorFD1
import Derived.Test.YteoebmpfdcbbmaaDoorFD2
import Derived.Test.YteoebmpfdcbbmaaDoorFD3
namespace Go.Proofs.YteoebmpfdcbbmaaDoor
open Go.ChangeShapes Go.WideShapes Go.ChangeAt Go.RowKit Jn N

theorem fills_any (n : Int) (w : World) (ht : TabN w) :
    Calls Tryd.prog 4 #[.int .i64 n] w fun e w' => e = .returned (.bool true) ∧ Below w.heap.size w w' := by
  rcases (by omega : n < 3000 ∨ 65536 < n ∨ (3000 ≤ n ∧ n ≤ 65536)) with h | h | h
  · exact fills_1 n h w ht
  · exact fills_2 n h w ht
  · obtain ⟨N, rfl⟩ : ∃ N : Nat, n = (N : Int) := ⟨n.toNat, by omega⟩
    exact fills_3 N (by omega) (by omega) w ht
end Go.Proofs.YteoebmpfdcbbmaaDoor
