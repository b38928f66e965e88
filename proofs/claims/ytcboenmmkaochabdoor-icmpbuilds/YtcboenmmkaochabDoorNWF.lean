import Derived.Test.YtcboenmmkaochabDoorNWC
import Derived.Test.YtcboenmmkaochabDoorNWE
import Derived.Test.YtcboenmmkaochabDoorNK
namespace Go.Proofs.YtcboenmmkaochabDoor.N
open Go.ChangeShapes Go.WideShapes Go.ChangeAt Go.RowKit
set_option maxHeartbeats 1000000
set_option maxRecDepth 100000

/-- The reference's read, the whole packet. -/
theorem read_true (v : Value) (L : List Nat) (w : World) (hv : SeesB w v L) (hl : L.length ≤ 140737488355328) :
    Calls Tryd.prog 69 #[v, .bool true] w fun e w' => ∃ vo vb, e = .returned (.tuple #[.agg (pkCells (parsed L).1 vo vb), .int .i64 (parsed L).2.2]) ∧ SeesB w' vo (parsed L).1.opts ∧ SeesB w' vb (parsed L).2.1 ∧ (∀ a n c, vo = .slice (some a) n c → w.heap.size ≤ a.block) ∧ (∀ a n c, vb = .slice (some a) n c → w.heap.size ≤ a.block) ∧ Below w.heap.size w w' := by
  by_cases he : (exam L true).2.2 = 0
  · have := read_good v L true w hv hl he
    have hp : parsed L = (rdH (L.take (exam L true).2.1) (exam L true).1, (L.take (exam L true).2.1).drop (exam L true).1, 0) := by unfold parsed; rw [if_pos he]
    rw [hp]
    exact this
  · have hp : parsed L = (zeroH, [], (exam L true).2.2) := by unfold parsed; rw [if_neg he]
    rw [hp]
    refine (read_bad v L true w hv hl he).mono ?_
    rintro e w' ⟨rfl, hb⟩
    exact ⟨.slice none 0 0, .slice none 0 0, rfl, sees_nil _, sees_nil _, (fun _ _ _ h => by cases h), (fun _ _ _ h => by cases h), hb⟩

end Go.Proofs.YtcboenmmkaochabDoor.N
