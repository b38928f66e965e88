import Derived.Test.YtenhofbhkchjoaaDoorR
import Derived.Laws.StructEq
namespace Go.Proofs.YtenhofbhkchjoaaDoor
open Go.ChangeShapes Go.WideShapes Go.ChangeAt Go.RowKit
set_option maxHeartbeats 400000

theorem ansA_shape (o : Option Nat) : ∃ a e : Int, ansA o = .tuple #[.int .u32 a, .int .i64 e] := by
  cases o with
  | none => exact ⟨0, 10, rfl⟩
  | some a => exact ⟨a, 0, rfl⟩

theorem ansP_shape (l : List UInt8) : ∃ a n e : Int, ansP l = .tuple #[.agg #[.int .u32 a, .int .i64 n], .int .i64 e] := by
  unfold ansP
  cases pre l with
  | none => exact ⟨_, _, _, rfl⟩
  | some p =>
    simp only
    split
    · exact ⟨_, _, _, rfl⟩
    · exact ⟨_, _, _, rfl⟩

theorem ansM_shape (s : ByteArray) : ∃ a b c d e f g : Int, ansM s = .tuple #[.agg #[.int .u8 a, .int .u8 b, .int .u8 c, .int .u8 d, .int .u8 e, .int .u8 f], .int .i64 g] := by
  unfold ansM
  split
  · exact ⟨_, _, _, _, _, _, _, rfl⟩
  · exact ⟨_, _, _, _, _, _, _, rfl⟩

theorem mac_eq (w : World) (a b c d e f : Int) :
    (Op.equalIn 10000 30 (.agg #[.int .u8 a, .int .u8 b, .int .u8 c, .int .u8 d, .int .u8 e, .int .u8 f]) (.agg #[.int .u8 a, .int .u8 b, .int .u8 c, .int .u8 d, .int .u8 e, .int .u8 f])).run Tryd.prog w = .ok true w := by
  rw [show (10000 : Nat) = 9998 + 1 + 1 from rfl, Op.equalIn]
  simp [run_underlying Tryd.underlying30, go_sem, Std.Legacy.Range.forIn_eq_forIn_range', Std.Legacy.Range.size, List.range']

/-- The slice value v shows, in the world w, the texts T. -/
def SeesS (w : World) (v : Value) (T : List ByteArray) : Prop :=
  ∃ ao cap, v = .slice ao T.length cap ∧ T.length ≤ cap ∧ cap ≤ maxLen ∧
    ∀ j (h : j < T.length), ∃ g off, ao = some ⟨g, off, none⟩ ∧ g < w.heap.size ∧ w.cell? ⟨g, off + j, none⟩ = some (.string T[j]) ∧ T[j].size ≤ maxLen

end Go.Proofs.YtenhofbhkchjoaaDoor
