import Derived.Test.YtdoeebbcieiimaaR
namespace Go.Proofs.Ytdoeebbcieiimaa
open Go.ChangeShapes Go.WideShapes Go.ChangeAt Go.RowKit
set_option maxHeartbeats 400000
set_option maxRecDepth 100000

/-- Where the header ends, where the packet ends, the first error. -/
def lens (L : List Nat) (whole : Bool) : Nat × Nat × Int :=
  if L.length < 20 then (0, 0, 30)
  else if byt L 0 / 16 ≠ 4 then (0, 0, 31)
  else if byt L 0 % 16 * 4 < 20 then (0, 0, 32)
  else if L.length < byt L 0 % 16 * 4 then (0, 0, 30)
  else if w16 L 2 < byt L 0 % 16 * 4 then (0, 0, 32)
  else if whole = true ∧ L.length < w16 L 2 then (0, 0, 30)
  else (byt L 0 % 16 * 4, w16 L 2, 0)

theorem ret_three {k l m : IntKind} {a b c a' b' c' : Int} (h1 : a = a') (h2 : b = b') (h3 : c = c') : Ending.returned (.tuple #[.int k a, .int l b, .int m c]) = .returned (.tuple #[.int k a', .int l b', .int m c']) := by rw [h1, h2, h3]

end Go.Proofs.Ytdoeebbcieiimaa
