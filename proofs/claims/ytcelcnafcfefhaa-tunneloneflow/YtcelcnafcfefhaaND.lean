import Derived.Test.YtcelcnafcfefhaaNC
namespace Go.Proofs.Ytcelcnafcfefhaa.N
open Go.ChangeShapes Go.WideShapes Go.ChangeAt Go.RowKit
set_option maxHeartbeats 400000
set_option maxRecDepth 100000

theorem sees_one {w : World} {n : Nat} (hn : w.heap.size = n) (x : Nat) (hx : x < 256) (t : TypeId) : SeesB (w.alloc (.cells #[.int .u8 (x : Int)] t)) (.slice (some ⟨n, 0, none⟩) 1 1) [x] := by
  subst hn
  refine ⟨some ⟨w.heap.size, 0, none⟩, 1, rfl, ⟨by simp, fun h => by cases h⟩, by unfold maxLen; omega, fun j hj => ⟨w.heap.size, 0, rfl, by simp, ?_, ?_⟩⟩
  · match j, hj with
    | 0, _ => simp
  · match j, hj with
    | 0, _ => exact hx

theorem sees_two {w : World} {n : Nat} (hn : w.heap.size = n) (x y : Nat) (hx : x < 256) (hy : y < 256) (t : TypeId) : SeesB (w.alloc (.cells #[.int .u8 (x : Int), .int .u8 (y : Int)] t)) (.slice (some ⟨n, 0, none⟩) 2 2) [x, y] := by
  subst hn
  refine ⟨some ⟨w.heap.size, 0, none⟩, 2, rfl, ⟨by simp, fun h => by cases h⟩, by unfold maxLen; omega, fun j hj => ⟨w.heap.size, 0, rfl, by simp, ?_, ?_⟩⟩
  · match j, hj with
    | 0, _ => simp
    | 1, _ => simp
  · match j, hj with
    | 0, _ => exact hx
    | 1, _ => exact hy

theorem OwnB.alloc {w : World} {base : Nat} {v : Value} {L : List Nat} (h : OwnB w base v L) (o : Obj) : OwnB (w.alloc o) base v L :=
  h.below ((Below.refl _ _).alloc (Nat.le_refl _) _)

theorem OwnB.mono {w : World} {b b' : Nat} {v : Value} {L : List Nat} (h : OwnB w b v L) (hb : b' ≤ b) : OwnB w b' v L := by
  refine ⟨h.1, ?_⟩
  rcases h.2 with h | ⟨g, cap, cur, h1, h2, h3⟩
  · exact .inl h
  · exact .inr ⟨g, cap, cur, h1, by omega, h3⟩

end Go.Proofs.Ytcelcnafcfefhaa.N
