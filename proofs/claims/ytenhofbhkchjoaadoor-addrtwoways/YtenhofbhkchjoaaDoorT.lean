import Derived.Test.YtenhofbhkchjoaaDoorK
namespace Go.Proofs.YtenhofbhkchjoaaDoor
open Go.ChangeShapes Go.WideShapes Go.ChangeAt Go.RowKit
set_option maxHeartbeats 400000

theorem ansFP_shape (x : Nat) (n : Int) : ∃ (s : ByteArray) (e : Int), ansFP x n = .tuple #[.string s, .int .i64 e] := by
  unfold ansFP
  split
  · exact ⟨_, _, rfl⟩
  · exact ⟨_, _, rfl⟩

theorem ansS_shape (x : Nat) (n : Int) : ∃ a b e : Int, ansS x n = .tuple #[.int .u32 a, .int .u32 b, .int .i64 e] := by
  unfold ansS
  split
  · exact ⟨_, _, _, rfl⟩
  · exact ⟨_, _, _, rfl⟩

/-- What the calls are asked about: an address, a prefix, a hardware address. -/
structure Itm where
  a : Nat
  x : Nat
  n : Int
  m : Nat → Nat
  ha : a < 4294967296
  hx : x < 4294967296
  hm : ∀ k, k < 6 → m k < 256

def Itm.cells (I : Itm) : Array Value := #[.int .u32 I.a, .int .u32 I.x, .int .i64 I.n, .int .u8 (I.m 0), .int .u8 (I.m 1), .int .u8 (I.m 2), .int .u8 (I.m 3), .int .u8 (I.m 4), .int .u8 (I.m 5)]

theorem Itm.at {w : World} {b : Nat} {T : TypeId} (I : Itm) (h : w.heap[b]? = some (.cells I.cells T (0, 0))) :
    ∀ u : Beh w, u.wd.cell? ⟨b, 0, none⟩ = some (.int .u32 I.a) ∧ u.wd.cell? ⟨b, 1, none⟩ = some (.int .u32 I.x) ∧ u.wd.cell? ⟨b, 2, none⟩ = some (.int .i64 I.n) ∧
      u.wd.cell? ⟨b, 3, none⟩ = some (.int .u8 (I.m 0)) ∧ u.wd.cell? ⟨b, 4, none⟩ = some (.int .u8 (I.m 1)) ∧ u.wd.cell? ⟨b, 5, none⟩ = some (.int .u8 (I.m 2)) ∧
      u.wd.cell? ⟨b, 6, none⟩ = some (.int .u8 (I.m 3)) ∧ u.wd.cell? ⟨b, 7, none⟩ = some (.int .u8 (I.m 4)) ∧ u.wd.cell? ⟨b, 8, none⟩ = some (.int .u8 (I.m 5)) := by
  intro u
  have hlt : b < w.heap.size := (Array.getElem?_eq_some_iff.1 h).1
  have r := (u.ok.block b hlt).trans h
  refine ⟨?_, ?_, ?_, ?_, ?_, ?_, ?_, ?_, ?_⟩ <;> (rw [cell_of_row _ _ _ _ _ _ r]; rfl)

end Go.Proofs.YtenhofbhkchjoaaDoor
