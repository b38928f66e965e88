import Derived.Test.YtdoeebbcieiimaaJ
namespace Go.Proofs.Ytdoeebbcieiimaa
open Go.ChangeShapes Go.WideShapes Go.ChangeAt Go.RowKit
set_option maxHeartbeats 400000
set_option maxRecDepth 100000

def smallH : Hd := ⟨0, 7216, true, false, 0, 64, 6, 167838211, 167904004, []⟩
def zeroHd : Hd := ⟨0, 0, false, false, 0, 0, 0, 0, 0, []⟩

theorem small_ok : smallH.Ok := ⟨by decide, by decide, by decide, by decide, by decide, by decide, by decide⟩

theorem small_refE : refE smallH [1, 2, 3].length = 0 := by
  have h1 : M.area smallH.opts = true := by unfold M.area smallH; simp [M.okO_nil]
  unfold refE; rw [if_pos h1, if_pos (by decide), if_pos (by decide)]

theorem sees_three {w : World} (x y z : Nat) (hx : x < 256) (hy : y < 256) (hz : z < 256) (t : TypeId) : SeesB (w.alloc (.cells #[.int .u8 (x : Int), .int .u8 (y : Int), .int .u8 (z : Int)] t)) (.slice (some ⟨w.heap.size, 0, none⟩) 3 3) [x, y, z] := by
  refine ⟨some ⟨w.heap.size, 0, none⟩, 3, rfl, ⟨by simp, fun h => by cases h⟩, by unfold maxLen; omega, fun j hj => ⟨w.heap.size, 0, rfl, by simp, ?_, ?_⟩⟩
  · match j, hj with
    | 0, _ => simp
    | 1, _ => simp
    | 2, _ => simp
  · match j, hj with
    | 0, _ => exact hx
    | 1, _ => exact hy
    | 2, _ => exact hz

def smallC (n : Nat) : Array Value := #[.int .u8 0, .int .u16 7216, .bool true, .bool false, .int .i64 0, .int .u8 64, .int .u8 6, .int .u32 167838211, .int .u32 167904004, .slice none 0 0, .slice (some ⟨n, 0, none⟩) 3 3]

/-- The world behind the making of the packet. -/
def smallW (w : World) : World := (w.alloc (.cells #[.int .u8 1, .int .u8 2, .int .u8 3] 5)).alloc (.cells (smallC w.heap.size) 29)

theorem smallW_below (w : World) : Below w.heap.size w (smallW w) := by
  unfold smallW
  exact ((Below.refl _ _).alloc (Nat.le_refl _) _).alloc (by simp) _

theorem smallW_body (w : World) : SeesB (smallW w) (.slice (some ⟨w.heap.size, 0, none⟩) 3 3) [1, 2, 3] := by
  have h := sees_three (w := w) 1 2 3 (by decide) (by decide) (by decide) 5
  exact h.below ((Below.refl _ _).alloc (Nat.le_refl _) _)

theorem smallB_ok : ∀ x ∈ builtL smallH [1, 2, 3], x < 256 := by
  unfold builtL
  rw [if_pos small_refE]
  intro x hx
  rw [List.mem_append] at hx
  rcases hx with hx | hx
  · exact hdBytes_ok small_ok (by intro x hx; cases hx) (by decide) (f := 0) rfl (by omega) (by decide) (M.csum_lt _) x hx
  · simp at hx; omega

theorem small_build (w : World) :
    Calls Try.prog 45 #[.agg (smallC w.heap.size)] (smallW w) fun e w' => ∃ ao n cap, e = .returned (.tuple #[.slice ao n cap, .int .i64 0]) ∧ SeesB w' (.slice ao n cap) (builtL smallH [1, 2, 3]) ∧ Below (smallW w).heap.size (smallW w) w' := by
  refine (show Calls Try.prog 45 #[.agg (smallC w.heap.size)] (smallW w) _ from build_ref smallH (.slice none 0 0) (.slice (some ⟨w.heap.size, 0, none⟩) 3 3) [1, 2, 3] (smallW w) small_ok (sees_nil _) (smallW_body w) (by decide)).mono ?_
  rintro _ w' ⟨v', rfl, hO, hb⟩
  have hs := hO.sees smallB_ok
  obtain ⟨ao, n, cap, rfl, _, _, _⟩ := hs.shape
  exact ⟨ao, n, cap, by rw [small_refE], hs, hb⟩

theorem seesBB_two {w : World} {n : Nat} (hn : w.heap.size = n) (v1 v2 : Value) (L1 L2 : List Nat) (h1 : SeesB w v1 L1) (h2 : SeesB w v2 L2) (t : TypeId) : SeesBB (w.alloc (.cells #[v1, v2] t)) (.slice (some ⟨n, 0, none⟩) 2 2) [L1, L2] := by
  subst hn
  refine ⟨some ⟨w.heap.size, 0, none⟩, 2, rfl, by simp, by unfold maxLen; omega, fun j hj => ?_⟩
  match j, hj with
  | 0, _ => exact ⟨w.heap.size, 0, v1, rfl, by simp, by simp, h1.below ((Below.refl _ _).alloc (Nat.le_refl _) _)⟩
  | 1, _ => exact ⟨w.heap.size, 0, v2, rfl, by simp, by simp, h2.below ((Below.refl _ _).alloc (Nat.le_refl _) _)⟩

end Go.Proofs.Ytdoeebbcieiimaa
