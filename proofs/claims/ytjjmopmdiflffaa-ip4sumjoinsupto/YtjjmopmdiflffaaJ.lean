import Derived.Test.YtjjmopmdiflffaaE
import Derived.Test.YtjjmopmdiflffaaMathJ
import Derived.Deep.CutRange
import Derived.Deep.AppendLies
import Derived.Deep.RegionLaw
namespace Go.Proofs.Ytjjmopmdiflffaa
open Go.ChangeShapes Go.WideShapes Go.ChangeAt Go.RowKit
set_option maxHeartbeats 400000
set_option maxRecDepth 100000

theorem seesBB_nil (w : World) : SeesBB w (.slice none 0 0) [] := ⟨none, 0, rfl, by simp, by unfold maxLen; omega, fun j h => absurd h (by simp)⟩

theorem seesBB_two {w : World} {n : Nat} (hn : w.heap.size = n) (v1 v2 : Value) (L1 L2 : List Nat) (h1 : SeesB w v1 L1) (h2 : SeesB w v2 L2) (t : TypeId) : SeesBB (w.alloc (.cells #[v1, v2] t)) (.slice (some ⟨n, 0, none⟩) 2 2) [L1, L2] := by
  subst hn
  refine ⟨some ⟨w.heap.size, 0, none⟩, 2, rfl, by simp, by unfold maxLen; omega, fun j hj => ?_⟩
  match j, hj with
  | 0, _ => exact ⟨w.heap.size, 0, v1, rfl, by simp, by simp, h1.below ((Below.refl _ _).alloc (Nat.le_refl _) _)⟩
  | 1, _ => exact ⟨w.heap.size, 0, v2, rfl, by simp, by simp, h2.below ((Below.refl _ _).alloc (Nat.le_refl _) _)⟩

/-- The sum of one list. -/
theorem sum_one (v : Value) (L : List Nat) (u : World) (hv : SeesB u v L) (hl : L.length ≤ 140737488355328) :
    Calls Try.prog 10 #[.slice (some ⟨u.heap.size, 0, none⟩) 1 1] (u.alloc (.cells #[v] 24)) fun e w' => e = .returned (.int .u16 ((M.csum L : Nat) : Int)) ∧ Below u.heap.size u w' := by
  have h := sum_code _ _ _ (seesBB_one (w := u) rfl _ _ hv 24) (by simpa using hl)
  rw [show [L].flatten = L by simp] at h
  exact h.mono fun _ _ ⟨he, hw⟩ => ⟨he, ((Below.refl u.heap.size u).alloc (Nat.le_refl _) _).trans (hw.mono (by simp))⟩

/-- The sum of a list and of a word behind it. -/
theorem sum_word (v : Value) (L : List Nat) (x y : Nat) (u : World) (hv : SeesB u v L) (hl : L.length ≤ 140737488355000) (hx : x < 256) (hy : y < 256) (he : L.length % 2 = 0) :
    Calls Try.prog 10 #[.slice (some ⟨u.heap.size + 1, 0, none⟩) 2 2] ((u.alloc (.cells #[.int .u8 (x : Int), .int .u8 (y : Int)] 5)).alloc (.cells #[v, .slice (some ⟨u.heap.size, 0, none⟩) 2 2] 24)) fun e w' => e = .returned (.int .u16 ((65535 - M.fold (M.tot false L + (256 * x + y)) : Nat) : Int)) ∧ Below u.heap.size u w' := by
  have h2 := sees_two (w := u) rfl x y hx hy 5
  have h1 := hv.below (w' := u.alloc (.cells #[.int .u8 (x : Int), .int .u8 (y : Int)] 5)) ((Below.refl _ _).alloc (Nat.le_refl _) _)
  have h := sum_code _ _ _ (seesBB_two (w := u.alloc (.cells #[.int .u8 (x : Int), .int .u8 (y : Int)] 5)) rfl _ _ _ _ h1 h2 24) (by simp; omega)
  rw [show [L, [x, y]].flatten = L ++ [x, y] by simp, World.size_alloc] at h
  unfold M.csum at h
  rw [M.tot_word L x y he] at h
  exact h.mono fun _ _ ⟨he, hw⟩ => ⟨he, (((Below.refl u.heap.size u).alloc (Nat.le_refl _) _).alloc (by simp) _).trans (hw.mono (by simp; omega))⟩

theorem sum_ex (u : World) :
    Calls Try.prog 10 #[.slice (some ⟨u.heap.size + 2, 0, none⟩) 2 2] (((u.alloc (.cells #[.int .u8 1] 5)).alloc (.cells #[.int .u8 2, .int .u8 3] 5)).alloc (.cells #[.slice (some ⟨u.heap.size, 0, none⟩) 1 1, .slice (some ⟨u.heap.size + 1, 0, none⟩) 2 2] 24)) fun e w' => e = .returned (.int .u16 64509) ∧ Below u.heap.size u w' := by
  have hs1 := sees_one (w := u) rfl 1 (by decide) 5
  have hs2 := sees_two (w := u.alloc (.cells #[.int .u8 1] 5)) rfl 2 3 (by decide) (by decide) 5
  have hs1' := hs1.below (w' := (u.alloc (.cells #[.int .u8 1] 5)).alloc (.cells #[.int .u8 2, .int .u8 3] 5)) ((Below.refl _ _).alloc (Nat.le_refl _) _)
  have h := sum_code _ _ _ (seesBB_two rfl _ _ _ _ hs1' hs2 24) (by decide)
  rw [show M.csum [[1], [2, 3]].flatten = 64509 by decide] at h
  simp only [World.size_alloc] at h
  exact (show Calls Try.prog 10 _ _ _ from h).mono fun _ _ ⟨he, hw⟩ => ⟨he, ((((Below.refl u.heap.size u).alloc (Nat.le_refl _) _).alloc (by simp) _).alloc (by simp; omega) _).trans (hw.mono (by omega))⟩
end Go.Proofs.Ytjjmopmdiflffaa
