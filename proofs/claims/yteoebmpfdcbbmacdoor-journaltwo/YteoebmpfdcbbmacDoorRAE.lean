/-
  The law's example.
-/
import Derived.Test.YteoebmpfdcbbmacDoorRA
namespace Go.Proofs.YteoebmpfdcbbmacDoor
open Go.ChangeShapes Go.WideShapes Go.ChangeAt Go.RowKit Jn N
set_option maxHeartbeats 1000000
set_option maxRecDepth 100000

def ex1 : Array Value := #[.int .u8 119, .int .u8 101, .int .u8 102, .int .u8 116, .int .u8 0, .int .u8 0, .int .u8 0, .int .u8 1, .int .u8 0, .int .u8 0, .int .u8 0, .int .u8 0, .int .u8 70, .int .u8 82, .int .u8 91, .int .u8 48, .int .u8 0, .int .u8 0, .int .u8 0, .int .u8 2, .int .u8 158, .int .u8 131, .int .u8 72, .int .u8 109, .int .u8 254, .int .u8 162, .int .u8 42, .int .u8 22, .int .u8 97, .int .u8 98]
def ex2 : Array Value := #[.int .u8 0, .int .u8 0, .int .u8 0, .int .u8 0, .int .u8 0, .int .u8 0, .int .u8 0, .int .u8 0, .int .u8 38, .int .u8 86, .int .u8 134, .int .u8 147]
theorem ex1_is : ex1 = (bs (exL.take 30)).toArray := by kernel_rfl
theorem ex2_is : ex2 = (bs (exL.drop 30)).toArray := by kernel_rfl
theorem exL_lt : ∀ y ∈ exL, y < 256 := by decide
theorem exL_split : (exL.take 30).take 30 ++ exL.drop 30 = exL := by decide
theorem exL_l1 : (exL.take 30).length = 30 := by decide
theorem exL_l2 : (exL.drop 30).length = 12 := by decide

theorem example_any (w : World) :
    Calls Tryd.prog 26 #[] w fun e w' => ∃ v, e = .returned v ∧ SeesB w' v exL ∧ Below w.heap.size w w' := by
  obtain ⟨w1, HW1⟩ : ∃ w1, Hid (w1 = w.alloc (.cells ex1 5)) := ⟨_, rfl⟩
  obtain ⟨w2, HW2⟩ : ∃ w2, Hid (w2 = w1.alloc (.cells ex2 5)) := ⟨_, rfl⟩
  have hb1 : Below w.heap.size w w1 := by rw [HW1.out]; exact (Below.refl _ _).alloc (Nat.le_refl _) _
  have hs1 : w1.heap.size = w.heap.size + 1 := by rw [HW1.out]; simp
  have hb2 : Below w1.heap.size w1 w2 := by rw [HW2.out]; exact (Below.refl _ _).alloc (Nat.le_refl _) _
  have q1 : Blk w1 w.heap.size 5 (exL.take 30) := by unfold Blk; rw [HW1.out, ← ex1_is]; exact heap_alloc_new w _
  have q2 : Blk w2 w1.heap.size 5 (exL.drop 30) := by unfold Blk; rw [HW2.out, ← ex2_is]; exact heap_alloc_new w1 _
  have hby := exL_lt
  have hsp := exL_split
  have l1 := exL_l1
  have l2 := exL_l2
  generalize exL.take 30 = E1 at *
  generalize exL.drop 30 = E2 at *
  generalize exL = E at *
  have b1 : ∀ y ∈ E1, y < 256 := fun y hy => hby y (by rw [← hsp]; exact List.mem_append.2 (.inl (by rw [List.take_of_length_le (by omega)]; exact hy)))
  have b2 : ∀ y ∈ E2, y < 256 := fun y hy => hby y (by rw [← hsp]; exact List.mem_append.2 (.inr hy))
  obtain ⟨g', c', w3, hr, ho, hk, hg⟩ := append_front w2 22 w.heap.size 30 30 30 E1 E2 (some ⟨w1.heap.size, 0, none⟩) 12 12 ((q1.below hb2 (by omega)).own l1.symm (by omega)) (Nat.le_refl _) (q2.sees l2.symm (by omega) b2) (by omega) (by omega)
  have HAP := hid hr
  have hb02 : Below w.heap.size w w2 := hb1.trans (hb2.mono hb1.size)
  have HB3 : Hid (Below w.heap.size w w3) := hk.below hb02 hb02.size (fun k hk e => by unfold At1 at e; omega)
  have HS3 : Hid (SeesB w3 (.slice (some ⟨g', 0, none⟩) (30 + 12) c') E) := by
    have h1 := ho.sees (fun y hy => by rw [hsp] at hy; exact hby y hy)
    rw [hsp] at h1
    exact h1
  rw [hs1] at HAP
  clear q1 q2 hr ho hk hg hb02 hb1 hb2 hsp hby b1 b2 l1 l2
  go_enter Tryd.func26, Tryd.ntmps26
  unfold ex1 at HW1
  unfold ex2 at HW2
  go_upto_region 2 with fail
  rw [← HW1.out]
  go_wp2_with (at_builtin; rw [← HW2.out]; refine wpList_append_run _ rfl _ _ 22 22 rfl _ _ rfl rfl HAP.out ?_)
  go_ret
  exact ⟨_, rfl, HS3.out, HB3.out⟩
end Go.Proofs.YteoebmpfdcbbmacDoor
