/-
  The law's clone.
-/
import Derived.Test.YteoebmpfdcbbmabDoorFC
namespace Go.Proofs.YteoebmpfdcbbmabDoor
open Go.ChangeShapes Go.WideShapes Go.ChangeAt Go.RowKit Jn N
set_option maxHeartbeats 4000000
set_option maxRecDepth 100000

theorem clone_any (v : Value) (L : List Nat) (w : World) (hv : SeesB w v L) (hl : L.length ≤ 1099511627776) :
    Calls Tryd.prog 13 #[v] w fun e w' => ∃ v', e = .returned v' ∧ OwnB w' w.heap.size v' L ∧ Below w.heap.size w w' := by
  obtain ⟨ao, n, cap, rfl, HN, hn1, hn2⟩ := hv.shape
  unfold maxLen at hn2
  have hn : n ≤ 1099511627776 := by have := HN.out; omega
  have HV := hid hv
  clear hv hl
  go_enter Tryd.func13, Tryd.ntmps13
  go_wp2_with fail
  go_loopw [3, 4] (fun c i wr => ∃ k : Nat, i = .int .i64 (k : Int) ∧ k ≤ n ∧ Hid (OwnB wr w.heap.size c (L.take k)) ∧ Hid (Below w.heap.size w wr)) (fun _ i _ => n - (intOf i).toNat)
  case atStart => exact ⟨0, rfl, Nat.zero_le _, ownB_nil _ _, Below.refl _ _⟩
  case round =>
    obtain ⟨k, rfl, hk, HO, HB⟩ := hrel
    by_cases hlt : k < n
    · obtain ⟨g, off, x, rfl, hg, hc, hx, HX⟩ := (HV.out.below HB.out).at k hlt
      obtain ⟨w1, HW1⟩ : ∃ w1, Hid (w1 = wr.alloc (.cells #[.int .u8 (x : Int)] 5)) := ⟨_, rfl⟩
      have hb1 : Below wr.heap.size wr w1 := by rw [HW1.out]; exact (Below.refl _ _).alloc (Nat.le_refl _) _
      have q1 : Blk w1 wr.heap.size 5 [x] := by rw [HW1.out]; exact heap_alloc_new wr _
      have HS1 : Hid (SeesB w1 (.slice (some ⟨wr.heap.size, 0, none⟩) 1 1) [x]) := q1.sees rfl (by simp) (by intro y hy; simp at hy; omega)
      have HO1 := hid (HO.out.below hb1)
      have HB1 : Hid (Below w.heap.size w w1) := HB.out.trans (hb1.mono HB.out.size)
      have HSN : Hid (L.take (k + 1) = L.take k ++ [x]) := take_snoc HX.out
      have hbl : (L.take k).length + [x].length ≤ 140737488355328 := by rw [List.length_take]; simp; omega
      have HBL := hid hbl
      clear hb1 q1 HX hbl
      go_upto_region 4 with (at_builtin; rw [← HW1.out]; refine wpList_append_bytes rfl _ _ rfl w.heap.size _ _ rfl HO1.out _ _ rfl HS1.out HBL.out HB1.out.size ?_)
      intro c' w2 ho hb
      have HO2 : Hid (OwnB w2 w.heap.size c' (L.take (k + 1))) := by unfold Hid; rw [HSN.out]; exact ho
      have HB2 : Hid (Below w.heap.size w w2) := HB1.out.trans hb
      clear ho hb
      go_wp2_with fail
      go_roundw
      case rel => exact ⟨k + 1, by go_num, by omega, HO2, HB2⟩
      case measure => simp [intOf]; omega
    · have ho := HO.out
      rw [List.take_of_length_le (by have := HN.out; omega)] at ho
      have HO2 := hid ho
      clear ho
      go_wp2_with fail
      go_ret
      exact ⟨_, rfl, HO2.out, HB.out⟩
end Go.Proofs.YteoebmpfdcbbmabDoor
