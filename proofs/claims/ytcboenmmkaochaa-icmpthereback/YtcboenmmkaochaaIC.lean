/-
  icmp.Build, icmp.Parse.
-/
import Derived.Test.YtcboenmmkaochaaIB
namespace Go.Proofs.Ytcboenmmkaochaa.N
open Go.ChangeShapes Go.WideShapes Go.ChangeAt Go.RowKit
set_option maxHeartbeats 2000000
set_option maxRecDepth 100000

theorem ibuild_any (m : Im.Ct) (vb : Value) (w : World) (hok : m.Ok) (hvb : SeesB w vb m.B) :
    Calls Try.prog 9 #[.agg (ctCells m vb)] w fun e w' => ∃ ao n cap, e = .returned (.tuple #[.slice ao n cap, .int .i64 (Im.bdE m)]) ∧ SeesB w' (.slice ao n cap) (Im.bdL m) ∧ (Im.bdE m = 0 → ∃ g, ao = some ⟨g, 0, none⟩ ∧ cap = n ∧ Blk w' g (Im.bdL m) ∧ w.heap.size ≤ g) ∧ Below w.heap.size w w' := by
  obtain ⟨w1, hw1⟩ : ∃ w1, w1 = w.alloc (.cells (ctCells m vb) 25) := ⟨_, rfl⟩
  have hb1 : Below w.heap.size w w1 := by rw [hw1]; exact (Below.refl _ _).alloc (Nat.le_refl _) _
  have hk1 : w1.heap[w.heap.size]? = some (.cells (ctCells m vb) 25) := by rw [hw1]; exact heap_alloc_new w _
  have HVB := hid hvb
  obtain ⟨ab, nb, capb, rfl, HNB, hnb1, hnb2⟩ := hvb.shape
  unfold maxLen at hnb2
  obtain ⟨d0, d1, d2, d3⟩ := ct_at hk1
  have HOK := hid hok
  have HW1 := hid hw1
  have HB1 := hid hb1
  have HLD : Hid ((Instr.loadAt 25 (.pointer (some ⟨w.heap.size, 0, none⟩))).run Try.prog w1 = .ok (.agg (ctCells m (.slice ab nb capb))) w1) := by
    refine run_loadAt_mid w1 w.heap.size 0 25 (ctCells m (.slice ab nb capb)).toList (.struct _) (fun j v hv => ?_) Try.underlying25 rfl (by rw [show (Try.prog.info? 25).map (·.size) = some 4 from by kernel_rfl]; rfl)
    rw [Nat.zero_add, cell_of_row _ _ _ _ _ _ hk1, ← hv, Array.getElem?_toList]
  by_cases hl : m.B.length ≤ 65507
  · have HLAY := hid (lay_any m (.slice ab nb capb) w1 hok (hvb.below hb1) hl)
    have HE : Hid (Im.bdE m = 0 ∧ Im.bdL m = Im.laid m) := ⟨by unfold Im.bdE; rw [if_neg (by omega)], by unfold Im.bdL; rw [if_neg (by omega)]⟩
    have hnb : nb ≤ 65507 := by have := HNB.out; omega
    clear hw1 hb1 hk1 hvb d0 d1 d2 hl hok HNB
    generalize ctCells m (.slice ab nb capb) = pk at *
    go_enter Try.func9, Try.ntmps9
    go_upto_region 1 with fail
    rw [← HW1.out]
    go_wp2_with (first | (refine wpList_ld 25 ⟨w.heap.size, 0, none⟩ _ rfl rfl HLD.out rfl ?_) | fail)
    refine HLAY.out.mono ?_
    rintro _ w2 ⟨g, k, rfl, hs2, hB2, hg2, hb2⟩
    go_wp2_with fail
    refine bodyPost_ret (results_tmp2 Try.results9 _ _ _) rfl ?_
    rw [HE.out.1, HE.out.2]
    exact ⟨_, _, _, rfl, hs2, fun _ => ⟨g, rfl, rfl, hB2, by have := HB1.out.size; omega⟩, HB1.out.trans (hb2.mono HB1.out.size)⟩
  · have HE : Hid (Im.bdE m = 37 ∧ Im.bdL m = []) := ⟨by unfold Im.bdE; rw [if_pos (by omega)], by unfold Im.bdL; rw [if_pos (by omega)]⟩
    have hnb : ¬ nb ≤ 65507 := by have := HNB.out; omega
    clear hw1 hb1 hk1 hvb d0 d1 d2 hl hok HNB HLD
    generalize ctCells m (.slice ab nb capb) = pk at *
    go_enter Try.func9, Try.ntmps9
    go_upto_region 1 with fail
    rw [← HW1.out]
    go_wp2_with fail
    refine bodyPost_ret (results_tmp2 Try.results9 _ _ _) rfl ?_
    rw [HE.out.1, HE.out.2]
    exact ⟨_, _, _, rfl, sees_nil _, (fun h => absurd h (by decide)), HB1.out⟩
end Go.Proofs.Ytcboenmmkaochaa.N
