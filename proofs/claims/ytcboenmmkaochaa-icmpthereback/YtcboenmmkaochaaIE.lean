/-
  What is read, whatever comes; messages held against each other.
-/
import Derived.Test.YtcboenmmkaochaaID
namespace Go.Proofs.Ytcboenmmkaochaa.N
open Go.ChangeShapes Go.WideShapes Go.ChangeAt Go.RowKit
set_option maxHeartbeats 2000000
set_option maxRecDepth 100000

theorem iparse_any (v : Value) (L : List Nat) (w : World) (hv : SeesB w v L) :
    Calls Try.prog 10 #[v] w fun e w' => ∃ ao n cap, e = .returned (.tuple #[.agg (ctCells (Im.prC L) (.slice ao n cap)), .int .i64 (Im.prE L)]) ∧ SeesB w' (.slice ao n cap) (Im.prC L).B ∧ (∀ a, ao = some a → w.heap.size ≤ a.block) ∧ Below w.heap.size w w' := by
  by_cases he : Im.prE L = 0
  · refine (iparse_good v L w hv he).mono ?_
    rintro e w' ⟨g, k, rfl, hs, hg, hb⟩
    rw [he]
    exact ⟨_, _, _, rfl, hs, (fun a ha => by cases ha; exact hg), hb⟩
  · refine (iparse_bad v L w hv he).mono ?_
    rintro e w' ⟨rfl, hb⟩
    have hc : Im.prC L = Im.none0 := by unfold Im.prC; rw [if_neg he]
    rw [hc]
    exact ⟨none, 0, 0, rfl, sees_nil _, (fun a ha => by cases ha), hb⟩

theorem controls_same (m : Im.Ct) (va vb : Value) (w : World) (ha : SeesB w va m.B) (hb : SeesB w vb m.B) :
    Calls Try.prog 12 #[.agg (ctCells m va), .agg (ctCells m vb)] w fun e w' => e = .returned (.bool true) ∧ Below w.heap.size w w' := by
  obtain ⟨ao, n, cap, rfl, HN, hn1, hn2⟩ := ha.shape
  obtain ⟨bo, nb, capb, rfl, HNB, hnb1, hnb2⟩ := hb.shape
  obtain ⟨w1, hw1⟩ : ∃ w1, w1 = w.alloc (.cells (ctCells m (.slice ao n cap)) 25) := ⟨_, rfl⟩
  obtain ⟨w2, hw2⟩ : ∃ w2, w2 = w1.alloc (.cells (ctCells m (.slice bo nb capb)) 25) := ⟨_, rfl⟩
  have hs1 : w1.heap.size = w.heap.size + 1 := by rw [hw1]; simp
  have hb1 : Below w.heap.size w w1 := by rw [hw1]; exact (Below.refl _ _).alloc (Nat.le_refl _) _
  have hb2 : Below w1.heap.size w1 w2 := by rw [hw2]; exact (Below.refl _ _).alloc (Nat.le_refl _) _
  have hbw : Below w.heap.size w w2 := hb1.trans (hb2.mono hb1.size)
  have k1 : w2.heap[w.heap.size]? = some (.cells (ctCells m (.slice ao n cap)) 25) := by
    rw [hb2.block _ (by omega), hw1]; exact heap_alloc_new w _
  have k2 : w2.heap[w.heap.size + 1]? = some (.cells (ctCells m (.slice bo nb capb)) 25) := by
    rw [← hs1, hw2]; exact heap_alloc_new w1 _
  obtain ⟨c0, c1, c2, c3⟩ := ct_at k1
  obtain ⟨d0, d1, d2, d3⟩ := ct_at k2
  have HS := hid (same_any _ _ m.B m.B w2 (ha.below hbw) (hb.below hbw))
  have HBW := hid hbw
  have HW : Hid (w2 = (w.alloc (.cells (ctCells m (.slice ao n cap)) 25)).alloc (.cells (ctCells m (.slice bo nb capb)) 25)) := by unfold Hid; rw [hw2, hw1]
  clear hw1 hw2 hb1 hb2 hbw k1 k2 ha hb HN HNB
  generalize ctCells m (.slice ao n cap) = pa at *
  generalize ctCells m (.slice bo nb capb) = pb at *
  go_enter Try.func12, Try.ntmps12
  go_upto_region 1 with fail
  rw [← HW.out]
  go_wp2_with fail
  refine HS.out.mono ?_
  rintro _ w3 ⟨rfl, hb3⟩
  go_wp2_with fail
  go_ret
  exact ⟨ret_bool (by simp), HBW.out.trans (hb3.mono HBW.out.size)⟩
end Go.Proofs.Ytcboenmmkaochaa.N
