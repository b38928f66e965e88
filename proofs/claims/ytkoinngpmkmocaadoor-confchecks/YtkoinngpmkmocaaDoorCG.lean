import Derived.Test.YtkoinngpmkmocaaDoorCF
namespace Go.Proofs.YtkoinngpmkmocaaDoor
open Go.ChangeShapes Go.WideShapes Go.ChangeAt Go.RowKit Go.Maps
set_option maxHeartbeats 400000
set_option maxRecDepth 100000

/-- Check's answer. -/
def ans (c : Cfg) (R : List Rsv) : Int := if (nums c && adr c) = true then (if (decide (c.max < c.min) || (inside c || !resv c R)) = true then 28 else 0) else 26

theorem nums_hosts {c : Cfg} (h : nums c = true) : 1 ≤ c.hosts ∧ c.hosts ≤ 64 := by
  unfold nums at h
  simp only [Bool.and_eq_true] at h
  exact inb_true h.1.1.1.1.2

set_option maxHeartbeats 8000000 in
theorem check_any' (c : Cfg) (R : List Rsv) (w : World) (hs : SeesV w c.rv R) (ht : TabC w) :
    Calls Tryd.prog 10 #[.agg c.cells] w fun e w' => e = .returned (.int .i64 (ans c R)) ∧ Below w.heap.size w w' := by
  obtain ⟨wc, hwc⟩ : ∃ wc, wc = w.alloc (.cells c.cells 29) := ⟨_, rfl⟩
  have hb0 : Below w.heap.size w wc := by rw [hwc]; exact (Below.refl _ _).alloc (Nat.le_refl _) _
  have q := Cfg.at (w := w) c
  rw [← hwc] at q
  have q3 : ∀ u : Beh wc, u.wd.cell? ⟨w.heap.size, 3, none⟩ = some (.int .u32 (c.min : Int)) := fun u => q u 3 (by omega)
  have q4 : ∀ u : Beh wc, u.wd.cell? ⟨w.heap.size, 4, none⟩ = some (.int .u32 (c.max : Int)) := fun u => q u 4 (by omega)
  have ql : ∀ u : Beh wc, (Instr.loadAt 29 (.pointer (some ⟨w.heap.size, 0, none⟩))).run Tryd.prog u.wd = .ok (.agg c.cells) u.wd := fun u => Cfg.load c (q u)
  have HB : Hid (∀ u : Beh wc, Below w.heap.size w u.wd) := fun u => hb0.trans (u.ok.mono hb0.size)
  have HT : Hid (∀ u : Beh wc, TabC u.wd) := fun u => ht.below (HB.out u)
  have H1 : Hid (∀ u : Beh wc, Calls Tryd.prog 23 #[.agg c.cells] u.wd fun e w' => e = .returned (.bool (nums c)) ∧ ∃ u' : Beh wc, w' = u'.wd) := fun u => Calls.beh (numbersFit_any c _)
  have H2 : Hid (nums c = true → ∀ u : Beh wc, Calls Tryd.prog 24 #[.agg c.cells] u.wd fun e w' => e = .returned (.bool (adr c)) ∧ ∃ u' : Beh wc, w' = u'.wd) := fun h u => Calls.beh (addressesFit_any c _ (HT.out u) (nums_hosts h))
  have H3 : Hid (nums c = true → ∀ u : Beh wc, Calls Tryd.prog 25 #[.agg c.cells] u.wd fun e w' => e = .returned (.bool (inside c)) ∧ ∃ u' : Beh wc, w' = u'.wd) := fun h u => Calls.beh (hostIn_any c _ (nums_hosts h))
  have H4 : Hid (nums c = true → ∀ u : Beh wc, Calls Tryd.prog 26 #[.agg c.cells] u.wd fun e w' => e = .returned (.bool (resv c R)) ∧ ∃ u' : Beh wc, w' = u'.wd) := fun h u => Calls.beh (reservedFit_any c R _ (hs.below (HB.out u)) (nums_hosts h))
  have HA : Hid (ans c R = if (nums c && adr c) = true then (if (decide (c.max < c.min) || (inside c || !resv c R)) = true then 28 else 0) else 26) := rfl
  have HWC := hid hwc
  obtain ⟨u0, hu0⟩ : ∃ u0 : Beh wc, u0.wd = wc := ⟨⟨wc, Below.refl _ _⟩, rfl⟩
  have HU0 := hid hu0
  clear hwc hb0 q hs ht hu0
  generalize c.cells = cc at HWC ql H1 H2 H3 H4 ⊢
  generalize nums c = b1 at H1 H2 H3 H4 HA
  generalize adr c = b2 at H2 HA
  generalize inside c = b3 at H3 HA
  generalize resv c R = b4 at H4 HA
  generalize ans c R = res at HA ⊢
  go_enter Tryd.func10, Tryd.ntmps10
  go_upto_region 1 with fail
  rw [← HWC.out, ← HU0.out]
  go_wp2_with (first | (refine wpList_cfg w.heap.size (.tmp 1) rfl rfl (ql _) rfl ?_) | fail)
  refine (H1.out u0).mono ?_
  rintro _ _ ⟨rfl, u1, rfl⟩
  cases b1
  · go_wp2_with fail
    go_ret
    exact ⟨ret_int HA.out.symm, HB.out u1⟩
  go_wp2_with (first | (refine wpList_cfg w.heap.size (.tmp 1) rfl rfl (ql _) rfl ?_) | fail)
  refine (H2.out (by first | rfl | trivial) u1).mono ?_
  rintro _ _ ⟨rfl, u2, rfl⟩
  cases b2
  · go_wp2_with fail
    go_ret
    exact ⟨ret_int HA.out.symm, HB.out u2⟩
  by_cases g : c.max < c.min
  · have HE : Hid (res = 28) := by unfold Hid; rw [HA.out, decide_eq_true g]; rfl
    go_wp2_with fail
    go_ret
    exact ⟨ret_int HE.out.symm, HB.out u2⟩
  have HE : Hid (res = if (b3 || !b4) = true then 28 else 0) := by unfold Hid; rw [HA.out, decide_eq_false g]; rfl
  clear HA
  go_wp2_with (first | (refine wpList_cfg w.heap.size (.tmp 1) rfl rfl (ql _) rfl ?_) | fail)
  refine (H3.out (by first | rfl | trivial) u2).mono ?_
  rintro _ _ ⟨rfl, u3, rfl⟩
  cases b3
  case true =>
    go_wp2_with fail
    go_ret
    exact ⟨ret_int HE.out.symm, HB.out u3⟩
  go_wp2_with (first | (refine wpList_cfg w.heap.size (.tmp 1) rfl rfl (ql _) rfl ?_) | fail)
  refine (H4.out (by first | rfl | trivial) u3).mono ?_
  rintro _ _ ⟨rfl, u4, rfl⟩
  cases b4
  · go_wp2_with fail
    go_ret
    exact ⟨ret_int HE.out.symm, HB.out u4⟩
  · go_wp2_with fail
    go_ret
    exact ⟨ret_int HE.out.symm, HB.out u4⟩
end Go.Proofs.YtkoinngpmkmocaaDoor
