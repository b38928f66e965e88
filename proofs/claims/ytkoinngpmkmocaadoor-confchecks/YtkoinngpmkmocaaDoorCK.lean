import Derived.Test.YtkoinngpmkmocaaDoorCJ
namespace Go.Proofs.YtkoinngpmkmocaaDoor
open Go.ChangeShapes Go.WideShapes Go.ChangeAt Go.RowKit Go.Maps
set_option maxHeartbeats 400000
set_option maxRecDepth 100000

/-- The marks behind a list of n. -/
def Marks (w : World) (g n : Nat) : Prop := g < w.heap.size ∧ w.cell? ⟨g, n * 3, none⟩ = some (.int .i64 7001) ∧ w.cell? ⟨g, n * 3 + 1, none⟩ = some (.int .u32 0) ∧ w.cell? ⟨g, n * 3 + 2, none⟩ = some (.int .i64 0) ∧
  w.cell? ⟨g, (n + 1) * 3, none⟩ = some (.int .i64 7002) ∧ w.cell? ⟨g, (n + 1) * 3 + 1, none⟩ = some (.int .u32 0) ∧ w.cell? ⟨g, (n + 1) * 3 + 2, none⟩ = some (.int .i64 0)

theorem Marks.below {w w' : World} {g n : Nat} (h : Marks w g n) (hb : Below w.heap.size w w') : Marks w' g n := by
  obtain ⟨h0, h1, h2, h3, h4, h5, h6⟩ := h
  exact ⟨Nat.lt_of_lt_of_le h0 hb.size, (hb.cell (p := ⟨g, n * 3, none⟩) h0).trans h1, (hb.cell (p := ⟨g, n * 3 + 1, none⟩) h0).trans h2, (hb.cell (p := ⟨g, n * 3 + 2, none⟩) h0).trans h3, (hb.cell (p := ⟨g, (n + 1) * 3, none⟩) h0).trans h4, (hb.cell (p := ⟨g, (n + 1) * 3 + 1, none⟩) h0).trans h5, (hb.cell (p := ⟨g, (n + 1) * 3 + 2, none⟩) h0).trans h6⟩

set_option maxHeartbeats 4000000 in
theorem untouched_any (c1 c : Cfg) (R : List Rsv) (n g cap : Nat) (w : World) (hn : n = R.length) (h1 : SeesV w c1.rv R) (h2 : SeesV w c.rv R) (hm : Marks w g n) (hcap : n + 2 ≤ cap ∧ cap ≤ 9223372036854775807) :
    Calls Tryd.prog 12 #[.agg c1.cells, .slice (some ⟨g, 0, none⟩) (n + 2) cap, .agg c.cells] w fun e w' => e = .returned (.bool true) ∧ Below w.heap.size w w' := by
  obtain ⟨wc, hwc⟩ : ∃ wc, wc = w.alloc (.cells c1.cells 29) := ⟨_, rfl⟩
  obtain ⟨wa, hwa⟩ : ∃ wa, wa = wc.alloc (.cells c.cells 29) := ⟨_, rfl⟩
  have hsc : wc.heap.size = w.heap.size + 1 := by rw [hwc]; simp
  have hbc : Below wc.heap.size wc wa := by rw [hwa]; exact (Below.refl _ _).alloc (Nat.le_refl _) _
  have hb0 : Below w.heap.size w wa := by
    have : Below w.heap.size w wc := by rw [hwc]; exact (Below.refl _ _).alloc (Nat.le_refl _) _
    exact this.trans (hbc.mono this.size)
  obtain ⟨ro, n', rc, hrv, HN', hn1, hn2⟩ := h2.shape
  obtain rfl : n' = n := by rw [HN'.out, hn]
  obtain ⟨ro1, n1, rc1, hrv1, HN1, hn11, hn12⟩ := h1.shape
  have p17 : ∀ u : Beh wa, u.wd.cell? ⟨w.heap.size, 17, none⟩ = some (.slice ro1 n1 rc1) := by
    intro u
    have := Cfg.at (w := w) c1
    rw [← hwc] at this
    have := this ⟨u.wd, hbc.trans (u.ok.mono hbc.size)⟩ 17 (by omega)
    rw [← hrv1]; exact this
  have r17 : ∀ u : Beh wa, u.wd.cell? ⟨w.heap.size + 1, 17, none⟩ = some (.slice ro n' rc) := by
    intro u
    have := Cfg.at (w := wc) c
    rw [← hwa, hsc] at this
    have := this u 17 (by omega)
    rw [← hrv]; exact this
  have HB : Hid (∀ u : Beh wa, Below w.heap.size w u.wd) := fun u => hb0.trans (u.ok.mono hb0.size)
  have HEQ : Hid (∀ u : Beh wa, Calls Tryd.prog 31 #[.slice ro1 n1 rc1, .slice ro n' rc] u.wd fun e w' => e = .returned (.bool true) ∧ ∃ u' : Beh wa, w' = u'.wd) := fun u => by
    have := eqReserved_same _ _ R u.wd (h1.below (HB.out u)) (h2.below (HB.out u))
    rw [hrv, hrv1] at this
    exact this.mono fun e w' ⟨a, q, b⟩ => ⟨a, ⟨u.wd.drewN q, below_drewN u.ok q⟩, b⟩
  have HM : Hid (∀ u : Beh wa, Marks u.wd g n') := fun u => hm.below (HB.out u)
  have HWC := hid hwc
  have HWA := hid hwa
  have HSC := hid hsc
  obtain ⟨u0, hu0⟩ : ∃ u0 : Beh wa, u0.wd = wa := ⟨⟨wa, Below.refl _ _⟩, rfl⟩
  have HU0 := hid hu0
  obtain ⟨hc1, hc2⟩ := hcap
  unfold maxLen at hn2
  clear hwc hwa hsc hbc hb0 h1 h2 hm hrv hrv1 hu0 hn
  generalize c1.cells = cc1 at HWC ⊢
  generalize c.cells = cc at HWA ⊢
  go_enter Tryd.func12, Tryd.ntmps12
  go_upto_region 1 with fail
  rw [← HWC.out, ← HWA.out, ← HU0.out]
  go_wp2_with fail
  refine (HEQ.out u0).mono ?_
  rintro _ _ ⟨rfl, u1, rfl⟩
  obtain ⟨_, m1, m2, m3, m4, m5, m6⟩ := HM.out u1
  go_wp2_with fail
  go_ret
  exact ⟨rfl, HB.out u1⟩
end Go.Proofs.YtkoinngpmkmocaaDoor
