import Derived.Test.YtenhofbhkchjoabDoorT
namespace Go.Proofs.YtenhofbhkchjoabDoor
open Go.ChangeShapes Go.WideShapes Go.ChangeAt Go.RowKit
set_option maxHeartbeats 400000

set_option maxHeartbeats 2000000 in
set_option maxRecDepth 100000 in
theorem holds_any (I : Itm) (w : World) (ht : TabC w) :
    Calls Tryd.prog 9 #[.agg I.cells] w fun e w' => e = .returned (.bool true) ∧ Below w.heap.size w w' := by
  obtain ⟨wa, hwa⟩ : ∃ wa, wa = w.alloc (.cells I.cells 35) := ⟨_, rfl⟩
  have hb0 : Below w.heap.size w wa := by rw [hwa]; exact (Below.refl _ _).alloc (Nat.le_refl _) _
  have hr : wa.heap[w.heap.size]? = some (.cells I.cells 35) := by rw [hwa]; exact heap_alloc_new w _
  have q := I.at hr
  have q0 := fun u => (q u).1
  have q1 := fun u => (q u).2.1
  have q2 := fun u => (q u).2.2.1
  have HT : Hid (∀ u : Beh wa, TabC u.wd) := fun u => ht.below (hb0.trans (u.ok.mono hb0.size))
  have HF1 : Hid (∀ u : Beh wa, Calls Tryd.prog 24 #[.agg #[.int .u32 (I.x : Int), .int .i64 I.n]] u.wd fun e w' => e = .returned (.bool (err (I.x, I.n) == 0)) ∧ ∃ u' : Beh wa, w' = u'.wd) := fun u => Calls.beh (valid_any I.x I.n _ I.hx)
  have HF2 : Hid (∀ u : Beh wa, Calls Tryd.prog 25 #[.agg #[.int .u32 (I.x : Int), .int .i64 I.n]] u.wd fun e w' => e = .returned (.bool (err (I.x, I.n) == 0)) ∧ ∃ u' : Beh wa, w' = u'.wd) := fun u => Calls.beh (refValid_any I.x I.n _ I.hx)
  have HF3 : Hid (∀ u : Beh wa, Calls Tryd.prog 26 #[.agg #[.int .u32 (I.x : Int), .int .i64 I.n]] u.wd fun e w' => e = .returned (ansS I.x I.n) ∧ ∃ u' : Beh wa, w' = u'.wd) := fun u => Calls.beh (span_any I.x I.n _ I.hx)
  have HF4 : Hid (∀ u : Beh wa, Calls Tryd.prog 27 #[.agg #[.int .u32 (I.x : Int), .int .i64 I.n]] u.wd fun e w' => e = .returned (ansS I.x I.n) ∧ ∃ u' : Beh wa, w' = u'.wd) := fun u => Calls.beh (refSpan_any I.x I.n _ I.hx)
  have HF5 : Hid (∀ u : Beh wa, Calls Tryd.prog 28 #[.agg #[.int .u32 (I.x : Int), .int .i64 I.n], .int .u32 (I.a : Int)] u.wd fun e w' => e = .returned (.bool (has I.x I.n I.a)) ∧ ∃ u' : Beh wa, w' = u'.wd) := fun u => Calls.beh (contains_any I.x I.n I.a _ I.hx)
  have HF6 : Hid (∀ u : Beh wa, Calls Tryd.prog 29 #[.agg #[.int .u32 (I.x : Int), .int .i64 I.n], .int .u32 (I.a : Int)] u.wd fun e w' => e = .returned (.bool (has I.x I.n I.a)) ∧ ∃ u' : Beh wa, w' = u'.wd) := fun u => Calls.beh (refContains_any I.x I.n I.a _ I.hx)
  have HF7 : Hid (∀ u : Beh wa, Calls Tryd.prog 30 #[.int .u32 (I.a : Int)] u.wd fun e w' => e = .returned (.int .i64 (cls I.a)) ∧ ∃ u' : Beh wa, w' = u'.wd) := fun u => Calls.beh (class_any I.a _ I.ha (HT.out u))
  have HF8 : Hid (∀ u : Beh wa, Calls Tryd.prog 31 #[.int .u32 (I.a : Int)] u.wd fun e w' => e = .returned (.int .i64 (cls I.a)) ∧ ∃ u' : Beh wa, w' = u'.wd) := fun u => Calls.beh ((refClass_any I.a _ I.ha).mono fun e w' ⟨h1, h2⟩ => ⟨h1, by rw [h2]; exact Below.refl _ _⟩)
  obtain ⟨s1, s2, e2, hs2⟩ := ansS_shape I.x I.n
  rw [hs2] at HF3 HF4
  unfold Itm.cells at hwa ⊢
  have HWA := hid hwa
  clear hwa q hr ht hs2
  generalize (err (I.x, I.n) == 0) = bv at HF1 HF2
  generalize has I.x I.n I.a = bh at HF5 HF6
  generalize cls I.a = bc at HF7 HF8
  generalize I.a = a at *
  generalize I.x = x at *
  generalize I.n = n at *
  generalize I.m 0 = m0 at *
  generalize I.m 1 = m1 at *
  generalize I.m 2 = m2 at *
  generalize I.m 3 = m3 at *
  generalize I.m 4 = m4 at *
  generalize I.m 5 = m5 at *
  obtain ⟨u0, hu0⟩ : ∃ u0 : Beh wa, u0.wd = wa := ⟨⟨wa, Below.refl _ _⟩, rfl⟩
  have HU0 := hid hu0
  clear hu0
  go_enter Tryd.func9, Tryd.ntmps9
  go_wp2_with fail
  rw [← HWA.out, ← HU0.out]
  go_wp2_with fail
  refine (HF1.out u0).mono ?_
  rintro _ _ ⟨rfl, u1, rfl⟩
  go_wp2_with fail
  refine (HF2.out u1).mono ?_
  rintro _ _ ⟨rfl, u2, rfl⟩
  go_wp2_with fail
  refine (HF3.out u2).mono ?_
  rintro _ _ ⟨rfl, u3, rfl⟩
  go_wp2_with fail
  refine (HF4.out u3).mono ?_
  rintro _ _ ⟨rfl, u4, rfl⟩
  go_wp2_with fail
  refine (HF5.out u4).mono ?_
  rintro _ _ ⟨rfl, u5, rfl⟩
  go_wp2_with fail
  refine (HF6.out u5).mono ?_
  rintro _ _ ⟨rfl, u6, rfl⟩
  go_wp2_with fail
  refine (HF7.out u6).mono ?_
  rintro _ _ ⟨rfl, u7, rfl⟩
  go_wp2_with fail
  refine (HF8.out u7).mono ?_
  rintro _ _ ⟨rfl, u8, rfl⟩
  go_wp2_with fail
  go_ret
  exact ⟨rfl, hb0.trans (u8.ok.mono hb0.size)⟩

/-- The slice value v shows, in the world w, the items L. -/
def SeesI (w : World) (v : Value) (L : List Itm) : Prop :=
  ∃ ao cap, v = .slice ao L.length cap ∧ L.length ≤ cap ∧ cap ≤ maxLen ∧
    ∀ j (h : j < L.length), ∃ g off, ao = some ⟨g, off, none⟩ ∧ g < w.heap.size ∧ ∀ i (hi : i < 9), w.cell? ⟨g, off + j * 9 + i, none⟩ = some (L[j].cells[i]'hi)

set_option maxHeartbeats 2000000 in
set_option maxRecDepth 100000 in
theorem addrFormats_walk (v : Value) (L : List Itm) (w : World) (hs : SeesI w v L) (ht : Tab w) (htc : TabC w) :
    Calls Tryd.prog 4 #[v] w fun e w' => e = .returned (.bool true) ∧ Below w.heap.size w w' := by
  obtain ⟨ao, cap, rfl, hnc, hcap, hcell⟩ := hs
  have HC := hid hcell
  have HTB := hid ht
  have HTC := hid htc
  obtain ⟨n, hn⟩ : ∃ n, n = L.length := ⟨_, rfl⟩
  rw [← hn] at hnc ⊢
  have HN := hid hn
  unfold maxLen at hcap
  clear hcell ht htc hn
  go_enter Tryd.func4, Tryd.ntmps4
  go_wp2_with fail
  refine (begun_any _).mono ?_
  rintro e w0 ⟨rfl, rfl⟩
  go_wp2_with fail
  go_loopw [3, 4] (fun t i wr => ∃ j : Nat, t = .bool true ∧ i = .int .i64 j ∧ j ≤ n ∧ Below w0.heap.size w0 wr) (fun _ i _ => n - (intOf i).toNat)
  case atStart => exact ⟨0, rfl, rfl, by omega, Below.refl _ _⟩
  case round =>
    obtain ⟨j, rfl, rfl, hj, hbr⟩ := hrel
    by_cases hjn : j < n
    · obtain ⟨g, off, rfl, hg, hc⟩ := HC.out j (by have := HN.out; omega)
      generalize L[j]'(by have := HN.out; omega) = I at hc
      have c0 : ∀ u, Below w0.heap.size w0 u → u.cell? ⟨g, off + j * 9, none⟩ = some (.int .u32 I.a) := fun u hb => (hb.cell (p := ⟨g, off + j * 9, none⟩) hg).trans (hc 0 (by omega))
      have c1 : ∀ u, Below w0.heap.size w0 u → u.cell? ⟨g, off + j * 9 + 1, none⟩ = some (.int .u32 I.x) := fun u hb => (hb.cell (p := ⟨g, off + j * 9 + 1, none⟩) hg).trans (hc 1 (by omega))
      have c2 : ∀ u, Below w0.heap.size w0 u → u.cell? ⟨g, off + j * 9 + 2, none⟩ = some (.int .i64 I.n) := fun u hb => (hb.cell (p := ⟨g, off + j * 9 + 2, none⟩) hg).trans (hc 2 (by omega))
      have c3 : ∀ u, Below w0.heap.size w0 u → u.cell? ⟨g, off + j * 9 + 3, none⟩ = some (.int .u8 (I.m 0)) := fun u hb => (hb.cell (p := ⟨g, off + j * 9 + 3, none⟩) hg).trans (hc 3 (by omega))
      have c4 : ∀ u, Below w0.heap.size w0 u → u.cell? ⟨g, off + j * 9 + 4, none⟩ = some (.int .u8 (I.m 1)) := fun u hb => (hb.cell (p := ⟨g, off + j * 9 + 4, none⟩) hg).trans (hc 4 (by omega))
      have c5 : ∀ u, Below w0.heap.size w0 u → u.cell? ⟨g, off + j * 9 + 5, none⟩ = some (.int .u8 (I.m 2)) := fun u hb => (hb.cell (p := ⟨g, off + j * 9 + 5, none⟩) hg).trans (hc 5 (by omega))
      have c6 : ∀ u, Below w0.heap.size w0 u → u.cell? ⟨g, off + j * 9 + 6, none⟩ = some (.int .u8 (I.m 3)) := fun u hb => (hb.cell (p := ⟨g, off + j * 9 + 6, none⟩) hg).trans (hc 6 (by omega))
      have c7 : ∀ u, Below w0.heap.size w0 u → u.cell? ⟨g, off + j * 9 + 7, none⟩ = some (.int .u8 (I.m 4)) := fun u hb => (hb.cell (p := ⟨g, off + j * 9 + 7, none⟩) hg).trans (hc 7 (by omega))
      have c8 : ∀ u, Below w0.heap.size w0 u → u.cell? ⟨g, off + j * 9 + 8, none⟩ = some (.int .u8 (I.m 5)) := fun u hb => (hb.cell (p := ⟨g, off + j * 9 + 8, none⟩) hg).trans (hc 8 (by omega))
      clear hc
      have d0 := c0 _ hbr
      have d1 := c1 _ hbr
      have d2 := c2 _ hbr
      have d3 := c3 _ hbr
      have d4 := c4 _ hbr
      have d5 := c5 _ hbr
      have d6 := c6 _ hbr
      have d7 := c7 _ hbr
      have d8 := c8 _ hbr
      go_wp2_with fail
      refine (formats_any I _ (HTB.out.below hbr)).mono ?_
      rintro e w1 ⟨rfl, hb1⟩
      have hb01 := hbr.trans (hb1.mono hbr.size)
      clear d0 d1 d2 d3 d4 d5 d6 d7 d8
      have d0 := c0 _ hb01
      have d1 := c1 _ hb01
      have d2 := c2 _ hb01
      have d3 := c3 _ hb01
      have d4 := c4 _ hb01
      have d5 := c5 _ hb01
      have d6 := c6 _ hb01
      have d7 := c7 _ hb01
      have d8 := c8 _ hb01
      go_wp2_with fail
      refine (holds_any I _ (HTC.out.below hb01)).mono ?_
      rintro e w2 ⟨rfl, hb2⟩
      go_wp2_with fail
      go_roundw
      case rel => exact ⟨j + 1, rfl, by go_num, by omega, hb01.trans (hb2.mono hb01.size)⟩
      case measure => simp [intOf]; omega
    · go_wp2_with fail
      go_ret
      exact ⟨rfl, hbr⟩
end Go.Proofs.YtenhofbhkchjoabDoor
