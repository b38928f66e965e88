import Derived.Test.YtenhofbhkchjoaaDoorX
namespace Go.Proofs.YtenhofbhkchjoaaDoor
open Go.ChangeShapes Go.WideShapes Go.ChangeAt Go.RowKit
set_option maxHeartbeats 400000

/-- A prefix, printed and read back. -/
theorem back_p (x : Nat) (n : Int) (hx : x < 4294967296) : ∃ (s : ByteArray) (e y k f : Int), ansFP x n = .tuple #[.string s, .int .i64 e] ∧ s.size ≤ maxLen ∧
    ansP s.data.toList = .tuple #[.agg #[.int .u32 y, .int .i64 k], .int .i64 f] ∧ (err (x, n) == 0) = (e == 0) ∧ ((e == 0) = false ∨ (e = 0 ∧ f = 0 ∧ y = (x : Int) ∧ k = n)) := by
  by_cases he : err (x, n) = 0
  · obtain ⟨k, hk, hn, _⟩ := err_ok he
    simp only at hn
    have hp := pre_quad (a := x) (n := n.toNat) hx (by omega)
    have hn' : ((n.toNat : Nat) : Int) = n := by omega
    refine ⟨_, 0, x, n, 0, if_pos he, ?_, ?_, by rw [he], .inr ⟨rfl, rfl, rfl, rfl⟩⟩
    · have h1 := fmtA_size x
      have h2 := dd_size (k := n.toNat) (by omega)
      unfold maxLen
      simp only [ByteArray.size_append]
      have h3 : (⟨#[47]⟩ : ByteArray).size = 1 := rfl
      omega
    · rw [fmtP_list]
      unfold ansP
      rw [hp]
      simp only [hn']
      rw [if_pos he]; rfl
  · refine ⟨_, _, 0, 0, 11, if_neg he, ?_, rfl, rfl, .inl (by rw [beq_eq_false_iff_ne]; exact he)⟩
    unfold maxLen
    have h3 : (⟨#[]⟩ : ByteArray).size = 0 := rfl
    omega

/-- The slice value v shows, in the world w, the items L. -/
def SeesI (w : World) (v : Value) (L : List Itm) : Prop :=
  ∃ ao cap, v = .slice ao L.length cap ∧ L.length ≤ cap ∧ cap ≤ maxLen ∧
    ∀ j (h : j < L.length), ∃ g off, ao = some ⟨g, off, none⟩ ∧ g < w.heap.size ∧ ∀ i (hi : i < 9), w.cell? ⟨g, off + j * 9 + i, none⟩ = some (L[j].cells[i]'hi)

theorem mac_size (M : Nat → Nat) : (⟨(mac M 6).toArray⟩ : ByteArray).size ≤ maxLen := by
  rw [mac_list]; unfold maxLen; exact Nat.le_trans (Nat.le_of_eq rfl) (by omega : 17 ≤ _)

set_option maxHeartbeats 4000000 in
set_option maxRecDepth 100000 in
theorem addrTwoWays_walk (v v1 : Value) (L : List Itm) (T : List ByteArray) (w : World) (hs : SeesI w v L) (hs1 : SeesS w v1 T) (ht : Tab w) :
    Calls Tryd.prog 3 #[v, v1] w fun e w' => e = .returned (.bool true) ∧ Below w.heap.size w w' := by
  obtain ⟨ao, cap, rfl, hnc, hcap, hcell⟩ := hs
  obtain ⟨ao1, cap1, rfl, hnc1, hcap1, hcell1⟩ := hs1
  have HC := hid hcell
  have HC1 := hid hcell1
  have HTB := hid ht
  obtain ⟨n, hn⟩ : ∃ n, n = L.length := ⟨_, rfl⟩
  obtain ⟨n1, hn1⟩ : ∃ n, n = T.length := ⟨_, rfl⟩
  rw [← hn] at hnc ⊢
  rw [← hn1] at hnc1 ⊢
  have HN := hid hn
  have HN1 := hid hn1
  unfold maxLen at hcap hcap1
  clear hcell hcell1 ht hn hn1
  go_enter Tryd.func3, Tryd.ntmps3
  go_wp2_with fail
  refine (begun_any _).mono ?_
  rintro e w0 ⟨rfl, rfl⟩
  go_wp2_with fail
  go_loopw [6] (fun i wv => ∃ (j : Nat) (wr : World), i = .int .i64 j ∧ j ≤ n ∧ wr = wv ∧ Below w0.heap.size w0 wr) (fun i _ => n - (intOf i).toNat)
  case atStart => exact ⟨0, _, rfl, by omega, rfl, Below.refl _ _⟩
  case round =>
    obtain ⟨j, wr, rfl, hj, rfl, hbr⟩ := hrel
    by_cases hjn : j < n
    · obtain ⟨g, off, rfl, hg, hc⟩ := HC.out j (by have := HN.out; omega)
      generalize L[j]'(by have := HN.out; omega) = I at hc
      have c0 : ∀ i (hi : i < 9), wr.cell? ⟨g, off + j * 9 + i, none⟩ = some (I.cells[i]'hi) := fun i hi => (hbr.cell (p := ⟨g, off + j * 9 + i, none⟩) hg).trans (hc i hi)
      have d0 : wr.cell? ⟨g, off + j * 9, none⟩ = some (.int .u32 I.a) := c0 0 (by omega)
      have d1 : wr.cell? ⟨g, off + j * 9 + 1, none⟩ = some (.int .u32 I.x) := c0 1 (by omega)
      have d2 : wr.cell? ⟨g, off + j * 9 + 2, none⟩ = some (.int .i64 I.n) := c0 2 (by omega)
      have d3 : wr.cell? ⟨g, off + j * 9 + 3, none⟩ = some (.int .u8 (I.m 0)) := c0 3 (by omega)
      have d4 : wr.cell? ⟨g, off + j * 9 + 4, none⟩ = some (.int .u8 (I.m 1)) := c0 4 (by omega)
      have d5 : wr.cell? ⟨g, off + j * 9 + 5, none⟩ = some (.int .u8 (I.m 2)) := c0 5 (by omega)
      have d6 : wr.cell? ⟨g, off + j * 9 + 6, none⟩ = some (.int .u8 (I.m 3)) := c0 6 (by omega)
      have d7 : wr.cell? ⟨g, off + j * 9 + 7, none⟩ = some (.int .u8 (I.m 4)) := c0 7 (by omega)
      have d8 : wr.cell? ⟨g, off + j * 9 + 8, none⟩ = some (.int .u8 (I.m 5)) := c0 8 (by omega)
      clear hc c0
      obtain ⟨wa, hwa⟩ : ∃ wa, wa = wr.alloc (.cells I.cells 32) := ⟨_, rfl⟩
      have hb0 : Below wr.heap.size wr wa := by rw [hwa]; exact (Below.refl _ _).alloc (Nat.le_refl _) _
      have hb0a : Below w0.heap.size w0 wa := hbr.trans (hb0.mono hbr.size)
      have hr : wa.heap[wr.heap.size]? = some (.cells I.cells 32) := by rw [hwa]; exact heap_alloc_new wr _
      have hsz : wr.heap.size < wa.heap.size := by rw [hwa]; simp
      have q := I.at hr
      have HLT : Hid (∀ u : Beh wa, wr.heap.size < u.wd.heap.size) := fun u => by have := u.ok.size; omega
      have q0 := fun u => (q u).1
      have q1 := fun u => (q u).2.1
      have q2 := fun u => (q u).2.2.1
      have q3 := fun u => (q u).2.2.2.1
      have q4 := fun u => (q u).2.2.2.2.1
      have q5 := fun u => (q u).2.2.2.2.2.1
      have q6 := fun u => (q u).2.2.2.2.2.2.1
      have q7 := fun u => (q u).2.2.2.2.2.2.2.1
      have q8 := fun u => (q u).2.2.2.2.2.2.2.2
      have HT : Hid (∀ u : Beh wa, Tab u.wd) := fun u => HTB.out.below (hb0a.trans (u.ok.mono hb0a.size))
      obtain ⟨s2, e2, y2, k2, f2, hs2, hz2, hp2, hv2, hq2⟩ := back_p I.x I.n I.hx
      have HF1 : Hid (∀ u : Beh wa, Calls Tryd.prog 5 #[.int .u32 (I.a : Int)] u.wd fun e w' => e = .returned (.string (fmtA I.a)) ∧ ∃ u' : Beh wa, w' = u'.wd) := fun u => Calls.beh (format_any I.a I.ha _ (HT.out u))
      have HF2 : Hid (∀ u : Beh wa, Calls Tryd.prog 6 #[.string (fmtA I.a)] u.wd fun e w' => e = .returned (.tuple #[.int .u32 (I.a : Int), .int .i64 0]) ∧ ∃ u' : Beh wa, w' = u'.wd) := fun u =>
        (parse_any (fmtA I.a) _ (by have := fmtA_size I.a; unfold maxLen; omega)).mono fun e w' ⟨h1, h2⟩ => ⟨by rw [h1, fmtA_list, S.pa_quad I.ha]; rfl, u, h2⟩
      have HF3 : Hid (∀ u : Beh wa, Calls Tryd.prog 7 #[.agg #[.int .u8 (I.m 0), .int .u8 (I.m 1), .int .u8 (I.m 2), .int .u8 (I.m 3), .int .u8 (I.m 4), .int .u8 (I.m 5)]] u.wd fun e w' => e = .returned (.string ⟨(mac I.m 6).toArray⟩) ∧ ∃ u' : Beh wa, w' = u'.wd) := fun u => Calls.beh (formatMAC_any _ _ _ _ _ _ I.m I.hm rfl rfl rfl rfl rfl rfl _)
      have HF4 : Hid (∀ u : Beh wa, Calls Tryd.prog 8 #[.string ⟨(mac I.m 6).toArray⟩] u.wd fun e w' => e = .returned (.tuple #[.agg #[.int .u8 (I.m 0), .int .u8 (I.m 1), .int .u8 (I.m 2), .int .u8 (I.m 3), .int .u8 (I.m 4), .int .u8 (I.m 5)], .int .i64 0]) ∧ ∃ u' : Beh wa, w' = u'.wd) := fun u =>
        Calls.beh ((parseMAC_any ⟨(mac I.m 6).toArray⟩ _).mono fun e w' ⟨h1, h2⟩ => ⟨by rw [h1, ansM_mac I.m I.hm]; rfl, h2⟩)
      have HF5 : Hid (∀ u : Beh wa, Calls Tryd.prog 9 #[.agg #[.int .u32 (I.x : Int), .int .i64 I.n]] u.wd fun e w' => e = .returned (.tuple #[.string s2, .int .i64 e2]) ∧ ∃ u' : Beh wa, w' = u'.wd) := fun u => hs2 ▸ Calls.beh (formatPrefix_any I.x I.n I.hx _ (HT.out u))
      have HF6 : Hid (∀ u : Beh wa, Calls Tryd.prog 10 #[.string s2] u.wd fun e w' => e = .returned (.tuple #[.agg #[.int .u32 y2, .int .i64 k2], .int .i64 f2]) ∧ ∃ u' : Beh wa, w' = u'.wd) := fun u => hp2 ▸ Calls.beh (parsePrefix_any s2 _ hz2)
      have HF7 : Hid (∀ u : Beh wa, Calls Tryd.prog 11 #[.agg #[.int .u32 (I.x : Int), .int .i64 I.n]] u.wd fun e w' => e = .returned (.bool (e2 == 0)) ∧ ∃ u' : Beh wa, w' = u'.wd) := fun u => hv2 ▸ Calls.beh (valid_any I.x I.n _ I.hx)
      have HQ := hid hq2
      unfold Itm.cells at hwa
      have HWA := hid hwa
      have HHR := hid hr
      clear hwa q hr hs2 hz2 hp2 hv2 hq2 hsz
      generalize fmtA I.a = s1 at HF1 HF2
      generalize (⟨(mac I.m 6).toArray⟩ : ByteArray) = s3 at HF3 HF4
      have HX := hid I.hx
      clear HHR
      generalize I.a = a at *
      generalize I.x = x at *
      generalize I.n = nn at *
      generalize I.m 0 = m0 at *
      generalize I.m 1 = m1 at *
      generalize I.m 2 = m2 at *
      generalize I.m 3 = m3 at *
      generalize I.m 4 = m4 at *
      generalize I.m 5 = m5 at *
      obtain ⟨u0, hu0⟩ : ∃ u0 : Beh wa, u0.wd = wa := ⟨⟨wa, Below.refl _ _⟩, rfl⟩
      have HU0 := hid hu0
      clear hu0
      have hmeq := fun w => mac_eq w m0 m1 m2 m3 m4 m5
      go_wp2_with fail
      rw [← HWA.out, ← HU0.out]
      go_wp2_with fail
      refine (HF1.out u0).mono ?_
      rintro _ _ ⟨rfl, u1, rfl⟩
      go_wp2_with fail
      refine (HF2.out u1).mono ?_
      rintro _ _ ⟨rfl, u2, rfl⟩
      go_wp2_with fail
      refine (HF3.out u2).mono ?_
      rintro _ _ ⟨rfl, u3, rfl⟩
      go_wp2_with fail
      refine (HF4.out u3).mono ?_
      rintro _ _ ⟨rfl, u4, rfl⟩
      have l4 := HLT.out u4
      go_wp2_with fail
      obtain ⟨u5, hu5⟩ : ∃ u5 : Beh wa, u5.wd = u4.wd.alloc (.cells #[.int .u8 m0, .int .u8 m1, .int .u8 m2, .int .u8 m3, .int .u8 m4, .int .u8 m5] 30) := ⟨⟨_, u4.ok.alloc u4.ok.size _⟩, rfl⟩
      rw [← hu5]
      clear hu5 l4
      refine (HF5.out u5).mono ?_
      rintro _ _ ⟨rfl, u6, rfl⟩
      go_wp2_with fail
      refine (HF6.out u6).mono ?_
      rintro _ _ ⟨rfl, u7, rfl⟩
      have l7 := HLT.out u7
      obtain ⟨u8, hu8⟩ : ∃ u8 : Beh wa, u8.wd = u7.wd.alloc (.cells #[.int .u32 y2, .int .i64 k2] 28) := ⟨⟨_, u7.ok.alloc u7.ok.size _⟩, rfl⟩
      have HU8 := hid hu8
      clear hu8
      rcases HQ.out with z2 | ⟨rfl, rfl, rfl, rfl⟩
      · go_wp2_with fail
        rw [← HU8.out]
        refine (HF7.out u8).mono ?_
        rintro _ _ ⟨rfl, u9, rfl⟩
        go_wp2_with fail
        go_roundw
        case rel => exact ⟨j + 1, _, by go_num, by omega, rfl, hb0a.trans (u9.ok.mono hb0a.size)⟩
        case measure => simp [intOf]; omega
      · go_wp2_with fail
        rw [← HU8.out]
        refine (HF7.out u8).mono ?_
        rintro _ _ ⟨rfl, u9, rfl⟩
        go_wp2_with fail
        go_roundw
        case rel => exact ⟨j + 1, _, by go_num, by omega, rfl, hb0a.trans (u9.ok.mono hb0a.size)⟩
        case measure => simp [intOf]; omega
    · go_wp2_with fail
      go_loopw [5, 15] (fun t i wv => ∃ (j : Nat), t = .bool true ∧ i = .int .i64 j ∧ j ≤ n1 ∧ Below w0.heap.size w0 wv) (fun _ i _ => n1 - (intOf i).toNat)
      case atStart => exact ⟨0, rfl, rfl, by omega, hbr⟩
      case round =>
        clear hbr
        obtain ⟨k, rfl, rfl, hk, hbr⟩ := hrel
        by_cases hkn : k < n1
        · obtain ⟨g, off, rfl, hg, hc, hz⟩ := HC1.out k (by have := HN1.out; omega)
          have hc' := (hbr.cell (p := ⟨g, off + k, none⟩) hg).trans hc
          clear hc
          generalize T[k]'(by have := HN1.out; omega) = s at hc' hz
          go_wp2_with fail
          refine (again_any s _ hz (HTB.out.below hbr)).mono ?_
          rintro e w1 ⟨rfl, hb1⟩
          go_wp2_with fail
          go_roundw
          case rel => exact ⟨k + 1, rfl, by go_num, by omega, hbr.trans (hb1.mono hbr.size)⟩
          case measure => simp [intOf]; omega
        · go_wp2_with fail
          go_ret
          exact ⟨rfl, hbr⟩
end Go.Proofs.YtenhofbhkchjoaaDoor
