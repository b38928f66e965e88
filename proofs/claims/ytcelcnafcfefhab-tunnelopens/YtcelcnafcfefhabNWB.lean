import Derived.Test.YtcelcnafcfefhabNW
namespace Go.Proofs.Ytcelcnafcfefhab.N
open Go.ChangeShapes Go.WideShapes Go.ChangeAt Go.RowKit
set_option maxHeartbeats 1000000
set_option maxRecDepth 100000

theorem bit5 (x : Nat) : ((x : Int) / 32 % 2 == 1) = decide (x / 32 % 2 = 1) := by
  rw [Bool.eq_iff_iff]; simp; omega
theorem bit6 (x : Nat) (hx : x < 128) : ((x : Int) / 32 / 2 == 1) = decide (x / 64 % 2 = 1) := by
  rw [Bool.eq_iff_iff]; simp; omega

theorem read_bad (v : Value) (L : List Nat) (whole : Bool) (w : World) (hv : SeesB w v L) (hl : L.length ≤ 140737488355328) (he : (exam L whole).2.2 ≠ 0) :
    Calls Try.prog 79 #[v, .bool whole] w fun e w' => e = .returned (.tuple #[.agg Z29, .int .i64 (exam L whole).2.2]) ∧ Below w.heap.size w w' := by
  obtain ⟨w1, hw1⟩ : ∃ w1, w1 = (w.alloc (.cells Z29 77)).alloc (.cells Z29 77) := ⟨_, rfl⟩
  have hs1 : w1.heap.size = w.heap.size + 2 := by rw [hw1]; simp
  have hb1 : Below w.heap.size w w1 := by rw [hw1]; exact ((Below.refl _ _).alloc (Nat.le_refl _) _).alloc (by simp) _
  have HENDS : Hid (∀ u, Below (w.heap.size + 2) w1 u → Ends w Z29 u) := fun u hu => by rw [hw1] at hu; exact ends_any hu
  have HLEN := hid (lens_ref v L whole w1 (hv.below hb1) hl)
  obtain ⟨ao, n, cap, rfl, HN, hn1, hn2⟩ := hv.shape
  have HBY := hid hv.bytes
  unfold maxLen at hn2
  obtain ⟨R, hR⟩ : ∃ R, R = (exam L whole).2.2 := ⟨_, rfl⟩
  have HR : Hid (R = (exam L whole).2.2) := hR
  have HRN : Hid (R ≠ 0) := by unfold Hid; rw [hR]; exact he
  rw [← hR]
  unfold exam at HR
  obtain ⟨zz, hzz⟩ : ∃ zz : Array Value, zz = Z29 := ⟨_, rfl⟩
  rw [← hzz] at HENDS ⊢
  have HONE : Hid (zz.all (·.oneCell') = true) := by unfold Hid; rw [hzz]; simp [Z29, Value.oneCell']
  have HINF : Hid ((Try.prog.info? 77).map (·.size) = some zz.size) := by unfold Hid; rw [hzz]; exact size29'
  have HW1 : Hid (w1 = (w.alloc (.cells #[.int .u8 0, .int .u16 0, .bool false, .bool false, .int .i64 0, .int .u8 0, .int .u8 0, .int .u32 0, .int .u32 0, .slice none 0 0, .slice none 0 0] 77)).alloc (.cells #[.int .u8 0, .int .u16 0, .bool false, .bool false, .int .i64 0, .int .u8 0, .int .u8 0, .int .u32 0, .int .u32 0, .slice none 0 0, .slice none 0 0] 77)) := hw1
  have HS1 := hid hs1
  have HB1 := hid hb1
  have HSV := hid hv
  clear hR he hw1 hzz hs1 hb1 hv
  rw [HS1.out] at HLEN
  by_cases h1 : (lens L whole).2.2 = 0
  case neg =>
    have HRE : Hid (R = (lens L whole).2.2) := by unfold Hid; rw [HR.out, if_pos h1]
    generalize lens L whole = t at *
    obtain ⟨h, l, z⟩ := t
    simp only at *
    have hq : (z != 0) = true := by simp [h1]
    clear HR h1
    go_enter Try.func79, Try.ntmps79
    go_upto_region 2 with fail
    rw [← HW1.out]
    go_wp2_with fail
    refine HLEN.out.mono ?_
    rintro _ w2 ⟨rfl, hb2⟩
    have HEN := hid (HENDS.out _ hb2)
    clear HENDS HLEN hb2
    go_wp2_with (first
      | (refine wpList_ld 77 ⟨w.heap.size + 1, 0, none⟩ (.tmp 6) rfl rfl HEN.out.ld rfl ?_)
      | (refine wpList_store_mid rfl 77 (.tmp 4) (.tmp 22) rfl w.heap.size 0 zz rfl rfl HEN.out.th HINF.out HONE.out ?_)
      | fail)
    have HLV := hid HEN.out.lv
    have HBF := hid HEN.out.bf
    generalize w2.setCells w.heap.size 0 zz.toList = wf at HLV HBF ⊢
    refine bodyPost_ret (v := .tuple #[.agg zz, .int .i64 z]) (by simp [results, Try.results79, asAddr, HLV.out]) rfl ?_
    exact ⟨by rw [HRE.out], HBF.out⟩
  obtain ⟨a1, a2, a3, a4, a5, a6, a7⟩ := lens_ok h1
  have hl16 := w16_lt HBY.out 2
  rw [← a7] at hl16
  rw [if_neg (by simp [h1])] at HR
  clear a5 a6 a7
  obtain ⟨ah, HSH, hhigh⟩ := HSV.out.high (lens L whole).1 ((lens L whole).1 : Int) rfl (by have := HN.out; omega)
  have HRE : Hid (R = hdE (L.take (lens L whole).1) ((lens L whole).2.1 - (lens L whole).1)) := by
    have h2 : hdE (L.take (lens L whole).1) ((lens L whole).2.1 - (lens L whole).1) ≠ 0 := fun e => HRN.out (by rw [HR.out, if_neg (by simp [e]), h1])
    unfold Hid; rw [HR.out, if_pos h2]
  rw [h1] at HLEN
  unfold hdE at HRE
  generalize lens L whole = t at *
  obtain ⟨h, l, z⟩ := t
  simp only at *
  clear HR h1
  have HSUM : Hid (∀ u, Below (w.heap.size + 2) w1 u → Calls Try.prog 73 #[.slice (some ⟨u.heap.size, 0, none⟩) 1 1] (u.alloc (.cells #[.slice ah h cap] 29)) fun e w' => e = .returned (.int .u16 ((M.csum (L.take h) : Nat) : Int)) ∧ Below (w.heap.size + 2) w1 w') := fun u hu => by
    have hbu : Below w.heap.size w u := HB1.out.trans (hu.mono (by omega))
    have := sum_ref _ _ _ (seesBB_one rfl _ _ (HSH.out.below hbu) 29) (by simp; omega)
    rw [show [L.take h].flatten = L.take h by simp] at this
    refine this.mono ?_
    rintro e w' ⟨rfl, hb⟩
    have hsz := hu.size
    rw [HS1.out] at hsz
    exact ⟨rfl, (hu.alloc (by omega) _).trans (hb.mono (by simp; omega))⟩
  by_cases c1 : M.csum (L.take h) = 0
  case neg =>
    have HRF : Hid (R = 33) := by unfold Hid; rw [HRE.out, if_pos c1]
    have hq : (((M.csum (L.take h) : Nat) : Int) != 0) = true := by simp [c1]
    clear HRE
    generalize M.csum (L.take h) = cs at *
    go_enter Try.func79, Try.ntmps79
    go_upto_region 2 with fail
    rw [← HW1.out]
    go_wp2_with fail
    refine HLEN.out.mono ?_
    rintro _ w2 ⟨rfl, hb2⟩
    go_wp2_with fail
    refine (HSUM.out _ hb2).mono ?_
    rintro _ w3 ⟨rfl, hb3⟩
    have HEN := hid (HENDS.out _ hb3)
    clear HENDS HLEN HSUM hb2 hb3
    go_wp2_with (first
      | (refine wpList_ld 77 ⟨w.heap.size + 1, 0, none⟩ (.tmp 6) rfl rfl HEN.out.ld rfl ?_)
      | (refine wpList_store_mid rfl 77 (.tmp 4) (.tmp 30) rfl w.heap.size 0 zz rfl rfl HEN.out.th HINF.out HONE.out ?_)
      | fail)
    have HLV := hid HEN.out.lv
    have HBF := hid HEN.out.bf
    generalize w3.setCells w.heap.size 0 zz.toList = wf at HLV HBF ⊢
    refine bodyPost_ret (v := .tuple #[.agg zz, .int .i64 33]) (by simp [results, Try.results79, asAddr, HLV.out]) rfl ?_
    exact ⟨by rw [HRF.out], HBF.out⟩
  obtain ⟨g, off, rfl, hg, hc6⟩ := HSV.out.atB 6 (by have := HN.out; omega)
  obtain ⟨am, HSM, hmid⟩ := HSV.out.mid 20 h 20 (h : Int) rfl rfl a1 (by have := HN.out; omega)
  have HC6 : Hid (∀ u, Below (w.heap.size + 2) w1 u → u.cell? ⟨g, off + 6, none⟩ = some (.int .u8 (byt L 6 : Int))) := fun u hu => ((HB1.out.trans (hu.mono (by omega))).cell (p := ⟨g, _, none⟩) hg).trans hc6
  have hx6 := byt_lt HBY.out 6
  have hw6 := w16_lt HBY.out 6
  have HAREA : Hid (∀ u, Below (w.heap.size + 2) w1 u → Calls Try.prog 87 #[.slice am (h - 20) (cap - 20)] u fun e w' => e = .returned (.bool (M.area ((L.take h).drop 20))) ∧ u = w') := fun u hu =>
    (area_ref _ _ u (HSM.out.below (HB1.out.trans (hu.mono (by omega))))).mono fun e w' ⟨a, b⟩ => ⟨a, b.symm⟩
  have HTWO : Hid (∀ u, Below (w.heap.size + 2) w1 u → Calls Try.prog 95 #[.slice (some ⟨g, off, none⟩) n cap, .int .i64 6] u fun e w' => e = .returned (.int .i64 ((w16 L 6 : Nat) : Int)) ∧ w' = u.drew) := fun u hu =>
    two_x _ 6 6 L u (HSV.out.below (HB1.out.trans (hu.mono (by omega)))) rfl (by omega) (by omega)
  have HPC : Hid (∀ (i j : Int) (b : Bool) (u : World), i = ((w16 L 6 % 8192 * 8 : Nat) : Int) → j = ((l - h : Nat) : Int) → b = decide (byt L 6 / 32 % 2 = 1) → Calls Try.prog 88 #[.int .i64 i, .int .i64 j, .bool b] u fun e w' => e = .returned (.bool (M.pieceOk ((w16 L 6 % 8192 * 8 : Nat) : Int) (l - h) (decide (byt L 6 / 32 % 2 = 1)))) ∧ u = w') := fun i j b u hi hj hb => by
    subst hi hj hb
    exact (piece_ref _ _ _ u ⟨by omega, by omega⟩ (by omega)).mono fun e w' ⟨a, b⟩ => ⟨a, b.symm⟩
  have b6 : (6 : Int) < (n : Int) := by have := HN.out; omega
  rw [if_neg (by simp [c1]), byt_take (by omega), show w16 (L.take h) 6 = w16 L 6 by unfold w16; rw [byt_take (by omega), byt_take (by omega)]] at HRE
  rw [c1] at HSUM
  clear c1
  generalize M.area ((L.take h).drop 20) = ar at *
  generalize M.pieceOk ((w16 L 6 % 8192 * 8 : Nat) : Int) (l - h) (decide (byt L 6 / 32 % 2 = 1)) = pc at *
  generalize byt L 6 = x6 at *
  generalize w16 L 6 = f6 at *
  clear HSM hc6 HSH
  by_cases c2 : 128 ≤ x6
  · have HRF : Hid (R = 32) := by unfold Hid; rw [HRE.out, if_pos c2]
    clear HRE
    go_enter Try.func79, Try.ntmps79
    go_upto_region 2 with fail
    rw [← HW1.out]
    go_wp2_with fail
    refine HLEN.out.mono ?_
    rintro _ w2 ⟨rfl, hb2⟩
    go_wp2_with fail
    refine (HSUM.out _ hb2).mono ?_
    rintro _ w3 ⟨rfl, hb3⟩
    have HEN := hid (HENDS.out _ hb3)
    have c6 := HC6.out _ hb3
    clear HENDS HLEN HSUM hb2 hb3
    go_wp2_with (first
      | (refine wpList_ld 77 ⟨w.heap.size + 1, 0, none⟩ (.tmp 6) rfl rfl HEN.out.ld rfl ?_)
      | (refine wpList_store_mid rfl 77 (.tmp 4) (.tmp 38) rfl w.heap.size 0 zz rfl rfl HEN.out.th HINF.out HONE.out ?_)
      | fail)
    have HLV := hid HEN.out.lv
    have HBF := hid HEN.out.bf
    generalize w3.setCells w.heap.size 0 zz.toList = wf at HLV HBF ⊢
    refine bodyPost_ret (v := .tuple #[.agg zz, .int .i64 32]) (by simp [results, Try.results79, asAddr, HLV.out]) rfl ?_
    exact ⟨by rw [HRF.out], HBF.out⟩
  rw [if_neg c2] at HRE
  cases ar
  · have HRF : Hid (R = 34) := by unfold Hid; rw [HRE.out, if_pos rfl]
    clear HRE
    go_enter Try.func79, Try.ntmps79
    go_upto_region 2 with fail
    rw [← HW1.out]
    go_wp2_with fail
    refine HLEN.out.mono ?_
    rintro _ w2 ⟨rfl, hb2⟩
    go_wp2_with fail
    refine (HSUM.out _ hb2).mono ?_
    rintro _ w3 ⟨rfl, hb3⟩
    have HEN := hid (HENDS.out _ hb3)
    have c6 := HC6.out _ hb3
    go_wp2_with fail
    refine (HAREA.out _ hb3).mono ?_
    rintro _ _ ⟨rfl, rfl⟩
    clear HENDS HLEN HSUM hb2 hb3
    go_wp2_with (first
      | (refine wpList_ld 77 ⟨w.heap.size + 1, 0, none⟩ (.tmp 6) rfl rfl HEN.out.ld rfl ?_)
      | (refine wpList_store_mid rfl 77 (.tmp 4) (.tmp 44) rfl w.heap.size 0 zz rfl rfl HEN.out.th HINF.out HONE.out ?_)
      | fail)
    have HLV := hid HEN.out.lv
    have HBF := hid HEN.out.bf
    generalize w3.setCells w.heap.size 0 zz.toList = wf at HLV HBF ⊢
    refine bodyPost_ret (v := .tuple #[.agg zz, .int .i64 34]) (by simp [results, Try.results79, asAddr, HLV.out]) rfl ?_
    exact ⟨by rw [HRF.out], HBF.out⟩
  · rw [if_neg (by simp)] at HRE
    cases pc
    case true => exact absurd HRE.out (by simpa using HRN.out)
    have HRF : Hid (R = 36) := by unfold Hid; rw [HRE.out, if_pos rfl]
    clear HRE
    go_enter Try.func79, Try.ntmps79
    go_upto_region 2 with fail
    rw [← HW1.out]
    go_wp2_with fail
    refine HLEN.out.mono ?_
    rintro _ w2 ⟨rfl, hb2⟩
    go_wp2_with fail
    refine (HSUM.out _ hb2).mono ?_
    rintro _ w3 ⟨rfl, hb3⟩
    have HEN := hid (HENDS.out _ hb3)
    have c6 := HC6.out _ hb3
    go_wp2_with fail
    refine (HAREA.out _ hb3).mono ?_
    rintro _ _ ⟨rfl, rfl⟩
    go_wp2_with fail
    refine (HTWO.out _ hb3).mono ?_
    rintro _ _ ⟨rfl, rfl⟩
    go_wp2_with fail
    refine (HPC.out _ _ _ _ ?_ ?_ ?_).mono ?_
    · omega
    · omega
    · exact bit5 x6
    rintro _ _ ⟨rfl, rfl⟩
    clear HEN
    have HEN := hid (HENDS.out _ (below_drew hb3))
    clear HENDS HLEN HSUM hb2 hb3
    go_wp2_with (first
      | (refine wpList_ld 77 ⟨w.heap.size + 1, 0, none⟩ (.tmp 6) rfl rfl HEN.out.ld rfl ?_)
      | (refine wpList_store_mid rfl 77 (.tmp 4) (.tmp 58) rfl w.heap.size 0 zz rfl rfl HEN.out.th HINF.out HONE.out ?_)
      | fail)
    have HLV := hid HEN.out.lv
    have HBF := hid HEN.out.bf
    generalize w3.drew.setCells w.heap.size 0 zz.toList = wf at HLV HBF ⊢
    refine bodyPost_ret (v := .tuple #[.agg zz, .int .i64 36]) (by simp [results, Try.results79, asAddr, HLV.out]) rfl ?_
    exact ⟨by rw [HRF.out], HBF.out⟩
end Go.Proofs.Ytcelcnafcfefhab.N
