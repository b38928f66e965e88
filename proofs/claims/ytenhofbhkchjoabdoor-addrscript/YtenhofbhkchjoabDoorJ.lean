import Derived.Test.YtenhofbhkchjoabDoorI
namespace Go.Proofs.YtenhofbhkchjoabDoor
open Go.ChangeShapes Go.WideShapes Go.ChangeAt Go.RowKit
set_option maxHeartbeats 400000

theorem hxI_none {n : Nat} (h : (hx n).isSome = false) : hxI n = -1 := by
  unfold hxI
  cases e : hx n with
  | none => rfl
  | some v => rw [e] at h; cases h

theorem hxI_some {n : Nat} (h : (hx n).isSome = true) : hxI n = ((hv n : Nat) : Int) := by
  unfold hxI hv
  cases e : hx n with
  | none => rw [e] at h; cases h
  | some v => rfl

set_option maxHeartbeats 8000000 in
set_option maxRecDepth 100000 in
theorem refParseMAC_any (s : ByteArray) (w : World) :
    Calls Tryd.prog 17 #[.string s] w fun e w' => e = .returned (ansM s) ∧ Below w.heap.size w w' := by
  by_cases h17 : s.size = 17
  · have H17 := hid h17
    obtain ⟨x0, e0⟩ : ∃ x, (s[0]'(by omega)).toNat = x := ⟨_, rfl⟩
    have b0 : x0 < 256 := by rw [← e0]; exact UInt8.toNat_lt _
    have G0 : Hid (gb s 0 = x0) := (gb_at s 0 (by omega)).trans e0
    obtain ⟨x1, e1⟩ : ∃ x, (s[1]'(by omega)).toNat = x := ⟨_, rfl⟩
    have b1 : x1 < 256 := by rw [← e1]; exact UInt8.toNat_lt _
    have G1 : Hid (gb s 1 = x1) := (gb_at s 1 (by omega)).trans e1
    obtain ⟨x2, e2⟩ : ∃ x, (s[2]'(by omega)).toNat = x := ⟨_, rfl⟩
    have b2 : x2 < 256 := by rw [← e2]; exact UInt8.toNat_lt _
    have G2 : Hid (gb s 2 = x2) := (gb_at s 2 (by omega)).trans e2
    obtain ⟨x3, e3⟩ : ∃ x, (s[3]'(by omega)).toNat = x := ⟨_, rfl⟩
    have b3 : x3 < 256 := by rw [← e3]; exact UInt8.toNat_lt _
    have G3 : Hid (gb s 3 = x3) := (gb_at s 3 (by omega)).trans e3
    obtain ⟨x4, e4⟩ : ∃ x, (s[4]'(by omega)).toNat = x := ⟨_, rfl⟩
    have b4 : x4 < 256 := by rw [← e4]; exact UInt8.toNat_lt _
    have G4 : Hid (gb s 4 = x4) := (gb_at s 4 (by omega)).trans e4
    obtain ⟨x5, e5⟩ : ∃ x, (s[5]'(by omega)).toNat = x := ⟨_, rfl⟩
    have b5 : x5 < 256 := by rw [← e5]; exact UInt8.toNat_lt _
    have G5 : Hid (gb s 5 = x5) := (gb_at s 5 (by omega)).trans e5
    obtain ⟨x6, e6⟩ : ∃ x, (s[6]'(by omega)).toNat = x := ⟨_, rfl⟩
    have b6 : x6 < 256 := by rw [← e6]; exact UInt8.toNat_lt _
    have G6 : Hid (gb s 6 = x6) := (gb_at s 6 (by omega)).trans e6
    obtain ⟨x7, e7⟩ : ∃ x, (s[7]'(by omega)).toNat = x := ⟨_, rfl⟩
    have b7 : x7 < 256 := by rw [← e7]; exact UInt8.toNat_lt _
    have G7 : Hid (gb s 7 = x7) := (gb_at s 7 (by omega)).trans e7
    obtain ⟨x8, e8⟩ : ∃ x, (s[8]'(by omega)).toNat = x := ⟨_, rfl⟩
    have b8 : x8 < 256 := by rw [← e8]; exact UInt8.toNat_lt _
    have G8 : Hid (gb s 8 = x8) := (gb_at s 8 (by omega)).trans e8
    obtain ⟨x9, e9⟩ : ∃ x, (s[9]'(by omega)).toNat = x := ⟨_, rfl⟩
    have b9 : x9 < 256 := by rw [← e9]; exact UInt8.toNat_lt _
    have G9 : Hid (gb s 9 = x9) := (gb_at s 9 (by omega)).trans e9
    obtain ⟨x10, e10⟩ : ∃ x, (s[10]'(by omega)).toNat = x := ⟨_, rfl⟩
    have b10 : x10 < 256 := by rw [← e10]; exact UInt8.toNat_lt _
    have G10 : Hid (gb s 10 = x10) := (gb_at s 10 (by omega)).trans e10
    obtain ⟨x11, e11⟩ : ∃ x, (s[11]'(by omega)).toNat = x := ⟨_, rfl⟩
    have b11 : x11 < 256 := by rw [← e11]; exact UInt8.toNat_lt _
    have G11 : Hid (gb s 11 = x11) := (gb_at s 11 (by omega)).trans e11
    obtain ⟨x12, e12⟩ : ∃ x, (s[12]'(by omega)).toNat = x := ⟨_, rfl⟩
    have b12 : x12 < 256 := by rw [← e12]; exact UInt8.toNat_lt _
    have G12 : Hid (gb s 12 = x12) := (gb_at s 12 (by omega)).trans e12
    obtain ⟨x13, e13⟩ : ∃ x, (s[13]'(by omega)).toNat = x := ⟨_, rfl⟩
    have b13 : x13 < 256 := by rw [← e13]; exact UInt8.toNat_lt _
    have G13 : Hid (gb s 13 = x13) := (gb_at s 13 (by omega)).trans e13
    obtain ⟨x14, e14⟩ : ∃ x, (s[14]'(by omega)).toNat = x := ⟨_, rfl⟩
    have b14 : x14 < 256 := by rw [← e14]; exact UInt8.toNat_lt _
    have G14 : Hid (gb s 14 = x14) := (gb_at s 14 (by omega)).trans e14
    obtain ⟨x15, e15⟩ : ∃ x, (s[15]'(by omega)).toNat = x := ⟨_, rfl⟩
    have b15 : x15 < 256 := by rw [← e15]; exact UInt8.toNat_lt _
    have G15 : Hid (gb s 15 = x15) := (gb_at s 15 (by omega)).trans e15
    obtain ⟨x16, e16⟩ : ∃ x, (s[16]'(by omega)).toNat = x := ⟨_, rfl⟩
    have b16 : x16 < 256 := by rw [← e16]; exact UInt8.toNat_lt _
    have G16 : Hid (gb s 16 = x16) := (gb_at s 16 (by omega)).trans e16
    go_enter Tryd.func17, Tryd.ntmps17
    go_wp2_with fail
    refine wp_loop_rounds 7 ?_
    rw [rounds_succ]
    go_wp2_with fail
    refine (digit_any x0 _ b0).mono ?_
    rintro e wA0 ⟨rfl, rfl⟩
    go_wp2_with fail
    refine (digit_any x1 _ b1).mono ?_
    rintro e wB0 ⟨rfl, rfl⟩
    by_cases hA0 : (hx x0).isSome = true
    rotate_left
    · have hA : (hx x0).isSome = false := by simpa using hA0
      have HN : Hid (ansM s = macZ) := okM_false 0 (by omega) (by unfold condM; rw [show 3 * 0 = 0 from rfl, show 0 + 1 = 1 from rfl, G0.out, G1.out]; simp [hA])
      rw [hxI_none hA]
      clear hA0 hA
      generalize hxI x1 = vb
      go_wp2_with fail
      refine bodyPost_ret (v := macZ) (by simp [results, Tryd.results17, go_sem, macZ]) rfl ⟨by rw [HN.out], ?_⟩
      repeat (first | exact Below.refl _ _ | refine Below.setCell ?_ (by simp) _ | refine Below.alloc ?_ (by simp) _)
    have la0 := hv_le x0
    rw [hxI_some hA0]
    have HV00 : Hid (hv x0 = hv x0) := rfl
    by_cases hB0 : (hx x1).isSome = true
    rotate_left
    · have hB : (hx x1).isSome = false := by simpa using hB0
      have HN : Hid (ansM s = macZ) := okM_false 0 (by omega) (by unfold condM; rw [show 3 * 0 = 0 from rfl, show 0 + 1 = 1 from rfl, G0.out, G1.out]; simp [hB])
      rw [hxI_none hB]
      clear hB0 hB
      generalize hv x0 = va at la0 ⊢
      go_wp2_with fail
      refine bodyPost_ret (v := macZ) (by simp [results, Tryd.results17, go_sem, macZ]) rfl ⟨by rw [HN.out], ?_⟩
      repeat (first | exact Below.refl _ _ | refine Below.setCell ?_ (by simp) _ | refine Below.alloc ?_ (by simp) _)
    have lb0 := hv_le x1
    rw [hxI_some hB0]
    have HA0 := hid hA0
    have HB0 := hid hB0
    clear hA0 hB0 HV00
    have HV0 : Hid (bt s 0 = hv x0 * 16 + hv x1) := by unfold Hid bt; rw [show 3 * 0 = 0 from rfl, show 0 + 1 = 1 from rfl, G0.out, G1.out]
    generalize hv x0 = va0 at la0 HV0 ⊢
    generalize hv x1 = vb0 at lb0 HV0 ⊢
    by_cases hs1 : x2 = 58
    rotate_left
    · have hq : ((x2 : Int) != 58) = true := by rw [bne_iff_ne]; omega
      have HN : Hid (ansM s = macZ) := okM_false 1 (by omega) (by unfold condM; rw [show 3 * 1 = 3 from rfl, show 3 + 1 = 4 from rfl, show 3 - 1 = 2 from rfl, G2.out, G3.out, G4.out]; simp [hs1])
      go_wp2_with fail
      refine bodyPost_ret (v := macZ) (by simp [results, Tryd.results17, go_sem, macZ]) rfl ⟨by rw [HN.out], ?_⟩
      repeat (first | exact Below.refl _ _ | refine Below.setCell ?_ (by simp) _ | refine Below.alloc ?_ (by simp) _)
    have hq1 : ((x2 : Int) != 58) = false := by simp [hs1]
    have HS1 := hid hs1
    clear hs1
    go_wp2_with fail
    rw [rounds_succ]
    go_wp2_with fail
    refine (digit_any x3 _ b3).mono ?_
    rintro e wA1 ⟨rfl, rfl⟩
    go_wp2_with fail
    refine (digit_any x4 _ b4).mono ?_
    rintro e wB1 ⟨rfl, rfl⟩
    by_cases hA1 : (hx x3).isSome = true
    rotate_left
    · have hA : (hx x3).isSome = false := by simpa using hA1
      have HN : Hid (ansM s = macZ) := okM_false 1 (by omega) (by unfold condM; rw [show 3 * 1 = 3 from rfl, show 3 + 1 = 4 from rfl, show 3 - 1 = 2 from rfl, G2.out, G3.out, G4.out]; simp [hA])
      rw [hxI_none hA]
      clear hA1 hA
      generalize hxI x4 = vb
      go_wp2_with fail
      refine bodyPost_ret (v := macZ) (by simp [results, Tryd.results17, go_sem, macZ]) rfl ⟨by rw [HN.out], ?_⟩
      repeat (first | exact Below.refl _ _ | refine Below.setCell ?_ (by simp) _ | refine Below.alloc ?_ (by simp) _)
    have la1 := hv_le x3
    rw [hxI_some hA1]
    have HV01 : Hid (hv x3 = hv x3) := rfl
    by_cases hB1 : (hx x4).isSome = true
    rotate_left
    · have hB : (hx x4).isSome = false := by simpa using hB1
      have HN : Hid (ansM s = macZ) := okM_false 1 (by omega) (by unfold condM; rw [show 3 * 1 = 3 from rfl, show 3 + 1 = 4 from rfl, show 3 - 1 = 2 from rfl, G2.out, G3.out, G4.out]; simp [hB])
      rw [hxI_none hB]
      clear hB1 hB
      generalize hv x3 = va at la1 ⊢
      go_wp2_with fail
      refine bodyPost_ret (v := macZ) (by simp [results, Tryd.results17, go_sem, macZ]) rfl ⟨by rw [HN.out], ?_⟩
      repeat (first | exact Below.refl _ _ | refine Below.setCell ?_ (by simp) _ | refine Below.alloc ?_ (by simp) _)
    have lb1 := hv_le x4
    rw [hxI_some hB1]
    have HA1 := hid hA1
    have HB1 := hid hB1
    clear hA1 hB1 HV01
    have HV1 : Hid (bt s 1 = hv x3 * 16 + hv x4) := by unfold Hid bt; rw [show 3 * 1 = 3 from rfl, show 3 + 1 = 4 from rfl, G3.out, G4.out]
    generalize hv x3 = va1 at la1 HV1 ⊢
    generalize hv x4 = vb1 at lb1 HV1 ⊢
    by_cases hs2 : x5 = 58
    rotate_left
    · have hq : ((x5 : Int) != 58) = true := by rw [bne_iff_ne]; omega
      have HN : Hid (ansM s = macZ) := okM_false 2 (by omega) (by unfold condM; rw [show 3 * 2 = 6 from rfl, show 6 + 1 = 7 from rfl, show 6 - 1 = 5 from rfl, G5.out, G6.out, G7.out]; simp [hs2])
      go_wp2_with fail
      refine bodyPost_ret (v := macZ) (by simp [results, Tryd.results17, go_sem, macZ]) rfl ⟨by rw [HN.out], ?_⟩
      repeat (first | exact Below.refl _ _ | refine Below.setCell ?_ (by simp) _ | refine Below.alloc ?_ (by simp) _)
    have hq2 : ((x5 : Int) != 58) = false := by simp [hs2]
    have HS2 := hid hs2
    clear hs2
    go_wp2_with fail
    rw [rounds_succ]
    go_wp2_with fail
    refine (digit_any x6 _ b6).mono ?_
    rintro e wA2 ⟨rfl, rfl⟩
    go_wp2_with fail
    refine (digit_any x7 _ b7).mono ?_
    rintro e wB2 ⟨rfl, rfl⟩
    by_cases hA2 : (hx x6).isSome = true
    rotate_left
    · have hA : (hx x6).isSome = false := by simpa using hA2
      have HN : Hid (ansM s = macZ) := okM_false 2 (by omega) (by unfold condM; rw [show 3 * 2 = 6 from rfl, show 6 + 1 = 7 from rfl, show 6 - 1 = 5 from rfl, G5.out, G6.out, G7.out]; simp [hA])
      rw [hxI_none hA]
      clear hA2 hA
      generalize hxI x7 = vb
      go_wp2_with fail
      refine bodyPost_ret (v := macZ) (by simp [results, Tryd.results17, go_sem, macZ]) rfl ⟨by rw [HN.out], ?_⟩
      repeat (first | exact Below.refl _ _ | refine Below.setCell ?_ (by simp) _ | refine Below.alloc ?_ (by simp) _)
    have la2 := hv_le x6
    rw [hxI_some hA2]
    have HV02 : Hid (hv x6 = hv x6) := rfl
    by_cases hB2 : (hx x7).isSome = true
    rotate_left
    · have hB : (hx x7).isSome = false := by simpa using hB2
      have HN : Hid (ansM s = macZ) := okM_false 2 (by omega) (by unfold condM; rw [show 3 * 2 = 6 from rfl, show 6 + 1 = 7 from rfl, show 6 - 1 = 5 from rfl, G5.out, G6.out, G7.out]; simp [hB])
      rw [hxI_none hB]
      clear hB2 hB
      generalize hv x6 = va at la2 ⊢
      go_wp2_with fail
      refine bodyPost_ret (v := macZ) (by simp [results, Tryd.results17, go_sem, macZ]) rfl ⟨by rw [HN.out], ?_⟩
      repeat (first | exact Below.refl _ _ | refine Below.setCell ?_ (by simp) _ | refine Below.alloc ?_ (by simp) _)
    have lb2 := hv_le x7
    rw [hxI_some hB2]
    have HA2 := hid hA2
    have HB2 := hid hB2
    clear hA2 hB2 HV02
    have HV2 : Hid (bt s 2 = hv x6 * 16 + hv x7) := by unfold Hid bt; rw [show 3 * 2 = 6 from rfl, show 6 + 1 = 7 from rfl, G6.out, G7.out]
    generalize hv x6 = va2 at la2 HV2 ⊢
    generalize hv x7 = vb2 at lb2 HV2 ⊢
    by_cases hs3 : x8 = 58
    rotate_left
    · have hq : ((x8 : Int) != 58) = true := by rw [bne_iff_ne]; omega
      have HN : Hid (ansM s = macZ) := okM_false 3 (by omega) (by unfold condM; rw [show 3 * 3 = 9 from rfl, show 9 + 1 = 10 from rfl, show 9 - 1 = 8 from rfl, G8.out, G9.out, G10.out]; simp [hs3])
      go_wp2_with fail
      refine bodyPost_ret (v := macZ) (by simp [results, Tryd.results17, go_sem, macZ]) rfl ⟨by rw [HN.out], ?_⟩
      repeat (first | exact Below.refl _ _ | refine Below.setCell ?_ (by simp) _ | refine Below.alloc ?_ (by simp) _)
    have hq3 : ((x8 : Int) != 58) = false := by simp [hs3]
    have HS3 := hid hs3
    clear hs3
    go_wp2_with fail
    rw [rounds_succ]
    go_wp2_with fail
    refine (digit_any x9 _ b9).mono ?_
    rintro e wA3 ⟨rfl, rfl⟩
    go_wp2_with fail
    refine (digit_any x10 _ b10).mono ?_
    rintro e wB3 ⟨rfl, rfl⟩
    by_cases hA3 : (hx x9).isSome = true
    rotate_left
    · have hA : (hx x9).isSome = false := by simpa using hA3
      have HN : Hid (ansM s = macZ) := okM_false 3 (by omega) (by unfold condM; rw [show 3 * 3 = 9 from rfl, show 9 + 1 = 10 from rfl, show 9 - 1 = 8 from rfl, G8.out, G9.out, G10.out]; simp [hA])
      rw [hxI_none hA]
      clear hA3 hA
      generalize hxI x10 = vb
      go_wp2_with fail
      refine bodyPost_ret (v := macZ) (by simp [results, Tryd.results17, go_sem, macZ]) rfl ⟨by rw [HN.out], ?_⟩
      repeat (first | exact Below.refl _ _ | refine Below.setCell ?_ (by simp) _ | refine Below.alloc ?_ (by simp) _)
    have la3 := hv_le x9
    rw [hxI_some hA3]
    have HV03 : Hid (hv x9 = hv x9) := rfl
    by_cases hB3 : (hx x10).isSome = true
    rotate_left
    · have hB : (hx x10).isSome = false := by simpa using hB3
      have HN : Hid (ansM s = macZ) := okM_false 3 (by omega) (by unfold condM; rw [show 3 * 3 = 9 from rfl, show 9 + 1 = 10 from rfl, show 9 - 1 = 8 from rfl, G8.out, G9.out, G10.out]; simp [hB])
      rw [hxI_none hB]
      clear hB3 hB
      generalize hv x9 = va at la3 ⊢
      go_wp2_with fail
      refine bodyPost_ret (v := macZ) (by simp [results, Tryd.results17, go_sem, macZ]) rfl ⟨by rw [HN.out], ?_⟩
      repeat (first | exact Below.refl _ _ | refine Below.setCell ?_ (by simp) _ | refine Below.alloc ?_ (by simp) _)
    have lb3 := hv_le x10
    rw [hxI_some hB3]
    have HA3 := hid hA3
    have HB3 := hid hB3
    clear hA3 hB3 HV03
    have HV3 : Hid (bt s 3 = hv x9 * 16 + hv x10) := by unfold Hid bt; rw [show 3 * 3 = 9 from rfl, show 9 + 1 = 10 from rfl, G9.out, G10.out]
    generalize hv x9 = va3 at la3 HV3 ⊢
    generalize hv x10 = vb3 at lb3 HV3 ⊢
    by_cases hs4 : x11 = 58
    rotate_left
    · have hq : ((x11 : Int) != 58) = true := by rw [bne_iff_ne]; omega
      have HN : Hid (ansM s = macZ) := okM_false 4 (by omega) (by unfold condM; rw [show 3 * 4 = 12 from rfl, show 12 + 1 = 13 from rfl, show 12 - 1 = 11 from rfl, G11.out, G12.out, G13.out]; simp [hs4])
      go_wp2_with fail
      refine bodyPost_ret (v := macZ) (by simp [results, Tryd.results17, go_sem, macZ]) rfl ⟨by rw [HN.out], ?_⟩
      repeat (first | exact Below.refl _ _ | refine Below.setCell ?_ (by simp) _ | refine Below.alloc ?_ (by simp) _)
    have hq4 : ((x11 : Int) != 58) = false := by simp [hs4]
    have HS4 := hid hs4
    clear hs4
    go_wp2_with fail
    rw [rounds_succ]
    go_wp2_with fail
    refine (digit_any x12 _ b12).mono ?_
    rintro e wA4 ⟨rfl, rfl⟩
    go_wp2_with fail
    refine (digit_any x13 _ b13).mono ?_
    rintro e wB4 ⟨rfl, rfl⟩
    by_cases hA4 : (hx x12).isSome = true
    rotate_left
    · have hA : (hx x12).isSome = false := by simpa using hA4
      have HN : Hid (ansM s = macZ) := okM_false 4 (by omega) (by unfold condM; rw [show 3 * 4 = 12 from rfl, show 12 + 1 = 13 from rfl, show 12 - 1 = 11 from rfl, G11.out, G12.out, G13.out]; simp [hA])
      rw [hxI_none hA]
      clear hA4 hA
      generalize hxI x13 = vb
      go_wp2_with fail
      refine bodyPost_ret (v := macZ) (by simp [results, Tryd.results17, go_sem, macZ]) rfl ⟨by rw [HN.out], ?_⟩
      repeat (first | exact Below.refl _ _ | refine Below.setCell ?_ (by simp) _ | refine Below.alloc ?_ (by simp) _)
    have la4 := hv_le x12
    rw [hxI_some hA4]
    have HV04 : Hid (hv x12 = hv x12) := rfl
    by_cases hB4 : (hx x13).isSome = true
    rotate_left
    · have hB : (hx x13).isSome = false := by simpa using hB4
      have HN : Hid (ansM s = macZ) := okM_false 4 (by omega) (by unfold condM; rw [show 3 * 4 = 12 from rfl, show 12 + 1 = 13 from rfl, show 12 - 1 = 11 from rfl, G11.out, G12.out, G13.out]; simp [hB])
      rw [hxI_none hB]
      clear hB4 hB
      generalize hv x12 = va at la4 ⊢
      go_wp2_with fail
      refine bodyPost_ret (v := macZ) (by simp [results, Tryd.results17, go_sem, macZ]) rfl ⟨by rw [HN.out], ?_⟩
      repeat (first | exact Below.refl _ _ | refine Below.setCell ?_ (by simp) _ | refine Below.alloc ?_ (by simp) _)
    have lb4 := hv_le x13
    rw [hxI_some hB4]
    have HA4 := hid hA4
    have HB4 := hid hB4
    clear hA4 hB4 HV04
    have HV4 : Hid (bt s 4 = hv x12 * 16 + hv x13) := by unfold Hid bt; rw [show 3 * 4 = 12 from rfl, show 12 + 1 = 13 from rfl, G12.out, G13.out]
    generalize hv x12 = va4 at la4 HV4 ⊢
    generalize hv x13 = vb4 at lb4 HV4 ⊢
    by_cases hs5 : x14 = 58
    rotate_left
    · have hq : ((x14 : Int) != 58) = true := by rw [bne_iff_ne]; omega
      have HN : Hid (ansM s = macZ) := okM_false 5 (by omega) (by unfold condM; rw [show 3 * 5 = 15 from rfl, show 15 + 1 = 16 from rfl, show 15 - 1 = 14 from rfl, G14.out, G15.out, G16.out]; simp [hs5])
      go_wp2_with fail
      refine bodyPost_ret (v := macZ) (by simp [results, Tryd.results17, go_sem, macZ]) rfl ⟨by rw [HN.out], ?_⟩
      repeat (first | exact Below.refl _ _ | refine Below.setCell ?_ (by simp) _ | refine Below.alloc ?_ (by simp) _)
    have hq5 : ((x14 : Int) != 58) = false := by simp [hs5]
    have HS5 := hid hs5
    clear hs5
    go_wp2_with fail
    rw [rounds_succ]
    go_wp2_with fail
    refine (digit_any x15 _ b15).mono ?_
    rintro e wA5 ⟨rfl, rfl⟩
    go_wp2_with fail
    refine (digit_any x16 _ b16).mono ?_
    rintro e wB5 ⟨rfl, rfl⟩
    by_cases hA5 : (hx x15).isSome = true
    rotate_left
    · have hA : (hx x15).isSome = false := by simpa using hA5
      have HN : Hid (ansM s = macZ) := okM_false 5 (by omega) (by unfold condM; rw [show 3 * 5 = 15 from rfl, show 15 + 1 = 16 from rfl, show 15 - 1 = 14 from rfl, G14.out, G15.out, G16.out]; simp [hA])
      rw [hxI_none hA]
      clear hA5 hA
      generalize hxI x16 = vb
      go_wp2_with fail
      refine bodyPost_ret (v := macZ) (by simp [results, Tryd.results17, go_sem, macZ]) rfl ⟨by rw [HN.out], ?_⟩
      repeat (first | exact Below.refl _ _ | refine Below.setCell ?_ (by simp) _ | refine Below.alloc ?_ (by simp) _)
    have la5 := hv_le x15
    rw [hxI_some hA5]
    have HV05 : Hid (hv x15 = hv x15) := rfl
    by_cases hB5 : (hx x16).isSome = true
    rotate_left
    · have hB : (hx x16).isSome = false := by simpa using hB5
      have HN : Hid (ansM s = macZ) := okM_false 5 (by omega) (by unfold condM; rw [show 3 * 5 = 15 from rfl, show 15 + 1 = 16 from rfl, show 15 - 1 = 14 from rfl, G14.out, G15.out, G16.out]; simp [hB])
      rw [hxI_none hB]
      clear hB5 hB
      generalize hv x15 = va at la5 ⊢
      go_wp2_with fail
      refine bodyPost_ret (v := macZ) (by simp [results, Tryd.results17, go_sem, macZ]) rfl ⟨by rw [HN.out], ?_⟩
      repeat (first | exact Below.refl _ _ | refine Below.setCell ?_ (by simp) _ | refine Below.alloc ?_ (by simp) _)
    have lb5 := hv_le x16
    rw [hxI_some hB5]
    have HA5 := hid hA5
    have HB5 := hid hB5
    clear hA5 hB5 HV05
    have HV5 : Hid (bt s 5 = hv x15 * 16 + hv x16) := by unfold Hid bt; rw [show 3 * 5 = 15 from rfl, show 15 + 1 = 16 from rfl, G15.out, G16.out]
    generalize hv x15 = va5 at la5 HV5 ⊢
    generalize hv x16 = vb5 at lb5 HV5 ⊢
    go_wp2_with fail
    rw [rounds_succ]
    have hok : okM s = true := by
      unfold okM
      refine List.all_eq_true.2 (fun k hk => ?_)
      have hk6 : k < 6 := by simpa using hk
      match k, hk6 with
      | 0, _ => unfold condM; rw [show 3 * 0 = 0 from rfl, show 0 + 1 = 1 from rfl, G0.out, G1.out]; simp [HA0.out, HB0.out]
      | 1, _ => unfold condM; rw [show 3 * 1 = 3 from rfl, show 3 + 1 = 4 from rfl, show 3 - 1 = 2 from rfl, G2.out, G3.out, G4.out]; simp [HA1.out, HB1.out, HS1.out]
      | 2, _ => unfold condM; rw [show 3 * 2 = 6 from rfl, show 6 + 1 = 7 from rfl, show 6 - 1 = 5 from rfl, G5.out, G6.out, G7.out]; simp [HA2.out, HB2.out, HS2.out]
      | 3, _ => unfold condM; rw [show 3 * 3 = 9 from rfl, show 9 + 1 = 10 from rfl, show 9 - 1 = 8 from rfl, G8.out, G9.out, G10.out]; simp [HA3.out, HB3.out, HS3.out]
      | 4, _ => unfold condM; rw [show 3 * 4 = 12 from rfl, show 12 + 1 = 13 from rfl, show 12 - 1 = 11 from rfl, G11.out, G12.out, G13.out]; simp [HA4.out, HB4.out, HS4.out]
      | 5, _ => unfold condM; rw [show 3 * 5 = 15 from rfl, show 15 + 1 = 16 from rfl, show 15 - 1 = 14 from rfl, G14.out, G15.out, G16.out]; simp [HA5.out, HB5.out, HS5.out]
    have HOK : Hid (ansM s = macV (va0 * 16 + vb0) (va1 * 16 + vb1) (va2 * 16 + vb2) (va3 * 16 + vb3) (va4 * 16 + vb4) (va5 * 16 + vb5)) := by
      unfold Hid ansM; rw [if_pos ⟨H17.out, hok⟩, HV0.out, HV1.out, HV2.out, HV3.out, HV4.out, HV5.out]
    clear hok
    go_wp2_with fail
    refine bodyPost_ret (v := macV (va0 * 16 + vb0) (va1 * 16 + vb1) (va2 * 16 + vb2) (va3 * 16 + vb3) (va4 * 16 + vb4) (va5 * 16 + vb5)) (by simp [results, Tryd.results17, go_sem, macV]; omega) rfl ⟨by rw [HOK.out], ?_⟩
    repeat (first | exact Below.refl _ _ | refine Below.setCell ?_ (by simp) _ | refine Below.alloc ?_ (by simp) _)
  · have HN : Hid (ansM s = macZ) := by unfold Hid ansM; rw [if_neg (fun h => h17 h.1)]
    have hq : ((s.size : Int) != 17) = true := by rw [bne_iff_ne]; omega
    clear h17
    go_enter Tryd.func17, Tryd.ntmps17
    go_wp2_with fail
    refine bodyPost_ret (v := macZ) (by simp [results, Tryd.results17, go_sem, macZ]) rfl ⟨by rw [HN.out], ?_⟩
    repeat (first | exact Below.refl _ _ | refine Below.setCell ?_ (by simp) _ | refine Below.alloc ?_ (by simp) _)
end Go.Proofs.YtenhofbhkchjoabDoor
