import Derived.Test.YthbjfbalgejndaaTZ
namespace Go.Proofs.Ythbjfbalgejndaa
open Go.ChangeShapes Go.WideShapes Go.ChangeAt Go.RowKit Go.Maps H
set_option maxHeartbeats 40000000
set_option maxRecDepth 100000

theorem plays_gg (l1 l2 : Int) (vs : Value) (L : List Op4) (w : World) (hv : SeesS w vs L) (ha1 : 1 ≤ l1) (ha2 : l1 ≤ 65536) (hb1 : 1 ≤ l2) (hb2 : l2 ≤ 65536) :
    Calls Try.prog 7 #[.int .i64 l1, .int .i64 l2, vs] w fun e w' => e = .returned (.bool true) ∧ Below w.heap.size w w' := by
  obtain ⟨ao, n, cap, rfl, HN, hn1, hn2⟩ := hv.shape
  have HV := hid hv
  have HBG := hid (begun_any w)
  unfold maxLen at hn2
  have HPG : Hid (∀ y : World, Calls Try.prog 11 #[.int .i64 l1] y fun e w1 => ∃ b, e = .returned (.tuple #[.pointer (some ⟨b, 0, none⟩), .int .i64 0]) ∧ Below y.heap.size y w1 ∧
      Calls Try.prog 24 #[.int .i64 l1] w1 fun e w2 => ∃ b2 F, e = .returned (.tuple #[.pointer (some ⟨b2, 0, none⟩), .int .i64 0]) ∧ Below y.heap.size y w2 ∧ Live w2 (.pointer (some ⟨b, 0, none⟩)) (.pointer (some ⟨b2, 0, none⟩)) F ∧ ∀ z ∈ F, y.heap.size ≤ z) := fun y => pair_good l1 y ha1 ha2
  clear ha1 ha2
  have HPU : Hid (∀ y : World, Calls Try.prog 11 #[.int .i64 l2] y fun e w1 => ∃ b, e = .returned (.tuple #[.pointer (some ⟨b, 0, none⟩), .int .i64 0]) ∧ Below y.heap.size y w1 ∧
      Calls Try.prog 24 #[.int .i64 l2] w1 fun e w2 => ∃ b2 F, e = .returned (.tuple #[.pointer (some ⟨b2, 0, none⟩), .int .i64 0]) ∧ Below y.heap.size y w2 ∧ Live w2 (.pointer (some ⟨b, 0, none⟩)) (.pointer (some ⟨b2, 0, none⟩)) F ∧ ∀ z ∈ F, y.heap.size ≤ z) := fun y => pair_good l2 y hb1 hb2
  clear hb1 hb2
  clear hv
  go_enter Try.func7, Try.ntmps7
  go_wp2_with fail
  refine HBG.out.mono ?_
  rintro _ w1 ⟨rfl, hbw1⟩
  have HB1 := hid hbw1
  have HS0 : Hid (St w1 w1 (.pointer none) (.pointer none) (.pointer none) (.pointer none) (.pointer none) (.pointer none)) := ⟨[], [], [], Live.nil _, Live.nil _, Live.nil _, by simp, by simp, by simp, by simp, by simp, by simp, Below.refl _ _⟩
  clear hbw1 HBG
  have HA := hid (HPG.out w1)
  go_wp2_with fail
  refine HA.out.mono ?_
  rintro _ w2 ⟨bt, rfl, _, hc2⟩
  have HC2 := hid hc2
  clear hc2 HA
  go_wp2_with fail
  refine HC2.out.mono ?_
  rintro _ w3 ⟨br, F1, rfl, hb3, hL1, hF1⟩
  have HS1 := hid ((HS0.out.put hb3 hL1 hF1).turn)
  clear hb3 hL1 hF1 HC2 HS0
  have HA := hid (HPU.out w3)
  go_wp2_with fail
  refine HA.out.mono ?_
  rintro _ w4 ⟨bu, rfl, _, hc2⟩
  have HC2 := hid hc2
  clear hc2 HA
  go_wp2_with fail
  refine HC2.out.mono ?_
  rintro _ w5 ⟨bs, F2, rfl, hb5, hL2, hF2⟩
  have HS2 := hid (HS1.out.put hb5 hL2 hF2).turn.swap.turn
  clear hb5 hL2 hF2 HC2 HS1 HPU
  go_wp2_with fail
  go_loopw [7, 16, 17, 18] (fun ok x y i wv => ∃ (k : Nat) (wr : World), wr = wv ∧ ok = .bool true ∧ i = .int .i64 k ∧ k ≤ n ∧ ((x = .pointer none ∧ y = .pointer none) ∨ ∃ bx bY, x = .pointer (some ⟨bx, 0, none⟩) ∧ y = .pointer (some ⟨bY, 0, none⟩)) ∧ Hid (St w1 wr (.pointer (some ⟨bt, 0, none⟩)) (.pointer (some ⟨br, 0, none⟩)) (.pointer (some ⟨bu, 0, none⟩)) (.pointer (some ⟨bs, 0, none⟩)) x y)) (fun _ _ _ i _ => n - (intOf i).toNat)
  case atStart => exact ⟨0, _, rfl, rfl, rfl, by omega, .inl ⟨rfl, rfl⟩, HS2⟩
  case round =>
    clear HS2
    obtain ⟨k, v, rfl, rfl, rfl, hk, hx, HS⟩ := hrel
    by_cases hlt : k < n
    · obtain ⟨g0, o0, kd, on, i, a, rfl, c0, c1, c2, c3, hi, ha⟩ := (HV.out.below (HB1.out.trans (HS.out.far.mono HB1.out.size))).at k hlt
      have HIA : Hid (In64 i ∧ In64 a) := ⟨hi, ha⟩
      obtain ⟨va, hva⟩ : ∃ va, va = v.alloc (.cells #[.int .i64 kd, .int .i64 on, .int .i64 i, .int .i64 a] 57) := ⟨_, rfl⟩
      have hO := HS.out.box kd on i a
      rw [← hva] at hO
      have HVA := hid hva
      have HO := hid hO
      obtain ⟨d0, d1, d2, d3⟩ := hO.cells
      clear hva hO hi ha HS
      rcases hx with ⟨rfl, rfl⟩ | ⟨bx, bY, rfl, rfl⟩
      · go_upto_region 16 with fail
        rw [← HVA.out]
        clear c0 c1 c2 c3 HVA
        by_cases hon : on = 0
        · subst hon
          have HP := hid (HO.out.play HIA.out.1 HIA.out.2)
          go_wp2_with fail
          refine HP.out.mono ?_
          rintro _ v1 ⟨rfl, hO1⟩
          have HO1 := hid hO1
          clear hO1 HP d0 d1 d2 d3 HO
          have HNW := hid (HPG.out v1)
          go_wp2_with fail
          refine HNW.out.mono ?_
          rintro _ v2 ⟨_, rfl, hb2, _⟩
          have HO2 := hid (HO1.out.below hb2)
          obtain ⟨f0, f1, f2, f3⟩ := HO2.out.cells
          clear hb2 HNW HO1
          by_cases hmid : k = n / 2
          · have hq1 : ((k : Int) == (n : Int) / 2) = true := by simp; omega
            have hq2 : ((k : Int) == (n : Int).tdiv 2) = true := by rw [Int.tdiv_eq_ediv_of_nonneg (by omega)]; exact hq1
            have HMK := hid (HPG.out v2)
            clear hmid
            go_wp2_with fail
            refine HMK.out.mono ?_
            rintro _ v3 ⟨bx', rfl, _, hc3⟩
            have HC3 := hid hc3
            clear hc3 HMK
            go_wp2_with fail
            refine HC3.out.mono ?_
            rintro _ v4 ⟨bY', F4, rfl, hb4, hL4, hF4⟩
            have HO4 := hid (HO2.out.put hb4 hL4 hF4).turn
            obtain ⟨p0, p1, p2, p3⟩ := HO4.out.cells
            have HPX := hid (HO4.out.play HIA.out.1 HIA.out.2)
            clear hb4 hL4 hF4 HC3 f0 f1 f2 f3 HO2
            go_wp2_with fail
            refine HPX.out.mono ?_
            rintro _ v5 ⟨rfl, hO5⟩
            have HS5 := hid hO5.turn.st
            clear hO5 HPX p0 p1 p2 p3
            go_wp2_with fail
            go_roundw
            case rel => exact ⟨k + 1, _, rfl, rfl, by go_num, by omega, .inr ⟨_, _, rfl, rfl⟩, HS5⟩
            case measure => simp [intOf]; omega
          · have hq1 : ((k : Int) == (n : Int) / 2) = false := by simp; omega
            have hq2 : ((k : Int) == (n : Int).tdiv 2) = false := by rw [Int.tdiv_eq_ediv_of_nonneg (by omega)]; exact hq1
            have HS5 := hid HO2.out.st
            clear hmid
            go_wp2_with fail
            go_roundw
            case rel => exact ⟨k + 1, _, rfl, rfl, by go_num, by omega, .inl ⟨rfl, rfl⟩, HS5⟩
            case measure => simp [intOf]; omega
        · have hon1 : (on == 0) = false := by simp [hon]
          have hon2 : (on != 0) = true := by simp [hon]
          have HP := hid (HO.out.swap.play HIA.out.1 HIA.out.2)
          clear hon
          go_wp2_with fail
          refine HP.out.mono ?_
          rintro _ v1 ⟨rfl, hO1⟩
          have HO1 := hid hO1.swap
          clear hO1 HP d0 d1 d2 d3 HO
          have HNW := hid (HPG.out v1)
          go_wp2_with fail
          refine HNW.out.mono ?_
          rintro _ v2 ⟨_, rfl, hb2, _⟩
          have HO2 := hid (HO1.out.below hb2)
          obtain ⟨f0, f1, f2, f3⟩ := HO2.out.cells
          clear hb2 HNW HO1
          by_cases hmid : k = n / 2
          · have hq1 : ((k : Int) == (n : Int) / 2) = true := by simp; omega
            have hq2 : ((k : Int) == (n : Int).tdiv 2) = true := by rw [Int.tdiv_eq_ediv_of_nonneg (by omega)]; exact hq1
            have HMK := hid (HPG.out v2)
            clear hmid
            go_wp2_with fail
            refine HMK.out.mono ?_
            rintro _ v3 ⟨bx', rfl, _, hc3⟩
            have HC3 := hid hc3
            clear hc3 HMK
            go_wp2_with fail
            refine HC3.out.mono ?_
            rintro _ v4 ⟨bY', F4, rfl, hb4, hL4, hF4⟩
            have HO4 := hid (HO2.out.put hb4 hL4 hF4).turn
            obtain ⟨p0, p1, p2, p3⟩ := HO4.out.cells
            have HPX := hid (HO4.out.play HIA.out.1 HIA.out.2)
            clear hb4 hL4 hF4 HC3 f0 f1 f2 f3 HO2
            go_wp2_with fail
            refine HPX.out.mono ?_
            rintro _ v5 ⟨rfl, hO5⟩
            have HS5 := hid hO5.turn.st
            clear hO5 HPX p0 p1 p2 p3
            go_wp2_with fail
            go_roundw
            case rel => exact ⟨k + 1, _, rfl, rfl, by go_num, by omega, .inr ⟨_, _, rfl, rfl⟩, HS5⟩
            case measure => simp [intOf]; omega
          · have hq1 : ((k : Int) == (n : Int) / 2) = false := by simp; omega
            have hq2 : ((k : Int) == (n : Int).tdiv 2) = false := by rw [Int.tdiv_eq_ediv_of_nonneg (by omega)]; exact hq1
            have HS5 := hid HO2.out.st
            clear hmid
            go_wp2_with fail
            go_roundw
            case rel => exact ⟨k + 1, _, rfl, rfl, by go_num, by omega, .inl ⟨rfl, rfl⟩, HS5⟩
            case measure => simp [intOf]; omega
      · go_upto_region 16 with fail
        rw [← HVA.out]
        clear c0 c1 c2 c3 HVA
        by_cases hon : on = 0
        · subst hon
          have HP := hid (HO.out.play HIA.out.1 HIA.out.2)
          go_wp2_with fail
          refine HP.out.mono ?_
          rintro _ v1 ⟨rfl, hO1⟩
          have HO1 := hid hO1
          clear hO1 HP d0 d1 d2 d3 HO
          have HNW := hid (HPG.out v1)
          go_wp2_with fail
          refine HNW.out.mono ?_
          rintro _ v2 ⟨_, rfl, hb2, _⟩
          have HO2 := hid (HO1.out.below hb2)
          obtain ⟨f0, f1, f2, f3⟩ := HO2.out.cells
          clear hb2 HNW HO1
          by_cases hmid : k = n / 2
          · have hq1 : ((k : Int) == (n : Int) / 2) = true := by simp; omega
            have hq2 : ((k : Int) == (n : Int).tdiv 2) = true := by rw [Int.tdiv_eq_ediv_of_nonneg (by omega)]; exact hq1
            have HMK := hid (HPG.out v2)
            clear hmid
            go_wp2_with fail
            refine HMK.out.mono ?_
            rintro _ v3 ⟨bx', rfl, _, hc3⟩
            have HC3 := hid hc3
            clear hc3 HMK
            go_wp2_with fail
            refine HC3.out.mono ?_
            rintro _ v4 ⟨bY', F4, rfl, hb4, hL4, hF4⟩
            have HO4 := hid (HO2.out.put hb4 hL4 hF4).turn
            obtain ⟨p0, p1, p2, p3⟩ := HO4.out.cells
            have HPX := hid (HO4.out.play HIA.out.1 HIA.out.2)
            clear hb4 hL4 hF4 HC3 f0 f1 f2 f3 HO2
            go_wp2_with fail
            refine HPX.out.mono ?_
            rintro _ v5 ⟨rfl, hO5⟩
            have HS5 := hid hO5.turn.st
            clear hO5 HPX p0 p1 p2 p3
            go_wp2_with fail
            go_roundw
            case rel => exact ⟨k + 1, _, rfl, rfl, by go_num, by omega, .inr ⟨_, _, rfl, rfl⟩, HS5⟩
            case measure => simp [intOf]; omega
          · have hq1 : ((k : Int) == (n : Int) / 2) = false := by simp; omega
            have hq2 : ((k : Int) == (n : Int).tdiv 2) = false := by rw [Int.tdiv_eq_ediv_of_nonneg (by omega)]; exact hq1
            have HPX := hid (HO2.out.turn.play HIA.out.1 HIA.out.2)
            clear hmid
            go_wp2_with fail
            refine HPX.out.mono ?_
            rintro _ v5 ⟨rfl, hO5⟩
            have HS5 := hid hO5.turn.st
            clear hO5 HPX f0 f1 f2 f3
            go_wp2_with fail
            go_roundw
            case rel => exact ⟨k + 1, _, rfl, rfl, by go_num, by omega, .inr ⟨_, _, rfl, rfl⟩, HS5⟩
            case measure => simp [intOf]; omega
        · have hon1 : (on == 0) = false := by simp [hon]
          have hon2 : (on != 0) = true := by simp [hon]
          have HP := hid (HO.out.swap.play HIA.out.1 HIA.out.2)
          clear hon
          go_wp2_with fail
          refine HP.out.mono ?_
          rintro _ v1 ⟨rfl, hO1⟩
          have HO1 := hid hO1.swap
          clear hO1 HP d0 d1 d2 d3 HO
          have HNW := hid (HPG.out v1)
          go_wp2_with fail
          refine HNW.out.mono ?_
          rintro _ v2 ⟨_, rfl, hb2, _⟩
          have HO2 := hid (HO1.out.below hb2)
          obtain ⟨f0, f1, f2, f3⟩ := HO2.out.cells
          clear hb2 HNW HO1
          by_cases hmid : k = n / 2
          · have hq1 : ((k : Int) == (n : Int) / 2) = true := by simp; omega
            have hq2 : ((k : Int) == (n : Int).tdiv 2) = true := by rw [Int.tdiv_eq_ediv_of_nonneg (by omega)]; exact hq1
            have HMK := hid (HPG.out v2)
            clear hmid
            go_wp2_with fail
            refine HMK.out.mono ?_
            rintro _ v3 ⟨bx', rfl, _, hc3⟩
            have HC3 := hid hc3
            clear hc3 HMK
            go_wp2_with fail
            refine HC3.out.mono ?_
            rintro _ v4 ⟨bY', F4, rfl, hb4, hL4, hF4⟩
            have HO4 := hid (HO2.out.put hb4 hL4 hF4).turn
            obtain ⟨p0, p1, p2, p3⟩ := HO4.out.cells
            have HPX := hid (HO4.out.play HIA.out.1 HIA.out.2)
            clear hb4 hL4 hF4 HC3 f0 f1 f2 f3 HO2
            go_wp2_with fail
            refine HPX.out.mono ?_
            rintro _ v5 ⟨rfl, hO5⟩
            have HS5 := hid hO5.turn.st
            clear hO5 HPX p0 p1 p2 p3
            go_wp2_with fail
            go_roundw
            case rel => exact ⟨k + 1, _, rfl, rfl, by go_num, by omega, .inr ⟨_, _, rfl, rfl⟩, HS5⟩
            case measure => simp [intOf]; omega
          · have hq1 : ((k : Int) == (n : Int) / 2) = false := by simp; omega
            have hq2 : ((k : Int) == (n : Int).tdiv 2) = false := by rw [Int.tdiv_eq_ediv_of_nonneg (by omega)]; exact hq1
            have HPX := hid (HO2.out.turn.play HIA.out.1 HIA.out.2)
            clear hmid
            go_wp2_with fail
            refine HPX.out.mono ?_
            rintro _ v5 ⟨rfl, hO5⟩
            have HS5 := hid hO5.turn.st
            clear hO5 HPX f0 f1 f2 f3
            go_wp2_with fail
            go_roundw
            case rel => exact ⟨k + 1, _, rfl, rfl, by go_num, by omega, .inr ⟨_, _, rfl, rfl⟩, HS5⟩
            case measure => simp [intOf]; omega
    · have HF := hid (HB1.out.trans (HS.out.far.mono HB1.out.size))
      clear hx
      go_wp2_with fail
      go_ret
      exact ⟨rfl, HF.out⟩
end Go.Proofs.Ythbjfbalgejndaa
