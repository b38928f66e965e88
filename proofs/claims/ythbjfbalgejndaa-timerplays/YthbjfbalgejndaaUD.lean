import Derived.Test.YthbjfbalgejndaaTZ
namespace Go.Proofs.Ythbjfbalgejndaa
open Go.ChangeShapes Go.WideShapes Go.ChangeAt Go.RowKit Go.Maps H
set_option maxHeartbeats 40000000
set_option maxRecDepth 100000

theorem plays_bb (l1 l2 : Int) (vs : Value) (L : List Op4) (w : World) (hv : SeesS w vs L) (ha : l1 < 1 ∨ 65536 < l1) (hb : l2 < 1 ∨ 65536 < l2) :
    Calls Try.prog 7 #[.int .i64 l1, .int .i64 l2, vs] w fun e w' => e = .returned (.bool true) ∧ Below w.heap.size w w' := by
  obtain ⟨ao, n, cap, rfl, HN, hn1, hn2⟩ := hv.shape
  have HV := hid hv
  have HBG := hid (begun_any w)
  unfold maxLen at hn2
  have HNB : Hid (∀ y : World, Calls Try.prog 11 #[.int .i64 l1] y fun e w' => e = .returned (.tuple #[.pointer none, .int .i64 1]) ∧ w' = y) := fun y => new_bad l1 y ha
  have HRB : Hid (∀ y : World, Calls Try.prog 24 #[.int .i64 l1] y fun e w' => e = .returned (.tuple #[.pointer none, .int .i64 1]) ∧ w' = y) := fun y => rnew_bad l1 y ha
  clear ha
  have HNU : Hid (∀ y : World, Calls Try.prog 11 #[.int .i64 l2] y fun e w' => e = .returned (.tuple #[.pointer none, .int .i64 1]) ∧ w' = y) := fun y => new_bad l2 y hb
  have HRU : Hid (∀ y : World, Calls Try.prog 24 #[.int .i64 l2] y fun e w' => e = .returned (.tuple #[.pointer none, .int .i64 1]) ∧ w' = y) := fun y => rnew_bad l2 y hb
  clear hb
  clear hv
  go_enter Try.func7, Try.ntmps7
  go_wp2_with fail
  refine HBG.out.mono ?_
  rintro _ w1 ⟨rfl, hbw1⟩
  have HB1 := hid hbw1
  have HS0 : Hid (St w1 w1 (.pointer none) (.pointer none) (.pointer none) (.pointer none) (.pointer none) (.pointer none)) := ⟨[], [], [], Live.nil _, Live.nil _, Live.nil _, by simp, by simp, by simp, by simp, by simp, by simp, Below.refl _ _⟩
  clear hbw1 HBG
  have HA := hid (HNB.out w1)
  go_wp2_with fail
  refine HA.out.mono ?_
  rintro _ w2 ⟨rfl, e⟩
  obtain rfl := e.symm
  have HA2 := hid (HRB.out w1)
  go_wp2_with fail
  refine HA2.out.mono ?_
  rintro _ w3 ⟨rfl, e⟩
  obtain rfl := e.symm
  have HS1 := HS0
  clear HA HA2 HS0
  have HA := hid (HNU.out w1)
  go_wp2_with fail
  refine HA.out.mono ?_
  rintro _ w4 ⟨rfl, e⟩
  obtain rfl := e.symm
  have HA2 := hid (HRU.out w1)
  go_wp2_with fail
  refine HA2.out.mono ?_
  rintro _ w5 ⟨rfl, e⟩
  obtain rfl := e.symm
  have HS2 := HS1
  clear HA HA2 HS1 HNU HRU
  go_wp2_with fail
  go_loopw [7, 16, 17, 18] (fun ok x y i wv => ∃ (k : Nat) (wr : World), wr = wv ∧ ok = .bool true ∧ i = .int .i64 k ∧ k ≤ n ∧ (x = .pointer none ∧ y = .pointer none) ∧ Hid (St w1 wr (.pointer none) (.pointer none) (.pointer none) (.pointer none) x y)) (fun _ _ _ i _ => n - (intOf i).toNat)
  case atStart => exact ⟨0, _, rfl, rfl, rfl, by omega, ⟨rfl, rfl⟩, HS2⟩
  case round =>
    clear HS2
    obtain ⟨k, v, rfl, rfl, rfl, hk, hx, HS⟩ := hrel
    by_cases hlt : k < n
    · obtain ⟨g0, o0, kd, on, i, a, rfl, c0, c1, c2, c3, hi, ha⟩ := (HV.out.below (HB1.out.trans (HS.out.far.mono HB1.out.size))).at k hlt
      have HIA : Hid (In64 i ∧ In64 a) := ⟨hi, ha⟩
      obtain ⟨va, hva⟩ : ∃ va, va = v.alloc (.cells #[.int .i64 kd, .int .i64 on, .int .i64 i, .int .i64 a] 57) := ⟨_, rfl⟩
      have hO := HS.out.box kd on i a
      rw [← hva] at hO
      have HVA := hid hva
      have HO := hid hO
      obtain ⟨d0, d1, d2, d3⟩ := hO.cells
      clear hva hO hi ha HS
      obtain ⟨rfl, rfl⟩ := hx
      go_upto_region 16 with fail
      rw [← HVA.out]
      clear c0 c1 c2 c3 HVA
      by_cases hon : on = 0
      · subst hon
        have HO1 := HO
        have HNW := hid (HNB.out va)
        go_wp2_with fail
        refine HNW.out.mono ?_
        rintro _ v2 ⟨rfl, e⟩
        obtain rfl := e.symm
        have HO2 := HO1
        obtain ⟨f0, f1, f2, f3⟩ := HO2.out.cells
        clear HNW HO1
        by_cases hmid : k = n / 2
        · have hq1 : ((k : Int) == (n : Int) / 2) = true := by simp; omega
          have hq2 : ((k : Int) == (n : Int).tdiv 2) = true := by rw [Int.tdiv_eq_ediv_of_nonneg (by omega)]; exact hq1
          have HMK := hid (HNB.out va)
          clear hmid
          go_wp2_with fail
          refine HMK.out.mono ?_
          rintro _ v3 ⟨rfl, e⟩
          obtain rfl := e.symm
          have HMK2 := hid (HRB.out va)
          go_wp2_with fail
          refine HMK2.out.mono ?_
          rintro _ v4 ⟨rfl, e⟩
          obtain rfl := e.symm
          have HS5 := hid HO2.out.st
          clear HMK HMK2
          go_wp2_with fail
          go_roundw
          case rel => exact ⟨k + 1, _, rfl, rfl, by go_num, by omega, ⟨rfl, rfl⟩, HS5⟩
          case measure => simp [intOf]; omega
        · have hq1 : ((k : Int) == (n : Int) / 2) = false := by simp; omega
          have hq2 : ((k : Int) == (n : Int).tdiv 2) = false := by rw [Int.tdiv_eq_ediv_of_nonneg (by omega)]; exact hq1
          have HS5 := hid HO2.out.st
          clear hmid
          go_wp2_with fail
          go_roundw
          case rel => exact ⟨k + 1, _, rfl, rfl, by go_num, by omega, ⟨rfl, rfl⟩, HS5⟩
          case measure => simp [intOf]; omega
      · have hon1 : (on == 0) = false := by simp [hon]
        have hon2 : (on != 0) = true := by simp [hon]
        have HO1 := HO
        clear hon
        have HNW := hid (HNB.out va)
        go_wp2_with fail
        refine HNW.out.mono ?_
        rintro _ v2 ⟨rfl, e⟩
        obtain rfl := e.symm
        have HO2 := HO1
        obtain ⟨f0, f1, f2, f3⟩ := HO2.out.cells
        clear HNW HO1
        by_cases hmid : k = n / 2
        · have hq1 : ((k : Int) == (n : Int) / 2) = true := by simp; omega
          have hq2 : ((k : Int) == (n : Int).tdiv 2) = true := by rw [Int.tdiv_eq_ediv_of_nonneg (by omega)]; exact hq1
          have HMK := hid (HNB.out va)
          clear hmid
          go_wp2_with fail
          refine HMK.out.mono ?_
          rintro _ v3 ⟨rfl, e⟩
          obtain rfl := e.symm
          have HMK2 := hid (HRB.out va)
          go_wp2_with fail
          refine HMK2.out.mono ?_
          rintro _ v4 ⟨rfl, e⟩
          obtain rfl := e.symm
          have HS5 := hid HO2.out.st
          clear HMK HMK2
          go_wp2_with fail
          go_roundw
          case rel => exact ⟨k + 1, _, rfl, rfl, by go_num, by omega, ⟨rfl, rfl⟩, HS5⟩
          case measure => simp [intOf]; omega
        · have hq1 : ((k : Int) == (n : Int) / 2) = false := by simp; omega
          have hq2 : ((k : Int) == (n : Int).tdiv 2) = false := by rw [Int.tdiv_eq_ediv_of_nonneg (by omega)]; exact hq1
          have HS5 := hid HO2.out.st
          clear hmid
          go_wp2_with fail
          go_roundw
          case rel => exact ⟨k + 1, _, rfl, rfl, by go_num, by omega, ⟨rfl, rfl⟩, HS5⟩
          case measure => simp [intOf]; omega
    · have HF := hid (HB1.out.trans (HS.out.far.mono HB1.out.size))
      clear hx
      go_wp2_with fail
      go_ret
      exact ⟨rfl, HF.out⟩
end Go.Proofs.Ythbjfbalgejndaa
