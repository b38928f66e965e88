import Derived.Test.YtcelcnafcfefhaaNQ
namespace Go.Proofs.Ytcelcnafcfefhaa.N
open Go.ChangeShapes Go.WideShapes Go.ChangeAt Go.RowKit
set_option maxHeartbeats 400000
set_option maxRecDepth 100000

theorem same_any (v v' : Value) (A B : List Nat) (w : World) (hv : SeesB w v A) (hv' : SeesB w v' B) :
    Calls Try.prog 12 #[v, v'] w fun e w' => e = .returned (.bool (decide (A = B))) ∧ Below w.heap.size w w' := by
  obtain ⟨ao, n, cap, rfl, HN, hn1, hn2⟩ := hv.shape
  obtain ⟨ao', n', cap', rfl, HN', hn1', hn2'⟩ := hv'.shape
  unfold maxLen at hn2 hn2'
  obtain ⟨R, hR⟩ : ∃ R, R = decide (A = B) := ⟨_, rfl⟩
  have HR := hid hR
  rw [← hR]
  have HV := hid hv
  have HV' := hid hv'
  clear hR hv hv'
  by_cases hl : n = n'
  · subst hl
    have hq : ((n : Int) != (n : Int)) = false := by simp
    go_enter Try.func12, Try.ntmps12
    go_wp2_with fail
    go_loopw [5] (fun i wv => ∃ (k : Nat) (wr : World), i = .int .i64 (k : Int) ∧ k ≤ n ∧ Hid (A.take k = B.take k) ∧ wr = wv ∧ Below w.heap.size w wr) (fun i _ => n - (intOf i).toNat)
    case atStart => exact ⟨0, _, rfl, by omega, rfl, rfl, Below.refl _ _⟩
    case round =>
      obtain ⟨k, wr, rfl, hk, HK, rfl, hb⟩ := hrel
      by_cases hlt : k < n
      · obtain ⟨g, off, x, rfl, hg, hc, hx, HX⟩ := (HV.out.below hb).at k hlt
        obtain ⟨g', off', y, rfl, hg', hc', hy, HY⟩ := (HV'.out.below hb).at k hlt
        have b0 : (k : Int) < (n : Int) := by omega
        have b1 : (0 : Int) ≤ (k : Int) := by omega
        by_cases hxy : x = y
        · have hq2 : ((x : Int) != (y : Int)) = false := by simp [hxy]
          have HK2 : Hid (A.take (k + 1) = B.take (k + 1)) := by unfold Hid; rw [take_snoc HX.out, take_snoc HY.out, HK.out, hxy]
          clear hxy
          go_wp2_with fail
          go_quiet (fail)
          go_wp2_with fail
          go_roundw
          case rel => exact ⟨k + 1, _, by go_num, by omega, HK2, rfl, below_drewN hb _⟩
          case measure => simp [intOf]; omega
        · have hq2 : ((x : Int) != (y : Int)) = true := by simp; omega
          have HE : Hid (R = false) := by
            unfold Hid; rw [HR.out]; refine decide_eq_false (fun h => hxy ?_)
            have h1 := HX.out
            rw [h, HY.out] at h1
            simpa using h1.symm
          clear hxy
          go_wp2_with fail
          go_quiet (fail)
          go_wp2_with fail
          go_ret
          exact ⟨ret_bool (by rw [HE.out]), below_drewN hb _⟩
      · have HE : Hid (R = true) := by
          unfold Hid; rw [HR.out]; refine decide_eq_true ?_
          have h := HK.out
          rw [List.take_of_length_le (by have := HN.out; omega), List.take_of_length_le (by have := HN'.out; omega)] at h
          exact h
        go_wp2_with fail
        go_ret
        exact ⟨ret_bool (by rw [HE.out]), hb⟩
  · have hq : ((n : Int) != (n' : Int)) = true := by simp; omega
    have HE : Hid (R = false) := by
      unfold Hid; rw [HR.out]; refine decide_eq_false (fun h => hl ?_)
      rw [HN.out, HN'.out, h]
    clear hl
    go_enter Try.func12, Try.ntmps12
    go_wp2_with fail
    go_ret
    exact ⟨ret_bool (by rw [HE.out]), Below.refl _ _⟩
end Go.Proofs.Ytcelcnafcfefhaa.N
