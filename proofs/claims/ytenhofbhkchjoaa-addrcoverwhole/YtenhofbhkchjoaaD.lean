import Derived.Test.YtenhofbhkchjoaaC
namespace Go.Proofs.Ytenhofbhkchjoaa
open Go.ChangeShapes Go.WideShapes Go.ChangeAt Go.RowKit
set_option maxHeartbeats 400000

theorem coverWhole_walk (lo hi : Nat) (w : World) (hl : lo < 4294967296) (hh : hi < 4294967296) :
    Calls Try.prog 3 #[.int .u32 lo, .int .u32 hi] w fun e w' => e = .returned (.bool true) ∧ Below w.heap.size w w' := by
  go_enter Try.func3, Try.ntmps3
  go_wp2_with fail
  refine (begun_any _).mono ?_
  rintro e w0 ⟨rfl, rfl⟩
  go_wp2_with fail
  refine (cover_any lo hi _ hl hh).mono ?_
  rintro e w1 ⟨v, rfl, hown, hb⟩
  have hsee := sees_of_owns hown
  obtain ⟨ao, n, cap, rfl, HN, hnc, hcap⟩ := hsee.shape
  have hn62 : n ≤ 62 := by rw [HN.out, List.length_map]; exact M.cv_len lo hi
  unfold maxLen at hcap
  clear hown
  go_wp2_with fail
  go_loopw [7, 8] (fun t i wr => ∃ (x j : Nat) (pre : List (Nat × Nat)), t = .int .i64 x ∧ i = .int .i64 j ∧ j ≤ n ∧ Hid (pre.length = j ∧ pre ++ M.cv x hi = M.cv lo hi ∧ (lo ≤ hi → x ≤ hi + 1)) ∧ Below w1.heap.size w1 wr) (fun _ i _ => n - (intOf i).toNat)
  case atStart => exact ⟨lo, 0, [], rfl, rfl, by omega, ⟨rfl, rfl, by omega⟩, Below.refl _ _⟩
  case round =>
    obtain ⟨x, j, pre, rfl, rfl, hj, HR, hbr⟩ := hrel
    by_cases hjn : j < n
    · obtain ⟨g, off, p, rfl, hg, c0, c1, HP⟩ := (hsee.below hbr).at j hjn
      obtain ⟨k, hjk, hk, hm, hmh, h32, hpar, hpl, hpre, hnx⟩ := M.cv_round hh HR.out.1 HR.out.2.1 (by have := HN.out; rw [List.length_map] at this; omega)
      obtain rfl : p = (x, 32 - (k : Int)) := by
        have := HP.out
        rw [List.getElem?_map, hjk] at this
        simpa [pv] using this.symm
      have HM : Hid (x % 2 ^ k = 0) := hm
      have HN2 : Hid ((pre ++ [(x, k)]).length = j + 1 ∧ (pre ++ [(x, k)]) ++ M.cv (x + 2 ^ k) hi = M.cv lo hi) := ⟨hpl, hpre⟩
      have HPar : Hid (k < 32 → ¬ (lo ≤ x / 2 ^ (k + 1) * 2 ^ (k + 1) ∧ x / 2 ^ (k + 1) * 2 ^ (k + 1) + 2 ^ (k + 1) - 1 ≤ hi)) := hpar
      have hx32 : x < 4294967296 := by have := Nat.two_pow_pos k; omega
      clear hm hpl hpre hpar hjk
      simp only at c0 c1
      go_wp2_with fail
      refine (block_ok x k _ h32 hk HM.out).mono ?_
      rintro e w2 ⟨rfl, hb2⟩
      have hpk := Nat.two_pow_pos k
      generalize hmm : x + 2 ^ k - 1 = m at hmh ⊢
      have HMM : Hid (x + 2 ^ k = m + 1 ∧ x ≤ m) := ⟨by omega, by omega⟩
      have hxm := HMM.out.2
      have c0' := (hb2.cell (p := ⟨g, off + j * 2, none⟩) hg).trans c0
      have c1' := (hb2.cell (p := ⟨g, off + j * 2 + 1, none⟩) hg).trans c1
      have hg2 : g < w2.heap.size := Nat.lt_of_lt_of_le hg hb2.size
      have hq0 : ((x : Int) != (x : Int)) = false := by simp
      clear hmm hpk h32 hnx c0 c1
      go_wp2_with fail
      refine (parent_ok x k _ hx32 hk).mono ?_
      rintro e w3 ⟨rfl, hb3⟩
      have hPar := HPar.out
      generalize x / 2 ^ (k + 1) * 2 ^ (k + 1) = u at hPar ⊢
      generalize u + 2 ^ (k + 1) - 1 = tp at hPar ⊢
      have c1'' := (hb3.cell (p := ⟨g, off + j * 2 + 1, none⟩) hg2).trans c1'
      clear HPar c0' c1'
      have hb4 : Below w1.heap.size w1 w3 := hbr.trans ((hb2.mono hbr.size).trans (hb3.mono (Nat.le_trans hbr.size hb2.size)))
      by_cases hk32 : k < 32
      · have hp2 := hPar hk32
        by_cases hlu : lo ≤ u
        · have htp : hi < tp := by omega
          clear hPar hp2
          go_wp2_with fail
          go_roundw
          case rel => exact ⟨m + 1, j + 1, pre ++ [(x, k)], by go_num, by go_num, by omega, ⟨HN2.out.1, by rw [← HMM.out.1]; exact HN2.out.2, by omega⟩, hb4⟩
          case measure => simp [intOf]; omega
        · clear hPar hp2
          go_wp2_with fail
          go_roundw
          case rel => exact ⟨m + 1, j + 1, pre ++ [(x, k)], by go_num, by go_num, by omega, ⟨HN2.out.1, by rw [← HMM.out.1]; exact HN2.out.2, by omega⟩, hb4⟩
          case measure => simp [intOf]; omega
      · clear hPar
        go_wp2_with fail
        go_roundw
        case rel => exact ⟨m + 1, j + 1, pre ++ [(x, k)], by go_num, by go_num, by omega, ⟨HN2.out.1, by rw [← HMM.out.1]; exact HN2.out.2, by omega⟩, hb4⟩
        case measure => simp [intOf]; omega
    · have HE : Hid (M.cv x hi = [] ∧ n = (M.cv lo hi).length) := by
        have h1 := HN.out
        rw [List.length_map] at h1
        have h2 := congrArg List.length HR.out.2.1
        rw [List.length_append, HR.out.1] at h2
        exact ⟨List.eq_nil_of_length_eq_zero (by omega), h1⟩
      have hbf : Below w0.heap.size w0 wr := hb.trans (hbr.mono hb.size)
      by_cases hlh : lo ≤ hi
      · have hxx : x = hi + 1 := by
          rcases Nat.lt_or_ge hi x with h | h
          · have := HR.out.2.2 hlh; omega
          · obtain ⟨k, hk⟩ := M.wid_some h
            have h3 := HE.out.1
            rw [M.cv_step (by omega) hk] at h3
            cases h3
        subst hxx
        have hd : decide ((n : Int) ≤ 62) = true := by simp; omega
        have hq : (((hi + 1 : Nat) : Int) == (hi : Int) + 1) = true := by simp
        go_wp2_with fail
        go_ret
        exact ⟨ret_bool (by simp), hbf⟩
      · have hn0 : n = 0 := by rw [HE.out.2, M.cv_gt (by omega)]; rfl
        go_wp2_with fail
        go_ret
        exact ⟨ret_bool (by simp), hbf⟩
end Go.Proofs.Ytenhofbhkchjoaa
