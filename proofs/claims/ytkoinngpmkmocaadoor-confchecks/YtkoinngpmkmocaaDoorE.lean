import Derived.Test.YtkoinngpmkmocaaDoorA
import Derived.Test.YtkoinngpmkmocaaDoorMath
namespace Go.Proofs.YtkoinngpmkmocaaDoor
open Go.ChangeShapes Go.WideShapes Go.ChangeAt Go.RowKit
set_option maxHeartbeats 400000

theorem pow_pred (n : Nat) (h : n ≤ 32) : 4294967295 / 2 ^ n = 2 ^ (32 - n) - 1 := by
  have : ∀ m, m < 33 → 4294967295 / 2 ^ m = 2 ^ (32 - m) - 1 := by decide +kernel
  exact this n (by omega)

theorem bits_any (n : Int) (k : Nat) (w : World) (h0 : n = 32 - (k : Int)) (h1 : k ≤ 32) :
    Calls Tryd.prog 106 #[.int .i64 n] w fun e w' => e = .returned (.int .u32 ((M.mask k : Nat) : Int)) ∧ w' = w := by
  have hp := pow_pred n.toNat (by omega)
  have HP : Hid (4294967295 / 2 ^ n.toNat = M.mask k) := by
    unfold M.mask; rw [show k = 32 - n.toNat from by omega]; exact hp
  have b0 : 0 ≤ n := by omega
  have b1 : n ≤ 32 := by omega
  clear hp h0 h1
  go_enter Tryd.func106, Tryd.ntmps106
  go_wp2
  go_ret
  refine ⟨ret_int ?_, rfl⟩
  rw [← HP.out]; simp

theorem and_u32 (x k : Nat) (hx : x < 4294967296) (hk : k ≤ 32) : bits .and .u32 (x : Int) ((M.mask k : Nat) : Int) = ((x % 2 ^ k : Nat) : Int) := by
  rw [u32_and_nat x (M.mask k) hx (M.mask_lt hk), M.and_mask]

theorem or_u32 (x k : Nat) (hx : x < 4294967296) (hk : k ≤ 32) (h : x % 2 ^ k = 0) : bits .or .u32 (x : Int) ((M.mask k : Nat) : Int) = ((x + 2 ^ k - 1 : Nat) : Int) := by
  rw [u32_or_nat x (M.mask k) hx (M.mask_lt hk), M.or_mask x k h]

def pw (k : Nat) : Nat := 2 ^ k
theorem pw_succ (k : Nat) : pw (k + 1) = 2 * pw k := (M.p2 k).1
theorem pw_pos (k : Nat) : 0 < pw k := Nat.two_pow_pos k
theorem pw_le {k : Nat} (h : k ≤ 32) : pw k ≤ 4294967296 := M.p2_le (a := k) (b := 32) h

theorem size_any (n : Int) (k : Nat) (w : World) (h0 : n = 32 - (k : Int)) (h1 : k ≤ 32) :
    Calls Tryd.prog 84 #[.int .i64 n] w fun e w' => e = .returned (.int .i64 ((pw k : Nat) : Int)) ∧ w' = w := by
  subst h0
  go_enter Tryd.func84, Tryd.ntmps84
  go_wp2
  go_loop [3, 4] (fun t i => ∃ j : Nat, j ≤ k ∧ i = .int .i64 (32 - (k : Int) + (j : Int)) ∧ t = .int .i64 ((pw j : Nat) : Int)) (fun _ i => (32 - intOf i).toNat)
  case atStart => exact ⟨0, by omega, by simp, rfl⟩
  case round =>
    obtain ⟨j, hj, rfl, rfl⟩ := hrel
    have hp := pw_le (k := j) (by omega)
    have HS : Hid (pw (j + 1) = 2 * pw j) := pw_succ j
    by_cases hjk : j < k
    · go_wp2
      go_round
      case rel => exact ⟨j + 1, by omega, by go_num, by rw [HS.out]; go_num⟩
      case measure => simp [intOf]; omega
    · obtain rfl : j = k := by omega
      go_wp2
      go_ret
      exact ⟨rfl, rfl⟩

/-- Why a prefix is not valid; 0: it is. -/
def err (p : Nat × Int) : Int := if p.2 < 0 ∨ 32 < p.2 then 11 else if p.1 % 2 ^ (32 - p.2.toNat) = 0 then 0 else 12

/-- The prefixes that are valid: the block of 2^k addresses at x. -/
theorem err_ok {p : Nat × Int} (h : err p = 0) : ∃ k : Nat, k ≤ 32 ∧ p.2 = 32 - (k : Int) ∧ p.1 % 2 ^ k = 0 := by
  unfold err at h
  split at h
  · simp at h
  · rename_i h1
    split at h
    · exact ⟨32 - p.2.toNat, by omega, by omega, by assumption⟩
    · simp at h

theorem check_any (x : Nat) (n : Int) (w : World) (hx : x < 4294967296) :
    Calls Tryd.prog 81 #[.agg #[.int .u32 x, .int .i64 n]] w fun e w' => e = .returned (.int .i64 (err (x, n))) ∧ Below w.heap.size w w' := by
  by_cases h1 : n < 0
  · have HE : Hid (err (x, n) = 11) := by unfold Hid err; rw [if_pos (.inl h1)]
    go_enter Tryd.func81, Tryd.ntmps81
    go_wp2
    go_ret
    exact ⟨ret_int HE.out.symm, (Below.refl _ _).alloc (Nat.le_refl _) _⟩
  · by_cases h2 : 32 < n
    · have HE : Hid (err (x, n) = 11) := by unfold Hid err; rw [if_pos (.inr h2)]
      go_enter Tryd.func81, Tryd.ntmps81
      go_wp2
      go_ret
      exact ⟨ret_int HE.out.symm, (Below.refl _ _).alloc (Nat.le_refl _) _⟩
    · obtain ⟨k, hk, hn⟩ : ∃ k : Nat, k ≤ 32 ∧ n = 32 - (k : Int) := ⟨32 - n.toNat, by omega, by omega⟩
      have hA := and_u32 x k hx hk
      have hkn : 32 - n.toNat = k := by omega
      by_cases h3 : x % 2 ^ k = 0
      · have HE : Hid (err (x, n) = 0) := by unfold Hid err; rw [if_neg (by simp; omega), hkn, if_pos h3]
        have hq : (bits .and .u32 (x : Int) ((M.mask k : Nat) : Int) != 0) = false := by rw [hA, h3]; rfl
        have HN : Hid (n = 32 - (k : Int)) := hn
        clear hA h3 hkn hn
        go_enter Tryd.func81, Tryd.ntmps81
        go_wp2
        go_quiet ((go_at_call 106; exact Calls.quiet_of_same (bits_any _ k _ HN.out hk)))
        go_wp2
        go_ret
        exact ⟨ret_int HE.out.symm, below_drewN ((Below.refl _ _).alloc (Nat.le_refl _) _) _⟩
      · have HE : Hid (err (x, n) = 12) := by unfold Hid err; rw [if_neg (by simp; omega), hkn, if_neg h3]
        have hq : (bits .and .u32 (x : Int) ((M.mask k : Nat) : Int) != 0) = true := by
          rw [hA, bne_iff_ne]; intro e; exact h3 (by exact_mod_cast e)
        have HN : Hid (n = 32 - (k : Int)) := hn
        clear hA h3 hkn hn
        go_enter Tryd.func81, Tryd.ntmps81
        go_wp2
        go_quiet ((go_at_call 106; exact Calls.quiet_of_same (bits_any _ k _ HN.out hk)))
        go_wp2
        go_ret
        exact ⟨ret_int HE.out.symm, below_drewN ((Below.refl _ _).alloc (Nat.le_refl _) _) _⟩

theorem fault_any (x : Nat) (n : Int) (w : World) (hx : x < 4294967296) :
    Calls Tryd.prog 83 #[.agg #[.int .u32 x, .int .i64 n]] w fun e w' => e = .returned (.int .i64 (err (x, n))) ∧ Below w.heap.size w w' := by
  by_cases h1 : n < 0
  · have HE : Hid (err (x, n) = 11) := by unfold Hid err; rw [if_pos (.inl h1)]
    go_enter Tryd.func83, Tryd.ntmps83
    go_wp2
    go_ret
    exact ⟨ret_int HE.out.symm, (Below.refl _ _).alloc (Nat.le_refl _) _⟩
  · by_cases h2 : 32 < n
    · have HE : Hid (err (x, n) = 11) := by unfold Hid err; rw [if_pos (.inr h2)]
      go_enter Tryd.func83, Tryd.ntmps83
      go_wp2
      go_ret
      exact ⟨ret_int HE.out.symm, (Below.refl _ _).alloc (Nat.le_refl _) _⟩
    · obtain ⟨k, hk, hn⟩ : ∃ k : Nat, k ≤ 32 ∧ n = 32 - (k : Int) := ⟨32 - n.toNat, by omega, by omega⟩
      have hkn : 32 - n.toNat = k := by omega
      have hp := pw_pos k
      have hp1 := pw_le hk
      have hmod : (x : Int) % ((pw k : Nat) : Int) = ((x % 2 ^ k : Nat) : Int) := by unfold pw; simp
      by_cases h3 : x % 2 ^ k = 0
      · have HE : Hid (err (x, n) = 0) := by unfold Hid err; rw [if_neg (by simp; omega), hkn, if_pos h3]
        have hq : ((x : Int) % ((pw k : Nat) : Int) != 0) = false := by rw [hmod, h3]; rfl
        have HN : Hid (n = 32 - (k : Int)) := hn
        clear hmod h3 hkn hn
        go_enter Tryd.func83, Tryd.ntmps83
        go_wp2
        go_quiet ((go_at_call 84; exact Calls.quiet_of_same (size_any _ k _ HN.out hk)))
        go_wp2
        go_ret
        exact ⟨ret_int HE.out.symm, below_drewN ((Below.refl _ _).alloc (Nat.le_refl _) _) _⟩
      · have HE : Hid (err (x, n) = 12) := by unfold Hid err; rw [if_neg (by simp; omega), hkn, if_neg h3]
        have hq : ((x : Int) % ((pw k : Nat) : Int) != 0) = true := by
          rw [hmod, bne_iff_ne]; intro e; exact h3 (by exact_mod_cast e)
        have HN : Hid (n = 32 - (k : Int)) := hn
        clear hmod h3 hkn hn
        go_enter Tryd.func83, Tryd.ntmps83
        go_wp2
        go_quiet ((go_at_call 84; exact Calls.quiet_of_same (size_any _ k _ HN.out hk)))
        go_wp2
        go_ret
        exact ⟨ret_int HE.out.symm, below_drewN ((Below.refl _ _).alloc (Nat.le_refl _) _) _⟩

end Go.Proofs.YtkoinngpmkmocaaDoor
