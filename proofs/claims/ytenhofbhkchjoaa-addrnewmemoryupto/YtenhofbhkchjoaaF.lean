import Derived.Test.YtenhofbhkchjoaaE
import Derived.Test.YtenhofbhkchjoaaMath2
namespace Go.Proofs.Ytenhofbhkchjoaa
open Go.ChangeShapes Go.WideShapes Go.ChangeAt Go.RowKit
set_option maxHeartbeats 400000

/-- Why a prefix is not valid; 0: it is. -/
def err (p : Nat × Int) : Int := if p.2 < 0 ∨ 32 < p.2 then 11 else if p.1 % 2 ^ (32 - p.2.toNat) = 0 then 0 else 12

/-- The prefixes that are valid: the block of 2^k addresses at x. -/
theorem err_ok {p : Nat × Int} (h : err p = 0) : ∃ k : Nat, k ≤ 32 ∧ p.2 = 32 - (k : Int) ∧ p.1 % 2 ^ k = 0 := by
  unfold err at h
  split at h
  · simp at h
  · rename_i h1
    split at h
    · exact ⟨32 - p.2.toNat, by omega, by omega, by assumption⟩
    · simp at h

theorem check_any (x : Nat) (n : Int) (w : World) (hx : x < 4294967296) :
    Calls Try.prog 26 #[.agg #[.int .u32 x, .int .i64 n]] w fun e w' => e = .returned (.int .i64 (err (x, n))) ∧ Below w.heap.size w w' := by
  by_cases h1 : n < 0
  · have HE : Hid (err (x, n) = 11) := by unfold Hid err; rw [if_pos (.inl h1)]
    go_enter Try.func26, Try.ntmps26
    go_wp2
    go_ret
    exact ⟨ret_int HE.out.symm, (Below.refl _ _).alloc (Nat.le_refl _) _⟩
  · by_cases h2 : 32 < n
    · have HE : Hid (err (x, n) = 11) := by unfold Hid err; rw [if_pos (.inr h2)]
      go_enter Try.func26, Try.ntmps26
      go_wp2
      go_ret
      exact ⟨ret_int HE.out.symm, (Below.refl _ _).alloc (Nat.le_refl _) _⟩
    · obtain ⟨k, hk, hn⟩ : ∃ k : Nat, k ≤ 32 ∧ n = 32 - (k : Int) := ⟨32 - n.toNat, by omega, by omega⟩
      have hA := and_u32 x k hx hk
      have hkn : 32 - n.toNat = k := by omega
      by_cases h3 : x % 2 ^ k = 0
      · have HE : Hid (err (x, n) = 0) := by unfold Hid err; rw [if_neg (by simp; omega), hkn, if_pos h3]
        have hq : (bits .and .u32 (x : Int) ((M.mask k : Nat) : Int) != 0) = false := by rw [hA, h3]; rfl
        have HN : Hid (n = 32 - (k : Int)) := hn
        clear hA h3 hkn hn
        go_enter Try.func26, Try.ntmps26
        go_wp2
        go_quiet ((go_at_call 33; exact Calls.quiet_of_same (bits_any _ k _ HN.out hk)))
        go_wp2
        go_ret
        exact ⟨ret_int HE.out.symm, below_drewN ((Below.refl _ _).alloc (Nat.le_refl _) _) _⟩
      · have HE : Hid (err (x, n) = 12) := by unfold Hid err; rw [if_neg (by simp; omega), hkn, if_neg h3]
        have hq : (bits .and .u32 (x : Int) ((M.mask k : Nat) : Int) != 0) = true := by
          rw [hA, bne_iff_ne]; intro e; exact h3 (by exact_mod_cast e)
        have HN : Hid (n = 32 - (k : Int)) := hn
        clear hA h3 hkn hn
        go_enter Try.func26, Try.ntmps26
        go_wp2
        go_quiet ((go_at_call 33; exact Calls.quiet_of_same (bits_any _ k _ HN.out hk)))
        go_wp2
        go_ret
        exact ⟨ret_int HE.out.symm, below_drewN ((Below.refl _ _).alloc (Nat.le_refl _) _) _⟩

theorem fault_any (x : Nat) (n : Int) (w : World) (hx : x < 4294967296) :
    Calls Try.prog 39 #[.agg #[.int .u32 x, .int .i64 n]] w fun e w' => e = .returned (.int .i64 (err (x, n))) ∧ Below w.heap.size w w' := by
  by_cases h1 : n < 0
  · have HE : Hid (err (x, n) = 11) := by unfold Hid err; rw [if_pos (.inl h1)]
    go_enter Try.func39, Try.ntmps39
    go_wp2
    go_ret
    exact ⟨ret_int HE.out.symm, (Below.refl _ _).alloc (Nat.le_refl _) _⟩
  · by_cases h2 : 32 < n
    · have HE : Hid (err (x, n) = 11) := by unfold Hid err; rw [if_pos (.inr h2)]
      go_enter Try.func39, Try.ntmps39
      go_wp2
      go_ret
      exact ⟨ret_int HE.out.symm, (Below.refl _ _).alloc (Nat.le_refl _) _⟩
    · obtain ⟨k, hk, hn⟩ : ∃ k : Nat, k ≤ 32 ∧ n = 32 - (k : Int) := ⟨32 - n.toNat, by omega, by omega⟩
      have hkn : 32 - n.toNat = k := by omega
      have hp := pw_pos k
      have hp1 := pw_le hk
      have hmod : (x : Int) % ((pw k : Nat) : Int) = ((x % 2 ^ k : Nat) : Int) := by unfold pw; simp
      by_cases h3 : x % 2 ^ k = 0
      · have HE : Hid (err (x, n) = 0) := by unfold Hid err; rw [if_neg (by simp; omega), hkn, if_pos h3]
        have hq : ((x : Int) % ((pw k : Nat) : Int) != 0) = false := by rw [hmod, h3]; rfl
        have HN : Hid (n = 32 - (k : Int)) := hn
        clear hmod h3 hkn hn
        go_enter Try.func39, Try.ntmps39
        go_wp2
        go_quiet ((go_at_call 34; exact Calls.quiet_of_same (size_any _ k _ HN.out hk)))
        go_wp2
        go_ret
        exact ⟨ret_int HE.out.symm, below_drewN ((Below.refl _ _).alloc (Nat.le_refl _) _) _⟩
      · have HE : Hid (err (x, n) = 12) := by unfold Hid err; rw [if_neg (by simp; omega), hkn, if_neg h3]
        have hq : ((x : Int) % ((pw k : Nat) : Int) != 0) = true := by
          rw [hmod, bne_iff_ne]; intro e; exact h3 (by exact_mod_cast e)
        have HN : Hid (n = 32 - (k : Int)) := hn
        clear hmod h3 hkn hn
        go_enter Try.func39, Try.ntmps39
        go_wp2
        go_quiet ((go_at_call 34; exact Calls.quiet_of_same (size_any _ k _ HN.out hk)))
        go_wp2
        go_ret
        exact ⟨ret_int HE.out.symm, below_drewN ((Below.refl _ _).alloc (Nat.le_refl _) _) _⟩

/-- The interval of a valid prefix. -/
def iv (p : Nat × Int) : Nat × Nat := (p.1, p.1 + pw (32 - p.2.toNat) - 1)

theorem iv_k (x k : Nat) (hk : k ≤ 32) : iv (x, 32 - (k : Int)) = (x, x + pw k - 1) := by
  unfold iv
  rw [show 32 - (32 - (k : Int)).toNat = k from by omega]

theorem top_of (x k : Nat) (hx : x < 4294967296) (hk : k ≤ 32) (h : x % 2 ^ k = 0) : x + pw k ≤ 4294967296 :=
  M.step_le (d := 2 ^ k) h (show 4294967296 % 2 ^ k = 0 from M.mod_pow (k := 32) hk) hx

theorem ret_int3 {k l m : IntKind} {a b c d e f : Int} (h : a = b) (g : c = d) (i : e = f) : Ending.returned (.tuple #[.int k a, .int l c, .int m e]) = .returned (.tuple #[.int k b, .int l d, .int m f]) := by rw [h, g, i]

theorem span_bad (x : Nat) (n : Int) (w : World) (hx : x < 4294967296) (he : (err (x, n) != 0) = true) :
    Calls Try.prog 30 #[.agg #[.int .u32 x, .int .i64 n]] w fun e w' => e = .returned (.tuple #[.int .u32 0, .int .u32 0, .int .i64 (err (x, n))]) ∧ Below w.heap.size w w' := by
  go_enter Try.func30, Try.ntmps30
  go_wp2_with fail
  refine (fault_any x n _ hx).mono ?_
  rintro e w1 ⟨rfl, hb1⟩
  go_wp2_with fail
  go_ret3
  exact ⟨rfl, ((Below.refl _ _).alloc (Nat.le_refl _) _).trans (hb1.mono (by simp))⟩

theorem span_ok (x k : Nat) (w : World) (hx : x < 4294967296) (hk : k ≤ 32) (hm : x % 2 ^ k = 0) :
    Calls Try.prog 30 #[.agg #[.int .u32 x, .int .i64 (32 - (k : Int))]] w fun e w' => e = .returned (.tuple #[.int .u32 x, .int .u32 ((x + pw k - 1 : Nat) : Int), .int .i64 0]) ∧ Below w.heap.size w w' := by
  have ht := top_of x k hx hk hm
  have hp := pw_pos k
  have HE : Hid (err (x, 32 - (k : Int)) = 0) := by
    unfold Hid err; rw [if_neg (by simp; omega), if_pos]
    simp only
    rw [show 32 - (32 - (k : Int)).toNat = k from by omega]; exact hm
  have HT : Hid ((x : Int) + (pw k : Int) - 1 = ((x + pw k - 1 : Nat) : Int)) := by unfold Hid; omega
  clear hm
  go_enter Try.func30, Try.ntmps30
  go_wp2_with fail
  refine (fault_any x _ _ hx).mono ?_
  rintro e w1 ⟨rfl, hb1⟩
  rw [HE.out]
  have c0 := (hb1.cell (p := ⟨w.heap.size, 0, none⟩) (by simp)).trans (by exact (two_at rfl (.int .u32 x) (.int .i64 (32 - (k : Int))) 30 0 _ rfl))
  have c1 := (hb1.cell (p := ⟨w.heap.size, 1, none⟩) (by simp)).trans (by exact (two_at rfl (.int .u32 x) (.int .i64 (32 - (k : Int))) 30 1 _ rfl))
  go_wp2_with fail
  go_quiet ((go_at_call 34; exact Calls.quiet_of_same (size_any _ k _ rfl hk)))
  go_wp2_with fail
  go_ret3
  exact ⟨ret_int3 rfl HT.out rfl, below_drewN (((Below.refl _ _).alloc (Nat.le_refl _) _).trans (hb1.mono (by simp))) _⟩
end Go.Proofs.Ytenhofbhkchjoaa
