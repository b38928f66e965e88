/-
  Sums of joined bytes.
-/
import Derived.Test.YtjjmopmdiflffaaMathA
namespace Go.Proofs.Ytjjmopmdiflffaa.M

theorem tot_snoc0 (L : List Nat) : tot false (L ++ [0]) = tot false L := by
  rw [tot_append]; cases par false L.length <;> simp [tot]

theorem tot_word (L : List Nat) (x y : Nat) (h : L.length % 2 = 0) : tot false (L ++ [x, y]) = tot false L + (256 * x + y) := by
  rw [tot_append, par_even h]; simp [tot]

theorem tot_cons2 (x y : Nat) (R : List Nat) : tot false (x :: y :: R) = 256 * x + y + tot false R := by simp [tot]; omega

theorem own_zero {T s : Nat} (h : s = 65535 - fold T) : 65535 - fold (T + s) = 0 := by
  subst h; unfold fold; split <;> split <;> omega

theorem more_zero {T : Nat} : 65535 - fold (T + 0) = 65535 - fold T := rfl

theorem more_ones {T s t : Nat} (h : s = 65535 - fold T) (g : t = 65535 - fold (T + 65535)) : t = s ∨ (s = 65535 ∧ t = 0) := by
  have e : fold (T + 65535) = 1 + (T + 65535 - 1) % 65535 := by unfold fold; rw [if_neg (by omega)]
  rw [e] at g
  unfold fold at h
  split at h <;> omega

theorem more_else {T n s t : Nat} (h : s = 65535 - fold T) (g : t = 65535 - fold (T + n)) (h0 : n ≠ 0) (h1 : n < 65535) : t ≠ s := by
  subst h g; unfold fold; split <;> split <;> omega

end Go.Proofs.Ytjjmopmdiflffaa.M
