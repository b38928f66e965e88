/-
  Words of two bytes, their sum.
-/
namespace Go.Proofs.Ytdoeebbcieiimaa.M

/-- The words of joined bytes, added up; odd: the bytes begin within a word. -/
def tot (odd : Bool) : List Nat → Nat
  | [] => 0
  | x :: r => (if odd then x else 256 * x) + tot (!odd) r

/-- The parity behind n bytes more. -/
def par (o : Bool) (n : Nat) : Bool := if n % 2 = 0 then o else !o

theorem par_zero (o : Bool) : par o 0 = o := rfl

theorem par_succ (o : Bool) (n : Nat) : par (!o) n = par o (n + 1) := by
  unfold par
  by_cases h : n % 2 = 0
  · rw [if_pos h, if_neg (by omega)]
  · rw [if_neg h, if_pos (by omega)]; cases o <;> rfl

theorem par_add (o : Bool) (m n : Nat) : par (par o m) n = par o (m + n) := by
  unfold par
  by_cases h : m % 2 = 0 <;> by_cases g : n % 2 = 0
  · rw [if_pos h, if_pos g, if_pos (by omega)]
  · rw [if_pos h, if_neg g, if_neg (by omega)]
  · rw [if_neg h, if_pos g, if_neg (by omega)]
  · rw [if_neg h, if_neg g, if_pos (by omega)]; cases o <;> rfl

theorem tot_append (A B : List Nat) (o : Bool) : tot o (A ++ B) = tot o A + tot (par o A.length) B := by
  induction A generalizing o with
  | nil => simp [tot, par_zero]
  | cons x A ih => simp only [List.cons_append, tot, List.length_cons]; rw [ih, par_succ]; omega

theorem tot_le (L : List Nat) (o : Bool) (h : ∀ x ∈ L, x < 256) : tot o L ≤ 65280 * L.length := by
  induction L generalizing o with
  | nil => simp [tot]
  | cons x L ih =>
    have h1 := ih (!o) (fun y hy => h y (List.mem_cons_of_mem _ hy))
    have h2 := h x List.mem_cons_self
    simp only [tot, List.length_cons]
    split <;> omega

def fold (t : Nat) : Nat := if t = 0 then 0 else 1 + (t - 1) % 65535

theorem fold_le (t : Nat) : fold t ≤ 65535 := by
  unfold fold; split
  · omega
  · have := Nat.mod_lt (t - 1) (show 0 < 65535 by omega); omega

def csum (L : List Nat) : Nat := 65535 - fold (tot false L)

theorem csum_lt (L : List Nat) : csum L < 65536 := by unfold csum; omega

def adj (s o n : Nat) : Nat := 65535 - fold ((65535 - s) + (65535 - o) + n)

end Go.Proofs.Ytdoeebbcieiimaa.M
