/-
  One word of some bytes changes.
-/
import Derived.Test.YtjjmopmdiflffaaMath
namespace Go.Proofs.Ytjjmopmdiflffaa.M

theorem parts (C : List Nat) (a : Nat) (h : a + 1 < C.length) : ∃ P x y R, C = P ++ x :: y :: R ∧ P.length = a := by
  refine ⟨C.take a, C[a], C[a + 1], C.drop (a + 2), ?_, ?_⟩
  · rw [← List.drop_eq_getElem_cons, ← List.drop_eq_getElem_cons, List.take_append_drop]
  · rw [List.length_take]; omega

theorem par_even {n : Nat} (h : n % 2 = 0) (o : Bool) : par o n = o := by unfold par; rw [if_pos h]

theorem tot_two (P R : List Nat) (x y : Nat) (h : P.length % 2 = 0) : tot false (P ++ x :: y :: R) = tot false P + (256 * x + y + tot false R) := by
  rw [tot_append, par_even h]; simp [tot]; omega

theorem set_two (P R : List Nat) (x y u v : Nat) : ((P ++ x :: y :: R).set P.length u).set (P.length + 1) v = P ++ u :: v :: R := by
  rw [List.set_append, if_neg (by omega), Nat.sub_self, List.set_cons_zero, List.set_append, if_neg (by omega), show P.length + 1 - P.length = 1 by omega]; rfl

theorem tot_zero (L : List Nat) (o : Bool) (h : ∀ x ∈ L, x = 0) : tot o L = 0 := by
  induction L generalizing o with
  | nil => rfl
  | cons x L ih =>
    have h1 := h x List.mem_cons_self
    have h2 := ih (!o) (fun y hy => h y (List.mem_cons_of_mem _ hy))
    simp [tot, h1, h2]

theorem tot_pos (L : List Nat) (o : Bool) {x : Nat} (h : x ∈ L) (hx : x ≠ 0) : tot o L ≠ 0 := by
  induction L generalizing o with
  | nil => cases h
  | cons y L ih =>
    simp only [tot]
    rcases List.mem_cons.1 h with rfl | h
    · cases o <;> simp <;> omega
    · have := ih (!o) h; omega

theorem adj_same {T T' old n : Nat} (h : T' + old = T + n) (ho : old ≤ T) (h1 : old ≤ 65535) (h2 : n ≤ 65535) (hz : T' ≠ 0) : adj (65535 - fold T) old n = 65535 - fold T' := by
  unfold adj fold
  split <;> split <;> (try split) <;> omega

theorem adj_zero {T old n : Nat} (h : 0 + old = T + n) (ho : old ≤ T) (h1 : old ≤ 65535) : adj (65535 - fold T) old n = 0 := by
  unfold adj fold
  split <;> split <;> omega

end Go.Proofs.Ytjjmopmdiflffaa.M
