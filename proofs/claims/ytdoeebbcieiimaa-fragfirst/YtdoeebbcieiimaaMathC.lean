/-
  What is carried on of an option area.
-/
import Derived.Test.YtdoeebbcieiimaaMath2
namespace Go.Proofs.Ytdoeebbcieiimaa.M

/-- The options of the rest of an area that are carried on. -/
def cop (r : List Nat) : List Nat :=
  if _hr : r = [] then []
  else match _h : nxt r with
    | none => []
    | some k => (if 128 ≤ r.headD 0 then r.take k else []) ++ cop (r.drop k)
termination_by r.length
decreasing_by
  have h1 := nxt_pos _h _hr
  have h2 := List.length_pos_iff.2 _hr
  rw [List.length_drop]; omega

theorem cop_nil : cop [] = [] := by rw [cop]; simp

theorem cop_none {r : List Nat} (h : nxt r = none) : cop r = [] := by
  by_cases hr : r = []
  · rw [hr, cop_nil]
  · rw [cop, dif_neg hr]
    split
    · rfl
    · rename_i k hk; rw [h] at hk; cases hk

theorem cop_some {r : List Nat} {k : Nat} (hr : r ≠ []) (h : nxt r = some k) : cop r = (if 128 ≤ r.headD 0 then r.take k else []) ++ cop (r.drop k) := by
  rw [cop, dif_neg hr]
  split
  · rename_i hk; rw [h] at hk; cases hk
  · rename_i k' hk; rw [h] at hk; cases hk; rfl

theorem cop_zero (t : List Nat) : cop (0 :: t) = [] := by
  cases h : nxt (0 :: t) with
  | none => exact cop_none h
  | some k =>
    rw [cop_some (by simp) h]
    have hk : k = (0 :: t).length := by
      unfold nxt at h
      rw [if_pos (by simp)] at h
      split at h
      · simpa using h.symm
      · cases h
    rw [hk, List.drop_length, cop_nil]
    simp

/-- Zeros behind it, up to a whole word. -/
def pad (c : List Nat) : List Nat := c ++ List.replicate ((4 - c.length % 4) % 4) 0

theorem pad_done {c : List Nat} (h : c.length % 4 = 0) : pad c = c := by unfold pad; rw [h]; simp
theorem pad_step {c : List Nat} (h : c.length % 4 ≠ 0) : pad c = pad (c ++ [0]) := by
  unfold pad
  rw [List.append_assoc, List.length_append, List.length_singleton]
  congr 1
  have h4 : c.length % 4 < 4 := Nat.mod_lt _ (by omega)
  rw [show (4 - c.length % 4) % 4 = (4 - (c.length + 1) % 4) % 4 + 1 by omega, List.replicate_succ]
  rfl

/-- What Copied answers. -/
def copied (o : List Nat) : List Nat × Int := if area o then (pad (cop o), 0) else ([], 34)

theorem cop_le : ∀ (n : Nat) (r : List Nat), r.length ≤ n → (cop r).length ≤ r.length
  | 0, r, h => by
    obtain rfl : r = [] := List.eq_nil_of_length_eq_zero (by omega)
    rw [cop_nil]; simp
  | n + 1, r, h => by
    by_cases hr : r = []
    · rw [hr, cop_nil]; simp
    · cases hn : nxt r with
      | none => rw [cop_none hn]; simp
      | some k =>
        rw [cop_some hr hn, List.length_append]
        have h1 := nxt_pos hn hr
        have h2 := nxt_le hn
        have h3 := cop_le n (r.drop k) (by rw [List.length_drop]; omega)
        rw [List.length_drop] at h3
        split
        · rw [List.length_take]; omega
        · simp; omega

theorem cop_mem : ∀ (n : Nat) (r : List Nat), r.length ≤ n → ∀ x ∈ cop r, x ∈ r
  | 0, r, h, x, hx => by
    obtain rfl : r = [] := List.eq_nil_of_length_eq_zero (by omega)
    rw [cop_nil] at hx; cases hx
  | n + 1, r, h, x, hx => by
    by_cases hr : r = []
    · rw [hr, cop_nil] at hx; cases hx
    · cases hn : nxt r with
      | none => rw [cop_none hn] at hx; cases hx
      | some k =>
        rw [cop_some hr hn] at hx
        have h1 := nxt_pos hn hr
        have h2 := nxt_le hn
        rcases List.mem_append.1 hx with hx | hx
        · split at hx
          · exact List.mem_of_mem_take hx
          · cases hx
        · exact List.mem_of_mem_drop (cop_mem n (r.drop k) (by rw [List.length_drop]; omega) x hx)
end Go.Proofs.Ytdoeebbcieiimaa.M
