/-
  What is carried on is carried on whole.
-/
import Derived.Test.YtdoeebbcieiimaaMathC
namespace Go.Proofs.Ytdoeebbcieiimaa.M

/-- An option that is carried on. -/
def IsOpt (o : List Nat) : Prop := ∃ x y t, o = x :: y :: t ∧ 128 ≤ x ∧ t.length + 2 = y

/-- Such options, one behind the other. -/
def Chain (c : List Nat) : Prop := ∃ l : List (List Nat), (∀ o ∈ l, IsOpt o) ∧ c = l.flatten

theorem chain_nil : Chain [] := ⟨[], by simp, rfl⟩

theorem Chain.cons {o c : List Nat} (ho : IsOpt o) (hc : Chain c) : Chain (o ++ c) := by
  obtain ⟨l, h, rfl⟩ := hc
  refine ⟨o :: l, fun p hp => ?_, by simp⟩
  rcases List.mem_cons.1 hp with rfl | hp
  · exact ho
  · exact h p hp

theorem Chain.cases {c : List Nat} (hc : Chain c) : c = [] ∨ ∃ x y t d, c = x :: y :: (t ++ d) ∧ 128 ≤ x ∧ t.length + 2 = y ∧ Chain d := by
  obtain ⟨l, h, rfl⟩ := hc
  cases l with
  | nil => exact .inl rfl
  | cons o l =>
    obtain ⟨x, y, t, rfl, h1, h2⟩ := h o List.mem_cons_self
    exact .inr ⟨x, y, t, l.flatten, by simp, h1, h2, l, fun p hp => h p (List.mem_cons_of_mem _ hp), rfl⟩

theorem cop_chain : ∀ (n : Nat) (r : List Nat), r.length ≤ n → okO r = true → Chain (cop r)
  | 0, r, h, _ => by
    obtain rfl : r = [] := List.eq_nil_of_length_eq_zero (by omega)
    rw [cop_nil]; exact chain_nil
  | n + 1, r, h, hok => by
    by_cases hr : r = []
    · rw [hr, cop_nil]; exact chain_nil
    · cases hn : nxt r with
      | none => rw [cop_none hn]; exact chain_nil
      | some k =>
        have h1 := nxt_pos hn hr
        have h2 := nxt_le hn
        have hc := cop_chain n (r.drop k) (by rw [List.length_drop]; omega) (by rw [← okO_some hr hn]; exact hok)
        rw [cop_some hr hn]
        by_cases h128 : 128 ≤ r.headD 0
        · rw [if_pos h128]
          refine Chain.cons ?_ hc
          match r, hr, hn, h128 with
          | [x], _, hn, h128 =>
            have hx : 128 ≤ x := h128
            rw [nxt_last (by omega) (by omega)] at hn
            cases hn
          | x :: y :: t, _, hn, h128 =>
            have hx : 128 ≤ x := h128
            by_cases hb : y < 2 ∨ t.length + 2 < y
            · rw [nxt_bad (by omega) (by omega) hb] at hn; cases hn
            · rw [nxt_good (by omega) (by omega) hb] at hn
              have hk : k = y := by simpa using hn.symm
              subst hk
              obtain ⟨z, rfl⟩ : ∃ z, k = z + 2 := ⟨k - 2, by omega⟩
              exact ⟨x, z + 2, t.take z, rfl, hx, by rw [List.length_take]; omega⟩
        · rw [if_neg h128, List.nil_append]; exact hc

theorem chain_zeros (z : Nat) : ∀ (n : Nat) (c : List Nat), c.length ≤ n → Chain c → okO (c ++ List.replicate z 0) = true ∧ cop (c ++ List.replicate z 0) = c := by
  intro n
  induction n with
  | zero =>
    intro c hl _
    obtain rfl : c = [] := List.eq_nil_of_length_eq_zero (by omega)
    rw [List.nil_append]
    cases z with
    | zero => exact ⟨okO_nil, cop_nil⟩
    | succ z =>
      rw [List.replicate_succ]
      have hn := nxt_zero_ok (t := List.replicate z 0) (by simp)
      exact ⟨by rw [okO_some (by simp) hn, List.drop_length, okO_nil], cop_zero _⟩
  | succ n ih =>
    intro c hl hc
    rcases hc.cases with rfl | ⟨x, y, t, d, rfl, hx, hy, hd⟩
    · exact ih [] (by simp) hc
    · obtain ⟨e1, e2⟩ := ih d (by simp at hl; omega) hd
      have e : x :: y :: (t ++ d) ++ List.replicate z 0 = x :: y :: (t ++ (d ++ List.replicate z 0)) := by simp
      have hn : nxt (x :: y :: (t ++ (d ++ List.replicate z 0))) = some y := nxt_good (by omega) (by omega) (by rw [List.length_append]; omega)
      have hdr : (x :: y :: (t ++ (d ++ List.replicate z 0))).drop y = d ++ List.replicate z 0 := by
        rw [← hy]; exact List.drop_left' rfl
      have htk : (x :: y :: (t ++ (d ++ List.replicate z 0))).take y = x :: y :: t := by
        have h1 : (x :: y :: (t ++ (d ++ List.replicate z 0))).take (t.length + 2) = x :: y :: t := by
          show x :: y :: (t ++ (d ++ List.replicate z 0)).take t.length = _
          rw [List.take_left' rfl]
        rw [hy] at h1
        exact h1
      rw [e]
      refine ⟨by rw [okO_some (by simp) hn, hdr, e1], ?_⟩
      rw [cop_some (by simp) hn, hdr, htk, e2, if_pos (by exact hx)]
      simp

/-- What is carried on: an area, no longer, and it is carried on whole. -/
theorem copied_once {o : List Nat} (ho : area o = true) : ∃ c z, pad (cop o) = c ++ List.replicate z 0 ∧ Chain c ∧ z ≤ 3 ∧ (c.length + z) % 4 = 0 ∧ c.length + z ≤ o.length ∧ area (pad (cop o)) = true ∧ pad (cop (pad (cop o))) = pad (cop o) := by
  have ho' := ho
  unfold area at ho'
  simp only [Bool.and_eq_true, decide_eq_true_eq] at ho'
  obtain ⟨⟨h1, h2⟩, h3⟩ := ho'
  have hc := cop_chain _ o (Nat.le_refl _) h3
  have hl := cop_le _ o (Nat.le_refl _)
  have hp : pad (cop o) = cop o ++ List.replicate ((4 - (cop o).length % 4) % 4) 0 := rfl
  obtain ⟨e1, e2⟩ := chain_zeros ((4 - (cop o).length % 4) % 4) _ (cop o) (Nat.le_refl _) hc
  refine ⟨cop o, (4 - (cop o).length % 4) % 4, hp, hc, by omega, by omega, by omega, ?_, ?_⟩
  · unfold area
    simp only [Bool.and_eq_true, decide_eq_true_eq]
    rw [hp]
    refine ⟨⟨?_, ?_⟩, e1⟩
    · rw [List.length_append, List.length_replicate]; omega
    · rw [List.length_append, List.length_replicate]; omega
  · rw [hp, e2, hp]
end Go.Proofs.Ytdoeebbcieiimaa.M
