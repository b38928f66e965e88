/-
  Runs in memory; cmp.Compare, slices.BinarySearchFunc, seek, has.
-/
import Derived.Test.YtahoileampdnkaaOI
import Derived.Deep.LoopGhost
namespace Go.Proofs.Ytahoileampdnkaa
open Go.ChangeShapes Go.WideShapes Go.ChangeAt Go.RowKit Ru N
set_option maxHeartbeats 1000000
set_option maxRecDepth 100000

/-- Runs as cells. -/
def rv (r : R) : List Value := [.int .i64 (r.1 : Int), .int .i64 (r.2 : Int)]
def rc (rs : List R) : List Value := rs.flatMap rv

theorem rc_nil : rc [] = [] := rfl
theorem rc_cons (r : R) (rs : List R) : rc (r :: rs) = rv r ++ rc rs := rfl
theorem rc_len : ∀ rs : List R, (rc rs).length = rs.length * 2
  | [] => rfl
  | r :: rs => by rw [rc_cons, List.length_append, rc_len rs]; simp [rv]; omega
theorem rc_append (A C : List R) : rc (A ++ C) = rc A ++ rc C := by simp [rc]
theorem rc_one (rs : List R) : ∀ u ∈ rc rs, u.oneCell' = true := by
  intro u hu
  obtain ⟨r, _, h⟩ := List.mem_flatMap.1 hu
  simp [rv] at h
  rcases h with rfl | rfl <;> rfl
theorem rc_take (rs : List R) (i : Nat) (hi : i ≤ rs.length) : (rc rs).take (i * 2) = rc (rs.take i) := by
  have e : rc rs = rc (rs.take i) ++ rc (rs.drop i) := by rw [← rc_append, List.take_append_drop]
  have hl : (rc (rs.take i)).length = i * 2 := by rw [rc_len, List.length_take]; omega
  rw [e, ← hl]
  exact List.take_left
theorem rc_drop (rs : List R) (i : Nat) (hi : i ≤ rs.length) : (rc rs).drop (i * 2) = rc (rs.drop i) := by
  have e : rc rs = rc (rs.take i) ++ rc (rs.drop i) := by rw [← rc_append, List.take_append_drop]
  have hl : (rc (rs.take i)).length = i * 2 := by rw [rc_len, List.length_take]; omega
  rw [e, ← hl]
  exact List.drop_left
theorem rc_at : ∀ (rs : List R) (i : Nat) (r : R), rs[i]? = some r → (rc rs)[i * 2]? = some (.int .i64 (r.1 : Int)) ∧ (rc rs)[i * 2 + 1]? = some (.int .i64 (r.2 : Int))
  | r :: rs, 0, s, h => by
    simp at h; subst h
    exact ⟨rfl, rfl⟩
  | r :: rs, i + 1, s, h => by
    have := rc_at rs i s (by simpa using h)
    rw [rc_cons, show (i + 1) * 2 = (rv r).length + i * 2 by simp [rv]; omega, List.getElem?_append_right (by omega), Nat.add_assoc, List.getElem?_append_right (by omega), Nat.add_sub_cancel_left, Nat.add_sub_cancel_left]
    exact this

/-- An own row of runs. -/
def OwnR (w : World) (B : Nat) (v : Value) (rs : List R) : Prop := Row w B v rs.length (rc rs)

theorem OwnR.shape {w : World} {B : Nat} {v : Value} {rs : List R} (h : OwnR w B v rs) : ∃ a n cap, v = .slice a n cap ∧ Hid (n = rs.length) ∧ n ≤ cap ∧ cap ≤ 9223372036854775807 := by
  rcases h.2 with ⟨rfl, h0⟩ | ⟨g, cap, cur, rfl, -, -, h1, h2, -⟩
  · exact ⟨none, 0, 0, rfl, h0.symm, Nat.le_refl _, by omega⟩
  · unfold maxLen at h2
    exact ⟨_, rs.length, cap, rfl, rfl, h1, by omega⟩

theorem OwnR.at {w : World} {B n cap : Nat} {a : Option Addr} {rs : List R} (h : OwnR w B (.slice a n cap) rs) {i : Nat} {r : R} (hi : rs[i]? = some r) : ∃ g, a = some ⟨g, 0, none⟩ ∧ g < w.heap.size ∧ ∀ u : World, u.heap[g]? = w.heap[g]? → u.cell? ⟨g, i * 2, none⟩ = some (.int .i64 (r.1 : Int)) ∧ u.cell? ⟨g, i * 2 + 1, none⟩ = some (.int .i64 (r.2 : Int)) := by
  have hl := (List.getElem?_eq_some_iff.1 hi).1
  obtain ⟨g, cap', cur, h0, hb, hg, h1, h2, h3, h4⟩ := Row.at h (by omega)
  simp only [Value.slice.injEq] at h0
  obtain ⟨rfl, -, -⟩ := h0
  refine ⟨g, rfl, (Array.getElem?_eq_some_iff.1 hg).1, fun u hu => ?_⟩
  rw [hg] at hu
  obtain ⟨e1, e2⟩ := rc_at rs i r hi
  rw [← h4, List.getElem?_take] at e1 e2
  rw [if_pos (by omega)] at e1 e2
  rw [cell_of_row _ _ _ _ _ _ hu, cell_of_row _ _ _ _ _ _ hu]
  exact ⟨by simpa using e1, by simpa using e2⟩

theorem OwnR.below {w w' : World} {B : Nat} {v : Value} {rs : List R} (h : OwnR w B v rs) (hb : Below w.heap.size w w') : OwnR w' B v rs :=
  World.ownsRow.kept (row := none) h ⟨hb.os, hb.tape, hb.output, hb.size, fun k hk _ => hb.block k hk⟩ (by cases hv : v.ownBlock <;> simp)

def cmpN (x y : Int) : Int := if x < y then -1 else if y < x then 1 else 0

theorem nan_any (x : Int) (w : World) : Calls Try.prog 66 #[.int .i64 x] w fun e w' => e = .returned (.bool false) ∧ w' = w := by
  go_enter Try.func66, Try.ntmps66
  go_wp2_with fail
  go_ret
  exact ⟨rfl, rfl⟩

theorem compare_any (x y : Int) (w : World) : Calls Try.prog 57 #[.int .i64 x, .int .i64 y] w fun e w' => e = .returned (.int .i64 (cmpN x y)) ∧ w' = w := by
  have H1 := fun x u => hid (nan_any x u)
  by_cases h1 : x < y
  · have HE : Hid (cmpN x y = -1) := by unfold Hid cmpN; rw [if_pos h1]
    go_enter Try.func57, Try.ntmps57
    go_wp2_with (go_at_call 66; refine (H1 _ _).out.mono ?_; rintro e w' ⟨rfl, rfl⟩)
    go_ret
    exact ⟨ret_int HE.out.symm, rfl⟩
  · by_cases h2 : y < x
    · have HE : Hid (cmpN x y = 1) := by unfold Hid cmpN; rw [if_neg h1, if_pos h2]
      go_enter Try.func57, Try.ntmps57
      go_wp2_with (go_at_call 66; refine (H1 _ _).out.mono ?_; rintro e w' ⟨rfl, rfl⟩)
      go_ret
      exact ⟨ret_int HE.out.symm, rfl⟩
    · have HE : Hid (cmpN x y = 0) := by unfold Hid cmpN; rw [if_neg h1, if_neg h2]
      go_enter Try.func57, Try.ntmps57
      go_wp2_with (go_at_call 66; refine (H1 _ _).out.mono ?_; rintro e w' ⟨rfl, rfl⟩)
      go_ret
      exact ⟨ret_int HE.out.symm, rfl⟩

theorem byEnd_any (r : R) (n : Nat) (w : World) : Calls Try.prog 56 #[.agg #[.int .i64 (r.1 : Int), .int .i64 (r.2 : Int)], .int .i64 (n : Int)] w fun e w' => e = .returned (.int .i64 (cmpN (r.2 : Int) (n : Int))) ∧ Below w.heap.size w w' := by
  have HC := fun x y u => hid (compare_any x y u)
  have hb : Below w.heap.size w (w.alloc (.cells #[.int .i64 (r.1 : Int), .int .i64 (r.2 : Int)] 64)) := (Below.refl _ _).alloc (Nat.le_refl _) _
  have HB := hid hb
  clear hb
  go_enter Try.func56, Try.ntmps56
  go_wp2_with (go_at_call 57; refine (HC _ _ _).out.mono ?_; rintro e w' ⟨rfl, rfl⟩)
  go_ret
  exact ⟨rfl, HB.out⟩

theorem run_has (r : R) (n : Nat) (w : World) : Calls Try.prog 29 #[.agg #[.int .i64 (r.1 : Int), .int .i64 (r.2 : Int)], .int .i64 (n : Int)] w fun e w' => e = .returned (.bool (decide (r.1 ≤ n ∧ n ≤ r.2))) ∧ Below w.heap.size w w' := by
  have hb : Below w.heap.size w (w.alloc (.cells #[.int .i64 (r.1 : Int), .int .i64 (r.2 : Int)] 64)) := (Below.refl _ _).alloc (Nat.le_refl _) _
  have HB := hid hb
  clear hb
  by_cases h1 : r.1 ≤ n
  · have HE : Hid (decide (r.1 ≤ n ∧ n ≤ r.2) = decide (n ≤ r.2)) := by unfold Hid; simp [h1]
    go_enter Try.func29, Try.ntmps29
    go_wp2_with fail
    go_ret
    exact ⟨ret_bool HE.out.symm, HB.out⟩
  · have HE : Hid (decide (r.1 ≤ n ∧ n ≤ r.2) = false) := by unfold Hid; simp [h1]
    go_enter Try.func29, Try.ntmps29
    go_wp2_with fail
    go_ret
    exact ⟨ret_bool HE.out.symm, HB.out⟩

theorem run_size (x y : Int) (hx : -1 ≤ x ∧ x ≤ 4294967297) (hy : -1 ≤ y ∧ y ≤ 4294967297) (w : World) : Calls Try.prog 33 #[.agg #[.int .i64 x, .int .i64 y]] w fun e w' => e = .returned (.int .i64 (y - x + 1)) ∧ Below w.heap.size w w' := by
  have hb : Below w.heap.size w (w.alloc (.cells #[.int .i64 x, .int .i64 y] 64)) := (Below.refl _ _).alloc (Nat.le_refl _) _
  have HB := hid hb
  clear hb
  obtain ⟨hx1, hx2⟩ := hx
  obtain ⟨hy1, hy2⟩ := hy
  go_enter Try.func33, Try.ntmps33
  go_wp2_with fail
  go_ret
  exact ⟨rfl, HB.out⟩
end Go.Proofs.Ytahoileampdnkaa
