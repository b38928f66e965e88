import Derived.Test.YthbjfbalgejndaaRows
import Derived.WalkKit
import Derived.ProofKit
import Derived.OpenShut
import Derived.Deep.QuietTactic
import Derived.BigQuiet
namespace Go.Proofs.Ythbjfbalgejndaa
open Go.ChangeShapes Go.WideShapes Go.ChangeAt Go.RowKit
set_option maxHeartbeats 400000
set_option maxRecDepth 100000

theorem hid {p : Prop} (h : p) : Hid p := h
theorem ret_int {k : IntKind} {a b : Int} (h : a = b) : Ending.returned (.int k a) = .returned (.int k b) := by rw [h]
theorem ret_bool {a b : Bool} (h : a = b) : Ending.returned (.bool a) = .returned (.bool b) := by rw [h]

/-- A sum that stops at the ends of int64. -/
def aft (a b : Int) : Int := if a + b > 9223372036854775807 then 9223372036854775807 else if a + b < -9223372036854775808 then -9223372036854775808 else a + b

structure In64 (a : Int) : Prop where
  lo : -9223372036854775808 ≤ a
  hi : a ≤ 9223372036854775807

theorem aft_comm (a b : Int) : aft a b = aft b a := by unfold aft; rw [Int.add_comm]

theorem after_code (a b : Int) (w : World) (ha : In64 a) (hb : In64 b) :
    Calls Try.prog 8 #[.int .i64 a, .int .i64 b] w fun e w' => e = .returned (.int .i64 (aft a b)) ∧ w' = w := by
  obtain ⟨a1, a2⟩ := ha
  obtain ⟨b1, b2⟩ := hb
  have HA : Hid (aft a b = if a + b > 9223372036854775807 then 9223372036854775807 else if a + b < -9223372036854775808 then -9223372036854775808 else a + b) := rfl
  generalize aft a b = R at *
  go_enter Try.func8, Try.ntmps8
  by_cases h1 : 0 < b
  · by_cases h2 : 9223372036854775807 - b < a
    · go_wp2_with fail
      go_ret
      exact ⟨ret_int (by rw [HA.out, if_pos (by omega)]), rfl⟩
    · have h3 : ¬ b < 0 := by omega
      go_wp2_with fail
      go_ret
      exact ⟨ret_int (by rw [HA.out, if_neg (by omega), if_neg (by omega)]), rfl⟩
  · by_cases h2 : b < 0
    · by_cases h3 : a < -9223372036854775808 - b
      · go_wp2_with fail
        go_ret
        exact ⟨ret_int (by rw [HA.out, if_neg (by omega), if_pos (by omega)]), rfl⟩
      · go_wp2_with fail
        go_ret
        exact ⟨ret_int (by rw [HA.out, if_neg (by omega), if_neg (by omega)]), rfl⟩
    · go_wp2_with fail
      go_ret
      exact ⟨ret_int (by rw [HA.out, if_neg (by omega), if_neg (by omega)]), rfl⟩

theorem tdiv_facts (a : Int) : ∃ A r : Int, a.tdiv 4294967296 = A ∧ a.tmod 4294967296 = r ∧ a = A * 4294967296 + r ∧ -4294967296 < r ∧ r < 4294967296 := by
  refine ⟨_, _, rfl, rfl, ?_, ?_, ?_⟩
  · have := Int.mul_tdiv_add_tmod a 4294967296
    omega
  · by_cases h : 0 ≤ a
    · have := Int.tmod_nonneg 4294967296 h
      omega
    · have h1 := Int.neg_tmod (a := -a) (b := 4294967296)
      have h2 := Int.tmod_lt_of_pos (-a) (b := 4294967296) (by omega)
      rw [Int.neg_neg] at h1
      omega
  · exact Int.tmod_lt_of_pos a (by omega)

theorem tdiv_bounds (a : Int) (a1 : -9223372036854775808 ≤ a) (a2 : a ≤ 9223372036854775807) : ∃ A, a.tdiv 4294967296 = A ∧ -4294967296 < a - A * 4294967296 ∧ a - A * 4294967296 < 4294967296 ∧ -2147483648 ≤ A ∧ A ≤ 2147483647 := by
  obtain ⟨A, ra, hA, hr, eA, A1, A2⟩ := tdiv_facts a
  refine ⟨A, hA, by omega, by omega, ?_, ?_⟩
  · by_cases h : 0 ≤ a
    · omega
    · have h1 := Int.neg_tmod (a := -a) (b := 4294967296)
      have h2 := Int.tmod_nonneg (a := -a) 4294967296 (by omega)
      rw [Int.neg_neg] at h1
      omega
  · by_cases h : 0 ≤ a
    · have := Int.tmod_nonneg 4294967296 h
      omega
    · omega

set_option maxHeartbeats 2000000 in
theorem after_ref (a b : Int) (w : World) (ha : In64 a) (hb : In64 b) :
    Calls Try.prog 9 #[.int .i64 a, .int .i64 b] w fun e w' => e = .returned (.int .i64 (aft a b)) ∧ w' = w := by
  obtain ⟨a1, a2⟩ := ha
  obtain ⟨b1, b2⟩ := hb
  have HA : Hid (aft a b = if a + b > 9223372036854775807 then 9223372036854775807 else if a + b < -9223372036854775808 then -9223372036854775808 else a + b) := rfl
  generalize aft a b = R at *
  obtain ⟨A, hA, A1, A2, A3, A4⟩ := tdiv_bounds a a1 a2
  obtain ⟨B, hB, B1, B2, B3, B4⟩ := tdiv_bounds b b1 b2
  obtain ⟨C, D, hC, hD, eC, C1, C2⟩ := tdiv_facts (a - A * 4294967296 + (b - B * 4294967296))
  have HE := hid eC
  have hC2 : -2 ≤ C ∧ C ≤ 2 := by omega
  clear eC
  go_enter Try.func9, Try.ntmps9
  by_cases hD0 : D < 0
  · by_cases h1 : 2147483648 ≤ A + B + C - 1
    · go_wp2_with fail
      go_ret
      exact ⟨ret_int (by have := HE.out; rw [HA.out, if_pos (by omega)]), rfl⟩
    · by_cases h2 : A + B + C - 1 < -2147483648
      · go_wp2_with fail
        go_ret
        exact ⟨ret_int (by have := HE.out; rw [HA.out, if_neg (by omega), if_pos (by omega)]), rfl⟩
      · go_wp2_with fail
        go_ret
        exact ⟨ret_int (by have := HE.out; rw [HA.out, if_neg (by omega), if_neg (by omega)]; omega), rfl⟩
  · by_cases h1 : 2147483648 ≤ A + B + C
    · go_wp2_with fail
      go_ret
      exact ⟨ret_int (by have := HE.out; rw [HA.out, if_pos (by omega)]), rfl⟩
    · by_cases h2 : A + B + C < -2147483648
      · go_wp2_with fail
        go_ret
        exact ⟨ret_int (by have := HE.out; rw [HA.out, if_neg (by omega), if_pos (by omega)]), rfl⟩
      · go_wp2_with fail
        go_ret
        exact ⟨ret_int (by have := HE.out; rw [HA.out, if_neg (by omega), if_neg (by omega)]; omega), rfl⟩

end Go.Proofs.Ythbjfbalgejndaa
