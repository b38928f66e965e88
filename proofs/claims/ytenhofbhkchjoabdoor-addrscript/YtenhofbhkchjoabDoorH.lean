import Derived.Test.YtenhofbhkchjoabDoorG
namespace Go.Proofs.YtenhofbhkchjoabDoor
open Go.ChangeShapes Go.WideShapes Go.ChangeAt Go.RowKit
set_option maxHeartbeats 400000

/-- What a hexadecimal digit is worth. -/
def hx (n : Nat) : Option Nat := if 48 ≤ n ∧ n ≤ 57 then some (n - 48) else if 97 ≤ n ∧ n ≤ 102 then some (n - 87) else if 65 ≤ n ∧ n ≤ 70 then some (n - 55) else none
def hv (n : Nat) : Nat := (hx n).getD 0

theorem hx_lt {n v : Nat} (h : hx n = some v) : v < 16 := by
  unfold hx at h
  split at h
  · simp at h; omega
  · split at h
    · simp at h; omega
    · split at h
      · simp at h; omega
      · cases h

theorem ret_hex {a v : Int} {b c : Bool} (h : a = v) (g : b = c) : Ending.returned (.tuple #[.int .u8 a, .bool b]) = .returned (.tuple #[.int .u8 v, .bool c]) := by rw [h, g]

theorem hex_any (n : Nat) (w : World) (hn : n < 256) :
    Calls Tryd.prog 43 #[.int .u8 n] w fun e w' => e = .returned (.tuple #[.int .u8 ((hv n : Nat) : Int), .bool (hx n).isSome]) ∧ w' = w := by
  by_cases h1 : 48 ≤ n ∧ n ≤ 57
  · have HE : Hid (((n : Int) - 48 = ((hv n : Nat) : Int)) ∧ true = (hx n).isSome) := by
      unfold Hid hv hx; rw [if_pos h1]; simp; omega
    obtain ⟨h1a, h1b⟩ := h1
    go_enter Tryd.func43, Tryd.ntmps43
    go_wp2
    go_ret2
    exact ⟨ret_hex HE.out.1 HE.out.2, rfl⟩
  · by_cases h2 : 97 ≤ n ∧ n ≤ 102
    · have HE : Hid (((n : Int) - 97 + 10 = ((hv n : Nat) : Int)) ∧ true = (hx n).isSome) := by
        unfold Hid hv hx; rw [if_neg h1, if_pos h2]; simp; omega
      obtain ⟨h2a, h2b⟩ := h2
      have h1' : ¬ n ≤ 57 := by omega
      have h1'' : 48 ≤ n := by omega
      clear h1
      go_enter Tryd.func43, Tryd.ntmps43
      go_wp2
      go_ret2
      exact ⟨ret_hex HE.out.1 HE.out.2, rfl⟩
    · by_cases h3 : 65 ≤ n ∧ n ≤ 70
      · have HE : Hid (((n : Int) - 65 + 10 = ((hv n : Nat) : Int)) ∧ true = (hx n).isSome) := by
          unfold Hid hv hx; rw [if_neg h1, if_neg h2, if_pos h3]; simp; omega
        obtain ⟨h3a, h3b⟩ := h3
        have h1' : ¬ n ≤ 57 := by omega
        have h1'' : 48 ≤ n := by omega
        have h2' : ¬ 97 ≤ n := by omega
        clear h1 h2
        go_enter Tryd.func43, Tryd.ntmps43
        go_wp2
        go_ret2
        exact ⟨ret_hex HE.out.1 HE.out.2, rfl⟩
      · have HE : Hid ((0 : Int) = ((hv n : Nat) : Int) ∧ false = (hx n).isSome) := by
          unfold Hid hv hx; rw [if_neg h1, if_neg h2, if_neg h3]; simp
        have hc : n < 48 ∨ (48 ≤ n ∧ 57 < n ∧ n < 65) ∨ (48 ≤ n ∧ 57 < n ∧ 65 ≤ n ∧ 70 < n ∧ n < 97) ∨ (48 ≤ n ∧ 57 < n ∧ 65 ≤ n ∧ 70 < n ∧ 97 ≤ n ∧ 102 < n) := by omega
        clear h1 h2 h3
        rcases hc with hc | ⟨hc1, hc2, hc3⟩ | ⟨hc1, hc2, hc3, hc4, hc5⟩ | ⟨hc1, hc2, hc3, hc4, hc5, hc6⟩
        all_goals
          go_enter Tryd.func43, Tryd.ntmps43
          go_wp2
          go_ret2
          exact ⟨ret_hex HE.out.1 HE.out.2, rfl⟩

def hxI (n : Nat) : Int := match hx n with | some v => (v : Int) | none => -1

theorem dg0 (h : 0 < (⟨#[48, 49, 50, 51, 52, 53, 54, 55, 56, 57, 97, 98, 99, 100, 101, 102]⟩ : ByteArray).size) : ((⟨#[48, 49, 50, 51, 52, 53, 54, 55, 56, 57, 97, 98, 99, 100, 101, 102]⟩ : ByteArray)[0]'h).toNat = 48 := rfl
theorem dg1 (h : 1 < (⟨#[48, 49, 50, 51, 52, 53, 54, 55, 56, 57, 97, 98, 99, 100, 101, 102]⟩ : ByteArray).size) : ((⟨#[48, 49, 50, 51, 52, 53, 54, 55, 56, 57, 97, 98, 99, 100, 101, 102]⟩ : ByteArray)[1]'h).toNat = 49 := rfl
theorem dg2 (h : 2 < (⟨#[48, 49, 50, 51, 52, 53, 54, 55, 56, 57, 97, 98, 99, 100, 101, 102]⟩ : ByteArray).size) : ((⟨#[48, 49, 50, 51, 52, 53, 54, 55, 56, 57, 97, 98, 99, 100, 101, 102]⟩ : ByteArray)[2]'h).toNat = 50 := rfl
theorem dg3 (h : 3 < (⟨#[48, 49, 50, 51, 52, 53, 54, 55, 56, 57, 97, 98, 99, 100, 101, 102]⟩ : ByteArray).size) : ((⟨#[48, 49, 50, 51, 52, 53, 54, 55, 56, 57, 97, 98, 99, 100, 101, 102]⟩ : ByteArray)[3]'h).toNat = 51 := rfl
theorem dg4 (h : 4 < (⟨#[48, 49, 50, 51, 52, 53, 54, 55, 56, 57, 97, 98, 99, 100, 101, 102]⟩ : ByteArray).size) : ((⟨#[48, 49, 50, 51, 52, 53, 54, 55, 56, 57, 97, 98, 99, 100, 101, 102]⟩ : ByteArray)[4]'h).toNat = 52 := rfl
theorem dg5 (h : 5 < (⟨#[48, 49, 50, 51, 52, 53, 54, 55, 56, 57, 97, 98, 99, 100, 101, 102]⟩ : ByteArray).size) : ((⟨#[48, 49, 50, 51, 52, 53, 54, 55, 56, 57, 97, 98, 99, 100, 101, 102]⟩ : ByteArray)[5]'h).toNat = 53 := rfl
theorem dg6 (h : 6 < (⟨#[48, 49, 50, 51, 52, 53, 54, 55, 56, 57, 97, 98, 99, 100, 101, 102]⟩ : ByteArray).size) : ((⟨#[48, 49, 50, 51, 52, 53, 54, 55, 56, 57, 97, 98, 99, 100, 101, 102]⟩ : ByteArray)[6]'h).toNat = 54 := rfl
theorem dg7 (h : 7 < (⟨#[48, 49, 50, 51, 52, 53, 54, 55, 56, 57, 97, 98, 99, 100, 101, 102]⟩ : ByteArray).size) : ((⟨#[48, 49, 50, 51, 52, 53, 54, 55, 56, 57, 97, 98, 99, 100, 101, 102]⟩ : ByteArray)[7]'h).toNat = 55 := rfl
theorem dg8 (h : 8 < (⟨#[48, 49, 50, 51, 52, 53, 54, 55, 56, 57, 97, 98, 99, 100, 101, 102]⟩ : ByteArray).size) : ((⟨#[48, 49, 50, 51, 52, 53, 54, 55, 56, 57, 97, 98, 99, 100, 101, 102]⟩ : ByteArray)[8]'h).toNat = 56 := rfl
theorem dg9 (h : 9 < (⟨#[48, 49, 50, 51, 52, 53, 54, 55, 56, 57, 97, 98, 99, 100, 101, 102]⟩ : ByteArray).size) : ((⟨#[48, 49, 50, 51, 52, 53, 54, 55, 56, 57, 97, 98, 99, 100, 101, 102]⟩ : ByteArray)[9]'h).toNat = 57 := rfl
theorem dg10 (h : 10 < (⟨#[48, 49, 50, 51, 52, 53, 54, 55, 56, 57, 97, 98, 99, 100, 101, 102]⟩ : ByteArray).size) : ((⟨#[48, 49, 50, 51, 52, 53, 54, 55, 56, 57, 97, 98, 99, 100, 101, 102]⟩ : ByteArray)[10]'h).toNat = 97 := rfl
theorem dg11 (h : 11 < (⟨#[48, 49, 50, 51, 52, 53, 54, 55, 56, 57, 97, 98, 99, 100, 101, 102]⟩ : ByteArray).size) : ((⟨#[48, 49, 50, 51, 52, 53, 54, 55, 56, 57, 97, 98, 99, 100, 101, 102]⟩ : ByteArray)[11]'h).toNat = 98 := rfl
theorem dg12 (h : 12 < (⟨#[48, 49, 50, 51, 52, 53, 54, 55, 56, 57, 97, 98, 99, 100, 101, 102]⟩ : ByteArray).size) : ((⟨#[48, 49, 50, 51, 52, 53, 54, 55, 56, 57, 97, 98, 99, 100, 101, 102]⟩ : ByteArray)[12]'h).toNat = 99 := rfl
theorem dg13 (h : 13 < (⟨#[48, 49, 50, 51, 52, 53, 54, 55, 56, 57, 97, 98, 99, 100, 101, 102]⟩ : ByteArray).size) : ((⟨#[48, 49, 50, 51, 52, 53, 54, 55, 56, 57, 97, 98, 99, 100, 101, 102]⟩ : ByteArray)[13]'h).toNat = 100 := rfl
theorem dg14 (h : 14 < (⟨#[48, 49, 50, 51, 52, 53, 54, 55, 56, 57, 97, 98, 99, 100, 101, 102]⟩ : ByteArray).size) : ((⟨#[48, 49, 50, 51, 52, 53, 54, 55, 56, 57, 97, 98, 99, 100, 101, 102]⟩ : ByteArray)[14]'h).toNat = 101 := rfl
theorem dg15 (h : 15 < (⟨#[48, 49, 50, 51, 52, 53, 54, 55, 56, 57, 97, 98, 99, 100, 101, 102]⟩ : ByteArray).size) : ((⟨#[48, 49, 50, 51, 52, 53, 54, 55, 56, 57, 97, 98, 99, 100, 101, 102]⟩ : ByteArray)[15]'h).toNat = 102 := rfl
theorem cp0 (h : 0 < (⟨#[48, 49, 50, 51, 52, 53, 54, 55, 56, 57, 65, 66, 67, 68, 69, 70]⟩ : ByteArray).size) : ((⟨#[48, 49, 50, 51, 52, 53, 54, 55, 56, 57, 65, 66, 67, 68, 69, 70]⟩ : ByteArray)[0]'h).toNat = 48 := rfl
theorem cp1 (h : 1 < (⟨#[48, 49, 50, 51, 52, 53, 54, 55, 56, 57, 65, 66, 67, 68, 69, 70]⟩ : ByteArray).size) : ((⟨#[48, 49, 50, 51, 52, 53, 54, 55, 56, 57, 65, 66, 67, 68, 69, 70]⟩ : ByteArray)[1]'h).toNat = 49 := rfl
theorem cp2 (h : 2 < (⟨#[48, 49, 50, 51, 52, 53, 54, 55, 56, 57, 65, 66, 67, 68, 69, 70]⟩ : ByteArray).size) : ((⟨#[48, 49, 50, 51, 52, 53, 54, 55, 56, 57, 65, 66, 67, 68, 69, 70]⟩ : ByteArray)[2]'h).toNat = 50 := rfl
theorem cp3 (h : 3 < (⟨#[48, 49, 50, 51, 52, 53, 54, 55, 56, 57, 65, 66, 67, 68, 69, 70]⟩ : ByteArray).size) : ((⟨#[48, 49, 50, 51, 52, 53, 54, 55, 56, 57, 65, 66, 67, 68, 69, 70]⟩ : ByteArray)[3]'h).toNat = 51 := rfl
theorem cp4 (h : 4 < (⟨#[48, 49, 50, 51, 52, 53, 54, 55, 56, 57, 65, 66, 67, 68, 69, 70]⟩ : ByteArray).size) : ((⟨#[48, 49, 50, 51, 52, 53, 54, 55, 56, 57, 65, 66, 67, 68, 69, 70]⟩ : ByteArray)[4]'h).toNat = 52 := rfl
theorem cp5 (h : 5 < (⟨#[48, 49, 50, 51, 52, 53, 54, 55, 56, 57, 65, 66, 67, 68, 69, 70]⟩ : ByteArray).size) : ((⟨#[48, 49, 50, 51, 52, 53, 54, 55, 56, 57, 65, 66, 67, 68, 69, 70]⟩ : ByteArray)[5]'h).toNat = 53 := rfl
theorem cp6 (h : 6 < (⟨#[48, 49, 50, 51, 52, 53, 54, 55, 56, 57, 65, 66, 67, 68, 69, 70]⟩ : ByteArray).size) : ((⟨#[48, 49, 50, 51, 52, 53, 54, 55, 56, 57, 65, 66, 67, 68, 69, 70]⟩ : ByteArray)[6]'h).toNat = 54 := rfl
theorem cp7 (h : 7 < (⟨#[48, 49, 50, 51, 52, 53, 54, 55, 56, 57, 65, 66, 67, 68, 69, 70]⟩ : ByteArray).size) : ((⟨#[48, 49, 50, 51, 52, 53, 54, 55, 56, 57, 65, 66, 67, 68, 69, 70]⟩ : ByteArray)[7]'h).toNat = 55 := rfl
theorem cp8 (h : 8 < (⟨#[48, 49, 50, 51, 52, 53, 54, 55, 56, 57, 65, 66, 67, 68, 69, 70]⟩ : ByteArray).size) : ((⟨#[48, 49, 50, 51, 52, 53, 54, 55, 56, 57, 65, 66, 67, 68, 69, 70]⟩ : ByteArray)[8]'h).toNat = 56 := rfl
theorem cp9 (h : 9 < (⟨#[48, 49, 50, 51, 52, 53, 54, 55, 56, 57, 65, 66, 67, 68, 69, 70]⟩ : ByteArray).size) : ((⟨#[48, 49, 50, 51, 52, 53, 54, 55, 56, 57, 65, 66, 67, 68, 69, 70]⟩ : ByteArray)[9]'h).toNat = 57 := rfl
theorem cp10 (h : 10 < (⟨#[48, 49, 50, 51, 52, 53, 54, 55, 56, 57, 65, 66, 67, 68, 69, 70]⟩ : ByteArray).size) : ((⟨#[48, 49, 50, 51, 52, 53, 54, 55, 56, 57, 65, 66, 67, 68, 69, 70]⟩ : ByteArray)[10]'h).toNat = 65 := rfl
theorem cp11 (h : 11 < (⟨#[48, 49, 50, 51, 52, 53, 54, 55, 56, 57, 65, 66, 67, 68, 69, 70]⟩ : ByteArray).size) : ((⟨#[48, 49, 50, 51, 52, 53, 54, 55, 56, 57, 65, 66, 67, 68, 69, 70]⟩ : ByteArray)[11]'h).toNat = 66 := rfl
theorem cp12 (h : 12 < (⟨#[48, 49, 50, 51, 52, 53, 54, 55, 56, 57, 65, 66, 67, 68, 69, 70]⟩ : ByteArray).size) : ((⟨#[48, 49, 50, 51, 52, 53, 54, 55, 56, 57, 65, 66, 67, 68, 69, 70]⟩ : ByteArray)[12]'h).toNat = 67 := rfl
theorem cp13 (h : 13 < (⟨#[48, 49, 50, 51, 52, 53, 54, 55, 56, 57, 65, 66, 67, 68, 69, 70]⟩ : ByteArray).size) : ((⟨#[48, 49, 50, 51, 52, 53, 54, 55, 56, 57, 65, 66, 67, 68, 69, 70]⟩ : ByteArray)[13]'h).toNat = 68 := rfl
theorem cp14 (h : 14 < (⟨#[48, 49, 50, 51, 52, 53, 54, 55, 56, 57, 65, 66, 67, 68, 69, 70]⟩ : ByteArray).size) : ((⟨#[48, 49, 50, 51, 52, 53, 54, 55, 56, 57, 65, 66, 67, 68, 69, 70]⟩ : ByteArray)[14]'h).toNat = 69 := rfl
theorem cp15 (h : 15 < (⟨#[48, 49, 50, 51, 52, 53, 54, 55, 56, 57, 65, 66, 67, 68, 69, 70]⟩ : ByteArray).size) : ((⟨#[48, 49, 50, 51, 52, 53, 54, 55, 56, 57, 65, 66, 67, 68, 69, 70]⟩ : ByteArray)[15]'h).toNat = 70 := rfl
attribute [local go_sem] dg0 dg1 dg2 dg3 dg4 dg5 dg6 dg7 dg8 dg9 dg10 dg11 dg12 dg13 dg14 dg15 cp0 cp1 cp2 cp3 cp4 cp5 cp6 cp7 cp8 cp9 cp10 cp11 cp12 cp13 cp14 cp15

theorem hx_next {n k : Nat} (h : ∀ m, m < k → hx n ≠ some m) (g : hx n ≠ some k) : ∀ m, m < k + 1 → hx n ≠ some m := by
  intro m hm
  rcases Nat.lt_or_ge m k with e | e
  · exact h m e
  · obtain rfl : m = k := by omega
    exact g

set_option maxHeartbeats 4000000 in
theorem digit_any (n : Nat) (w : World) (hn : n < 256) :
    Calls Tryd.prog 44 #[.int .u8 n] w fun e w' => e = .returned (.int .i64 (hxI n)) ∧ w' = w := by
  go_enter Tryd.func44, Tryd.ntmps44
  go_wp2
  go_loop [3] (fun i => ∃ k : Nat, i = .int .i64 k ∧ k ≤ 16 ∧ Hid (∀ m, m < k → hx n ≠ some m)) (fun i => 16 - (intOf i).toNat)
  case atStart => exact ⟨0, rfl, by omega, fun m hm => by omega⟩
  case round =>
    obtain ⟨k, rfl, hk, HK⟩ := hrel
    have hc : k = 16 ∨ (k = 0 ∨ k = 1 ∨ k = 2 ∨ k = 3 ∨ k = 4 ∨ k = 5 ∨ k = 6 ∨ k = 7 ∨ k = 8 ∨ k = 9 ∨ k = 10 ∨ k = 11 ∨ k = 12 ∨ k = 13 ∨ k = 14 ∨ k = 15) := by omega
    rcases hc with rfl | hc
    · have HE : Hid (hxI n = -1) := by
        unfold Hid hxI
        cases e : hx n with
        | none => rfl
        | some v => exact absurd e (HK.out v (hx_lt e))
      go_wp2
      go_ret
      exact ⟨ret_int HE.out.symm, rfl⟩
    · rcases hc with rfl | rfl | rfl | rfl | rfl | rfl | rfl | rfl | rfl | rfl | rfl | rfl | rfl | rfl | rfl | rfl
      · by_cases h1 : n = 48
        · subst h1
          go_wp2
          go_ret
          exact ⟨ret_int (by decide +kernel), rfl⟩
        · have hq1 : ((48 : Int) == (n : Int)) = false := by rw [beq_eq_false_iff_ne]; omega
          have HK2 : Hid (∀ m, m < 0 + 1 → hx n ≠ some m) := hx_next HK.out (by unfold hx; split <;> (try split) <;> (try split) <;> simp <;> omega)
          clear h1
          go_wp2
          go_round
          case rel => exact ⟨0 + 1, rfl, by omega, HK2⟩
          case measure => simp [intOf]
      · by_cases h1 : n = 49
        · subst h1
          go_wp2
          go_ret
          exact ⟨ret_int (by decide +kernel), rfl⟩
        · have hq1 : ((49 : Int) == (n : Int)) = false := by rw [beq_eq_false_iff_ne]; omega
          have HK2 : Hid (∀ m, m < 1 + 1 → hx n ≠ some m) := hx_next HK.out (by unfold hx; split <;> (try split) <;> (try split) <;> simp <;> omega)
          clear h1
          go_wp2
          go_round
          case rel => exact ⟨1 + 1, rfl, by omega, HK2⟩
          case measure => simp [intOf]
      · by_cases h1 : n = 50
        · subst h1
          go_wp2
          go_ret
          exact ⟨ret_int (by decide +kernel), rfl⟩
        · have hq1 : ((50 : Int) == (n : Int)) = false := by rw [beq_eq_false_iff_ne]; omega
          have HK2 : Hid (∀ m, m < 2 + 1 → hx n ≠ some m) := hx_next HK.out (by unfold hx; split <;> (try split) <;> (try split) <;> simp <;> omega)
          clear h1
          go_wp2
          go_round
          case rel => exact ⟨2 + 1, rfl, by omega, HK2⟩
          case measure => simp [intOf]
      · by_cases h1 : n = 51
        · subst h1
          go_wp2
          go_ret
          exact ⟨ret_int (by decide +kernel), rfl⟩
        · have hq1 : ((51 : Int) == (n : Int)) = false := by rw [beq_eq_false_iff_ne]; omega
          have HK2 : Hid (∀ m, m < 3 + 1 → hx n ≠ some m) := hx_next HK.out (by unfold hx; split <;> (try split) <;> (try split) <;> simp <;> omega)
          clear h1
          go_wp2
          go_round
          case rel => exact ⟨3 + 1, rfl, by omega, HK2⟩
          case measure => simp [intOf]
      · by_cases h1 : n = 52
        · subst h1
          go_wp2
          go_ret
          exact ⟨ret_int (by decide +kernel), rfl⟩
        · have hq1 : ((52 : Int) == (n : Int)) = false := by rw [beq_eq_false_iff_ne]; omega
          have HK2 : Hid (∀ m, m < 4 + 1 → hx n ≠ some m) := hx_next HK.out (by unfold hx; split <;> (try split) <;> (try split) <;> simp <;> omega)
          clear h1
          go_wp2
          go_round
          case rel => exact ⟨4 + 1, rfl, by omega, HK2⟩
          case measure => simp [intOf]
      · by_cases h1 : n = 53
        · subst h1
          go_wp2
          go_ret
          exact ⟨ret_int (by decide +kernel), rfl⟩
        · have hq1 : ((53 : Int) == (n : Int)) = false := by rw [beq_eq_false_iff_ne]; omega
          have HK2 : Hid (∀ m, m < 5 + 1 → hx n ≠ some m) := hx_next HK.out (by unfold hx; split <;> (try split) <;> (try split) <;> simp <;> omega)
          clear h1
          go_wp2
          go_round
          case rel => exact ⟨5 + 1, rfl, by omega, HK2⟩
          case measure => simp [intOf]
      · by_cases h1 : n = 54
        · subst h1
          go_wp2
          go_ret
          exact ⟨ret_int (by decide +kernel), rfl⟩
        · have hq1 : ((54 : Int) == (n : Int)) = false := by rw [beq_eq_false_iff_ne]; omega
          have HK2 : Hid (∀ m, m < 6 + 1 → hx n ≠ some m) := hx_next HK.out (by unfold hx; split <;> (try split) <;> (try split) <;> simp <;> omega)
          clear h1
          go_wp2
          go_round
          case rel => exact ⟨6 + 1, rfl, by omega, HK2⟩
          case measure => simp [intOf]
      · by_cases h1 : n = 55
        · subst h1
          go_wp2
          go_ret
          exact ⟨ret_int (by decide +kernel), rfl⟩
        · have hq1 : ((55 : Int) == (n : Int)) = false := by rw [beq_eq_false_iff_ne]; omega
          have HK2 : Hid (∀ m, m < 7 + 1 → hx n ≠ some m) := hx_next HK.out (by unfold hx; split <;> (try split) <;> (try split) <;> simp <;> omega)
          clear h1
          go_wp2
          go_round
          case rel => exact ⟨7 + 1, rfl, by omega, HK2⟩
          case measure => simp [intOf]
      · by_cases h1 : n = 56
        · subst h1
          go_wp2
          go_ret
          exact ⟨ret_int (by decide +kernel), rfl⟩
        · have hq1 : ((56 : Int) == (n : Int)) = false := by rw [beq_eq_false_iff_ne]; omega
          have HK2 : Hid (∀ m, m < 8 + 1 → hx n ≠ some m) := hx_next HK.out (by unfold hx; split <;> (try split) <;> (try split) <;> simp <;> omega)
          clear h1
          go_wp2
          go_round
          case rel => exact ⟨8 + 1, rfl, by omega, HK2⟩
          case measure => simp [intOf]
      · by_cases h1 : n = 57
        · subst h1
          go_wp2
          go_ret
          exact ⟨ret_int (by decide +kernel), rfl⟩
        · have hq1 : ((57 : Int) == (n : Int)) = false := by rw [beq_eq_false_iff_ne]; omega
          have HK2 : Hid (∀ m, m < 9 + 1 → hx n ≠ some m) := hx_next HK.out (by unfold hx; split <;> (try split) <;> (try split) <;> simp <;> omega)
          clear h1
          go_wp2
          go_round
          case rel => exact ⟨9 + 1, rfl, by omega, HK2⟩
          case measure => simp [intOf]
      · by_cases h1 : n = 97
        · subst h1
          go_wp2
          go_ret
          exact ⟨ret_int (by decide +kernel), rfl⟩
        · by_cases h2 : n = 65
          · subst h2
            go_wp2
            go_ret
            exact ⟨ret_int (by decide +kernel), rfl⟩
          · have hq1 : ((97 : Int) == (n : Int)) = false := by rw [beq_eq_false_iff_ne]; omega
            have hq2 : ((65 : Int) == (n : Int)) = false := by rw [beq_eq_false_iff_ne]; omega
            have HK2 : Hid (∀ m, m < 10 + 1 → hx n ≠ some m) := hx_next HK.out (by unfold hx; split <;> (try split) <;> (try split) <;> simp <;> omega)
            clear h1 h2
            go_wp2
            go_round
            case rel => exact ⟨10 + 1, rfl, by omega, HK2⟩
            case measure => simp [intOf]
      · by_cases h1 : n = 98
        · subst h1
          go_wp2
          go_ret
          exact ⟨ret_int (by decide +kernel), rfl⟩
        · by_cases h2 : n = 66
          · subst h2
            go_wp2
            go_ret
            exact ⟨ret_int (by decide +kernel), rfl⟩
          · have hq1 : ((98 : Int) == (n : Int)) = false := by rw [beq_eq_false_iff_ne]; omega
            have hq2 : ((66 : Int) == (n : Int)) = false := by rw [beq_eq_false_iff_ne]; omega
            have HK2 : Hid (∀ m, m < 11 + 1 → hx n ≠ some m) := hx_next HK.out (by unfold hx; split <;> (try split) <;> (try split) <;> simp <;> omega)
            clear h1 h2
            go_wp2
            go_round
            case rel => exact ⟨11 + 1, rfl, by omega, HK2⟩
            case measure => simp [intOf]
      · by_cases h1 : n = 99
        · subst h1
          go_wp2
          go_ret
          exact ⟨ret_int (by decide +kernel), rfl⟩
        · by_cases h2 : n = 67
          · subst h2
            go_wp2
            go_ret
            exact ⟨ret_int (by decide +kernel), rfl⟩
          · have hq1 : ((99 : Int) == (n : Int)) = false := by rw [beq_eq_false_iff_ne]; omega
            have hq2 : ((67 : Int) == (n : Int)) = false := by rw [beq_eq_false_iff_ne]; omega
            have HK2 : Hid (∀ m, m < 12 + 1 → hx n ≠ some m) := hx_next HK.out (by unfold hx; split <;> (try split) <;> (try split) <;> simp <;> omega)
            clear h1 h2
            go_wp2
            go_round
            case rel => exact ⟨12 + 1, rfl, by omega, HK2⟩
            case measure => simp [intOf]
      · by_cases h1 : n = 100
        · subst h1
          go_wp2
          go_ret
          exact ⟨ret_int (by decide +kernel), rfl⟩
        · by_cases h2 : n = 68
          · subst h2
            go_wp2
            go_ret
            exact ⟨ret_int (by decide +kernel), rfl⟩
          · have hq1 : ((100 : Int) == (n : Int)) = false := by rw [beq_eq_false_iff_ne]; omega
            have hq2 : ((68 : Int) == (n : Int)) = false := by rw [beq_eq_false_iff_ne]; omega
            have HK2 : Hid (∀ m, m < 13 + 1 → hx n ≠ some m) := hx_next HK.out (by unfold hx; split <;> (try split) <;> (try split) <;> simp <;> omega)
            clear h1 h2
            go_wp2
            go_round
            case rel => exact ⟨13 + 1, rfl, by omega, HK2⟩
            case measure => simp [intOf]
      · by_cases h1 : n = 101
        · subst h1
          go_wp2
          go_ret
          exact ⟨ret_int (by decide +kernel), rfl⟩
        · by_cases h2 : n = 69
          · subst h2
            go_wp2
            go_ret
            exact ⟨ret_int (by decide +kernel), rfl⟩
          · have hq1 : ((101 : Int) == (n : Int)) = false := by rw [beq_eq_false_iff_ne]; omega
            have hq2 : ((69 : Int) == (n : Int)) = false := by rw [beq_eq_false_iff_ne]; omega
            have HK2 : Hid (∀ m, m < 14 + 1 → hx n ≠ some m) := hx_next HK.out (by unfold hx; split <;> (try split) <;> (try split) <;> simp <;> omega)
            clear h1 h2
            go_wp2
            go_round
            case rel => exact ⟨14 + 1, rfl, by omega, HK2⟩
            case measure => simp [intOf]
      · by_cases h1 : n = 102
        · subst h1
          go_wp2
          go_ret
          exact ⟨ret_int (by decide +kernel), rfl⟩
        · by_cases h2 : n = 70
          · subst h2
            go_wp2
            go_ret
            exact ⟨ret_int (by decide +kernel), rfl⟩
          · have hq1 : ((102 : Int) == (n : Int)) = false := by rw [beq_eq_false_iff_ne]; omega
            have hq2 : ((70 : Int) == (n : Int)) = false := by rw [beq_eq_false_iff_ne]; omega
            have HK2 : Hid (∀ m, m < 15 + 1 → hx n ≠ some m) := hx_next HK.out (by unfold hx; split <;> (try split) <;> (try split) <;> simp <;> omega)
            clear h1 h2
            go_wp2
            go_round
            case rel => exact ⟨15 + 1, rfl, by omega, HK2⟩
            case measure => simp [intOf]
end Go.Proofs.YtenhofbhkchjoabDoor
