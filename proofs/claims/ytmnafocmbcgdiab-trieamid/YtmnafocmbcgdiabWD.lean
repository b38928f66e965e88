/-
  What is no prefix: Valid, Put, Get, Del.
-/
import Derived.Test.YtmnafocmbcgdiabWC
namespace Go.Proofs.Ytmnafocmbcgdiab
open Go.ChangeShapes Go.WideShapes Go.ChangeAt Go.RowKit Tri N
set_option maxHeartbeats 1000000
set_option maxRecDepth 100000

/-- A prefix by any two numbers. -/
def qv (x : Nat) (y : Int) : Value := .agg #[.int .u32 (x : Int), .int .i64 y]

/-- Any two numbers: a prefix, or none. -/
def Bad (x : Nat) (y : Int) : Prop := y < 0 ∨ 32 < y ∨ x % 2 ^ (32 - y.toNat) ≠ 0

theorem bad_or {x : Nat} {y : Int} (hx : x < 4294967296) : Bad x y ∨ ∃ k : K, k.Ok ∧ x = k.x ∧ y = (k.n : Int) := by
  unfold Bad
  by_cases h1 : y < 0
  · exact .inl (.inl h1)
  · by_cases h2 : 32 < y
    · exact .inl (.inr (.inl h2))
    · by_cases h3 : x % 2 ^ (32 - y.toNat) = 0
      · refine .inr ⟨⟨x, y.toNat⟩, ⟨by show y.toNat ≤ 32; omega, Nat.dvd_of_mod_eq_zero h3, hx⟩, rfl, by show y = (y.toNat : Int); omega⟩
      · exact .inl (.inr (.inr h3))

theorem check_bad {x : Nat} {y : Int} (w : World) (hx : x < 4294967296) (h : Bad x y) :
    Calls Try.prog 35 #[qv x y] w fun e w' => (∃ c : Int, e = .returned (.int .i64 c) ∧ c ≠ 0) ∧ Below w.heap.size w w' := by
  unfold qv
  by_cases h1 : y < 0
  · go_enter Try.func35, Try.ntmps35
    go_wp2
    go_ret
    exact ⟨⟨11, rfl, by decide⟩, (Below.refl _ _).alloc (Nat.le_refl _) _⟩
  · by_cases h2 : 32 < y
    · go_enter Try.func35, Try.ntmps35
      go_wp2
      go_ret
      exact ⟨⟨11, rfl, by decide⟩, (Below.refl _ _).alloc (Nat.le_refl _) _⟩
    · have h3 : x % 2 ^ (32 - y.toNat) ≠ 0 := by rcases h with h | h | h; exact absurd h h1; exact absurd h h2; exact h
      obtain ⟨n, hn⟩ : ∃ n : Nat, y = (n : Int) := ⟨y.toNat, by omega⟩
      subst hn
      have hn32 : n ≤ 32 := by omega
      rw [Int.toNat_natCast] at h3
      have hp := pow_le32 n
      have hA : bits .and .u32 (x : Int) ((2 ^ (32 - n) - 1 : Nat) : Int) = ((x % 2 ^ (32 - n) : Nat) : Int) := by
        rw [u32_and_nat _ _ hx (by have := Nat.pow_pos (n := 32 - n) (by omega : 0 < 2); omega), Nat.and_two_pow_sub_one_eq_mod]
      have hq : (bits .and .u32 (x : Int) ((2 ^ (32 - n) - 1 : Nat) : Int) != 0) = true := by
        rw [hA, bne_iff_ne]; intro e; exact h3 (by exact_mod_cast e)
      have HB := fun u => hid (bits_ok n u hn32)
      generalize 2 ^ (32 - n) - 1 = m at *
      clear hA h3 hp h
      go_enter Try.func35, Try.ntmps35
      go_wp2
      go_quiet ((go_at_call 53; exact Calls.quiet_of_same (HB _).out))
      go_wp2
      go_ret
      exact ⟨⟨12, rfl, by decide⟩, below_drewN ((Below.refl _ _).alloc (Nat.le_refl _) _) _⟩

theorem valid_bad {x : Nat} {y : Int} (w : World) (hx : x < 4294967296) (h : Bad x y) :
    Calls Try.prog 21 #[qv x y] w fun e w' => e = .returned (.bool false) ∧ Below w.heap.size w w' := by
  have HC := fun u => hid (check_bad u hx h)
  unfold qv at *
  go_enter Try.func21, Try.ntmps21
  go_wp2_with fail
  refine (HC _).out.mono ?_
  rintro e w1 ⟨⟨c, rfl, hc⟩, hb1⟩
  have hb01 : Below w.heap.size w w1 := ((Below.refl _ _).alloc (Nat.le_refl _) _).trans (hb1.mono (by simp))
  have hq : (c == 0) = false := by simp [hc]
  clear hc
  go_wp2_with fail
  go_ret
  exact ⟨rfl, hb01⟩

theorem put_bad {tb x : Nat} {y a : Int} (w : World) (hx : x < 4294967296) (h : Bad x y) :
    Calls Try.prog 11 #[.pointer (some ⟨tb, 0, none⟩), qv x y, .int .i64 a] w fun e w' => e = .returned (.int .i64 11) ∧ Below w.heap.size w w' := by
  have HC := fun u => hid (valid_bad u hx h)
  unfold qv at *
  obtain ⟨w1, hw1⟩ : ∃ w1, w1 = w.alloc (.cells #[.int .u32 (x : Int), .int .i64 y] 31) := ⟨_, rfl⟩
  obtain ⟨w2, hw2⟩ : ∃ w2, w2 = w1.alloc (.cells #[.int .i64 a] 3) := ⟨_, rfl⟩
  have hs1 : w1.heap.size = w.heap.size + 1 := by rw [hw1]; simp
  have hb1 : Below w.heap.size w w1 := by rw [hw1]; exact (Below.refl _ _).alloc (Nat.le_refl _) _
  have hb2 : Below w1.heap.size w1 w2 := by rw [hw2]; exact (Below.refl _ _).alloc (Nat.le_refl _) _
  have hb0 : Below w.heap.size w w2 := hb1.trans (hb2.mono (by omega))
  have r1 : w2.heap[w.heap.size]? = some (.cells #[.int .u32 (x : Int), .int .i64 y] 31) := by
    rw [hb2.block _ (by omega), hw1]; exact heap_alloc_new w _
  have x0 : w2.cell? ⟨w.heap.size, 0, none⟩ = some (.int .u32 (x : Int)) := by rw [cell_of_row _ _ _ _ _ _ r1]; rfl
  have x1 : w2.cell? ⟨w.heap.size, 1, none⟩ = some (.int .i64 y) := by rw [cell_of_row _ _ _ _ _ _ r1]; rfl
  have HWA : Hid (w2 = (w.alloc (.cells #[.int .u32 (x : Int), .int .i64 y] 31)).alloc (.cells #[.int .i64 a] 3)) := by unfold Hid; rw [hw2, hw1]
  have HB0 := hid hb0
  clear hw1 hw2 hs1 hb1 hb2 hb0 r1
  go_enter Try.func11, Try.ntmps11
  go_upto_region 1 with fail
  rw [← HWA.out]
  go_wp2_with fail
  refine (HC _).out.mono ?_
  rintro e w3 ⟨rfl, hb3⟩
  have HB3 : Hid (Below w.heap.size w w3) := HB0.out.trans (hb3.mono HB0.out.size)
  clear hb3
  go_wp2_with fail
  go_ret
  exact ⟨rfl, HB3.out⟩
end Go.Proofs.Ytmnafocmbcgdiab
