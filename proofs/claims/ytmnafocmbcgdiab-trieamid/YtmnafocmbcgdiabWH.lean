/-
  The reference: valid, Get.
-/
import Derived.Test.YtmnafocmbcgdiabWG
namespace Go.Proofs.Ytmnafocmbcgdiab
open Go.ChangeShapes Go.WideShapes Go.ChangeAt Go.RowKit Tri N
set_option maxHeartbeats 1000000
set_option maxRecDepth 100000

theorem wrap_nat {a : Nat} (h : a ≤ 4294967296) : wrap64 (a : Int) = (a : Int) := by
  unfold wrap64
  omega

theorem size_ref (n : Nat) (w : World) (hn : n ≤ 32) :
    Calls Try.prog 60 #[.int .i64 (n : Int)] w fun e w' => e = .returned (.int .i64 ((2 ^ (32 - n) : Nat) : Int)) ∧ w' = w := by
  have hp := pow_le32 n
  have h1 : ¬ ((32 : Int) - (n : Int) < 0) := by omega
  have HE : Hid ((32 - (n : Int)).toNat = 32 - n) := by unfold Hid; omega
  go_enter Try.func60, Try.ntmps60
  go_wp2_with fail
  go_ret
  refine ⟨ret_int ?_, rfl⟩
  have e : ((2 : Int) ^ (32 - n)) = ((2 ^ (32 - n) : Nat) : Int) := by simp
  rw [e]
  exact wrap_nat (by omega)

def valB (x : Nat) (y : Int) : Bool := decide (0 ≤ y ∧ y ≤ 32 ∧ x % 2 ^ (32 - y.toNat) = 0)

theorem valB_bad {x : Nat} {y : Int} (h : Bad x y) : valB x y = false := by
  unfold valB
  rw [decide_eq_false_iff_not]
  rintro ⟨h1, h2, h3⟩
  rcases h with h | h | h
  · omega
  · omega
  · exact h h3

theorem valB_ok {k : K} (h : k.Ok) : valB k.x (k.n : Int) = true := by
  unfold valB
  rw [decide_eq_true_eq]
  refine ⟨by omega, by have := h.1; omega, ?_⟩
  rw [Int.toNat_natCast]
  exact Nat.mod_eq_zero_of_dvd h.2.1

theorem validR_any {x : Nat} {y : Int} (w : World) (hx : x < 4294967296) :
    Calls Try.prog 51 #[qv x y] w fun e w' => e = .returned (.bool (valB x y)) ∧ Below w.heap.size w w' := by
  obtain ⟨wa, hwa⟩ : ∃ wa, wa = w.alloc (.cells #[.int .u32 (x : Int), .int .i64 y] 31) := ⟨_, rfl⟩
  have hb0 : Below w.heap.size w wa := by rw [hwa]; exact (Below.refl _ _).alloc (Nat.le_refl _) _
  have r1 : wa.heap[w.heap.size]? = some (.cells #[.int .u32 (x : Int), .int .i64 y] 31) := by rw [hwa]; exact heap_alloc_new w _
  obtain ⟨q0, q1⟩ := Beh.two r1
  have HWA := hid hwa
  have HB0 := hid hb0
  unfold qv
  clear hwa r1 hb0
  by_cases h1 : y < 0
  · have HF : Hid (valB x y = false) := by unfold Hid valB; rw [decide_eq_false_iff_not]; omega
    have h1' : ¬ (0 : Int) ≤ y := by omega
    go_enter Try.func51, Try.ntmps51
    go_upto_region 1 with fail
    rw [← HWA.out]
    refine wp_region_beh (by kernel_rfl) (by kernel_rfl) ?_
    repeat (go_big_quiet_step (fail))
    refine wpQuiet_nil ?_
    rintro _ ⟨t, rfl⟩
    go_wp2_with fail
    go_ret
    exact ⟨ret_bool HF.out.symm, HB0.out.trans (t.ok.mono HB0.out.size)⟩
  · by_cases h2 : 32 < y
    · have HF : Hid (valB x y = false) := by unfold Hid valB; rw [decide_eq_false_iff_not]; omega
      have h1' : (0 : Int) ≤ y := by omega
      have h2' : ¬ y ≤ 32 := by omega
      go_enter Try.func51, Try.ntmps51
      go_upto_region 1 with fail
      rw [← HWA.out]
      refine wp_region_beh (by kernel_rfl) (by kernel_rfl) ?_
      repeat (go_big_quiet_step (fail))
      refine wpQuiet_nil ?_
      rintro _ ⟨t, rfl⟩
      go_wp2_with fail
      go_ret
      exact ⟨ret_bool HF.out.symm, HB0.out.trans (t.ok.mono HB0.out.size)⟩
    · obtain ⟨n, hn⟩ : ∃ n : Nat, y = (n : Int) := ⟨y.toNat, by omega⟩
      subst hn
      have hn32 : n ≤ 32 := by omega
      have h1' : (0 : Int) ≤ (n : Int) := by omega
      have h2' : (n : Int) ≤ 32 := by omega
      have hp := pow_le32 n
      have hS : ∀ t : Beh wa, Hid (Calls Try.prog 60 #[.int .i64 (n : Int)] t.wd fun e w'' => e = .returned (.int .i64 ((2 ^ (32 - n) : Nat) : Int)) ∧ ∃ t' : Beh wa, w'' = t'.wd) := fun t => (size_ref n t.wd hn32).mono fun e w'' ⟨he, hw⟩ => ⟨he, t, hw⟩
      have hpos : 0 < 2 ^ (32 - n) := Nat.pow_pos (by omega)
      have HF : Hid (valB x (n : Int) = ((x : Int) % ((2 ^ (32 - n) : Nat) : Int) == 0)) := by
        unfold Hid valB
        rw [← Int.natCast_emod, Int.toNat_natCast, Bool.eq_iff_iff, decide_eq_true_eq, beq_iff_eq]
        constructor
        · rintro ⟨_, _, h⟩; rw [h]; rfl
        · intro h; exact ⟨h1', h2', by exact_mod_cast h⟩
      generalize 2 ^ (32 - n) = S at *
      have hS0 : ¬ ((S : Int) = 0) := by omega
      have hS1 : ((S : Int) == 0) = false := by simp; omega
      go_enter Try.func51, Try.ntmps51
      go_upto_region 1 with fail
      rw [← HWA.out]
      refine wp_region_beh (by kernel_rfl) (by kernel_rfl) ?_
      repeat (go_big_quiet_step (first | (go_at_call 60; exact (hS _).out)))
      refine wpQuiet_nil ?_
      rintro _ ⟨t, rfl⟩
      go_wp2_with fail
      go_ret
      exact ⟨ret_bool HF.out.symm, HB0.out.trans (t.ok.mono HB0.out.size)⟩
end Go.Proofs.Ytmnafocmbcgdiab
