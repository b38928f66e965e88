/-
  The reference: size, fault, Valid, Span, Contains, aligned, in.
-/
import Derived.Test.YtahoileampdnkaaOW
namespace Go.Proofs.Ytahoileampdnkaa
open Go.ChangeShapes Go.WideShapes Go.ChangeAt Go.RowKit Ru N Tri
set_option maxHeartbeats 1000000
set_option maxRecDepth 100000

theorem sizeR1 (n : Nat) (w : World) (hn : n ≤ 32) :
    Calls Try.prog 64 #[.int .i64 (n : Int)] w fun e w' => e = .returned (.int .i64 ((2 ^ (32 - n) : Nat) : Int)) ∧ w' = w := by
  go_enter Try.func64, Try.ntmps64
  go_upto_region 3 with fail
  go_loopw [3, 4] (fun a b wr => ∃ (k p : Nat), b = .int .i64 (k : Int) ∧ a = .int .i64 (p : Int) ∧ n ≤ k ∧ k ≤ 32 ∧ p ≤ 4294967296 ∧ Hid (p = 2 ^ (k - n)) ∧ wr = w) (fun _ b _ => 32 - (intOf b).toNat)
  case atStart => exact ⟨n, 1, rfl, rfl, Nat.le_refl _, hn, by decide, hid (by simp), rfl⟩
  case round =>
    obtain ⟨k, p, rfl, rfl, h1, h2, h3, HP, rfl⟩ := hrel
    by_cases hk : k < 32
    · have HP2 : Hid (2 * p = 2 ^ (k + 1 - n)) := by unfold Hid; rw [HP.out, show k + 1 - n = (k - n) + 1 by omega, Nat.pow_succ, Nat.mul_comm]
      have hp2 : 2 * p ≤ 4294967296 := by
        rw [HP2.out, show (4294967296 : Nat) = 2 ^ 32 by decide]
        exact Nat.pow_le_pow_right (by omega) (by omega)
      go_wp2_with fail
      go_roundw
      case rel => exact ⟨k + 1, 2 * p, by go_num, by go_num, by omega, by omega, hp2, HP2, trivial⟩
      case measure => simp [intOf]; omega
    · have : k = 32 := by omega
      subst this
      go_wp2_with fail
      go_ret
      exact ⟨ret_int (by rw [HP.out]), rfl⟩

theorem faultR (x : Nat) (y : Int) (w : World) (hx : x < 4294967296) :
    Calls Try.prog 63 #[.agg #[.int .u32 (x : Int), .int .i64 y]] w fun e w' => (∃ c : Int, e = .returned (.int .i64 c) ∧ (c = 0 ↔ valB x y = true)) ∧ Below w.heap.size w w' := by
  obtain ⟨wa, HWA⟩ : ∃ wa, Hid (wa = w.alloc (.cells #[.int .u32 (x : Int), .int .i64 y] 25)) := ⟨_, rfl⟩
  have hb0 : Below w.heap.size w wa := by rw [HWA.out]; exact (Below.refl _ _).alloc (Nat.le_refl _) _
  have r1 : wa.heap[w.heap.size]? = some (.cells #[.int .u32 (x : Int), .int .i64 y] 25) := by rw [HWA.out]; exact heap_alloc_new w _
  obtain ⟨q0, q1⟩ := Beh.two r1
  have HB0 := hid hb0
  have p0 := q0 ⟨wa, Below.refl _ _⟩
  have p1 := q1 ⟨wa, Below.refl _ _⟩
  simp only at p0 p1
  clear r1 hb0
  by_cases h1 : y < 0
  · have HF : Hid ((11 : Int) = 0 ↔ valB x y = true) := by unfold Hid valB; simp; omega
    go_enter Try.func63, Try.ntmps63
    go_upto_region 1 with fail
    rw [← HWA.out]
    go_wp2_with fail
    go_ret
    exact ⟨⟨11, rfl, HF.out⟩, HB0.out⟩
  · by_cases h2 : 32 < y
    · have HF : Hid ((11 : Int) = 0 ↔ valB x y = true) := by unfold Hid valB; simp; omega
      go_enter Try.func63, Try.ntmps63
      go_upto_region 1 with fail
      rw [← HWA.out]
      go_wp2_with fail
      go_ret
      exact ⟨⟨11, rfl, HF.out⟩, HB0.out⟩
    · obtain ⟨n, rfl⟩ : ∃ n : Nat, y = (n : Int) := ⟨y.toNat, by omega⟩
      have hn : n ≤ 32 := by omega
      have hp := pow_le32 n
      have hS : ∀ t : Beh wa, Hid (Calls Try.prog 64 #[.int .i64 (n : Int)] t.wd fun e w'' => e = .returned (.int .i64 ((2 ^ (32 - n) : Nat) : Int)) ∧ ∃ t' : Beh wa, w'' = t'.wd) := fun t => (sizeR1 n t.wd hn).mono fun e w'' ⟨he, hw⟩ => ⟨he, t, hw⟩
      have hpos : 0 < 2 ^ (32 - n) := Nat.pow_pos (by omega)
      have HF : Hid (valB x (n : Int) = ((x : Int) % ((2 ^ (32 - n) : Nat) : Int) == 0)) := by
        unfold Hid valB
        rw [← Int.natCast_emod, Int.toNat_natCast, Bool.eq_iff_iff, decide_eq_true_eq, beq_iff_eq]
        constructor
        · rintro ⟨_, _, h⟩; rw [h]; rfl
        · intro h; exact ⟨by omega, by omega, by exact_mod_cast h⟩
      generalize 2 ^ (32 - n) = S at *
      have hS0 : ¬ ((S : Int) = 0) := by omega
      have hS1 : ((S : Int) == 0) = false := by simp; omega
      go_enter Try.func63, Try.ntmps63
      go_upto_region 1 with fail
      rw [← HWA.out]
      go_upto_region 3 with fail
      clear p0 p1
      refine wp_region_beh (by kernel_rfl) (by kernel_rfl) ?_
      repeat (go_big_quiet_step (first | (go_at_call 64; exact (hS _).out)))
      refine wpQuiet_nil ?_
      rintro _ ⟨t, rfl⟩
      by_cases hz : (x : Int) % (S : Int) = 0
      · have HF2 : Hid (valB x (n : Int) = true) := by unfold Hid; rw [HF.out, hz]; rfl
        have hz1 : ((x : Int) % (S : Int) == 0) = true := by simp [hz]
        have hz2 : ((x : Int) % (S : Int) != 0) = false := by simp [hz]
        go_wp2_with fail
        go_ret
        exact ⟨⟨0, rfl, fun _ => HF2.out, fun _ => rfl⟩, HB0.out.trans (t.ok.mono HB0.out.size)⟩
      · have HF2 : Hid ((12 : Int) = 0 ↔ valB x (n : Int) = true) := by unfold Hid; rw [HF.out]; simp [hz]
        have hz1 : ((x : Int) % (S : Int) == 0) = false := by simp [hz]
        have hz2 : ((x : Int) % (S : Int) != 0) = true := by simp [hz]
        go_wp2_with fail
        go_ret
        exact ⟨⟨12, rfl, HF2.out⟩, HB0.out.trans (t.ok.mono HB0.out.size)⟩

theorem validR (x : Nat) (y : Int) (w : World) (hx : x < 4294967296) :
    Calls Try.prog 51 #[.agg #[.int .u32 (x : Int), .int .i64 y]] w fun e w' => e = .returned (.bool (valB x y)) ∧ Below w.heap.size w w' := by
  have HC := fun u => hid (faultR x y u hx)
  go_enter Try.func51, Try.ntmps51
  go_wp2_with fail
  refine (HC _).out.mono ?_
  rintro _ w1 ⟨⟨c, rfl, hc⟩, hb1⟩
  have hb01 : Below w.heap.size w w1 := ((Below.refl _ _).alloc (Nat.le_refl _) _).trans (hb1.mono (by simp))
  have HF : Hid ((c == 0) = valB x y) := by unfold Hid; rw [Bool.eq_iff_iff, beq_iff_eq]; exact hc
  have HB := hid hb01
  clear hc hb1 hb01
  go_wp2_with fail
  go_ret
  exact ⟨ret_bool HF.out, HB.out⟩

theorem spanR (x n : Nat) (w : World) (hx : x < 4294967296) (hv : valB x (n : Int) = true) (hn : n ≤ 32) (hl : x + 2 ^ (32 - n) ≤ 4294967296) :
    Calls Try.prog 52 #[.agg #[.int .u32 (x : Int), .int .i64 (n : Int)]] w fun e w' => e = .returned (.tuple #[.int .u32 (x : Int), .int .u32 ((x + 2 ^ (32 - n) - 1 : Nat) : Int), .int .i64 0]) ∧ Below w.heap.size w w' := by
  obtain ⟨wa, HWA⟩ : ∃ wa, Hid (wa = w.alloc (.cells #[.int .u32 (x : Int), .int .i64 (n : Int)] 25)) := ⟨_, rfl⟩
  have hb0 : Below w.heap.size w wa := by rw [HWA.out]; exact (Below.refl _ _).alloc (Nat.le_refl _) _
  have r1 : wa.heap[w.heap.size]? = some (.cells #[.int .u32 (x : Int), .int .i64 (n : Int)] 25) := by rw [HWA.out]; exact heap_alloc_new w _
  obtain ⟨q0, q1⟩ := Beh.two r1
  have HB0 := hid hb0
  have p0 := q0 ⟨wa, Below.refl _ _⟩
  have p1 := q1 ⟨wa, Below.refl _ _⟩
  simp only at p0 p1
  have HFA := hid (faultR x (n : Int) wa hx)
  clear r1 hb0
  have hpos : 0 < 2 ^ (32 - n) := Nat.pow_pos (by omega)
  have HSZ := fun u => hid (sizeR1 n u hn)
  obtain ⟨l, HL⟩ : ∃ l, Hid (l = x + 2 ^ (32 - n) - 1) := ⟨_, rfl⟩
  rw [← HL.out]
  generalize 2 ^ (32 - n) = S at *
  have hl2 : (x : Int) + (S : Int) - 1 = (l : Int) := by rw [HL.out]; omega
  have hll : l < 4294967296 := by rw [HL.out]; omega
  go_enter Try.func52, Try.ntmps52
  go_upto_region 1 with fail
  rw [← HWA.out]
  go_wp2_with fail
  refine HFA.out.mono ?_
  rintro _ w1 ⟨⟨c, rfl, hc⟩, hb1⟩
  obtain rfl : c = 0 := hc.2 hv
  obtain ⟨t1, ht1⟩ : ∃ t : Beh wa, t.wd = w1 := ⟨⟨w1, hb1⟩, rfl⟩
  subst ht1
  have hS : ∀ t : Beh t1.wd, Hid (Calls Try.prog 64 #[.int .i64 (n : Int)] t.wd fun e w'' => e = .returned (.int .i64 (S : Int)) ∧ ∃ t' : Beh t1.wd, w'' = t'.wd) := fun t => (HSZ t.wd).out.mono fun e w'' ⟨he, hw⟩ => ⟨he, t, hw⟩
  have u0 : ∀ t : Beh t1.wd, t.wd.cell? ⟨w.heap.size, 0, none⟩ = some (.int .u32 (x : Int)) := fun t => q0 ⟨t.wd, t1.ok.trans (t.ok.mono t1.ok.size)⟩
  have u1 : ∀ t : Beh t1.wd, t.wd.cell? ⟨w.heap.size, 1, none⟩ = some (.int .i64 (n : Int)) := fun t => q1 ⟨t.wd, t1.ok.trans (t.ok.mono t1.ok.size)⟩
  clear hc hb1 p0 p1 q0 q1
  go_upto_region 4 with fail
  refine wp_region_beh (by kernel_rfl) (by kernel_rfl) ?_
  repeat (go_big_quiet_step (first | (go_at_call 64; exact (hS _).out)))
  refine wpQuiet_nil ?_
  rintro _ ⟨t, rfl⟩
  have v0 := u0 t
  clear u0 u1 hS
  have HBT : Hid (Below w.heap.size w t.wd) := HB0.out.trans ((t1.ok.trans (t.ok.mono t1.ok.size)).mono HB0.out.size)
  clear hl2
  go_wp2_with fail
  refine bodyPost_ret (v := .tuple #[.int .u32 (x : Int), .int .u32 (l : Int), .int .i64 0]) (by simp [results, Try.results52, go_sem]) rfl ⟨rfl, HBT.out⟩
end Go.Proofs.Ytahoileampdnkaa
