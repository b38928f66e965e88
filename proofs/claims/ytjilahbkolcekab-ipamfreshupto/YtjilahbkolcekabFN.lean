/-
  The law's size, may, name.
-/
import Derived.Test.YtjilahbkolcekabFM
import Derived.Test.YtjilahbkolcekabES
import Derived.Laws.BytesArg
namespace Go.Proofs.Ytjilahbkolcekab
open Go.ChangeShapes Go.WideShapes Go.ChangeAt Go.RowKit Go.Maps Tri
set_option maxHeartbeats 4000000
set_option maxRecDepth 100000

theorem size_any (x n : Nat) (w : World) (h1 : 1 ≤ n) (h30 : n ≤ 30) :
    Calls Try.prog 16 #[.agg #[.int .u32 (x : Int), .int .i64 (n : Int)]] w fun e w' => e = .returned (.int .i64 ((2 ^ (32 - n) : Nat) : Int)) ∧ Below w.heap.size w w' := by
  obtain ⟨wa, HWA⟩ : ∃ wa, Hid (wa = w.alloc (.cells #[.int .u32 (x : Int), .int .i64 (n : Int)] 25)) := ⟨_, rfl⟩
  have HB0 : Hid (Below w.heap.size w wa) := by unfold Hid; rw [HWA.out]; exact (Below.refl _ _).alloc (Nat.le_refl _) _
  have R1 : Hid (wa.heap[w.heap.size]? = some (.cells #[.int .u32 (x : Int), .int .i64 (n : Int)] 25)) := by unfold Hid; rw [HWA.out]; exact heap_alloc_new w _
  obtain ⟨q0, q1⟩ := Beh.two R1.out
  have c1 := q1 ⟨wa, Below.refl _ _⟩
  simp only at c1
  clear q0 q1
  go_enter Try.func16, Try.ntmps16
  go_upto_region 1 with fail
  rw [← HWA.out]
  go_upto_region 3 with fail
  go_loopw [3, 4] (fun a b wr => ∃ (k p : Nat), b = .int .i64 (k : Int) ∧ a = .int .i64 (p : Int) ∧ n ≤ k ∧ k ≤ 32 ∧ p ≤ 4294967296 ∧ Hid (p = 2 ^ (k - n)) ∧ wr = wa) (fun _ b _ => 32 - (intOf b).toNat)
  case atStart => exact ⟨n, 1, rfl, rfl, Nat.le_refl _, by omega, by decide, hid (by simp), rfl⟩
  case round =>
    obtain ⟨k, p, rfl, rfl, k1, k2, k3, HP, rfl⟩ := hrel
    by_cases hk : k < 32
    · have HP2 : Hid (2 * p = 2 ^ (k + 1 - n)) := by unfold Hid; rw [HP.out, show k + 1 - n = (k - n) + 1 by omega, Nat.pow_succ, Nat.mul_comm]
      have hp2 : 2 * p ≤ 4294967296 := by
        rw [HP2.out, show (4294967296 : Nat) = 2 ^ 32 by decide]
        exact Nat.pow_le_pow_right (by omega) (by omega)
      go_wp2_with fail
      go_roundw
      case rel => exact ⟨k + 1, 2 * p, by go_num, by go_num, by omega, by omega, hp2, HP2, trivial⟩
      case measure => simp [intOf]; omega
    · have hk32 : k = 32 := by omega
      subst hk32
      go_wp2_with fail
      go_ret
      exact ⟨ret_int (by rw [HP.out]), HB0.out⟩

theorem may_any (x : Nat) (y : Int) (w : World) (hx : x < 4294967296) :
    Calls Try.prog 14 #[.agg #[.int .u32 (x : Int), .int .i64 y]] w fun e w' => e = .returned (.bool (nwB x y)) ∧ Below w.heap.size w w' := by
  obtain ⟨wa, HWA⟩ : ∃ wa, Hid (wa = w.alloc (.cells #[.int .u32 (x : Int), .int .i64 y] 25)) := ⟨_, rfl⟩
  have HB0 : Hid (Below w.heap.size w wa) := by unfold Hid; rw [HWA.out]; exact (Below.refl _ _).alloc (Nat.le_refl _) _
  have R1 : Hid (wa.heap[w.heap.size]? = some (.cells #[.int .u32 (x : Int), .int .i64 y] 25)) := by unfold Hid; rw [HWA.out]; exact heap_alloc_new w _
  obtain ⟨q0, q1⟩ := Beh.two R1.out
  obtain ⟨R, HR⟩ : ∃ R, Hid (R = nwB x y) := ⟨_, rfl⟩
  rw [← HR.out]
  by_cases h1 : 1 ≤ y
  · by_cases h30 : y ≤ 30
    · obtain ⟨n, rfl⟩ : ∃ n : Nat, y = (n : Int) := ⟨y.toNat, by omega⟩
      obtain ⟨z, HZ⟩ : ∃ z, Hid (z = 2 ^ (32 - n)) := ⟨2 ^ (32 - n), hid rfl⟩
      have hz4 : 4 ≤ z := by rw [HZ.out]; exact pow_lo (by omega)
      have hz31 : z ≤ 2147483648 := by rw [HZ.out]; exact pow_hi (by omega)
      have HSZ : ∀ t : Beh wa, Hid (Calls Try.prog 16 #[.agg #[.int .u32 (x : Int), .int .i64 (n : Int)]] t.wd fun e w' => e = .returned (.int .i64 (z : Int)) ∧ ∃ t' : Beh wa, w' = t'.wd) := fun t => by
        rw [HZ.out]; exact Calls.beh (size_any x n t.wd (by omega) (by omega))
      have hwx : IntKind.i64.wrap (x : Int) = (x : Int) := by rw [IntKind.wrap_i64]; omega
      obtain ⟨q, HQ⟩ : ∃ q : Nat, Hid (q = x % z) := ⟨_, rfl⟩
      have ht : Int.tmod (x : Int) (z : Int) = (q : Int) := by rw [HQ.out, ← Int.ofNat_tmod]
      have hzz : ((z : Int) == 0) = false := by simp; omega
      have hz0 : ¬ (z : Int) = 0 := by omega
      have HE : Hid (R = ((q : Int) == 0)) := by
        unfold Hid; rw [HR.out]; unfold nwB
        rw [Int.toNat_natCast, ← HZ.out, ← HQ.out]
        by_cases hq : q = 0
        · simp [hq]; omega
        · have : ((q : Int) == 0) = false := by simp; omega
          rw [this, decide_eq_false_iff_not]; omega
      clear HR
      go_enter Try.func14, Try.ntmps14
      go_upto_region 1 with fail
      rw [← HWA.out]
      refine wp_region_beh (by kernel_rfl) (by kernel_rfl) ?_
      repeat (go_big_quiet_step (first | (go_at_call 16; exact (HSZ _).out)))
      refine wpQuiet_nil ?_
      rintro _ ⟨t, rfl⟩
      have HBt := hid (HB0.out.trans (t.ok.mono HB0.out.size))
      go_wp2_with fail
      go_ret
      exact ⟨ret_bool HE.out.symm, HBt.out⟩
    · have HE : Hid (R = false) := by unfold Hid; rw [HR.out]; unfold nwB; rw [decide_eq_false_iff_not]; omega
      have h30' : decide (y ≤ 30) = false := by rw [decide_eq_false_iff_not]; exact h30
      clear HR
      go_enter Try.func14, Try.ntmps14
      go_upto_region 1 with fail
      rw [← HWA.out]
      refine wp_region_beh (by kernel_rfl) (by kernel_rfl) ?_
      repeat (go_big_quiet_step (fail))
      refine wpQuiet_nil ?_
      rintro _ ⟨t, rfl⟩
      have HBt := hid (HB0.out.trans (t.ok.mono HB0.out.size))
      go_wp2_with fail
      go_ret
      exact ⟨ret_bool HE.out.symm, HBt.out⟩
  · have HE : Hid (R = false) := by unfold Hid; rw [HR.out]; unfold nwB; rw [decide_eq_false_iff_not]; omega
    have h1' : decide (1 ≤ y) = false := by rw [decide_eq_false_iff_not]; exact h1
    clear HR
    go_enter Try.func14, Try.ntmps14
    go_upto_region 1 with fail
    rw [← HWA.out]
    refine wp_region_beh (by kernel_rfl) (by kernel_rfl) ?_
    repeat (go_big_quiet_step (fail))
    refine wpQuiet_nil ?_
    rintro _ ⟨t, rfl⟩
    have HBt := hid (HB0.out.trans (t.ok.mono HB0.out.size))
    go_wp2_with fail
    go_ret
    exact ⟨ret_bool HE.out.symm, HBt.out⟩

/-- The name's front. -/
def nmF (n k : Nat) : ByteArray := ⟨#[112] ++ ((List.range k).map (dg n)).toArray⟩
theorem nmF_end (n : Nat) : nmF n 6 = nmN n := by
  unfold nmF nmN
  congr 1

theorem name_any (n : Nat) (w : World) (hn : n < 1000000) :
    Calls Try.prog 18 #[.int .i64 (n : Int)] w fun e w' => e = .returned (.string (nmN n)) ∧ Below w.heap.size w w' := by
  go_enter Try.func18, Try.ntmps18
  go_upto_region 3 with fail
  go_loopw [0, 3, 4] (fun a s i wr => ∃ (j m : Nat) (f : ByteArray), i = .int .i64 (j : Int) ∧ a = .int .i64 (m : Int) ∧ s = .string f ∧ j ≤ 6 ∧ m < 1000000 ∧ Hid (m = n / 10 ^ j) ∧ Hid (f = nmF n j) ∧ Hid (Below w.heap.size w wr)) (fun _ _ i _ => 6 - (intOf i).toNat)
  case atStart => exact ⟨0, n, _, rfl, rfl, rfl, by omega, hn, hid (by simp), hid rfl, Below.refl _ _⟩
  case round =>
    obtain ⟨j, m, f, rfl, rfl, rfl, hj, hm, HM, HF, HB⟩ := hrel
    by_cases hlt : j < 6
    · have hlt' : (j : Int) < 6 := by omega
      have hcv : (convert 81 9 (.slice (some ⟨wr.heap.size, 0, none⟩) 1 1)).run Try.prog (wr.alloc (.cells #[.int .u8 (48 + (m : Int) % 10)] 5)) = .ok (.string (strOfNums [48 + (m : Int) % 10])) (wr.alloc (.cells #[.int .u8 (48 + (m : Int) % 10)] 5)) := by
        refine run_convert_bytes_arg _ 81 5 (by kernel_rfl) (by kernel_rfl) wr.heap.size 0 1 1 [48 + (m : Int) % 10] rfl (fun i hi => ?_) 9 (by kernel_rfl)
        have : i = 0 := by omega
        subst this
        rw [cell_of_row _ _ _ _ _ _ (heap_alloc_new wr _)]
        rfl
      have HFS : Hid (f.size = 1 + j) := by unfold Hid; rw [HF.out]; unfold nmF; simp [ByteArray.size]; omega
      have hfs : f.size ≤ 7 := by have := HFS.out; omega
      obtain ⟨sg, HSG⟩ : ∃ sg, Hid (sg = strOfNums [48 + (m : Int) % 10]) := ⟨_, rfl⟩
      have hsg : sg.size = 1 := by rw [HSG.out]; rfl
      rw [← HSG.out] at hcv
      have HNF : Hid (f ++ sg = nmF n (j + 1)) := by
        unfold Hid
        rw [HF.out, HSG.out]
        have e1 : (48 + (m : Int) % 10).toNat = 48 + n / 10 ^ j % 10 := by rw [← HM.out]; omega
        unfold nmF strOfNums
        rw [List.range_succ, List.map_append]
        simp only [List.map_cons, List.map_nil, e1]
        have e2 : ∀ A B : Array UInt8, (ByteArray.mk A) ++ (ByteArray.mk B) = ByteArray.mk (A ++ B) := fun A B => by
          apply ByteArray.ext
          simp
        rw [e2]
        congr 1
        simp [dg]
      have HMD : Hid (m / 10 = n / 10 ^ (j + 1)) := by unfold Hid; rw [HM.out, Nat.div_div_eq_div_mul, Nat.pow_succ]
      have hm10 : m / 10 < 1000000 := by omega
      have HBB : Hid (Below w.heap.size w (wr.alloc (.cells #[.int .u8 (48 + (m : Int) % 10)] 5))) := HB.out.trans ((Below.refl _ _).alloc HB.out.size _)
      clear HF HM HSG HFS
      go_wp2_with fail
      go_roundw
      case rel => exact ⟨j + 1, m / 10, _, by go_num, by first | rfl | go_num, rfl, hlt, hm10, HMD, HNF, HBB⟩
      case measure => simp [intOf]; omega
    · have hlt' : ¬ (j : Int) < 6 := by omega
      have HE : Hid (f = nmN n) := by unfold Hid; rw [HF.out, show j = 6 by omega, nmF_end]
      go_wp2_with fail
      go_ret
      exact ⟨by rw [HE.out]; rfl, HB.out⟩
end Go.Proofs.Ytjilahbkolcekab
