/-
  The reference: Contains, aligned, looked.
-/
import Derived.Test.YtahoileampdnkaaOX
namespace Go.Proofs.Ytahoileampdnkaa
open Go.ChangeShapes Go.WideShapes Go.ChangeAt Go.RowKit Ru N Tri
set_option maxHeartbeats 1000000
set_option maxRecDepth 100000

theorem containsR (x : Nat) (y : Int) (a : Nat) (w : World) (hx : x < 4294967296) (h : valB x y = true) :
    Calls Try.prog 40 #[.agg #[.int .u32 (x : Int), .int .i64 y], .int .u32 (a : Int)] w fun e w' => e = .returned (.bool (inN x y a)) ∧ Below w.heap.size w w' := by
  rcases bad_or (y := y) hx with h0 | ⟨k, hk, rfl, rfl⟩
  · rw [valB_bad h0] at h; cases h
  · have hl : k.x + 2 ^ (32 - k.n) ≤ 4294967296 := hk.end
    have HS := fun u => hid (spanR k.x k.n u hk.2.2 h hk.1 hl)
    have hpos : 0 < 2 ^ (32 - k.n) := Nat.pow_pos (by omega)
    have HE : Hid (inN k.x (k.n : Int) a = (decide (k.x ≤ a) && decide (a ≤ k.x + 2 ^ (32 - k.n) - 1))) := by
      unfold Hid inN
      rw [Int.toNat_natCast, Bool.eq_iff_iff]
      simp
      omega
    generalize inN k.x (k.n : Int) a = R at *
    generalize k.x + 2 ^ (32 - k.n) - 1 = ll at *
    clear hl hpos h
    by_cases hxa : k.x ≤ a
    · have HR : Hid (R = decide (a ≤ ll)) := by unfold Hid; rw [HE.out]; simp [hxa]
      go_enter Try.func40, Try.ntmps40
      go_wp2_with fail
      refine (HS _).out.mono ?_
      rintro _ w1 ⟨rfl, hb1⟩
      have HB : Hid (Below w.heap.size w w1) := ((Below.refl _ _).alloc (Nat.le_refl _) _).trans (hb1.mono (by simp))
      clear hb1
      go_wp2_with fail
      go_ret
      exact ⟨ret_bool HR.out.symm, HB.out⟩
    · have HR : Hid (R = false) := by unfold Hid; rw [HE.out]; simp [hxa]
      go_enter Try.func40, Try.ntmps40
      go_wp2_with fail
      refine (HS _).out.mono ?_
      rintro _ w1 ⟨rfl, hb1⟩
      have HB : Hid (Below w.heap.size w w1) := ((Below.refl _ _).alloc (Nat.le_refl _) _).trans (hb1.mono (by simp))
      clear hb1
      go_wp2_with fail
      go_ret
      exact ⟨ret_bool HR.out.symm, HB.out⟩

theorem alignedR (x : Nat) (y s : Int) (w : World) (hx : x < 4294967296) :
    Calls Try.prog 39 #[.agg #[.int .u32 (x : Int), .int .i64 y], .int .i64 s] w fun e w' => e = .returned (.bool (valB x y && decide (y = s))) ∧ Below w.heap.size w w' := by
  obtain ⟨wa, HWA⟩ : ∃ wa, Hid (wa = w.alloc (.cells #[.int .u32 (x : Int), .int .i64 y] 25)) := ⟨_, rfl⟩
  have hb0 : Below w.heap.size w wa := by rw [HWA.out]; exact (Below.refl _ _).alloc (Nat.le_refl _) _
  have r1 : wa.heap[w.heap.size]? = some (.cells #[.int .u32 (x : Int), .int .i64 y] 25) := by rw [HWA.out]; exact heap_alloc_new w _
  obtain ⟨q0, q1⟩ := Beh.two r1
  have HB0 := hid hb0
  have p0 := q0 ⟨wa, Below.refl _ _⟩
  have p1 := q1 ⟨wa, Below.refl _ _⟩
  simp only at p0 p1
  have HV := hid (validR x y wa hx)
  clear r1 hb0
  generalize valB x y = bb at *
  go_enter Try.func39, Try.ntmps39
  go_upto_region 1 with fail
  rw [← HWA.out]
  go_wp2_with fail
  refine HV.out.mono ?_
  rintro _ w1 ⟨rfl, hb1⟩
  have d1 := q1 ⟨w1, hb1⟩
  simp only at d1
  have HB : Hid (Below w.heap.size w w1) := HB0.out.trans (hb1.mono HB0.out.size)
  clear hb1 p0 p1
  cases bb with
  | false =>
    go_wp2_with fail
    go_ret
    exact ⟨rfl, HB.out⟩
  | true =>
    go_wp2_with fail
    go_ret
    exact ⟨ret_bool (by rw [Bool.true_and, Bool.eq_iff_iff]; simp), HB.out⟩
end Go.Proofs.Ytahoileampdnkaa
