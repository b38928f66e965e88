/-
  The law's same, lists, example.
-/
import Derived.Test.YteoebmpfdcbbmacDoorJY
import Derived.Test.YteoebmpfdcbbmacDoorJW
namespace Go.Proofs.YteoebmpfdcbbmacDoor
open Go.ChangeShapes Go.WideShapes Go.ChangeAt Go.RowKit Jn N
set_option maxHeartbeats 4000000
set_option maxRecDepth 100000

theorem same_eq (x y : Value) (L : List Nat) (w : World) (hx : SeesB w x L) (hy : SeesB w y L) :
    Calls Tryd.prog 15 #[x, y] w fun e w' => e = .returned (.bool true) ∧ Below w.heap.size w w' := by
  have HX := hid hx
  have HY := hid hy
  obtain ⟨a0, n, c0, rfl, HN, hn1, hn2⟩ := hx.shape
  obtain ⟨a1, n1, c1, rfl, HN1, hm1, hm2⟩ := hy.shape
  obtain rfl : n1 = n := by rw [HN1.out, HN.out]
  unfold maxLen at hn2 hm2
  clear hx hy HN1
  go_enter Tryd.func15, Tryd.ntmps15
  go_wp2_with fail
  go_loopw [5] (fun i wr => ∃ k : Nat, i = .int .i64 (k : Int) ∧ k ≤ n1 ∧ Hid (Below w.heap.size w wr)) (fun i _ => n1 - (intOf i).toNat)
  case atStart => exact ⟨0, rfl, Nat.zero_le _, Below.refl _ _⟩
  case round =>
    obtain ⟨k, rfl, hk, HB⟩ := hrel
    by_cases hlt : k < n1
    · obtain ⟨g0, o0, x0, rfl, hg0, hc0, hx0, HX0⟩ := (HX.out.below HB.out).at k hlt
      obtain ⟨g1, o1, x1, rfl, hg1, hc1, hx1, HX1⟩ := (HY.out.below HB.out).at k hlt
      obtain rfl : x1 = x0 := by have h := HX1.out; rw [HX0.out] at h; exact (Option.some.inj h).symm
      have b1 : (k : Int) < (n1 : Int) := by omega
      have b2 : (0 : Int) ≤ (k : Int) := by omega
      clear HX0 HX1
      go_upto_region 6 with fail
      go_quiet (fail)
      have HB2 : Hid (Below w.heap.size w (wr.drewN nq)) := below_drewN HB.out _
      go_wp2_with fail
      go_roundw
      case rel => exact ⟨k + 1, by go_num, by omega, HB2⟩
      case measure => simp [intOf]; omega
    · go_wp2_with fail
      go_ret
      exact ⟨rfl, HB.out⟩

theorem lists_eq (x y : Value) (Ls : List (List Nat)) (w : World) (hx : SeesBB w x Ls) (hy : SeesBB w y Ls) :
    Calls Tryd.prog 14 #[x, y] w fun e w' => e = .returned (.bool true) ∧ Below w.heap.size w w' := by
  have HX := hid hx
  have HY := hid hy
  obtain ⟨a0, n, c0, rfl, HN, hn1, hn2⟩ := hx.shape
  obtain ⟨a1, n1, c1, rfl, HN1, hm1, hm2⟩ := hy.shape
  obtain rfl : n1 = n := by rw [HN1.out, HN.out]
  unfold maxLen at hn2 hm2
  clear hx hy HN1
  go_enter Tryd.func14, Tryd.ntmps14
  go_wp2_with fail
  go_loopw [5] (fun i wr => ∃ k : Nat, i = .int .i64 (k : Int) ∧ k ≤ n1 ∧ Hid (Below w.heap.size w wr)) (fun i _ => n1 - (intOf i).toNat)
  case atStart => exact ⟨0, rfl, Nat.zero_le _, Below.refl _ _⟩
  case round =>
    obtain ⟨k, rfl, hk, HB⟩ := hrel
    by_cases hlt : k < n1
    · obtain ⟨g0, o0, x0, l0, rfl, hg0, hc0, hx0, HX0⟩ := (HX.out.below HB.out).at k hlt
      obtain ⟨g1, o1, x1, l1, rfl, hg1, hc1, hx1, HX1⟩ := (HY.out.below HB.out).at k hlt
      obtain rfl : l1 = l0 := by have h := HX1.out; rw [HX0.out] at h; exact (Option.some.inj h).symm
      have hcr : ∀ t : Beh wr, Below w.heap.size w t.wd := fun t => HB.out.trans (t.ok.mono HB.out.size)
      have y0 : ∀ t : Beh wr, t.wd.cell? ⟨g0, o0 + k, none⟩ = some x0 := fun t => (t.ok.cell (p := ⟨g0, _, none⟩) hg0).trans hc0
      have y1 : ∀ t : Beh wr, t.wd.cell? ⟨g1, o1 + k, none⟩ = some x1 := fun t => (t.ok.cell (p := ⟨g1, _, none⟩) hg1).trans hc1
      have HSM : ∀ t : Beh wr, Hid (Calls Tryd.prog 15 #[x0, x1] t.wd fun e w' => e = .returned (.bool true) ∧ ∃ t' : Beh wr, w' = t'.wd) := fun t => Calls.beh (same_eq _ _ l1 t.wd (hx0.below t.ok) (hx1.below t.ok))
      obtain ⟨ax, nx, cx, rfl, -, -, -⟩ := hx0.shape
      obtain ⟨ay, ny, cy, rfl, -, -, -⟩ := hx1.shape
      have b1 : (k : Int) < (n1 : Int) := by omega
      have b2 : (0 : Int) ≤ (k : Int) := by omega
      clear HX0 HX1 hc0 hc1 hx0 hx1 hcr
      go_upto_region 6 with fail
      refine wp_region_beh (by kernel_rfl) (by kernel_rfl) ?_
      repeat (go_big_quiet_step ((go_at_call 15; exact (HSM _).out)))
      refine wpQuiet_nil ?_
      rintro _ ⟨t, rfl⟩
      have HB2 : Hid (Below w.heap.size w t.wd) := HB.out.trans (t.ok.mono HB.out.size)
      clear y0 y1 HSM
      go_wp2_with fail
      go_roundw
      case rel => exact ⟨k + 1, by go_num, by omega, HB2⟩
      case measure => simp [intOf]; omega
    · go_wp2_with fail
      go_ret
      exact ⟨rfl, HB.out⟩

def exL : List Nat := [119, 101, 102, 116, 0, 0, 0, 1, 0, 0, 0, 0, 70, 82, 91, 48, 0, 0, 0, 2, 158, 131, 72, 109, 254, 162, 42, 22, 97, 98, 0, 0, 0, 0, 0, 0, 0, 0, 38, 86, 134, 147]
theorem exL_is : exL = gener 1 [] ++ frames 1 0 [[97, 98], []] := by decide +kernel

end Go.Proofs.YteoebmpfdcbbmacDoor
