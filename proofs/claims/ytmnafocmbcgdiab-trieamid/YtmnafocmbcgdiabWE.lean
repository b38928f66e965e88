/-
  Get and Del of what is no prefix.
-/
import Derived.Test.YtmnafocmbcgdiabWD
namespace Go.Proofs.Ytmnafocmbcgdiab
open Go.ChangeShapes Go.WideShapes Go.ChangeAt Go.RowKit Go.Shelf Tri N
set_option maxHeartbeats 1000000
set_option maxRecDepth 100000

theorem get_bad {tb x : Nat} {y : Int} (w : World) (hx : x < 4294967296) (h : Bad x y) :
    Calls Try.prog 23 #[.pointer (some ⟨tb, 0, none⟩), qv x y] w fun e w' => e = .returned (.tuple #[.int .i64 0, .int .i64 11]) ∧ Below w.heap.size w w' := by
  obtain ⟨w1, hw1⟩ : ∃ w1, w1 = w.alloc (.cells #[.int .u32 (x : Int), .int .i64 y] 31) := ⟨_, rfl⟩
  obtain ⟨w2, hw2⟩ : ∃ w2, w2 = w1.alloc (.cells #[.int .i64 0] 3) := ⟨_, rfl⟩
  obtain ⟨w3, hw3⟩ : ∃ w3, w3 = w2.alloc (.cells #[.int .i64 0] 26) := ⟨_, rfl⟩
  have hs1 : w1.heap.size = w.heap.size + 1 := by rw [hw1]; simp
  have hs2 : w2.heap.size = w.heap.size + 2 := by rw [hw2]; simp; omega
  have hs3 : w3.heap.size = w.heap.size + 3 := by rw [hw3]; simp; omega
  have b1 : Below w.heap.size w w1 := by rw [hw1]; exact (Below.refl _ _).alloc (Nat.le_refl _) _
  have b2 : Below w1.heap.size w1 w2 := by rw [hw2]; exact (Below.refl _ _).alloc (Nat.le_refl _) _
  have b3 : Below w2.heap.size w2 w3 := by rw [hw3]; exact (Below.refl _ _).alloc (Nat.le_refl _) _
  have b03 : Below w.heap.size w w3 := b1.trans ((b2.trans (b3.mono (by omega))).mono (by omega))
  have r0 : w3.heap[w.heap.size]? = some (.cells #[.int .u32 (x : Int), .int .i64 y] 31) := by
    rw [b3.block _ (by omega), b2.block _ (by omega), hw1]; exact heap_alloc_new w _
  have r1 : w3.heap[w.heap.size + 1]? = some (.cells #[.int .i64 0] 3) := by
    rw [b3.block _ (by omega), hw2, ← hs1]; exact heap_alloc_new w1 _
  have r2 : w3.heap[w.heap.size + 2]? = some (.cells #[.int .i64 0] 26) := by rw [hw3, ← hs2]; exact heap_alloc_new w2 _
  have HW3 : Hid (w3 = ((w.alloc (.cells #[.int .u32 (x : Int), .int .i64 y] 31)).alloc (.cells #[.int .i64 0] 3)).alloc (.cells #[.int .i64 0] 26)) := by unfold Hid; rw [hw3, hw2, hw1]
  have HV := hid (valid_bad w3 hx h)
  have x0 : w3.cell? ⟨w.heap.size, 0, none⟩ = some (.int .u32 (x : Int)) := by rw [cell_of_row _ _ _ _ _ _ r0]; rfl
  have x1 : w3.cell? ⟨w.heap.size, 1, none⟩ = some (.int .i64 y) := by rw [cell_of_row _ _ _ _ _ _ r0]; rfl
  have R1 := hid r1
  have R2 := hid r2
  have HB3 := hid b03
  have HS3 := hid hs3
  unfold qv at HV ⊢
  clear hw1 hw2 hw3 hs1 hs2 hs3 b1 b2 b3 b03 r0 r1 r2
  refine (callsIn_wide (n := 9)).1 ?_
  refine callsIn_of_wp_marks Try.func23 rfl trivial ?_ rfl
  refine wpIn_wide.2 ?_
  simp only [Try.ntmps23, List.size_toArray, List.length_cons, List.length_nil, Nat.reduceAdd, Nat.reduceSub, Array.replicate_succ, Array.replicate_zero, List.push_toArray, List.append_toArray, List.nil_append, List.cons_append]
  go_upto_region 2 with fail
  rw [← HW3.out]
  go_wp2_with fail
  refine HV.out.mono ?_
  rintro _ w4 ⟨rfl, hb4⟩
  have b04 : Below w.heap.size w w4 := HB3.out.trans (hb4.mono (by have := HS3.out; omega))
  have k1 := below_keeps hb4 R1.out (by have := HS3.out; omega)
  have k2 := below_keeps hb4 R2.out (by have := HS3.out; omega)
  have d0 : w4.cell? ⟨w.heap.size + 1, 0, none⟩ = some (.int .i64 0) := by rw [cell_of_row _ _ _ _ _ _ k1]; rfl
  have f0 : w4.frozen? ⟨w.heap.size + 1, 0, none⟩ = false := frozen_of_row _ _ _ _ _ k1
  obtain ⟨Wa, hWa⟩ : ∃ Wa, Wa = w4.setCell ⟨w.heap.size + 1, 0, none⟩ (.int .i64 0) := ⟨_, rfl⟩
  have bt1 : But (w.heap.size + 1) w4 Wa := by rw [hWa]; exact But.set _ _ _ _
  have j7 : Wa.heap[w.heap.size + 2]? = some (.cells #[.int .i64 0] 26) := (bt1.block _ (Array.getElem?_eq_some_iff.1 k2).1 (by omega)).trans k2
  have d1 : Wa.cell? ⟨w.heap.size + 1 + 1, 0, none⟩ = some (.int .i64 0) := by rw [cell_of_row _ _ _ _ _ _ j7]; rfl
  have f1 : Wa.frozen? ⟨w.heap.size + 1 + 1, 0, none⟩ = false := frozen_of_row _ _ _ _ _ j7
  have j6 : Wa.heap[w.heap.size + 1]? = some (.cells #[.int .i64 0] 3) := by rw [hWa]; exact set_row k1
  obtain ⟨Wb, hWb⟩ : ∃ Wb, Wb = Wa.setCell ⟨w.heap.size + 1 + 1, 0, none⟩ (.int .i64 11) := ⟨_, rfl⟩
  have bt2 : But (w.heap.size + 2) Wa Wb := by rw [hWb]; exact But.set _ _ _ _
  have RV : Wb.heap[w.heap.size + 1]? = some (.cells #[.int .i64 0] 3) := (bt2.block _ (Array.getElem?_eq_some_iff.1 j6).1 (by omega)).trans j6
  have RE : Wb.heap[w.heap.size + 1 + 1]? = some (.cells #[.int .i64 11] 26) := by rw [hWb]; exact set_row j7
  have hs4 := hb4.size
  have BZ : Below w.heap.size w Wb := bt2.below (bt1.below b04 (by have := HS3.out; omega) (by omega)) (by have := bt1.size; have := HS3.out; omega) (by omega)
  have HWB : Hid (Wb = (w4.setCell ⟨w.heap.size + 1, 0, none⟩ (.int .i64 0)).setCell ⟨w.heap.size + 1 + 1, 0, none⟩ (.int .i64 11)) := by unfold Hid; rw [hWb, hWa]
  rw [hWa] at d1 f1
  have HE := hid (And.intro RV (And.intro RE BZ))
  clear hb4 b04 k1 k2 hs4 hWa hWb bt1 bt2 j6 j7 RV RE BZ x0 x1
  go_wp2_with fail
  rw [← HWB.out]
  obtain ⟨RV, RE, BZ⟩ := HE.out
  have g0 : Wb.cell? ⟨w.heap.size + 1, 0, none⟩ = some (.int .i64 0) := by rw [cell_of_row _ _ _ _ _ _ RV]; rfl
  have g1 : Wb.cell? ⟨w.heap.size + 1 + 1, 0, none⟩ = some (.int .i64 11) := by rw [cell_of_row _ _ _ _ _ _ RE]; rfl
  exact ⟨_, (by simp [results, Try.results23, go_sem, g0, g1]), rfl, BZ⟩

theorem del_bad {tb x : Nat} {y : Int} (w : World) (hx : x < 4294967296) (h : Bad x y) :
    Calls Try.prog 13 #[.pointer (some ⟨tb, 0, none⟩), qv x y] w fun e w' => e = .returned (.tuple #[.int .i64 0, .int .i64 11]) ∧ Below w.heap.size w w' := by
  obtain ⟨w1, hw1⟩ : ∃ w1, w1 = w.alloc (.cells #[.int .u32 (x : Int), .int .i64 y] 31) := ⟨_, rfl⟩
  have hs1 : w1.heap.size = w.heap.size + 1 := by rw [hw1]; simp
  have hb1 : Below w.heap.size w w1 := by rw [hw1]; exact (Below.refl _ _).alloc (Nat.le_refl _) _
  have r1 : w1.heap[w.heap.size]? = some (.cells #[.int .u32 (x : Int), .int .i64 y] 31) := by rw [hw1]; exact heap_alloc_new w _
  have x0 : w1.cell? ⟨w.heap.size, 0, none⟩ = some (.int .u32 (x : Int)) := by rw [cell_of_row _ _ _ _ _ _ r1]; rfl
  have x1 : w1.cell? ⟨w.heap.size, 1, none⟩ = some (.int .i64 y) := by rw [cell_of_row _ _ _ _ _ _ r1]; rfl
  have HG := hid (get_bad (tb := tb) w1 hx h)
  have HWA := hid hw1
  have HB0 := hid hb1
  have HS1 := hid hs1
  unfold qv at HG ⊢
  clear hw1 hs1 hb1 r1
  go_enter Try.func13, Try.ntmps13
  go_upto_region 1 with fail
  rw [← HWA.out]
  go_wp2_with fail
  refine HG.out.mono ?_
  rintro _ w3 ⟨rfl, hb3⟩
  have HB3 : Hid (Below w.heap.size w w3) := HB0.out.trans (hb3.mono (by have := HS1.out; omega))
  clear hb3 x0 x1
  go_wp2_with fail
  exact bodyPost_ret (v := .tuple #[.int .i64 0, .int .i64 11]) (by simp [results, Try.results13, go_sem]) rfl ⟨rfl, HB3.out⟩
end Go.Proofs.Ytmnafocmbcgdiab
