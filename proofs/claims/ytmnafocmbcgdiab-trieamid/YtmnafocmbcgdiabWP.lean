/-
  begun.
-/
import Derived.Test.YtmnafocmbcgdiabWO
namespace Go.Proofs.Ytmnafocmbcgdiab
open Go.ChangeShapes Go.WideShapes Go.ChangeAt Go.RowKit Tri N
set_option maxHeartbeats 1000000
set_option maxRecDepth 100000

def ten : K := ⟨167772160, 8⟩
theorem ten_ok : ten.Ok := ⟨by decide, by decide, by decide⟩

theorem trie_new (w : World) : TrieAt (w.alloc (.cells #[.pointer none] 50)) (fun b => b = w.heap.size) w.heap.size .nil :=
  ⟨rfl, fun b hb => by subst hb; simp, ⟨.nil, heap_alloc_new w _, rfl, trivial⟩, trivial⟩

theorem begun_any (w : World) : Calls Try.prog 28 #[] w fun e w' => e = .returned (.bool true) ∧ Below w.heap.size w w' := by
  have HN := hid (new_any w)
  go_enter Try.func28, Try.ntmps28
  go_wp2_with fail
  refine HN.out.mono ?_
  rintro _ w1 ⟨rfl, hw1⟩
  have hT1 : TrieAt w1 (fun b => b = w.heap.size) w.heap.size .nil := by rw [hw1]; exact trie_new w
  have HB1 : Hid (Below w.heap.size w w1) := by rw [hw1]; exact (Below.refl _ _).alloc (Nat.le_refl _) _
  have HT1 := hid hT1
  clear hw1 hT1
  obtain ⟨w2, hw2⟩ : ∃ w2, w2 = w1.alloc (.cells #[.int .u32 167772160, .int .i64 8] 31) := ⟨_, rfl⟩
  have HW2 := hid hw2
  have hb2 : Below w1.heap.size w1 w2 := by rw [hw2]; exact (Below.refl _ _).alloc (Nat.le_refl _) _
  have r2 : w2.heap[w1.heap.size]? = some (.cells #[.int .u32 167772160, .int .i64 8] 31) := by rw [hw2]; exact heap_alloc_new w1 _
  have x0 : w2.cell? ⟨w1.heap.size, 0, none⟩ = some (.int .u32 167772160) := by rw [cell_of_row _ _ _ _ _ _ r2]; rfl
  have x1 : w2.cell? ⟨w1.heap.size, 1, none⟩ = some (.int .i64 8) := by rw [cell_of_row _ _ _ _ _ _ r2]; rfl
  have HP := hid (put_any ten 7 w2 (HT1.out.grow hb2) ten_ok)
  have HB2 := hid (HB1.out.trans (hb2.mono HB1.out.size))
  have HNE : Hid (w1.heap.size ≠ w.heap.size) := by
    have := HT1.out.lt _ rfl
    unfold Hid; omega
  have R2 := hid r2
  unfold pv at HP
  change Hid (Calls _ _ #[_, .agg #[.int .u32 167772160, .int .i64 8], _] _ _) at HP
  clear hw2 hb2 r2
  go_upto_region 5 with fail
  rw [← HW2.out]
  go_wp2_with fail
  refine HP.out.mono ?_
  rintro _ w3 ⟨rfl, hT3, hc3⟩
  have r3 := (hc3.block w1.heap.size (Array.getElem?_eq_some_iff.1 R2.out).1 HNE.out).trans R2.out
  have HF := hid (find_any 167772169 w3 hT3)
  rw [show find (hang .nil ten (some 7)) 167772169 = some (ten, 7) by decide] at HF
  have HT3 := hid hT3
  have HC3 : Hid (Chg (fun b => b = w.heap.size) w w3) := (Chg.of_below HB2.out).trans hc3
  have R3 := hid r3
  unfold findV pv at HF
  change Hid (Calls _ _ #[_, .int .u32 167772169] _ (fun e w' => e = .returned (.tuple #[.agg #[.int .u32 167772160, .int .i64 8], .int .i64 7, .int .i64 0]) ∧ _)) at HF
  clear r3 hc3 hT3 x0 x1
  go_wp2_with fail
  refine HF.out.mono ?_
  rintro _ w4 ⟨rfl, hb4⟩
  obtain ⟨w5, hw5⟩ : ∃ w5, w5 = w4.alloc (.cells #[.int .u32 167772160, .int .i64 8] 31) := ⟨_, rfl⟩
  have HW5 := hid hw5
  have hb5 : Below w4.heap.size w4 w5 := by rw [hw5]; exact (Below.refl _ _).alloc (Nat.le_refl _) _
  have r5q : w5.heap[w4.heap.size]? = some (.cells #[.int .u32 167772160, .int .i64 8] 31) := by rw [hw5]; exact heap_alloc_new w4 _
  have hb35 : Below w3.heap.size w3 w5 := hb4.trans (hb5.mono hb4.size)
  have r5p := below_keeps hb35 R3.out (Array.getElem?_eq_some_iff.1 R3.out).1
  have x0 : w5.cell? ⟨w1.heap.size, 0, none⟩ = some (.int .u32 167772160) := by rw [cell_of_row _ _ _ _ _ _ r5p]; rfl
  have x1 : w5.cell? ⟨w1.heap.size, 1, none⟩ = some (.int .i64 8) := by rw [cell_of_row _ _ _ _ _ _ r5p]; rfl
  have hT5 := HT3.out.grow hb35
  have HG := hid (get_any ten w5 hT5 ten_ok)
  rw [show lookT (hang .nil ten (some 7)) ten = some 7 by decide] at HG
  unfold getV pv at HG
  change Hid (Calls _ _ #[_, .agg #[.int .u32 167772160, .int .i64 8]] _ (fun e w' => e = .returned (.tuple #[.int .i64 7, .int .i64 0]) ∧ _)) at HG
  have HT5 := hid hT5
  have HC5 : Hid (Chg (fun b => b = w.heap.size) w w5) := HC3.out.trans (Chg.of_below hb35)
  have R5p := hid r5p
  have R5q := hid r5q
  clear hw5 hb4 hb5 hb35 r5p r5q hT5
  go_upto_region 7 with fail
  rw [← HW5.out]
  go_wp2_with fail
  refine HG.out.mono ?_
  rintro _ w6 ⟨rfl, hb6⟩
  have r6p := below_keeps hb6 R5p.out (Array.getElem?_eq_some_iff.1 R5p.out).1
  have r6q := below_keeps hb6 R5q.out (Array.getElem?_eq_some_iff.1 R5q.out).1
  have x0 : w6.cell? ⟨w1.heap.size, 0, none⟩ = some (.int .u32 167772160) := by rw [cell_of_row _ _ _ _ _ _ r6p]; rfl
  have x1 : w6.cell? ⟨w1.heap.size, 1, none⟩ = some (.int .i64 8) := by rw [cell_of_row _ _ _ _ _ _ r6p]; rfl
  have y0 : w6.cell? ⟨w4.heap.size, 0, none⟩ = some (.int .u32 167772160) := by rw [cell_of_row _ _ _ _ _ _ r6q]; rfl
  have y1 : w6.cell? ⟨w4.heap.size, 1, none⟩ = some (.int .i64 8) := by rw [cell_of_row _ _ _ _ _ _ r6q]; rfl
  have HT6 := hid (HT5.out.grow hb6)
  have HC6 : Hid (Chg (fun b => b = w.heap.size) w w6) := HC5.out.trans (Chg.of_below hb6)
  clear hb6 r6p r6q
  have hq : ∀ u : World, (Op.equalIn 10000 31 (.agg #[.int .u32 167772160, .int .i64 8]) (.agg #[.int .u32 167772160, .int .i64 8])).run Try.prog u = .ok true u := fun u => (eqK ten ten u).trans (by simp)
  have HL := hid (len_any w6 HT6.out)
  rw [show vals (hang .nil ten (some 7)) = 1 by decide] at HL
  go_wp2_with fail
  refine HL.out.mono ?_
  rintro _ w7 ⟨rfl, hb7⟩
  have HT7 := hid (HT6.out.grow hb7)
  have HC7 : Hid (Chg (fun b => b = w.heap.size) w w7) := HC6.out.trans (Chg.of_below hb7)
  have HM := hid (nodes_any w7 HT7.out)
  rw [show nodes (hang .nil ten (some 7)) = 1 by decide] at HM
  clear hb7 x0 x1 y0 y1
  go_wp2_with fail
  refine HM.out.mono ?_
  rintro _ w8 ⟨rfl, hb8⟩
  have HC8 : Hid (Chg (fun b => b = w.heap.size) w w8) := HC7.out.trans (Chg.of_below hb8)
  clear hb8
  go_wp2_with fail
  go_ret
  exact ⟨rfl, HC8.out.os, HC8.out.tape, HC8.out.output, HC8.out.size, fun j hj => HC8.out.block j hj (fun e => by omega)⟩
end Go.Proofs.Ytmnafocmbcgdiab
