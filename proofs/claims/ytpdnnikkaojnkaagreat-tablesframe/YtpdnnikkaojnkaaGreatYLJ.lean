import Derived.Test.YtpdnnikkaojnkaaGreatYLI
namespace Go.Proofs.YtpdnnikkaojnkaaGreat.Rt
open Go.Proofs.YtpdnnikkaojnkaaGreat Go.ChangeShapes Go.WideShapes Go.ChangeAt Go.RowKit Go.Maps Tri N
set_option maxHeartbeats 8000000
set_option maxRecDepth 100000
theorem eq6 (m : Mc) (u : World) : (Op.equalIn 9999 40 (.agg #[.int .u8 (m.b0 : Int), .int .u8 (m.b1 : Int), .int .u8 (m.b2 : Int), .int .u8 (m.b3 : Int), .int .u8 (m.b4 : Int), .int .u8 (m.b5 : Int)]) (.agg #[.int .u8 (m.b0 : Int), .int .u8 (m.b1 : Int), .int .u8 (m.b2 : Int), .int .u8 (m.b3 : Int), .int .u8 (m.b4 : Int), .int .u8 (m.b5 : Int)])).run Tryz.prog u = .ok true u := by
 have h5 : Tryz.prog.underlying 5 = some (.int .u8) := by kernel_rfl
 have hsz : (sizeOf 5).run Tryz.prog u = .ok 1 u := by kernel_rfl
 have hi : ∀ (x : Int) (w : World), (Op.equalIn 9998 5 (.int .u8 x) (.int .u8 x)).run Tryz.prog w = .ok true w := fun x w => by
  have := run_equalIn_int (P := Tryz.prog) w 9997 5 .u8 .u8 x x h5
  simpa using this
 rw [show (9999 : Nat) = 9998 + 1 from rfl, Op.equalIn]
 simp [run_underlying uM, hsz, part, hi, Std.Legacy.Range.forIn_eq_forIn_range', List.range', Result.andThen]
theorem dumps_any (w : World) (x1 y1 z1 x2 y2 z2 : Value) (A : List Vt) (B : List Nb) (C : List Fd) (hx1 : Own kR w 0 x1 A) (hx2 : Own kR w 0 x2 A) (hy1 : Own kN w 0 y1 B) (hy2 : Own kN w 0 y2 B) (hz1 : Own kF w 0 z1 C) (hz2 : Own kF w 0 z2 C) (hA : A.length <= 256) (hB : B.length <= 256) (hC : C.length <= 256) :
  Calls Tryz.prog 10 #[.agg #[x1, y1, z1], .agg #[x2, y2, z2]] w fun e w' => e = .returned (.bool true) /\ Below w.heap.size w w' := by
 obtain ⟨a1, n1, c1, rfl, HN1, -, -⟩ := hx1.shape
 obtain ⟨a2, n1', c2, rfl, hn, -, -⟩ := hx2.shape
 obtain rfl : n1' = n1 := by rw [hn.out, HN1.out]
 clear hn
 obtain ⟨a3, n3, c3, rfl, HN3, -, -⟩ := hy1.shape
 obtain ⟨a4, n3', c4, rfl, hn, -, -⟩ := hy2.shape
 obtain rfl : n3' = n3 := by rw [hn.out, HN3.out]
 clear hn
 obtain ⟨a5, n5, c5, rfl, HN5, -, -⟩ := hz1.shape
 obtain ⟨a6, n5', c6, rfl, hn, -, -⟩ := hz2.shape
 obtain rfl : n5' = n5 := by rw [hn.out, HN5.out]
 clear hn
 have l1 : n1' <= 256 := by rw [HN1.out]; exact hA
 have l3 : n3' <= 256 := by rw [HN3.out]; exact hB
 have l5 : n5' <= 256 := by rw [HN5.out]; exact hC
 obtain ⟨w2, HW2⟩ : ∃ w2, Hid (w2 = (w.alloc (.cells #[.slice a1 n1' c1, .slice a3 n3' c3, .slice a5 n5' c5] 51)).alloc (.cells #[.slice a2 n1' c2, .slice a4 n3' c4, .slice a6 n5' c6] 51)) := ⟨_, rfl⟩
 have hs : (w.alloc (.cells #[.slice a1 n1' c1, .slice a3 n3' c3, .slice a5 n5' c5] 51)).heap.size = w.heap.size + 1 := by simp
 have hb2 : Below w.heap.size w w2 := by rw [HW2.out]; exact (bR.alloc nL _).alloc (by rw [hs]; omega) _
 have r1 : w2.heap[w.heap.size + 1]? = some (.cells #[.slice a2 n1' c2, .slice a4 n3' c4, .slice a6 n5' c6] 51) := by rw [HW2.out, <- hs]; exact heap_alloc_new _ _
 have r0 : w2.heap[w.heap.size]? = some (.cells #[.slice a1 n1' c1, .slice a3 n3' c3, .slice a5 n5' c5] 51) := by
  rw [HW2.out]
  exact below_keeps (bR.alloc nL _) (heap_alloc_new w _) (by rw [hs]; omega)
 have HX1 := hid (hx1.below hb2)
 have HX2 := hid (hx2.below hb2)
 have HY1 := hid (hy1.below hb2)
 have HY2 := hid (hy2.below hb2)
 have HZ1 := hid (hz1.below hb2)
 have HZ2 := hid (hz2.below hb2)
 have HB := hid hb2
 have R0 : Hid (∀ t : Beh w2, t.wd.heap[w.heap.size]? = some (.cells #[.slice a1 n1' c1, .slice a3 n3' c3, .slice a5 n5' c5] 51)) := fun t => below_keeps t.ok r0 (gsl r0)
 have R1 : Hid (∀ t : Beh w2, t.wd.heap[w.heap.size + 1]? = some (.cells #[.slice a2 n1' c2, .slice a4 n3' c4, .slice a6 n5' c6] 51)) := fun t => below_keeps t.ok r1 (gsl r1)
 have b0 : w2.cell? ⟨w.heap.size, 0, none⟩ = some (.slice a1 n1' c1) := crw r0 rfl
 have b1 : w2.cell? ⟨w.heap.size, 1, none⟩ = some (.slice a3 n3' c3) := crw r0 rfl
 have b2 : w2.cell? ⟨w.heap.size, 2, none⟩ = some (.slice a5 n5' c5) := crw r0 rfl
 have b3 : w2.cell? ⟨w.heap.size + 1, 0, none⟩ = some (.slice a2 n1' c2) := crw r1 rfl
 have b4 : w2.cell? ⟨w.heap.size + 1, 1, none⟩ = some (.slice a4 n3' c4) := crw r1 rfl
 have b5 : w2.cell? ⟨w.heap.size + 1, 2, none⟩ = some (.slice a6 n5' c6) := crw r1 rfl
 clear hx1 hx2 hy1 hy2 hz1 hz2 hA hB hC hs hb2 r0 r1
 go_enter Tryz.func10, Tryz.ntmps10
 go_upto_region 1 with fail
 rw [<- HW2.out]
 clear HW2
 go_upto_region 3 with fail
 clear b0 b1 b2 b3 b4 b5
 have HTT : Hid (∃ t : Beh w2, t.wd = w2) := ⟨⟨w2, bR⟩, rfl⟩
 obtain ⟨t0, ht0⟩ := HTT.out
 rw [<- ht0]
 clear ht0 HTT
 go_upto_region 4 with fail
 go_loopw [5] (fun i wr => ∃ (j : Nat) (t : Beh w2), i = .int .i64 (j : Int) /\ j <= n1' /\ wr = t.wd) (fun i _ => n1' - (intOf i).toNat)
 case atStart => exact ⟨0, t0, rfl, Nat.zero_le _, rfl⟩
 case round =>
 obtain ⟨j, t, rfl, hj, rfl⟩ := hrel
 have m0 : t.wd.cell? ⟨w.heap.size, 0, none⟩ = some (.slice a1 n1' c1) := by rw [cell_of_row _ _ _ _ _ _ (R0.out t)]; rfl
 by_cases hlt : j < n1'
 ·have hlt' : (j : Int) < (n1' : Int) := int_lt hlt
  have hj0 : (0 : Int) <= (j : Int) := by omega
  obtain ⟨e, HX⟩ : ∃ e, Hid (A[j]? = some e) := ⟨_, hid (List.getElem?_eq_getElem (by have := HN1.out; omega))⟩
  obtain ⟨g1, rfl, hg1, hcl1⟩ := cellsR HX1.out HX.out
  obtain ⟨g2, rfl, hg2, hcl2⟩ := cellsR HX2.out HX.out
  have bt : ∀ t2 : Beh t.wd, Below w2.heap.size w2 t2.wd := fun t2 => t.ok.trans (t2.ok.mono t.ok.size)
  have k0 : ∀ t2 : Beh t.wd, t2.wd.cell? ⟨w.heap.size, 0, none⟩ = some (.slice (some ⟨g1, 0, none⟩) n1' c1) := fun t2 => by rw [cell_of_row _ _ _ _ _ _ (R0.out ⟨t2.wd, bt t2⟩)]; rfl
  have k1 : ∀ t2 : Beh t.wd, t2.wd.cell? ⟨w.heap.size + 1, 0, none⟩ = some (.slice (some ⟨g2, 0, none⟩) n1' c2) := fun t2 => by rw [cell_of_row _ _ _ _ _ _ (R1.out ⟨t2.wd, bt t2⟩)]; rfl
  have p0 : ∀ t2 : Beh t.wd, t2.wd.cell? ⟨g1, j * 4, none⟩ = some (.int .u32 (e.x : Int)) := fun t2 => (hcl1 t2.wd ((bt t2).block g1 hg1)).1
  have q0 : ∀ t2 : Beh t.wd, t2.wd.cell? ⟨g2, j * 4, none⟩ = some (.int .u32 (e.x : Int)) := fun t2 => (hcl2 t2.wd ((bt t2).block g2 hg2)).1
  have p1 : ∀ t2 : Beh t.wd, t2.wd.cell? ⟨g1, j * 4 + 1, none⟩ = some (.int .i64 e.n) := fun t2 => (hcl1 t2.wd ((bt t2).block g1 hg1)).2.1
  have q1 : ∀ t2 : Beh t.wd, t2.wd.cell? ⟨g2, j * 4 + 1, none⟩ = some (.int .i64 e.n) := fun t2 => (hcl2 t2.wd ((bt t2).block g2 hg2)).2.1
  have p2 : ∀ t2 : Beh t.wd, t2.wd.cell? ⟨g1, j * 4 + 2, none⟩ = some (.int .u32 (e.via : Int)) := fun t2 => (hcl1 t2.wd ((bt t2).block g1 hg1)).2.2.1
  have q2 : ∀ t2 : Beh t.wd, t2.wd.cell? ⟨g2, j * 4 + 2, none⟩ = some (.int .u32 (e.via : Int)) := fun t2 => (hcl2 t2.wd ((bt t2).block g2 hg2)).2.2.1
  have p3 : ∀ t2 : Beh t.wd, t2.wd.cell? ⟨g1, j * 4 + 3, none⟩ = some (.bool e.loc) := fun t2 => (hcl1 t2.wd ((bt t2).block g1 hg1)).2.2.2
  have q3 : ∀ t2 : Beh t.wd, t2.wd.cell? ⟨g2, j * 4 + 3, none⟩ = some (.bool e.loc) := fun t2 => (hcl2 t2.wd ((bt t2).block g2 hg2)).2.2.2
  clear hcl1 hcl2 hg1 hg2
  go_upto_region 6 with fail
  refine wp_region_beh (by kernel_rfl) (by kernel_rfl) ?_
  repeat (go_big_quiet_step (fail))
  refine wpQuiet_nil ?_
  rintro _ ⟨t2, rfl⟩
  have HB2 : Hid (Below w2.heap.size w2 t2.wd) := bt t2
  clear p0 q0 p1 q1 p2 q2 p3 q3 k0 k1 m0 bt
  go_wp2_with fail
  go_roundw
  case rel => exact ⟨j + 1, ⟨t2.wd, HB2.out⟩, by go_num, hlt, rfl⟩
  case measure => simp [intOf]; omega
 ·have hlt' : ¬ (j : Int) < (n1' : Int) := int_nlt hlt
  clear hlt hj
  go_upto_region 9 with fail
  go_loopw [6] (fun i wr => ∃ (j : Nat) (t : Beh w2), i = .int .i64 (j : Int) /\ j <= n3' /\ wr = t.wd) (fun i _ => n3' - (intOf i).toNat)
  case atStart => exact ⟨0, t, rfl, Nat.zero_le _, rfl⟩
  case round =>
  obtain ⟨j, t, rfl, hj, rfl⟩ := hrel
  have m0 : t.wd.cell? ⟨w.heap.size, 1, none⟩ = some (.slice a3 n3' c3) := by rw [cell_of_row _ _ _ _ _ _ (R0.out t)]; rfl
  by_cases hlt : j < n3'
  ·have hlt' : (j : Int) < (n3' : Int) := int_lt hlt
   have hj0 : (0 : Int) <= (j : Int) := by omega
   obtain ⟨e, HX⟩ : ∃ e, Hid (B[j]? = some e) := ⟨_, hid (List.getElem?_eq_getElem (by have := HN3.out; omega))⟩
   obtain ⟨g1, rfl, hg1, hcl1⟩ := cellsN HY1.out HX.out
   obtain ⟨g2, rfl, hg2, hcl2⟩ := cellsN HY2.out HX.out
   have bt : ∀ t2 : Beh t.wd, Below w2.heap.size w2 t2.wd := fun t2 => t.ok.trans (t2.ok.mono t.ok.size)
   have k0 : ∀ t2 : Beh t.wd, t2.wd.cell? ⟨w.heap.size, 1, none⟩ = some (.slice (some ⟨g1, 0, none⟩) n3' c3) := fun t2 => by rw [cell_of_row _ _ _ _ _ _ (R0.out ⟨t2.wd, bt t2⟩)]; rfl
   have k1 : ∀ t2 : Beh t.wd, t2.wd.cell? ⟨w.heap.size + 1, 1, none⟩ = some (.slice (some ⟨g2, 0, none⟩) n3' c4) := fun t2 => by rw [cell_of_row _ _ _ _ _ _ (R1.out ⟨t2.wd, bt t2⟩)]; rfl
   have p0 : ∀ t2 : Beh t.wd, t2.wd.cell? ⟨g1, j * 7, none⟩ = some (.int .u32 (e.ip : Int)) := fun t2 => (hcl1 t2.wd ((bt t2).block g1 hg1)).2.2.2.2.2.2
   have q0 : ∀ t2 : Beh t.wd, t2.wd.cell? ⟨g2, j * 7, none⟩ = some (.int .u32 (e.ip : Int)) := fun t2 => (hcl2 t2.wd ((bt t2).block g2 hg2)).2.2.2.2.2.2
   have p1 : ∀ t2 : Beh t.wd, t2.wd.cell? ⟨g1, j * 7 + 1, none⟩ = some (.int .u8 (e.mac.b0 : Int)) := fun t2 => (hcl1 t2.wd ((bt t2).block g1 hg1)).1
   have q1 : ∀ t2 : Beh t.wd, t2.wd.cell? ⟨g2, j * 7 + 1, none⟩ = some (.int .u8 (e.mac.b0 : Int)) := fun t2 => (hcl2 t2.wd ((bt t2).block g2 hg2)).1
   have p2 : ∀ t2 : Beh t.wd, t2.wd.cell? ⟨g1, j * 7 + 2, none⟩ = some (.int .u8 (e.mac.b1 : Int)) := fun t2 => (hcl1 t2.wd ((bt t2).block g1 hg1)).2.1
   have q2 : ∀ t2 : Beh t.wd, t2.wd.cell? ⟨g2, j * 7 + 2, none⟩ = some (.int .u8 (e.mac.b1 : Int)) := fun t2 => (hcl2 t2.wd ((bt t2).block g2 hg2)).2.1
   have p3 : ∀ t2 : Beh t.wd, t2.wd.cell? ⟨g1, j * 7 + 3, none⟩ = some (.int .u8 (e.mac.b2 : Int)) := fun t2 => (hcl1 t2.wd ((bt t2).block g1 hg1)).2.2.1
   have q3 : ∀ t2 : Beh t.wd, t2.wd.cell? ⟨g2, j * 7 + 3, none⟩ = some (.int .u8 (e.mac.b2 : Int)) := fun t2 => (hcl2 t2.wd ((bt t2).block g2 hg2)).2.2.1
   have p4 : ∀ t2 : Beh t.wd, t2.wd.cell? ⟨g1, j * 7 + 4, none⟩ = some (.int .u8 (e.mac.b3 : Int)) := fun t2 => (hcl1 t2.wd ((bt t2).block g1 hg1)).2.2.2.1
   have q4 : ∀ t2 : Beh t.wd, t2.wd.cell? ⟨g2, j * 7 + 4, none⟩ = some (.int .u8 (e.mac.b3 : Int)) := fun t2 => (hcl2 t2.wd ((bt t2).block g2 hg2)).2.2.2.1
   have p5 : ∀ t2 : Beh t.wd, t2.wd.cell? ⟨g1, j * 7 + 5, none⟩ = some (.int .u8 (e.mac.b4 : Int)) := fun t2 => (hcl1 t2.wd ((bt t2).block g1 hg1)).2.2.2.2.1
   have q5 : ∀ t2 : Beh t.wd, t2.wd.cell? ⟨g2, j * 7 + 5, none⟩ = some (.int .u8 (e.mac.b4 : Int)) := fun t2 => (hcl2 t2.wd ((bt t2).block g2 hg2)).2.2.2.2.1
   have p6 : ∀ t2 : Beh t.wd, t2.wd.cell? ⟨g1, j * 7 + 6, none⟩ = some (.int .u8 (e.mac.b5 : Int)) := fun t2 => (hcl1 t2.wd ((bt t2).block g1 hg1)).2.2.2.2.2.1
   have q6 : ∀ t2 : Beh t.wd, t2.wd.cell? ⟨g2, j * 7 + 6, none⟩ = some (.int .u8 (e.mac.b5 : Int)) := fun t2 => (hcl2 t2.wd ((bt t2).block g2 hg2)).2.2.2.2.2.1
   have heq := eq6 e.mac
   clear hcl1 hcl2 hg1 hg2
   go_upto_region 11 with fail
   refine wp_region_beh (by kernel_rfl) (by kernel_rfl) ?_
   repeat (go_big_quiet_step (fail))
   refine wpQuiet_nil ?_
   rintro _ ⟨t2, rfl⟩
   have HB2 : Hid (Below w2.heap.size w2 t2.wd) := bt t2
   clear p0 q0 p1 q1 p2 q2 p3 q3 p4 q4 p5 q5 p6 q6 heq k0 k1 m0 bt
   go_wp2_with fail
   go_roundw
   case rel => exact ⟨j + 1, ⟨t2.wd, HB2.out⟩, by go_num, hlt, rfl⟩
   case measure => simp [intOf]; omega
  ·have hlt' : ¬ (j : Int) < (n3' : Int) := int_nlt hlt
   clear hlt hj
   go_upto_region 14 with fail
   go_loopw [7] (fun i wr => ∃ (j : Nat) (t : Beh w2), i = .int .i64 (j : Int) /\ j <= n5' /\ wr = t.wd) (fun i _ => n5' - (intOf i).toNat)
   case atStart => exact ⟨0, t, rfl, Nat.zero_le _, rfl⟩
   case round =>
   obtain ⟨j, t, rfl, hj, rfl⟩ := hrel
   have m0 : t.wd.cell? ⟨w.heap.size, 2, none⟩ = some (.slice a5 n5' c5) := by rw [cell_of_row _ _ _ _ _ _ (R0.out t)]; rfl
   by_cases hlt : j < n5'
   ·have hlt' : (j : Int) < (n5' : Int) := int_lt hlt
    have hj0 : (0 : Int) <= (j : Int) := by omega
    obtain ⟨e, HX⟩ : ∃ e, Hid (C[j]? = some e) := ⟨_, hid (List.getElem?_eq_getElem (by have := HN5.out; omega))⟩
    obtain ⟨g1, rfl, hg1, hcl1⟩ := cellsF HZ1.out HX.out
    obtain ⟨g2, rfl, hg2, hcl2⟩ := cellsF HZ2.out HX.out
    have bt : ∀ t2 : Beh t.wd, Below w2.heap.size w2 t2.wd := fun t2 => t.ok.trans (t2.ok.mono t.ok.size)
    have k0 : ∀ t2 : Beh t.wd, t2.wd.cell? ⟨w.heap.size, 2, none⟩ = some (.slice (some ⟨g1, 0, none⟩) n5' c5) := fun t2 => by rw [cell_of_row _ _ _ _ _ _ (R0.out ⟨t2.wd, bt t2⟩)]; rfl
    have k1 : ∀ t2 : Beh t.wd, t2.wd.cell? ⟨w.heap.size + 1, 2, none⟩ = some (.slice (some ⟨g2, 0, none⟩) n5' c6) := fun t2 => by rw [cell_of_row _ _ _ _ _ _ (R1.out ⟨t2.wd, bt t2⟩)]; rfl
    have p0 : ∀ t2 : Beh t.wd, t2.wd.cell? ⟨g1, j * 7, none⟩ = some (.int .u8 (e.mac.b0 : Int)) := fun t2 => (hcl1 t2.wd ((bt t2).block g1 hg1)).1
    have q0 : ∀ t2 : Beh t.wd, t2.wd.cell? ⟨g2, j * 7, none⟩ = some (.int .u8 (e.mac.b0 : Int)) := fun t2 => (hcl2 t2.wd ((bt t2).block g2 hg2)).1
    have p1 : ∀ t2 : Beh t.wd, t2.wd.cell? ⟨g1, j * 7 + 1, none⟩ = some (.int .u8 (e.mac.b1 : Int)) := fun t2 => (hcl1 t2.wd ((bt t2).block g1 hg1)).2.1
    have q1 : ∀ t2 : Beh t.wd, t2.wd.cell? ⟨g2, j * 7 + 1, none⟩ = some (.int .u8 (e.mac.b1 : Int)) := fun t2 => (hcl2 t2.wd ((bt t2).block g2 hg2)).2.1
    have p2 : ∀ t2 : Beh t.wd, t2.wd.cell? ⟨g1, j * 7 + 2, none⟩ = some (.int .u8 (e.mac.b2 : Int)) := fun t2 => (hcl1 t2.wd ((bt t2).block g1 hg1)).2.2.1
    have q2 : ∀ t2 : Beh t.wd, t2.wd.cell? ⟨g2, j * 7 + 2, none⟩ = some (.int .u8 (e.mac.b2 : Int)) := fun t2 => (hcl2 t2.wd ((bt t2).block g2 hg2)).2.2.1
    have p3 : ∀ t2 : Beh t.wd, t2.wd.cell? ⟨g1, j * 7 + 3, none⟩ = some (.int .u8 (e.mac.b3 : Int)) := fun t2 => (hcl1 t2.wd ((bt t2).block g1 hg1)).2.2.2.1
    have q3 : ∀ t2 : Beh t.wd, t2.wd.cell? ⟨g2, j * 7 + 3, none⟩ = some (.int .u8 (e.mac.b3 : Int)) := fun t2 => (hcl2 t2.wd ((bt t2).block g2 hg2)).2.2.2.1
    have p4 : ∀ t2 : Beh t.wd, t2.wd.cell? ⟨g1, j * 7 + 4, none⟩ = some (.int .u8 (e.mac.b4 : Int)) := fun t2 => (hcl1 t2.wd ((bt t2).block g1 hg1)).2.2.2.2.1
    have q4 : ∀ t2 : Beh t.wd, t2.wd.cell? ⟨g2, j * 7 + 4, none⟩ = some (.int .u8 (e.mac.b4 : Int)) := fun t2 => (hcl2 t2.wd ((bt t2).block g2 hg2)).2.2.2.2.1
    have p5 : ∀ t2 : Beh t.wd, t2.wd.cell? ⟨g1, j * 7 + 5, none⟩ = some (.int .u8 (e.mac.b5 : Int)) := fun t2 => (hcl1 t2.wd ((bt t2).block g1 hg1)).2.2.2.2.2.1
    have q5 : ∀ t2 : Beh t.wd, t2.wd.cell? ⟨g2, j * 7 + 5, none⟩ = some (.int .u8 (e.mac.b5 : Int)) := fun t2 => (hcl2 t2.wd ((bt t2).block g2 hg2)).2.2.2.2.2.1
    have p6 : ∀ t2 : Beh t.wd, t2.wd.cell? ⟨g1, j * 7 + 6, none⟩ = some (.int .u32 (e.dest : Int)) := fun t2 => (hcl1 t2.wd ((bt t2).block g1 hg1)).2.2.2.2.2.2
    have q6 : ∀ t2 : Beh t.wd, t2.wd.cell? ⟨g2, j * 7 + 6, none⟩ = some (.int .u32 (e.dest : Int)) := fun t2 => (hcl2 t2.wd ((bt t2).block g2 hg2)).2.2.2.2.2.2
    have heq := eq6 e.mac
    clear hcl1 hcl2 hg1 hg2
    go_upto_region 16 with fail
    refine wp_region_beh (by kernel_rfl) (by kernel_rfl) ?_
    repeat (go_big_quiet_step (fail))
    refine wpQuiet_nil ?_
    rintro _ ⟨t2, rfl⟩
    have HB2 : Hid (Below w2.heap.size w2 t2.wd) := bt t2
    clear p0 q0 p1 q1 p2 q2 p3 q3 p4 q4 p5 q5 p6 q6 heq k0 k1 m0 bt
    go_wp2_with fail
    go_roundw
    case rel => exact ⟨j + 1, ⟨t2.wd, HB2.out⟩, by go_num, hlt, rfl⟩
    case measure => simp [intOf]; omega
   ·have hlt' : ¬ (j : Int) < (n5' : Int) := int_nlt hlt
    clear hlt hj
    have HF : Hid (Below w.heap.size w t.wd) := HB.out.trans (t.ok.mono HB.out.size)
    go_wp2_with fail
    go_ret
    exact ⟨rfl, HF.out⟩
end Go.Proofs.YtpdnnikkaojnkaaGreat.Rt
