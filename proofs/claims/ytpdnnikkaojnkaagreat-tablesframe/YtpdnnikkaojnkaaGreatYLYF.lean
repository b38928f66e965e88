import Derived.Test.YtpdnnikkaojnkaaGreatYLY
namespace Go.Proofs.YtpdnnikkaojnkaaGreat.Rt
open Go.Proofs.YtpdnnikkaojnkaaGreat Go.ChangeShapes Go.WideShapes Go.ChangeAt Go.RowKit Go.Maps Tri N
set_option maxHeartbeats 4000000
set_option maxRecDepth 100000
theorem eqMb (a0 a1 a2 a3 a4 a5 c0 c1 c2 c3 c4 c5 : Int) (u : World) : (Op.equalIn 10000 40 (.agg #[.int .u8 a0, .int .u8 a1, .int .u8 a2, .int .u8 a3, .int .u8 a4, .int .u8 a5]) (.agg #[.int .u8 c0, .int .u8 c1, .int .u8 c2, .int .u8 c3, .int .u8 c4, .int .u8 c5])).run Tryz.prog u = .ok (decide (a0 = c0) && decide (a1 = c1) && decide (a2 = c2) && decide (a3 = c3) && decide (a4 = c4) && decide (a5 = c5)) u := by
 have h5 : Tryz.prog.underlying 5 = some (.int .u8) := by kernel_rfl
 have hsz : (sizeOf 5).run Tryz.prog u = .ok 1 u := by kernel_rfl
 have hi : ∀ (x y : Int) (w : World), (Op.equalIn 9999 5 (.int .u8 x) (.int .u8 y)).run Tryz.prog w = .ok (decide (x = y)) w := fun x y w => by
  have h := run_equalIn_int (P := Tryz.prog) w 9998 5 .u8 .u8 x y h5
  rw [show decide (x = y) = (x == y) from (by by_cases e : x = y <;> simp [e])]
  simpa using h
 rw [show (10000 : Nat) = 9999 + 1 from rfl, Op.equalIn]
 generalize h0 : decide (a0 = c0) = b0
 generalize h1 : decide (a1 = c1) = b1
 generalize h2 : decide (a2 = c2) = b2
 generalize h3 : decide (a3 = c3) = b3
 generalize h4 : decide (a4 = c4) = b4
 generalize h6 : decide (a5 = c5) = b5
 have i0 : ∀ w : World, (Op.equalIn 9999 5 (.int .u8 a0) (.int .u8 c0)).run Tryz.prog w = .ok b0 w := fun w => (hi a0 c0 w).trans (by rw [h0])
 have i1 : ∀ w : World, (Op.equalIn 9999 5 (.int .u8 a1) (.int .u8 c1)).run Tryz.prog w = .ok b1 w := fun w => (hi a1 c1 w).trans (by rw [h1])
 have i2 : ∀ w : World, (Op.equalIn 9999 5 (.int .u8 a2) (.int .u8 c2)).run Tryz.prog w = .ok b2 w := fun w => (hi a2 c2 w).trans (by rw [h2])
 have i3 : ∀ w : World, (Op.equalIn 9999 5 (.int .u8 a3) (.int .u8 c3)).run Tryz.prog w = .ok b3 w := fun w => (hi a3 c3 w).trans (by rw [h3])
 have i4 : ∀ w : World, (Op.equalIn 9999 5 (.int .u8 a4) (.int .u8 c4)).run Tryz.prog w = .ok b4 w := fun w => (hi a4 c4 w).trans (by rw [h4])
 have i5 : ∀ w : World, (Op.equalIn 9999 5 (.int .u8 a5) (.int .u8 c5)).run Tryz.prog w = .ok b5 w := fun w => (hi a5 c5 w).trans (by rw [h6])
 clear hi h0 h1 h2 h3 h4 h6
 cases b0 <;> cases b1 <;> cases b2 <;> cases b3 <;> cases b4 <;> cases b5 <;> simp [run_underlying uM, hsz, part, i0, i1, i2, i3, i4, i5, Std.Legacy.Range.forIn_eq_forIn_range', List.range', Result.andThen]
theorem eqM_t (m : Mc) (u : World) : (Op.equalIn 10000 40 (.agg #[.int .u8 (m.b0 : Int), .int .u8 (m.b1 : Int), .int .u8 (m.b2 : Int), .int .u8 (m.b3 : Int), .int .u8 (m.b4 : Int), .int .u8 (m.b5 : Int)]) (.agg #[.int .u8 (m.b0 : Int), .int .u8 (m.b1 : Int), .int .u8 (m.b2 : Int), .int .u8 (m.b3 : Int), .int .u8 (m.b4 : Int), .int .u8 (m.b5 : Int)])).run Tryz.prog u = .ok true u := by
 rw [eqMb]
 simp
theorem eqM_f {m q : Mc} (h : m ≠ q) (u : World) : (Op.equalIn 10000 40 (.agg #[.int .u8 (m.b0 : Int), .int .u8 (m.b1 : Int), .int .u8 (m.b2 : Int), .int .u8 (m.b3 : Int), .int .u8 (m.b4 : Int), .int .u8 (m.b5 : Int)]) (.agg #[.int .u8 (q.b0 : Int), .int .u8 (q.b1 : Int), .int .u8 (q.b2 : Int), .int .u8 (q.b3 : Int), .int .u8 (q.b4 : Int), .int .u8 (q.b5 : Int)])).run Tryz.prog u = .ok false u := by
 rw [eqMb]
 have : ¬ ((m.b0 : Int) = q.b0 /\ (m.b1 : Int) = q.b1 /\ (m.b2 : Int) = q.b2 /\ (m.b3 : Int) = q.b3 /\ (m.b4 : Int) = q.b4 /\ (m.b5 : Int) = q.b5) := fun ⟨h0, h1, h2, h3, h4, h5⟩ => h (by
  cases m
  cases q
  simp only [Mc.mk.injEq] at *
  omega)
 congr 1
 rw [Bool.eq_false_iff]
 intro hh
 simp only [Bool.and_eq_true, decide_eq_true_eq, and_assoc] at hh
 exact this hh
theorem fdbT_any (w : World) (x y z : Value) {C : List Fd} (q : Mc) (h : Own kF w 0 z C) (hl : C.length <= 256) :
  Calls Tryz.prog 59 #[.agg #[x, y, z], .agg #[.int .u8 (q.b0 : Int), .int .u8 (q.b1 : Int), .int .u8 (q.b2 : Int), .int .u8 (q.b3 : Int), .int .u8 (q.b4 : Int), .int .u8 (q.b5 : Int)]] w fun e w' => e = .returned (.int .i64 (pz (ix Fd.mac C q))) /\ Below w.heap.size w w' := by
 obtain ⟨av, nv, cv, rfl, HN, hnc, -⟩ := h.shape
 obtain ⟨w1, HW1⟩ : ∃ w1, Hid (w1 = (w.alloc (.cells #[x, y, .slice av nv cv] 51)).alloc (.cells #[.int .u8 (q.b0 : Int), .int .u8 (q.b1 : Int), .int .u8 (q.b2 : Int), .int .u8 (q.b3 : Int), .int .u8 (q.b4 : Int), .int .u8 (q.b5 : Int)] 40)) := ⟨_, rfl⟩
 have hz : (w.alloc (.cells #[x, y, .slice av nv cv] 51)).heap.size = w.heap.size + 1 := by simp
 have hb1 : Below w.heap.size w w1 := by rw [HW1.out]; exact (bR.alloc nL _).alloc (by rw [hz]; omega) _
 have r1 : w1.heap[w.heap.size + 1]? = some (.cells #[.int .u8 (q.b0 : Int), .int .u8 (q.b1 : Int), .int .u8 (q.b2 : Int), .int .u8 (q.b3 : Int), .int .u8 (q.b4 : Int), .int .u8 (q.b5 : Int)] 40) := by rw [HW1.out, <- hz]; exact heap_alloc_new _ _
 have r0 : w1.heap[w.heap.size]? = some (.cells #[x, y, .slice av nv cv] 51) := by
  rw [HW1.out]
  exact below_keeps (bR.alloc nL _) (heap_alloc_new w _) (by rw [hz]; omega)
 have HQC : Hid (∀ t : Beh w1, t.wd.heap[w.heap.size + 1]? = some (.cells #[.int .u8 (q.b0 : Int), .int .u8 (q.b1 : Int), .int .u8 (q.b2 : Int), .int .u8 (q.b3 : Int), .int .u8 (q.b4 : Int), .int .u8 (q.b5 : Int)] 40)) := fun t => below_keeps t.ok r1 (gsl r1)
 have HC0 : Hid (∀ t : Beh w1, t.wd.cell? ⟨w.heap.size, 2, none⟩ = some (.slice av nv cv)) := fun t => by rw [cell_of_row _ _ _ _ _ _ (below_keeps t.ok r0 (gsl r0))]; rfl
 have HO := hid (h.below hb1)
 have HB1 := hid hb1
 have hle : nv <= 256 := by have := HN.out; omega
 obtain ⟨P, HP⟩ : ∃ P, Hid (P = pz (ix Fd.mac C q)) := ⟨_, rfl⟩
 rw [<- HP.out]
 clear h hb1 r1 r0 hz
 go_enter Tryz.func59, Tryz.ntmps59
 go_upto_region 1 with fail
 rw [<- HW1.out]
 clear HW1
 go_upto_region 2 with fail
 go_loopw [5] (fun i wr => ∃ (j : Nat) (t : Beh w1), i = .int .i64 (j : Int) /\ j <= nv /\ Hid (∀ i x', i < j -> C[i]? = some x' -> x'.mac ≠ q) /\ wr = t.wd) (fun i _ => nv - (intOf i).toNat)
 case atStart => exact ⟨0, ⟨w1, bR⟩, rfl, Nat.zero_le _, fun i x hi => absurd hi (by omega), rfl⟩
 case round =>
  obtain ⟨j, t, rfl, hj, HI, rfl⟩ := hrel
  have c00 := HC0.out t
  by_cases hlt : j < nv
  ·have hlt' : (j : Int) < (nv : Int) := int_lt hlt
   have hj0 : decide ((j : Int) < 0) = false := by simp
   have hj1 : (0 : Int) <= (j : Int) := by omega
   obtain ⟨e, HX⟩ : ∃ e, Hid (C[j]? = some e) := ⟨_, hid (List.getElem?_eq_getElem (by have := HN.out; omega))⟩
   obtain ⟨g, rfl, hg, hcl⟩ := cellsF HO.out HX.out
   have ku : ∀ t2 : Beh t.wd, t2.wd.heap[g]? = w1.heap[g]? := fun t2 => (t.ok.trans (t2.ok.mono t.ok.size)).block g hg
   have k0 := fun t2 : Beh t.wd => (hcl t2.wd (ku t2)).1
   have k1 := fun t2 : Beh t.wd => (hcl t2.wd (ku t2)).2.1
   have k2 := fun t2 : Beh t.wd => (hcl t2.wd (ku t2)).2.2.1
   have k3 := fun t2 : Beh t.wd => (hcl t2.wd (ku t2)).2.2.2.1
   have k4 := fun t2 : Beh t.wd => (hcl t2.wd (ku t2)).2.2.2.2.1
   have k5 := fun t2 : Beh t.wd => (hcl t2.wd (ku t2)).2.2.2.2.2.1
   have kq : ∀ t2 : Beh t.wd, t2.wd.heap[w.heap.size + 1]? = _ := fun t2 => HQC.out ⟨t2.wd, t.ok.trans (t2.ok.mono t.ok.size)⟩
   have m0 : ∀ t2 : Beh t.wd, t2.wd.cell? ⟨w.heap.size + 1, 0, none⟩ = some (.int .u8 (q.b0 : Int)) := fun t2 => by rw [cell_of_row _ _ _ _ _ _ (kq t2)]; rfl
   have m1 : ∀ t2 : Beh t.wd, t2.wd.cell? ⟨w.heap.size + 1, 1, none⟩ = some (.int .u8 (q.b1 : Int)) := fun t2 => by rw [cell_of_row _ _ _ _ _ _ (kq t2)]; rfl
   have m2 : ∀ t2 : Beh t.wd, t2.wd.cell? ⟨w.heap.size + 1, 2, none⟩ = some (.int .u8 (q.b2 : Int)) := fun t2 => by rw [cell_of_row _ _ _ _ _ _ (kq t2)]; rfl
   have m3 : ∀ t2 : Beh t.wd, t2.wd.cell? ⟨w.heap.size + 1, 3, none⟩ = some (.int .u8 (q.b3 : Int)) := fun t2 => by rw [cell_of_row _ _ _ _ _ _ (kq t2)]; rfl
   have m4 : ∀ t2 : Beh t.wd, t2.wd.cell? ⟨w.heap.size + 1, 4, none⟩ = some (.int .u8 (q.b4 : Int)) := fun t2 => by rw [cell_of_row _ _ _ _ _ _ (kq t2)]; rfl
   have m5 : ∀ t2 : Beh t.wd, t2.wd.cell? ⟨w.heap.size + 1, 5, none⟩ = some (.int .u8 (q.b5 : Int)) := fun t2 => by rw [cell_of_row _ _ _ _ _ _ (kq t2)]; rfl
   have kc : ∀ t2 : Beh t.wd, t2.wd.cell? ⟨w.heap.size, 2, none⟩ = some (.slice (some ⟨g, 0, none⟩) nv cv) := fun t2 => HC0.out ⟨t2.wd, t.ok.trans (t2.ok.mono t.ok.size)⟩
   clear hcl hg ku kq
   by_cases hk : e.mac = q
   ·have HE : Hid (P = (j : Int)) := by unfold Hid; rw [HP.out]; exact ix_stop HI.out HX.out hk
    have heq := eqM_t q
    rw [hk] at k0 k1 k2 k3 k4 k5
    clear hk
    go_upto_region 4 with fail
    refine wp_region_beh (by kernel_rfl) (by kernel_rfl) ?_
    repeat (go_big_quiet_step (fail))
    refine wpQuiet_nil ?_
    rintro _ ⟨t2, rfl⟩
    clear k0 k1 k2 k3 k4 k5 m0 m1 m2 m3 m4 m5 kc c00 heq
    go_wp2_with fail
    go_ret
    exact ⟨ret_int HE.out.symm, HB1.out.trans ((t.ok.trans (t2.ok.mono t.ok.size)).mono HB1.out.size)⟩
   ·have HI2 : Hid (∀ i x', i < j + 1 -> C[i]? = some x' -> x'.mac ≠ q) := ahead_more HI.out HX.out hk
    have heq := eqM_f hk
    clear hk
    go_upto_region 4 with fail
    refine wp_region_beh (by kernel_rfl) (by kernel_rfl) ?_
    repeat (go_big_quiet_step (fail))
    refine wpQuiet_nil ?_
    rintro _ ⟨t2, rfl⟩
    clear k0 k1 k2 k3 k4 k5 m0 m1 m2 m3 m4 m5 kc c00 heq
    go_wp2_with fail
    go_roundw
    case rel => exact ⟨j + 1, ⟨t2.wd, t.ok.trans (t2.ok.mono t.ok.size)⟩, by go_num, hlt, HI2, rfl⟩
    case measure => simp [intOf]; omega
  ·have hlt' : ¬ (j : Int) < (nv : Int) := int_nlt hlt
   have HE : Hid (P = -1) := by unfold Hid; rw [HP.out]; exact ix_end HI.out (by have := HN.out; omega)
   have HT : Hid (Below w.heap.size w t.wd) := HB1.out.trans (t.ok.mono HB1.out.size)
   go_wp2_with fail
   go_ret
   exact ⟨ret_int HE.out.symm, HT.out⟩
end Go.Proofs.YtpdnnikkaojnkaaGreat.Rt
