import Derived.Test.YtkkfioebpppffaaGreatDoorYFlS
namespace Go.Proofs.YtkkfioebpppffaaGreatDoor.Fl
open Go.Proofs.YtkkfioebpppffaaGreatDoor Go.ChangeShapes Go.WideShapes Go.ChangeAt Go.RowKit Go.Maps N
set_option maxHeartbeats 4000000
set_option maxRecDepth 100000

def mdH (t : Tu) : Hd := ⟨0, 0, false, false, 0, 9, t.p, t.s, t.d, []⟩
def ofs (t : Tu) : List Nat := [t.sp / 256, t.sp % 256, t.dp / 256, t.dp % 256, 0, 8, 0, 0]
def mdB (t : Tu) (f : Nat) : List Nat := if t.p = 6 then ofs t ++ [0, 0, 0, 0, 80, f, 0, 0, 0, 0, 0, 0] else if t.p = 1 then [if f = 0 then 8 else 0, 0, 0, 0, t.sp / 256, t.sp % 256, 0, 1] else ofs t

theorem own_made (w : World) (base : Nat) (L : List Nat) (hb : base ≤ w.heap.size) (hL : L.length ≤ 1000) : OwnB (w.alloc (.cells (bs L).toArray 5)) base (.slice (some ⟨w.heap.size, 0, none⟩) L.length L.length) L := by
  refine ⟨by simp [bs], .inr ⟨w.heap.size, L.length, (bs L).toArray, rfl, hb, heap_alloc_new _ _, Nat.le_refl _, by unfold maxLen; omega, by simp [bs], by rw [List.take_of_length_le (by simp [bs])]⟩⟩

theorem ofs_cells (t : Tu) : (#[.int .u8 ((t.sp : Int) / 256), .int .u8 ((t.sp : Int) % 256), .int .u8 ((t.dp : Int) / 256), .int .u8 ((t.dp : Int) % 256), .int .u8 0, .int .u8 8, .int .u8 0, .int .u8 0] : Array Value) = (bs (ofs t)).toArray := by
  unfold bs ofs; simp
theorem tail_cells (f : Nat) : (#[.int .u8 0, .int .u8 0, .int .u8 0, .int .u8 0, .int .u8 80, .int .u8 (f : Int), .int .u8 0, .int .u8 0, .int .u8 0, .int .u8 0, .int .u8 0, .int .u8 0] : Array Value) = (bs [0, 0, 0, 0, 80, f, 0, 0, 0, 0, 0, 0]).toArray := by
  unfold bs; simp
theorem echo_cells (t : Tu) (x : Nat) : (#[.int .u8 (x : Int), .int .u8 0, .int .u8 0, .int .u8 0, .int .u8 ((t.sp : Int) / 256), .int .u8 ((t.sp : Int) % 256), .int .u8 0, .int .u8 1] : Array Value) = (bs [x, 0, 0, 0, t.sp / 256, t.sp % 256, 0, 1]).toArray := by
  unfold bs; simp

theorem made_any (t : Tu) (f : Nat) (w : World) (ht : t.Ok) (hf : f < 256) :
    Calls Tryz.prog 10 #[.agg t.cells, .int .u8 (f : Int)] w fun e w' => ∃ vb, e = .returned (.agg (pkCells (mdH t) (.slice none 0 0) vb)) ∧ OwnB w' w.heap.size vb (mdB t f) ∧ Below w.heap.size w w' := by
  obtain ⟨wa, HWA⟩ : ∃ wa, Hid (wa = w.alloc (.cells t.cells 37)) := ⟨_, rfl⟩
  obtain ⟨w0, HW0⟩ : ∃ w0, Hid (w0 = wa.alloc (.cells #[.int .u8 0, .int .u16 0, .bool false, .bool false, .int .i64 0, .int .u8 0, .int .u8 0, .int .u32 0, .int .u32 0, .slice none 0 0, .slice none 0 0] 35)) := ⟨_, rfl⟩
  obtain ⟨g0, HG0⟩ : ∃ g, Hid (g = w.heap.size) := ⟨_, rfl⟩
  have sa : wa.heap.size = g0 + 1 := by rw [HWA.out, HG0.out]; simp
  have s0 : w0.heap.size = g0 + 2 := by rw [HW0.out, World.size_alloc, sa]
  have ba : Below w.heap.size w wa := by rw [HWA.out]; exact (Below.refl _ _).alloc (Nat.le_refl _) _
  have bb : Below wa.heap.size wa w0 := by rw [HW0.out]; exact (Below.refl _ _).alloc (Nat.le_refl _) _
  have ra : wa.heap[g0]? = some (.cells t.cells 37 (0, 0)) := by rw [HWA.out, HG0.out]; exact heap_alloc_new w _
  have r1 : w0.heap[g0 + 1]? = some (.cells #[.int .u8 0, .int .u16 0, .bool false, .bool false, .int .i64 0, .int .u8 0, .int .u8 0, .int .u32 0, .int .u32 0, .slice none 0 0, .slice none 0 0] 35 (0, 0)) := by
    have := heap_alloc_new wa (.cells #[.int .u8 0, .int .u16 0, .bool false, .bool false, .int .i64 0, .int .u8 0, .int .u8 0, .int .u32 0, .int .u32 0, .slice none 0 0, .slice none 0 0] 35); rw [sa] at this; rw [HW0.out]; exact this
  have r0 := below_keeps bb ra (by omega)
  have hb0 : Below w.heap.size w w0 := ba.trans (bb.mono ba.size)
  have HALLOC : Hid ((w.alloc (.cells t.cells 37)).alloc (.cells #[.int .u8 0, .int .u16 0, .bool false, .bool false, .int .i64 0, .int .u8 0, .int .u8 0, .int .u32 0, .int .u32 0, .slice none 0 0, .slice none 0 0] 35) = w0) := by unfold Hid; rw [HW0.out, HWA.out]
  obtain ⟨k0, k1, k2, k3, k4⟩ : w0.cell? ⟨g0, 0, none⟩ = some (.int .u32 (t.s : Int)) ∧ w0.cell? ⟨g0, 1, none⟩ = some (.int .u32 (t.d : Int)) ∧ w0.cell? ⟨g0, 2, none⟩ = some (.int .u8 (t.p : Int)) ∧ w0.cell? ⟨g0, 3, none⟩ = some (.int .u16 (t.sp : Int)) ∧ w0.cell? ⟨g0, 4, none⟩ = some (.int .u16 (t.dp : Int)) := by
    refine ⟨?_, ?_, ?_, ?_, ?_⟩ <;> (rw [cell_of_row _ _ _ _ _ _ r0]; rfl)
  have h16 : t.sp < 65536 ∧ t.dp < 65536 := ⟨ht.sp, ht.dp⟩
  obtain ⟨hs16, hd16⟩ := h16
  generalize t.cells = tc at HALLOC HWA
  clear sa s0 ba bb ra
  have hs0 : w.heap.size ≤ w0.heap.size := hb0.size
  have HR : Hid (∀ u : World, Below w0.heap.size w0 u → u.cell? ⟨g0, 0, none⟩ = some (.int .u32 (t.s : Int)) ∧ u.cell? ⟨g0, 1, none⟩ = some (.int .u32 (t.d : Int)) ∧ u.cell? ⟨g0, 2, none⟩ = some (.int .u8 (t.p : Int)) ∧ u.cell? ⟨g0, 3, none⟩ = some (.int .u16 (t.sp : Int)) ∧ u.cell? ⟨g0, 4, none⟩ = some (.int .u16 (t.dp : Int)) ∧ u.heap[g0 + 1]? = some (.cells #[.int .u8 0, .int .u16 0, .bool false, .bool false, .int .i64 0, .int .u8 0, .int .u8 0, .int .u32 0, .int .u32 0, .slice none 0 0, .slice none 0 0] 35 (0, 0))) := fun u hu => by
    have q0 := below_keeps hu r0 (Array.getElem?_eq_some_iff.1 r0).1
    refine ⟨?_, ?_, ?_, ?_, ?_, below_keeps hu r1 (Array.getElem?_eq_some_iff.1 r1).1⟩ <;> (rw [cell_of_row _ _ _ _ _ _ q0]; rfl)
  obtain ⟨w1, HW1⟩ : ∃ w1, Hid (w1 = w0.alloc (.cells (bs (ofs t)).toArray 5)) := ⟨_, rfl⟩
  have hb1 : Below w0.heap.size w0 w1 := by rw [HW1.out]; exact (Below.refl _ _).alloc (Nat.le_refl _) _
  have HO1 : Hid (OwnB w1 w0.heap.size (.slice (some ⟨w0.heap.size, 0, none⟩) 8 8) (ofs t)) := by rw [HW1.out]; exact own_made w0 _ (ofs t) (Nat.le_refl _) (by simp [ofs])
  have HB0 := hid hb0
  have HB1 := hid hb1
  have HPT : Hid (g0 + 1 < w0.heap.size) := (Array.getElem?_eq_some_iff.1 r1).1
  have HGW : Hid (w.heap.size ≤ g0) := by unfold Hid; rw [HG0.out]; exact Nat.le_refl _
  have HFIN : Hid (∀ (u u' : World) (vb : Value) (L : List Nat), Below w0.heap.size w0 u → OwnB u w0.heap.size vb L → L = mdB t f → But (g0 + 1) u u' → u'.heap[g0 + 1]? = some (.cells (pkCells (mdH t) (.slice none 0 0) vb) 35 (0, 0)) → ((loadVar 35 ⟨g0 + 1, 0, none⟩).run Tryz.prog u' = .ok (.agg (pkCells (mdH t) (.slice none 0 0) vb)) u') ∧ OwnB u' w.heap.size vb (mdB t f) ∧ Below w.heap.size w u') := fun u u' vb L hu hO hL hbt hr => by
    refine ⟨?_, ?_, hbt.below (HB0.out.trans (hu.mono hs0)) (Nat.le_trans hs0 hu.size) (by have := HGW.out; omega)⟩
    · obtain ⟨fs, hun⟩ := und29
      exact lv_at (cs := (pkCells (mdH t) (.slice none 0 0) vb).toList) hr rfl hun rfl (by kernel_rfl)
    · rw [← hL]
      have := Me.row_keeps (S := fun k => k = g0 + 1) hO ⟨hbt.os, hbt.tape, hbt.output, hbt.size, hbt.block⟩ fun k hk e => by
        have := (World.ownsRow.lt hO k hk).1
        have := HPT.out
        omega
      exact Me.row_low this hs0
  have HONE : Hid (∀ a n c, (pkCells (mdH t) (.slice none 0 0) (.slice a n c)).all (·.oneCell') = true) := fun a n c => by simp [pkCells, Value.oneCell']
  clear r0 r1 hb0 hb1
  by_cases h6 : t.p = 6
  · have q6 : ((t.p : Int) == 6) = true := by simp [h6]
    have q1 : ((t.p : Int) == 1) = false := by simp [h6]
    have HM : Hid (mdB t f = ofs t ++ [0, 0, 0, 0, 80, f, 0, 0, 0, 0, 0, 0]) := by unfold Hid mdB; rw [if_pos h6]
    have HSE : Hid (SeesB (w1.alloc (.cells #[.int .u8 0, .int .u8 0, .int .u8 0, .int .u8 0, .int .u8 80, .int .u8 (f : Int), .int .u8 0, .int .u8 0, .int .u8 0, .int .u8 0, .int .u8 0, .int .u8 0] 5)) (.slice (some ⟨w1.heap.size, 0, none⟩) 12 12) [0, 0, 0, 0, 80, f, 0, 0, 0, 0, 0, 0]) := by
      unfold Hid; rw [tail_cells]
      exact (own_made w1 0 [0, 0, 0, 0, 80, f, 0, 0, 0, 0, 0, 0] (Nat.zero_le _) (by simp)).sees (by simp; omega)
    have HO2 : Hid (OwnB (w1.alloc (.cells #[.int .u8 0, .int .u8 0, .int .u8 0, .int .u8 0, .int .u8 80, .int .u8 (f : Int), .int .u8 0, .int .u8 0, .int .u8 0, .int .u8 0, .int .u8 0, .int .u8 0] 5)) w0.heap.size (.slice (some ⟨w0.heap.size, 0, none⟩) 8 8) (ofs t)) := HO1.out.alloc _
    have HBA : Hid (Below w0.heap.size w0 (w1.alloc (.cells #[.int .u8 0, .int .u8 0, .int .u8 0, .int .u8 0, .int .u8 80, .int .u8 (f : Int), .int .u8 0, .int .u8 0, .int .u8 0, .int .u8 0, .int .u8 0, .int .u8 0] 5))) := HB1.out.trans ((Below.refl _ _).alloc HB1.out.size _)
    have HSZ : Hid (w0.heap.size ≤ (w1.alloc (.cells #[.int .u8 0, .int .u8 0, .int .u8 0, .int .u8 0, .int .u8 80, .int .u8 (f : Int), .int .u8 0, .int .u8 0, .int .u8 0, .int .u8 0, .int .u8 0, .int .u8 0] 5)).heap.size) := HBA.out.size
    have hlen : Hid ((ofs t).length + ([0, 0, 0, 0, 80, f, 0, 0, 0, 0, 0, 0] : List Nat).length ≤ 140737488355328) := by unfold Hid; simp [ofs]
    obtain ⟨z0, z1, z2, z3, z4, -⟩ := HR.out w1 HB1.out
    clear h6
    go_enter Tryz.func10, Tryz.ntmps10
    go_upto_region 1 with fail
    rw [HALLOC.out, ← HG0.out]
    go_upto_region 2 with fail
    rw [ofs_cells, ← HW1.out]
    clear k0 k1 k2 k3 k4
    go_upto_region 4 with (first | (refine wpList_append_bytes rfl (.tmp 24) (.tmp 26) rfl w0.heap.size _ (ofs t) rfl HO2.out _ [0, 0, 0, 0, 80, f, 0, 0, 0, 0, 0, 0] rfl HSE.out hlen.out HSZ.out ?_; intro vb w2 ho2 hb2) | fail)
    obtain ⟨av, cv', rfl, -⟩ := Me.row_len ho2
    have HB2 := hid (HBA.out.trans hb2)
    obtain ⟨y0, y1, y2, y3, y4, y5⟩ := HR.out w2 HB2.out
    have HY5 := hid y5
    have HO3 := hid ho2
    obtain ⟨nv, HNV⟩ : ∃ n, Hid (n = (ofs t ++ [0, 0, 0, 0, 80, f, 0, 0, 0, 0, 0, 0]).length) := ⟨_, rfl⟩
    rw [← HNV.out] at HO3 ⊢
    clear z0 z1 z2 z3 z4 ho2 hb2 y5
    go_wp2_with (first | (refine wpList_st rfl 35 (.tmp 4) (.tmp 51) rfl (g0 + 1) (pkCells (mdH t) (.slice none 0 0) (.slice av nv cv')) rfl rfl _ _ HY5.out (by kernel_rfl) rfl (HONE.out _ _ _) ?_; intro w3 hw3 hbut3) | fail)
    obtain ⟨e1, e2, e3⟩ := HFIN.out w2 w3 _ _ HB2.out HO3.out HM.out.symm ⟨hbut3.os, hbut3.tape, hbut3.output, hbut3.size, hbut3.block⟩ hw3
    refine bodyPost_ret (v := .agg (pkCells (mdH t) (.slice none 0 0) (.slice av nv cv'))) (by simp [results, Tryz.results10, asAddr, Act.put, e1]) rfl ⟨_, rfl, e2, e3⟩
  · have q6 : ((t.p : Int) == 6) = false := by simp; omega
    by_cases h1 : t.p = 1
    · have q1 : ((t.p : Int) == 1) = true := by simp [h1]
      have HM : Hid (mdB t f = [if f = 0 then 8 else 0, 0, 0, 0, t.sp / 256, t.sp % 256, 0, 1]) := by unfold Hid mdB; rw [if_neg h6, if_pos h1]
      obtain ⟨w2, HW2⟩ : ∃ w2, Hid (w2 = w1.alloc (.cells (bs [8, 0, 0, 0, t.sp / 256, t.sp % 256, 0, 1]).toArray 5)) := ⟨_, rfl⟩
      have HB2 : Hid (Below w0.heap.size w0 w2) := by unfold Hid; rw [HW2.out]; exact HB1.out.trans ((Below.refl _ _).alloc HB1.out.size _)
      have HO2 : Hid (OwnB w2 w0.heap.size (.slice (some ⟨w1.heap.size, 0, none⟩) 8 8) [8, 0, 0, 0, t.sp / 256, t.sp % 256, 0, 1]) := by unfold Hid; rw [HW2.out]; exact own_made w1 _ [8, 0, 0, 0, t.sp / 256, t.sp % 256, 0, 1] HB1.out.size (by simp)
      have HZ1 : Hid (w0.heap.size ≤ w1.heap.size) := HB1.out.size
      have HC2 : Hid (w2.heap[w1.heap.size]? = some (.cells (bs [8, 0, 0, 0, t.sp / 256, t.sp % 256, 0, 1]).toArray 5 (0, 0))) := by unfold Hid; rw [HW2.out]; exact heap_alloc_new _ _
      obtain ⟨z0, z1, z2, z3, z4, -⟩ := HR.out w1 HB1.out
      clear h6 h1
      by_cases hf0 : f = 0
      · have qf : ((f : Int) != 0) = false := by simp [hf0]
        have HM2 : Hid (mdB t f = [8, 0, 0, 0, t.sp / 256, t.sp % 256, 0, 1]) := by unfold Hid; rw [HM.out, if_pos hf0]
        clear hf0
        go_enter Tryz.func10, Tryz.ntmps10
        go_upto_region 1 with fail
        rw [HALLOC.out, ← HG0.out]
        go_upto_region 2 with fail
        rw [ofs_cells, ← HW1.out]
        clear k0 k1 k2 k3 k4
        go_upto_region 6 with fail
        rw [show (#[.int .u8 8, .int .u8 0, .int .u8 0, .int .u8 0, .int .u8 ((t.sp : Int) / 256), .int .u8 ((t.sp : Int) % 256), .int .u8 0, .int .u8 1] : Array Value) = (bs [8, 0, 0, 0, t.sp / 256, t.sp % 256, 0, 1]).toArray from echo_cells t 8, ← HW2.out]
        obtain ⟨y0, y1, y2, y3, y4, y5⟩ := HR.out w2 HB2.out
        have HY5 := hid y5
        clear z0 z1 z2 z3 z4 y5
        go_wp2_with (first | (refine wpList_st rfl 35 (.tmp 4) (.tmp 51) rfl (g0 + 1) (pkCells (mdH t) (.slice none 0 0) (.slice (some ⟨w1.heap.size, 0, none⟩) 8 8)) rfl rfl _ _ HY5.out (by kernel_rfl) rfl (HONE.out _ _ _) ?_; intro w3 hw3 hbut3) | fail)
        obtain ⟨e1, e2, e3⟩ := HFIN.out w2 w3 _ _ HB2.out HO2.out HM2.out.symm ⟨hbut3.os, hbut3.tape, hbut3.output, hbut3.size, hbut3.block⟩ hw3
        refine bodyPost_ret (v := .agg (pkCells (mdH t) (.slice none 0 0) (.slice (some ⟨w1.heap.size, 0, none⟩) 8 8))) (by simp [results, Tryz.results10, asAddr, Act.put, e1]) rfl ⟨_, rfl, e2, e3⟩
      · have qf : ((f : Int) != 0) = true := by simp; omega
        have HM2 : Hid (mdB t f = [0, 0, 0, 0, t.sp / 256, t.sp % 256, 0, 1]) := by unfold Hid; rw [HM.out, if_neg hf0]
        obtain ⟨w3, HW3⟩ : ∃ w3, Hid (w3 = w2.setCell ⟨w1.heap.size, 0, none⟩ (.int .u8 0)) := ⟨_, rfl⟩
        have HB3 : Hid (Below w0.heap.size w0 w3) := by
          unfold Hid; rw [HW3.out]
          exact kp_below (Me.Keeps.set (S := fun k => k = w1.heap.size) (Me.Keeps.refl _ _) ⟨w1.heap.size, 0, none⟩ rfl _) HB2.out (fun k e => by rw [e]; exact HZ1.out) (Nat.le_refl _)
        have HO3 : Hid (OwnB w3 w0.heap.size (.slice (some ⟨w1.heap.size, 0, none⟩) 8 8) [0, 0, 0, 0, t.sp / 256, t.sp % 256, 0, 1]) := by
          unfold Hid; rw [HW3.out]
          have := Me.row_put HO2.out 0 (.int .u8 0)
          exact this
        have k0' : w2.cell? ⟨w1.heap.size, 0, none⟩ = some (.int .u8 8) := by rw [cell_of_row _ _ _ _ _ _ HC2.out]; rfl
        have f0' : w2.frozen? ⟨w1.heap.size, 0, none⟩ = false := frozen_of_row _ _ _ _ _ HC2.out
        clear hf0
        go_enter Tryz.func10, Tryz.ntmps10
        go_upto_region 1 with fail
        rw [HALLOC.out, ← HG0.out]
        go_upto_region 2 with fail
        rw [ofs_cells, ← HW1.out]
        clear k0 k1 k2 k3 k4
        go_upto_region 6 with fail
        rw [show (#[.int .u8 8, .int .u8 0, .int .u8 0, .int .u8 0, .int .u8 ((t.sp : Int) / 256), .int .u8 ((t.sp : Int) % 256), .int .u8 0, .int .u8 1] : Array Value) = (bs [8, 0, 0, 0, t.sp / 256, t.sp % 256, 0, 1]).toArray from echo_cells t 8, ← HW2.out]
        go_upto_region 8 with fail
        rw [← HW3.out]
        obtain ⟨y0, y1, y2, y3, y4, y5⟩ := HR.out w3 HB3.out
        have HY5 := hid y5
        clear z0 z1 z2 z3 z4 y5 k0' f0'
        go_wp2_with (first | (refine wpList_st rfl 35 (.tmp 4) (.tmp 51) rfl (g0 + 1) (pkCells (mdH t) (.slice none 0 0) (.slice (some ⟨w1.heap.size, 0, none⟩) 8 8)) rfl rfl _ _ HY5.out (by kernel_rfl) rfl (HONE.out _ _ _) ?_; intro w4 hw4 hbut4) | fail)
        obtain ⟨e1, e2, e3⟩ := HFIN.out w3 w4 _ _ HB3.out HO3.out HM2.out.symm ⟨hbut4.os, hbut4.tape, hbut4.output, hbut4.size, hbut4.block⟩ hw4
        refine bodyPost_ret (v := .agg (pkCells (mdH t) (.slice none 0 0) (.slice (some ⟨w1.heap.size, 0, none⟩) 8 8))) (by simp [results, Tryz.results10, asAddr, Act.put, e1]) rfl ⟨_, rfl, e2, e3⟩
    · have q1 : ((t.p : Int) == 1) = false := by simp; omega
      have HM : Hid (mdB t f = ofs t) := by unfold Hid mdB; rw [if_neg h6, if_neg h1]
      obtain ⟨z0, z1, z2, z3, z4, z5⟩ := HR.out w1 HB1.out
      have HY5 := hid z5
      clear h6 h1 z5
      go_enter Tryz.func10, Tryz.ntmps10
      go_upto_region 1 with fail
      rw [HALLOC.out, ← HG0.out]
      go_upto_region 2 with fail
      rw [ofs_cells, ← HW1.out]
      clear k0 k1 k2 k3 k4
      go_wp2_with (first | (refine wpList_st rfl 35 (.tmp 4) (.tmp 51) rfl (g0 + 1) (pkCells (mdH t) (.slice none 0 0) (.slice (some ⟨w0.heap.size, 0, none⟩) 8 8)) rfl rfl _ _ HY5.out (by kernel_rfl) rfl (HONE.out _ _ _) ?_; intro w3 hw3 hbut3) | fail)
      obtain ⟨e1, e2, e3⟩ := HFIN.out w1 w3 _ _ HB1.out HO1.out HM.out.symm ⟨hbut3.os, hbut3.tape, hbut3.output, hbut3.size, hbut3.block⟩ hw3
      refine bodyPost_ret (v := .agg (pkCells (mdH t) (.slice none 0 0) (.slice (some ⟨w0.heap.size, 0, none⟩) 8 8))) (by simp [results, Tryz.results10, asAddr, Act.put, e1]) rfl ⟨_, rfl, e2, e3⟩
end Go.Proofs.YtkkfioebpppffaaGreatDoor.Fl
