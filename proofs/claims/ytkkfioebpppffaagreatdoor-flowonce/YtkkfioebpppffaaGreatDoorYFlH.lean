import Derived.Test.YtkkfioebpppffaaGreatDoorYFlG
namespace Go.Proofs.YtkkfioebpppffaaGreatDoor.Fl
open Go.Proofs.YtkkfioebpppffaaGreatDoor Go.ChangeShapes Go.WideShapes Go.ChangeAt Go.RowKit Go.Maps N
set_option maxHeartbeats 4000000
set_option maxRecDepth 100000

theorem mv_cells {w : World} {b st : Nat} {back : Bool} {T : TypeId} {r : Nat × Nat} (h : w.heap[b]? = some (.cells (mvC st back) T r)) (k : Nat) (hk : k < 6) : w.cell? ⟨b, k, none⟩ = some (.int .u8 (tN st k back : Int)) := by
  rw [cell_of_row _ _ _ _ _ _ h, mvC_at st back k hk]

theorem turn_any (s d f st : Nat) (back : Bool) (w : World) (hf : f < 256) (hst : st < 10) (ht : TabF w) :
    Calls Tryz.prog 44 #[.agg #[.int .u16 (s : Int), .int .u16 (d : Int), .int .u8 (f : Int)], .int .i64 (st : Int), .bool back] w fun e w' => e = .returned (.tuple #[.int .i64 ((tuN st f back).1 : Int), .bool (tuN st f back).2]) ∧ Below w.heap.size w w' := by
  obtain ⟨w0, HW0⟩ : ∃ w0, Hid (w0 = w.alloc (.cells #[.int .u16 (s : Int), .int .u16 (d : Int), .int .u8 (f : Int)] 106)) := ⟨_, rfl⟩
  have hb0 : Below w.heap.size w w0 := by rw [HW0.out]; exact (Below.refl _ _).alloc (Nat.le_refl _) _
  obtain ⟨b, HB⟩ : ∃ b, Hid (b = w.heap.size) := ⟨_, rfl⟩
  have r0 : w0.heap[b]? = some (.cells #[.int .u16 (s : Int), .int .u16 (d : Int), .int .u8 (f : Int)] 106 (0, 0)) := by rw [HW0.out, HB.out]; exact heap_alloc_new w _
  have HLD : Hid ((Instr.loadAt 106 (.pointer (some ⟨b, 0, none⟩))).run Tryz.prog w0 = .ok (.agg #[.int .u16 (s : Int), .int .u16 (d : Int), .int .u8 (f : Int)]) w0) := by
    obtain ⟨q, hq1, hq2⟩ : ∃ q, Tryz.prog.underlying 106 = some q ∧ q.isRow = true := ⟨_, Tryz.underlying106, rfl⟩
    exact load_at (cs := [.int .u16 (s : Int), .int .u16 (d : Int), .int .u8 (f : Int)]) r0 rfl hq1 hq2 (by kernel_rfl)
  have HKI := hid (kind_any s d f w0 hf)
  have HB0 := hid hb0
  have hsz : w.heap.size ≤ w0.heap.size := hb0.size
  have HT0 := hid (ht.below hb0)
  have hk6 := kd_lt f
  have HR : Hid ((tuN st f back) = if kd f = 1 then (8, true) else (tN st (kd f) back, !decide (tN st (kd f) back = 0))) := rfl
  generalize tuN st f back = R at *
  generalize kd f = k at *
  clear hb0 r0 hf ht
  by_cases hk : k = 1
  · have q1 : ((k : Int) == 1) = true := by simp; omega
    have HE : Hid (R = (8, true)) := by unfold Hid; rw [HR.out, if_pos hk]
    clear hk HR
    go_enter Tryz.func44, Tryz.ntmps44
    go_upto_region 1 with fail
    rw [← HW0.out, ← HB.out]
    go_wp2_with (first | (refine wpList_ld 106 ⟨b, 0, none⟩ (.tmp 3) rfl rfl HLD.out rfl ?_) | fail)
    refine HKI.out.mono ?_
    rintro _ w1 ⟨rfl, hb1⟩
    go_wp2_with fail
    refine bodyPost_ret (results_tmp2 Tryz.results44 _ _ _) rfl ?_
    exact ⟨by rw [HE.out]; rfl, HB0.out.trans (hb1.mono hsz)⟩
  · have q1 : ((k : Int) == 1) = false := by simp; omega
    obtain ⟨x, HX⟩ : ∃ x, Hid (x = tN st k back) := ⟨_, rfl⟩
    have hx10 : x < 10 := by rw [HX.out]; exact tN_lt _ _ _
    have HE : Hid (R = (x, !decide (x = 0))) := by unfold Hid; rw [HR.out, if_neg hk, HX.out]
    have q9 : ((x : Int) != 0) = !decide (x = 0) := by
      by_cases e : x = 0 <;> simp [e]
    have qw : IntKind.i64.wrap (x : Int) = (x : Int) := by rw [IntKind.wrap_i64]; omega
    have i1 : (st : Int) < 10 := by omega
    have i2 : (k : Int) < 6 := by omega
    have hdone : ∀ (n : Nat) (w3 w4 : World), Below w.heap.size w w3 → w3.heap[n]? = some (.cells (mvC st back) 137 (0, 0)) → Hid (w3.cell? ⟨n, k, none⟩ = some (.int .u8 (x : Int))) := fun n w3 w4 _ h => by
      unfold Hid
      rw [HX.out]
      exact mv_cells h k hk6
    have HD := hid hdone
    clear hk HR hdone
    go_enter Tryz.func44, Tryz.ntmps44
    go_upto_region 1 with fail
    rw [← HW0.out, ← HB.out]
    go_wp2_with (first | (refine wpList_ld 106 ⟨b, 0, none⟩ (.tmp 3) rfl rfl HLD.out rfl ?_) | fail)
    refine HKI.out.mono ?_
    rintro _ w1 ⟨rfl, hb1⟩
    have HB1 := hid (HB0.out.trans (hb1.mono hsz))
    have HT1 := hid (HT0.out.below hb1)
    clear hb1
    have l1 := hid (load_mv HT1.out st hst false)
    have HN : Hid ((w1.alloc (.cells #[.int .u8 0, .int .u8 0, .int .u8 0, .int .u8 0, .int .u8 0, .int .u8 0] 137)).heap[w1.heap.size]? = some (.cells #[.int .u8 0, .int .u8 0, .int .u8 0, .int .u8 0, .int .u8 0, .int .u8 0] 137 (0, 0))) := heap_alloc_new _ _
    have HBA : Hid (Below w.heap.size w (w1.alloc (.cells #[.int .u8 0, .int .u8 0, .int .u8 0, .int .u8 0, .int .u8 0, .int .u8 0] 137))) := HB1.out.trans ((Below.refl _ _).alloc HB1.out.size _)
    have HTA := hid (HT1.out.below (w' := w1.alloc (.cells #[.int .u8 0, .int .u8 0, .int .u8 0, .int .u8 0, .int .u8 0, .int .u8 0] 137)) ((Below.refl _ _).alloc (Nat.le_refl _) _))
    have HSZ1 : Hid (w.heap.size ≤ w1.heap.size) := HB1.out.size
    cases back
    · go_upto_region 7 with (first | (refine wpList_ld 137 ⟨1, st * 12, none⟩ (.tmp 16) rfl rfl l1.out rfl ?_) | (refine wpList_st rfl 137 (.tmp 9) (.tmp 17) rfl w1.heap.size (mvC st false) rfl rfl _ _ HN.out (by kernel_rfl) rfl (mvC_one _ _) ?_; intro w3 hw3 hbut3) | fail)
      have cx := (HD.out _ w3 w3 (hbut3.below HBA.out (by rw [World.size_alloc]; have := HSZ1.out; omega) HSZ1.out) hw3).out
      have HB3 := hid (hbut3.below HBA.out (by rw [World.size_alloc]; have := HSZ1.out; omega) HSZ1.out)
      clear hw3 hbut3
      go_quiet (fail)
      go_wp2_with fail
      refine bodyPost_ret (results_tmp2 Tryz.results44 _ _ _) rfl ?_
      exact ⟨by rw [HE.out]; rfl, below_drewN HB3.out _⟩
    · have l2 := fun u hu => load_mv (w := u) (HTA.out.below hu) st hst true
      have L2 := hid l2
      clear l2
      go_upto_region 6 with (first | (refine wpList_ld 137 ⟨1, st * 12, none⟩ (.tmp 16) rfl rfl l1.out rfl ?_) | (refine wpList_st rfl 137 (.tmp 9) (.tmp 17) rfl w1.heap.size (mvC st false) rfl rfl _ _ HN.out (by kernel_rfl) rfl (mvC_one _ _) ?_; intro w3 hw3 hbut3) | fail)
      have hT3 : TabF w3 := HTA.out.keep (hbut3.block _ HTA.out.lt.1 (by have := HT1.out.lt.1; omega)) (hbut3.block _ HTA.out.lt.2 (by have := HT1.out.lt.2; omega)) hbut3.size
      have L3 := hid (load_mv hT3 st hst true)
      have HW3 := hid hw3
      have HB3 := hid (hbut3.below HBA.out (by rw [World.size_alloc]; have := HSZ1.out; omega) HSZ1.out)
      have HZ3 : Hid (w.heap.size ≤ w3.heap.size) := HB3.out.size
      clear hw3 hbut3 hT3
      go_upto_region 7 with (first | (refine wpList_ld 137 ⟨1, st * 12 + 6, none⟩ (.tmp 21) rfl rfl L3.out rfl ?_) | (refine wpList_st rfl 137 (.tmp 9) (.tmp 22) rfl w1.heap.size (mvC st true) rfl rfl _ _ HW3.out (by kernel_rfl) rfl (mvC_one _ _) ?_; intro w4 hw4 hbut4) | fail)
      have cx := (HD.out _ w4 w4 (hbut4.below HB3.out HZ3.out HSZ1.out) hw4).out
      have HB4 := hid (hbut4.below HB3.out HZ3.out HSZ1.out)
      clear hw4 hbut4
      go_quiet (fail)
      go_wp2_with fail
      refine bodyPost_ret (results_tmp2 Tryz.results44 _ _ _) rfl ?_
      exact ⟨by rw [HE.out]; rfl, below_drewN HB4.out _⟩
end Go.Proofs.YtkkfioebpppffaaGreatDoor.Fl
