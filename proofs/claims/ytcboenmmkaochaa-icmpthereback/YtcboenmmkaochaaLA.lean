/-
  weftlaw6.there: what Build makes, Parse reads.
-/
import Derived.Test.YtcboenmmkaochaaIN
import Derived.Test.YtcboenmmkaochaaIK
namespace Go.Proofs.Ytcboenmmkaochaa.N
open Go.ChangeShapes Go.WideShapes Go.ChangeAt Go.RowKit
set_option maxHeartbeats 8000000
set_option maxRecDepth 100000

theorem row_load {u : World} {n : Nat} {C : Array Value} {T : TypeId} {fs : Array Field} (hu : Try.prog.underlying T = some (.struct fs)) (hb : u.heap[n]? = some (.cells C T (0, 0))) (hi : (Try.prog.info? T).map (·.size) = some C.size) : (Instr.loadAt T (.pointer (some ⟨n, 0, none⟩))).run Try.prog u = .ok (.agg C) u := by
  refine run_loadAt_mid u n 0 T C.toList (.struct fs) (fun j v hv => ?_) hu rfl (by rw [Array.length_toList]; exact hi)
  rw [Nat.zero_add, cell_of_row _ _ _ _ _ _ hb, ← hv, Array.getElem?_toList]

theorem there_any (m : Im.Ct) (vm : Value) (w : World) (hok : m.Ok) (hvm : SeesB w vm m.B) :
    Calls Try.prog 5 #[.agg (ctCells m vm)] w fun e w' => e = .returned (.bool true) ∧ Below w.heap.size w w' := by
  obtain ⟨am, nm, capm, rfl, HNM, hnm1, hnm2⟩ := hvm.shape
  unfold maxLen at hnm2
  obtain ⟨w1, hw1⟩ : ∃ w1, w1 = w.alloc (.cells (ctCells m (.slice am nm capm)) 25) := ⟨_, rfl⟩
  have hs1 : w1.heap.size = w.heap.size + 1 := by rw [hw1]; simp
  have hb1 : Below w.heap.size w w1 := by rw [hw1]; exact (Below.refl _ _).alloc (Nat.le_refl _) _
  have k1 : w1.heap[w.heap.size]? = some (.cells (ctCells m (.slice am nm capm)) 25 (0, 0)) := by rw [hw1]; exact heap_alloc_new w _
  have HC : Hid (∀ u, Below w1.heap.size w1 u → u.cell? ⟨w.heap.size, 3, none⟩ = some (.slice am nm capm) ∧ (Instr.loadAt 25 (.pointer (some ⟨w.heap.size, 0, none⟩))).run Try.prog u = .ok (.agg (ctCells m (.slice am nm capm))) u ∧ SeesB u (.slice am nm capm) m.B) := fun u hu => by
    have k := (hu.block w.heap.size (by omega)).trans k1
    exact ⟨(ct_at k).2.2.2, row_load Try.underlying25 k size_ct, hvm.below (hb1.trans (hu.mono hb1.size))⟩
  have HL1 := hid (HC.out _ (Below.refl _ _)).2.1
  have HBL := hid (ibuild_any m _ w1 hok (hvm.below hb1))
  have HBY := hid hvm.bytes
  have HW1 := hid hw1
  have HB1 := hid hb1
  clear hw1 hs1 hb1 k1 hvm
  generalize hct : ctCells m (.slice am nm capm) = ct at *
  have HCT := hid hct
  clear hct
  go_enter Try.func5, Try.ntmps5
  go_upto_region 1 with fail
  rw [← HW1.out]
  go_wp2_with (first | (refine wpList_ld 25 ⟨w.heap.size, 0, none⟩ (.tmp 1) rfl rfl HL1.out rfl ?_) | fail)
  refine HBL.out.mono ?_
  rintro _ w2 ⟨a2, n2, c2, rfl, hs2, _, hb2⟩
  have hn2 : n2 = (Im.bdL m).length := by
    obtain ⟨_, _, hv, _⟩ := hs2
    simp at hv
    exact hv.2.1
  obtain ⟨x3, _, _⟩ := HC.out _ hb2
  by_cases hbig : 65507 < nm
  · have hbig' : 65507 < m.B.length := by rw [← HNM.out]; exact hbig
    have he : Im.bdE m = 37 := by unfold Im.bdE; rw [if_pos hbig']
    have hL : Im.bdL m = [] := by unfold Im.bdL; rw [if_pos hbig']
    rw [hL] at hn2
    obtain rfl : n2 = 0 := hn2
    rw [he]
    have HB2 := hid hb2
    clear hs2 hb2 he hL hbig' HC HBL HL1
    go_wp2_with fail
    go_ret
    exact ⟨rfl, HB1.out.trans (HB2.out.mono HB1.out.size)⟩
  · have hbig' : m.B.length ≤ 65507 := by rw [← HNM.out]; omega
    have he : Im.bdE m = 0 := by unfold Im.bdE; rw [if_neg (by omega)]
    have hL : Im.bdL m = Im.laid m := by unfold Im.bdL; rw [if_neg (by omega)]
    rw [hL] at hn2 hs2
    rw [Im.laid_len, ← HNM.out] at hn2
    subst hn2
    rw [he]
    have HPR := hid (iparse_any _ (Im.laid m) w2 hs2)
    rw [Im.prE_laid m hbig', Im.prC_laid m hok hbig'] at HPR
    have HS2 := hid hs2
    have HB2 := hid hb2
    have hnm65 : nm ≤ 65507 := by omega
    clear hs2 hb2 he hL HBL HL1 hbig
    go_upto_region 4 with fail
    clear x3
    go_wp2_with fail
    refine HPR.out.mono ?_
    rintro _ w3 ⟨a3, n3, c3, rfl, hs3, _, hb3⟩
    obtain ⟨pa, hpa⟩ : ∃ pa : Array Value, pa = ctCells m (.slice a3 n3 c3) := ⟨_, rfl⟩
    obtain ⟨w4, hw4⟩ : ∃ w4, w4 = (w3.alloc (.cells zeroC 25)).setCells w3.heap.size 0 pa.toList := ⟨_, rfl⟩
    have HZA : Hid ((Try.prog.info? 25).map (·.size) = some pa.size) := by unfold Hid; rw [hpa]; exact size_ct
    have HOA : Hid (pa.all (·.oneCell') = true) := by unfold Hid; rw [hpa]; simp [ctCells, Value.oneCell']
    have HTA : Hid ((w3.alloc (.cells zeroC 25)).there w3.heap.size 0 pa.size) := by unfold Hid; rw [hpa]; exact there_blk (C := zeroC) (t := 25) (heap_alloc_new w3 _) rfl
    have r4 : w4.heap[w3.heap.size]? = some (.cells pa 25 (0, 0)) := by
      rw [hw4]
      have := heap_setCells_row (b := w3.heap.size) (T := 25) pa.toList 0 _ zeroC (heap_alloc_new w3 (.cells zeroC 25))
      rwa [show wr zeroC 0 pa.toList = pa by rw [hpa]; simp [wr, zeroC, ctCells]] at this
    have hlt4 : w3.heap.size < w4.heap.size := (Array.getElem?_eq_some_iff.1 r4).1
    have hb34 : Below w3.heap.size w3 w4 := by rw [hw4]; exact below_setCells (Nat.le_refl _) _ _ _ ((Below.refl _ _).alloc (Nat.le_refl _) _)
    have hb24 := hb3.trans (hb34.mono hb3.size)
    have hb14 := HB2.out.trans (hb24.mono HB2.out.size)
    obtain ⟨y3, _, _⟩ := HC.out _ hb14
    have hs := seesBB_one (w := w4) rfl _ _ (HS2.out.below hb24) 23
    have HSM0 := sum_code _ _ _ hs (by simp; rw [Im.laid_len]; omega)
    rw [show [Im.laid m].flatten = Im.laid m by simp, show M.csum (Im.laid m) = 0 from Im.csum_laid m] at HSM0
    have HSM : Hid (Calls Try.prog 11 #[.slice (some ⟨w4.heap.size, 0, none⟩) 1 1] (w4.alloc (.cells #[.slice a2 (8 + nm) c2] 23)) fun e w' => e = .returned (.int .u16 0) ∧ Below w4.heap.size w4 w') := by
      refine HSM0.mono ?_
      rintro e w' ⟨rfl, hb⟩
      have hbA : Below w4.heap.size w4 (w4.alloc (.cells #[.slice a2 (8 + nm) c2] 23)) := (Below.refl w4.heap.size w4).alloc (Nat.le_refl _) _
      exact ⟨rfl, hbA.trans (hb.mono hbA.size)⟩
    have HLA : Hid (∀ u, Below w4.heap.size w4 u → (Instr.loadAt 25 (.pointer (some ⟨w3.heap.size, 0, none⟩))).run Try.prog u = .ok (.agg pa) u ∧ Calls Try.prog 12 #[.agg ct, .agg pa] u fun e w' => e = .returned (.bool true) ∧ Below u.heap.size u w') := fun u hu => by
      refine ⟨row_load Try.underlying25 ((hu.block _ hlt4).trans r4) HZA.out, ?_⟩
      rw [← HCT.out, hpa]
      exact controls_same m _ _ u (HC.out u (hb14.trans (hu.mono hb14.size))).2.2 ((hs3.below hb34).below hu)
    have HW4 : Hid (w4 = (w3.alloc (.cells #[.int .u8 0, .int .u8 0, .int .u32 0, .slice none 0 0] 25)).setCells w3.heap.size 0 pa.toList) := hw4
    have HB14 := hid hb14
    have hl8 : ((8 + nm : Nat) : Int) = 8 + (nm : Int) := by omega
    rw [← hpa]
    clear hpa hw4 r4 hlt4 hb3 hb34 hb24 hb14 hs3 hs HSM0 HPR
    go_upto_region 5 with (first
      | (refine wpList_store_mid rfl 25 (.tmp 5) (.tmp 26) rfl w3.heap.size 0 pa rfl rfl HTA.out HZA.out HOA.out ?_)
      | fail)
    rw [← HW4.out]
    clear HTA HZA HOA HW4
    go_wp2_with fail
    refine HSM.out.mono ?_
    rintro _ w5 ⟨rfl, hb5⟩
    have hb15 := HB14.out.trans (hb5.mono HB14.out.size)
    have HLc := hid (HC.out _ hb15).2.1
    have HLa := hid (HLA.out _ hb5).1
    have HX := hid (HLA.out _ hb5).2
    have HB15 := hid hb15
    clear hb5 hb15 y3 HSM
    go_wp2_with (first
      | (refine wpList_ld 25 ⟨w.heap.size, 0, none⟩ (.tmp 1) rfl rfl HLc.out rfl ?_)
      | (refine wpList_ld 25 ⟨w3.heap.size, 0, none⟩ (.tmp 5) rfl rfl HLa.out rfl ?_)
      | fail)
    refine HX.out.mono ?_
    rintro _ w6 ⟨rfl, hb6⟩
    go_wp2_with fail
    go_ret
    exact ⟨rfl, HB1.out.trans ((HB15.out.trans (hb6.mono HB15.out.size)).mono HB1.out.size)⟩
end Go.Proofs.Ytcboenmmkaochaa.N
