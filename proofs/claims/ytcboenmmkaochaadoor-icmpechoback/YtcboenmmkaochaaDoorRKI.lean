/-
  weftlaw6.echoed: the walk.
-/
import Derived.Test.YtcboenmmkaochaaDoorM5
import Derived.Test.YtcboenmmkaochaaDoorRKH
namespace Go.Proofs.YtcboenmmkaochaaDoor.N
open Go.ChangeShapes Go.WideShapes Go.ChangeAt Go.RowKit
set_option maxHeartbeats 16000000
set_option maxRecDepth 100000

theorem row_load {u : World} {n : Nat} {C : Array Value} {T : TypeId} {fs : Array Field} (hu : Tryd.prog.underlying T = some (.struct fs)) (hb : u.heap[n]? = some (.cells C T (0, 0))) (hi : (Tryd.prog.info? T).map (·.size) = some C.size) : (Instr.loadAt T (.pointer (some ⟨n, 0, none⟩))).run Tryd.prog u = .ok (.agg C) u := by
  refine run_loadAt_mid u n 0 T C.toList (.struct fs) (fun j v hv => ?_) hu rfl (by rw [Array.length_toList]; exact hi)
  rw [Nat.zero_add, cell_of_row _ _ _ _ _ _ hb, ← hv, Array.getElem?_toList]

theorem echoed_any (h : Hd) (vo : Value) (m0 : Im.Ct) (vm : Value) (w : World) (hok : h.Ok) (hmo : m0.Ok) (hvo : SeesB w vo h.opts) (hvm : SeesB w vm m0.B) (hlo : h.opts.length ≤ 140737488355328) (htC : Ad.TabC w) (htK : TabK w) :
    Calls Tryd.prog 12 #[.agg (hdCells h vo), .agg (ctCells m0 vm)] w fun e w' => e = .returned (.bool true) ∧ Below w.heap.size w w' := by
  obtain ⟨ao, no, capo, rfl, HNO, hno1, hno2⟩ := hvo.shape
  obtain ⟨am, nm, capm, rfl, HNM, hnm1, hnm2⟩ := hvm.shape
  unfold maxLen at hno2 hnm2
  obtain ⟨wa, hwa⟩ : ∃ wa, wa = w.alloc (.cells (hdCells h (.slice ao no capo)) 27) := ⟨_, rfl⟩
  obtain ⟨w1, hw1⟩ : ∃ w1, w1 = wa.alloc (.cells (ctCells m0 (.slice am nm capm)) 37) := ⟨_, rfl⟩
  have hsa : wa.heap.size = w.heap.size + 1 := by rw [hwa]; simp
  have hs1 : w1.heap.size = w.heap.size + 2 := by rw [hw1]; simp [hsa]
  have hba : Below w.heap.size w wa := by rw [hwa]; exact (Below.refl _ _).alloc (Nat.le_refl _) _
  have hbb : Below wa.heap.size wa w1 := by rw [hw1]; exact (Below.refl _ _).alloc (Nat.le_refl _) _
  have hb1 : Below w.heap.size w w1 := hba.trans (hbb.mono (by omega))
  have k0 : w1.heap[w.heap.size]? = some (.cells (hdCells h (.slice ao no capo)) 27 (0, 0)) := by
    rw [hbb.block _ (by omega), hwa]; exact heap_alloc_new w _
  have k1 : w1.heap[w.heap.size + 1]? = some (.cells (ctCells m0 (.slice am nm capm)) 37 (0, 0)) := by
    rw [← hsa, hw1]; exact heap_alloc_new wa _
  obtain ⟨w2, hw2⟩ : ∃ w2, w2 = (w1.setCell ⟨w.heap.size + 1, 0, none⟩ (.int .u8 8)).setCell ⟨w.heap.size + 1, 1, none⟩ (.int .u8 0) := ⟨_, rfl⟩
  have j1 : w2.heap[w.heap.size + 1]? = some (.cells (ctCells ⟨8, 0, m0.r, m0.B⟩ (.slice am nm capm)) 37 (0, 0)) := by
    rw [hw2]; exact heap_setCell_row (heap_setCell_row k1 _) _
  have hu2 : But (w.heap.size + 1) w1 w2 := by rw [hw2]; exact (But.set _ _ _ _).trans (But.set _ _ _ _)
  have j0 : w2.heap[w.heap.size]? = some (.cells (hdCells h (.slice ao no capo)) 27 (0, 0)) := (hu2.block _ (by omega) (by omega)).trans k0
  have hb2 : Below w.heap.size w w2 := hu2.below hb1 hb1.size (by omega)
  have hs2 : w2.heap.size = w.heap.size + 2 := by rw [hw2]; simp [World.setCell, hs1]
  have d0 : w1.cell? ⟨w.heap.size + 1, 0, none⟩ = some (.int .u8 (m0.t : Int)) := (ct_at k1).1
  have d1 : w1.cell? ⟨w.heap.size + 1, 1, none⟩ = some (.int .u8 (m0.c : Int)) := (ct_at k1).2.1
  have f0 : w1.frozen? ⟨w.heap.size + 1, 0, none⟩ = false := frozen_of_row _ _ _ _ _ k1
  have f1 : w1.frozen? ⟨w.heap.size + 1, 1, none⟩ = false := frozen_of_row _ _ _ _ _ k1
  obtain ⟨m8, hm8⟩ : ∃ m8 : Im.Ct, m8 = ⟨8, 0, m0.r, m0.B⟩ := ⟨_, rfl⟩
  have hm8o : m8.Ok := by rw [hm8]; exact ⟨by show 8 < 256; omega, by show 0 < 256; omega, hmo.r⟩
  have hm8B : m8.B = m0.B := by rw [hm8]
  rw [← hm8] at j1
  have HLC := hid (row_load Tryd.underlying37 j1 size_ct)
  have HBL := hid (ibuild_any m8 (.slice am nm capm) w2 hm8o (by rw [hm8B]; exact hvm.below hb2))
  have HW1 : Hid (w1 = (w.alloc (.cells (hdCells h (.slice ao no capo)) 27)).alloc (.cells (ctCells m0 (.slice am nm capm)) 37)) := by unfold Hid; rw [hw1, hwa]
  have HW2 := hid hw2
  have HJ := hid (And.intro j0 (And.intro j1 (And.intro hb2 hs2)))
  have HV := hid (And.intro hok (And.intro hmo (And.intro hvo (And.intro hvm (And.intro hlo (And.intro htC htK))))))
  have HM8 := hid hm8
  clear hwa hw1 hw2 hsa hs1 hba hbb hb1 k0 k1 j0 j1 hu2 hb2 hs2 hvo hvm hok hmo hlo htC htK hm8
  generalize hhc0 : hdCells h (.slice ao no capo) = hc0 at *
  have HC0 := hid hhc0
  clear hhc0
  generalize ctCells m0 (.slice am nm capm) = ct0 at *
  generalize hct8 : ctCells m8 (.slice am nm capm) = ct8 at *
  have HCT8 := hid hct8
  clear hct8
  go_enter Tryd.func12, Tryd.ntmps12
  go_upto_region 1 with fail
  rw [← HW1.out]
  go_upto_region 3 with fail
  rw [← HW2.out]
  clear d0 d1 f0 f1 HW1 HW2
  go_wp2_with (first | (refine wpList_ld 37 ⟨w.heap.size + 1, 0, none⟩ (.tmp 3) rfl rfl HLC.out rfl ?_) | fail)
  refine HBL.out.mono ?_
  rintro _ w3 ⟨a3, n3, c3, rfl, hs3, hg3, hb3⟩
  obtain ⟨j0, j1, hb2, hs2⟩ := HJ.out
  have hbw3 := hb2.trans (hb3.mono hb2.size)
  by_cases hbig : 65507 < m0.B.length
  · have he : Im.bdE m8 = 37 := by unfold Im.bdE; rw [hm8B, if_pos hbig]
    rw [he]
    have HBW3 := hid hbw3
    clear j0 j1 hb2 hs2 hbw3 hs3 hg3 hb3 HJ HV HLC HBL he
    go_wp2_with fail
    go_ret
    exact ⟨rfl, HBW3.out⟩
  · have he : Im.bdE m8 = 0 := by unfold Im.bdE; rw [hm8B, if_neg hbig]
    have hL : Im.bdL m8 = Im.laid m8 := by unfold Im.bdL; rw [hm8B, if_neg hbig]
    obtain ⟨g, rfl, rfl, _, hg⟩ := hg3 he
    rw [hL] at hs3
    rw [he]
    obtain ⟨hok, hmo, hvo, hvm, hlo, htC, htK⟩ := HV.out
    have hlB : m8.B.length ≤ 65507 := by rw [hm8B]; omega
    have hlL : (Im.laid m8).length ≤ 65515 := by rw [Im.laid_len]; omega
    obtain ⟨h1, hh1⟩ : ∃ h1 : Hd, h1 = ⟨h.tos, h.id, h.df, false, 0, h.ttl, 1, h.src, h.dst, h.opts⟩ := ⟨_, rfl⟩
    have hok1 : h1.Ok := by rw [hh1]; exact ⟨hok.tos, hok.id, by show -9223372036854775808 ≤ (0 : Int) ∧ (0 : Int) ≤ 9223372036854775807; omega, hok.ttl, by show 1 < 256; omega, hok.src, hok.dst⟩
    have k3 : w3.heap[w.heap.size]? = some (.cells (hdCells h (.slice ao no capo)) 27 (0, 0)) := by rw [hb3.block _ (by omega), j0, ← HC0.out]
    have l3 : w3.heap[w.heap.size + 1]? = some (.cells ct8 37 (0, 0)) := (hb3.block _ (by omega)).trans j1
    obtain ⟨w4, hw4⟩ : ∃ w4, w4 = ((w3.setCell ⟨w.heap.size, 6, none⟩ (.int .u8 1)).setCell ⟨w.heap.size, 4, none⟩ (.int .i64 0)).setCell ⟨w.heap.size, 3, none⟩ (.bool false) := ⟨_, rfl⟩
    have k4 : w4.heap[w.heap.size]? = some (.cells (hdCells h1 (.slice ao no capo)) 27 (0, 0)) := by
      rw [hw4, hh1]; exact heap_setCell_row (heap_setCell_row (heap_setCell_row k3 _) _) _
    have hu4 : But w.heap.size w3 w4 := by rw [hw4]; exact ((But.set _ _ _ _).trans (But.set _ _ _ _)).trans (But.set _ _ _ _)
    have hz3 : w.heap.size + 2 ≤ w3.heap.size := by have := hb3.size; omega
    have l4 : w4.heap[w.heap.size + 1]? = some (.cells ct8 37 (0, 0)) := (hu4.block _ (by omega) (by omega)).trans l3
    have hbw4 : Below w.heap.size w w4 := hu4.below hbw3 hbw3.size (Nat.le_refl _)
    have hz4 : w4.heap.size = w3.heap.size := by rw [hw4]; simp [World.setCell]
    have hne : ∀ a : Addr, some (⟨g, 0, none⟩ : Addr) = some a → a.block ≠ w.heap.size := fun a ha => by cases ha; show g ≠ w.heap.size; omega
    have hs4 : SeesB w4 (.slice (some ⟨g, 0, none⟩) c3 c3) (Im.laid m8) := by rw [hw4]; exact sees_setAt (sees_setAt (sees_setAt hs3 hne) hne) hne
    have e6 : w3.cell? ⟨w.heap.size, 6, none⟩ = some (.int .u8 (h.proto : Int)) := by rw [cell_of_row _ _ _ _ _ _ k3]; rfl
    have e4 : w3.cell? ⟨w.heap.size, 4, none⟩ = some (.int .i64 h.off) := by rw [cell_of_row _ _ _ _ _ _ k3]; rfl
    have e3 : w3.cell? ⟨w.heap.size, 3, none⟩ = some (.bool h.mf) := by rw [cell_of_row _ _ _ _ _ _ k3]; rfl
    have f6 : w3.frozen? ⟨w.heap.size, 6, none⟩ = false := frozen_of_row _ _ _ _ _ k3
    have f4 : w3.frozen? ⟨w.heap.size, 4, none⟩ = false := frozen_of_row _ _ _ _ _ k3
    have f3 : w3.frozen? ⟨w.heap.size, 3, none⟩ = false := frozen_of_row _ _ _ _ _ k3
    obtain ⟨pa, hpa⟩ : ∃ pa : Array Value, pa = pkCells h1 (.slice ao no capo) (.slice (some ⟨g, 0, none⟩) c3 c3) := ⟨_, rfl⟩
    obtain ⟨w5, hw5⟩ : ∃ w5, w5 = (w4.alloc (.cells zeroP 29)).setCells w4.heap.size 0 pa.toList := ⟨_, rfl⟩
    have HZA : Hid ((Tryd.prog.info? 29).map (·.size) = some pa.size) := by unfold Hid; rw [hpa]; exact size_pk
    have HOA : Hid (pa.all (·.oneCell') = true) := by unfold Hid; rw [hpa]; exact pk_one _ (hvo.below hbw4) hs4
    have HTA : Hid ((w4.alloc (.cells zeroP 29)).there w4.heap.size 0 pa.size) := by unfold Hid; rw [hpa]; exact there_blk (C := zeroP) (t := 29) (heap_alloc_new w4 _) rfl
    have r5 : w5.heap[w4.heap.size]? = some (.cells pa 29 (0, 0)) := by
      rw [hw5]
      have := heap_setCells_row (b := w4.heap.size) (T := 29) pa.toList 0 _ zeroP (heap_alloc_new w4 (.cells zeroP 29))
      rwa [show wr zeroP 0 pa.toList = pa by rw [hpa]; exact wr_pk _ _ _] at this
    have hlt5 : w4.heap.size < w5.heap.size := (Array.getElem?_eq_some_iff.1 r5).1
    have hb45 : Below w4.heap.size w4 w5 := by rw [hw5]; exact below_setCells (Nat.le_refl _) _ _ _ ((Below.refl _ _).alloc (Nat.le_refl _) _)
    have hbw5 := hbw4.trans (hb45.mono hbw4.size)
    have HH : Hid (∀ u, Below w5.heap.size w5 u → u.cell? ⟨w.heap.size, 0, none⟩ = some (.int .u8 (h.tos : Int)) ∧ u.cell? ⟨w.heap.size, 7, none⟩ = some (.int .u32 (h.src : Int)) ∧ u.cell? ⟨w.heap.size, 8, none⟩ = some (.int .u32 (h.dst : Int)) ∧ u.cell? ⟨w.heap.size + 1, 2, none⟩ = some (.int .u32 (m0.r : Int)) ∧ u.cell? ⟨w.heap.size + 1, 3, none⟩ = some (.slice am nm capm)) := fun u hu => by
      have hk : u.heap[w.heap.size]? = some (.cells (hdCells h1 (.slice ao no capo)) 27 (0, 0)) := by
        rw [hu.block _ (by omega), hb45.block _ (by omega)]; exact k4
      have hl : u.heap[w.heap.size + 1]? = some (.cells (ctCells m8 (.slice am nm capm)) 37 (0, 0)) := by
        rw [hu.block _ (by omega), hb45.block _ (by omega), HCT8.out]; exact l4
      rw [hh1] at hk
      rw [HM8.out] at hl
      exact ⟨by rw [cell_of_row _ _ _ _ _ _ hk]; rfl, by rw [cell_of_row _ _ _ _ _ _ hk]; rfl, by rw [cell_of_row _ _ _ _ _ _ hk]; rfl, (ct_at hl).2.2.1, (ct_at hl).2.2.2⟩
    have HP5 : Hid (∀ u, Below w5.heap.size w5 u → (Instr.loadAt 29 (.pointer (some ⟨w4.heap.size, 0, none⟩))).run Tryd.prog u = .ok (.agg pa) u) := fun u hu =>
      row_load Tryd.underlying29 ((hu.block _ hlt5).trans r5) HZA.out
    have HLH := hid (row_load Tryd.underlying27 k4 size_hd)
    have HBP := hid (build_pk h1 ao (some ⟨g, 0, none⟩) no capo c3 c3)
    have HBU := hid (build_code h1 (.slice ao no capo) (.slice (some ⟨g, 0, none⟩) c3 c3) (Im.laid m8) w5 hok1 (by rw [hh1]; exact hvo.below hbw5) (hs4.below hb45) (by rw [hh1]; exact hlo) (by omega))
    have HEC : Hid (∀ u, Below w5.heap.size w5 u → _) := fun u hu => echo_any h1 (.slice ao no capo) (.slice (some ⟨g, 0, none⟩) c3 c3) (Im.laid m8) u hok1 (by rw [hh1]; exact hvo.below (hbw5.trans (hu.mono hbw5.size))) ((hs4.below hb45).below hu) (by rw [hh1]; exact hlo) (by omega) (htC.below (hbw5.trans (hu.mono hbw5.size)))
    have HEF := hid (echo_facts h1 m8 (by rw [HM8.out]) (by rw [HM8.out]) hm8o hlB (by rw [hh1]) (by rw [hh1]) (by rw [hh1]))
    have hsrc1 : h1.src = h.src := by rw [hh1]
    have hdst1 : h1.dst = h.dst := by rw [hh1]
    have htos1 : h1.tos = h.tos := by rw [hh1]
    rw [hsrc1, hdst1, htos1, show m8.r = m0.r by rw [HM8.out], hm8B] at HEF
    have HTB : Hid (∀ u, Below w5.heap.size w5 u → Ad.TabC u ∧ TabK u ∧ SeesB u (.slice am nm capm) m0.B) := fun u hu => ⟨htC.below (hbw5.trans (hu.mono hbw5.size)), htK.below (hbw5.trans (hu.mono hbw5.size)), hvm.below (hbw5.trans (hu.mono hbw5.size))⟩
    have hsrc := hok.src
    have hdst := hok.dst
    have htos := hok.tos
    have hmr := hmo.r
    have HPA := hid hpa
    have HW4 := hid hw4
    have HW5 : Hid (w5 = (w4.alloc (.cells #[.int .u8 0, .int .u16 0, .bool false, .bool false, .int .i64 0, .int .u8 0, .int .u8 0, .int .u32 0, .int .u32 0, .slice none 0 0, .slice none 0 0] 29)).setCells w4.heap.size 0 pa.toList) := hw5
    have HBW5 := hid hbw5
    have hlB0 : m0.B.length ≤ 65507 := by omega
    rw [← hpa] at HBU HEC HBP
    generalize hdCells h1 (.slice ao no capo) = hc1 at *
    generalize ecP h1 (Im.laid m8) = EP at *
    generalize ecE h1 (Im.laid m8) = EE at *
    generalize refE h1 (Im.laid m8).length = q at *
    clear j0 j1 hb2 hs2 hbw3 hs3 hg3 hb3 hg he hL hlL k3 l3 k4 hu4 hz3 l4 hbw4 hz4 hne hs4 hpa hw4 hw5 r5 hlt5 hb45 hbw5 hok hmo hvo hvm hlo htC htK hh1 hok1 hsrc1 hdst1 htos1 HJ HV HLC HBL HC0 HCT8 HM8 hbig hlB hm8B hm8o
    obtain ⟨EH, EB⟩ := EP
    simp only at *
    go_upto_region 9 with fail
    rw [← HW4.out]
    clear e6 e4 e3 f6 f4 f3 HW4
    go_upto_region 10 with (first
      | (refine wpList_ld 27 ⟨w.heap.size, 0, none⟩ (.tmp 2) rfl rfl HLH.out rfl ?_)
      | (refine wpList_bd 29 #[(0, .tmp 35), (1, .tmp 36)] #[(0, .agg hc1), (1, .slice (some ⟨g, 0, none⟩) c3 c3)] rfl (by simp only [List.map_toArray, List.map_cons, List.map_nil]; rfl) (HBP.out _) rfl ?_)
      | (refine wpList_store_mid rfl 29 (.tmp 7) (.tmp 37) rfl w4.heap.size 0 pa rfl rfl HTA.out HZA.out HOA.out ?_)
      | fail)
    rw [← HW5.out]
    have HL5 := hid (HP5.out _ (Below.refl _ _))
    clear HW5 HLH HBP HTA HOA HZA
    go_wp2_with (first | (refine wpList_ld 29 ⟨w4.heap.size, 0, none⟩ (.tmp 7) rfl rfl HL5.out rfl ?_) | fail)
    refine HBU.out.mono ?_
    rintro _ w6 ⟨a6, n6, c6, rfl, _, hb6⟩
    have HL6 := hid (HP5.out _ hb6)
    have HX6 := hid (HEC.out _ hb6)
    have HB6 := hid hb6
    clear hb6 HL5 HBU HEC HP5
    go_upto_region 11 with fail
    go_wp2_with (first | (refine wpList_ld 29 ⟨w4.heap.size, 0, none⟩ (.tmp 7) rfl rfl HL6.out rfl ?_) | fail)
    refine HX6.out.mono ?_
    rintro _ w7 ⟨a7, n7, c7, rfl, hs7, _, hb7⟩
    obtain ⟨pb, hpb⟩ : ∃ pb : Array Value, pb = pkCells EH (.slice none 0 0) (.slice a7 n7 c7) := ⟨_, rfl⟩
    obtain ⟨w8, hw8⟩ : ∃ w8, w8 = (w7.alloc (.cells zeroP 29)).setCells w7.heap.size 0 pb.toList := ⟨_, rfl⟩
    have HZB : Hid ((Tryd.prog.info? 29).map (·.size) = some pb.size) := by unfold Hid; rw [hpb]; exact size_pk
    have HOB : Hid (pb.all (·.oneCell') = true) := by unfold Hid; rw [hpb]; exact pk_one _ (sees_nil w7) hs7
    have HTB8 : Hid ((w7.alloc (.cells zeroP 29)).there w7.heap.size 0 pb.size) := by unfold Hid; rw [hpb]; exact there_blk (C := zeroP) (t := 29) (heap_alloc_new w7 _) rfl
    have r8 : w8.heap[w7.heap.size]? = some (.cells pb 29 (0, 0)) := by
      rw [hw8]
      have := heap_setCells_row (b := w7.heap.size) (T := 29) pb.toList 0 _ zeroP (heap_alloc_new w7 (.cells zeroP 29))
      rwa [show wr zeroP 0 pb.toList = pb by rw [hpb]; exact wr_pk _ _ _] at this
    have hlt8 : w7.heap.size < w8.heap.size := (Array.getElem?_eq_some_iff.1 r8).1
    have hb78 : Below w7.heap.size w7 w8 := by rw [hw8]; exact below_setCells (Nat.le_refl _) _ _ _ ((Below.refl _ _).alloc (Nat.le_refl _) _)
    have hb57 := HB6.out.trans (hb7.mono HB6.out.size)
    have hb58 := hb57.trans (hb78.mono hb57.size)
    have HQ : Hid (∀ u, Below w8.heap.size w8 u → u.cell? ⟨w7.heap.size, 0, none⟩ = some (.int .u8 (EH.tos : Int)) ∧ u.cell? ⟨w7.heap.size, 5, none⟩ = some (.int .u8 (EH.ttl : Int)) ∧ u.cell? ⟨w7.heap.size, 6, none⟩ = some (.int .u8 (EH.proto : Int)) ∧ u.cell? ⟨w7.heap.size, 7, none⟩ = some (.int .u32 (EH.src : Int)) ∧ u.cell? ⟨w7.heap.size, 8, none⟩ = some (.int .u32 (EH.dst : Int)) ∧ u.cell? ⟨w7.heap.size, 9, none⟩ = some (.slice none 0 0) ∧ u.cell? ⟨w7.heap.size, 10, none⟩ = some (.slice a7 n7 c7) ∧ (Instr.loadAt 29 (.pointer (some ⟨w7.heap.size, 0, none⟩))).run Tryd.prog u = .ok (.agg pb) u) := fun u hu => by
      have k : u.heap[w7.heap.size]? = some (.cells (pkCells EH (.slice none 0 0) (.slice a7 n7 c7)) 29 (0, 0)) := by
        rw [hu.block _ hlt8, r8, hpb]
      have := pk_load k
      rw [← hpb] at this
      exact ⟨pk_at k 0 (by omega), pk_at k 5 (by omega), pk_at k 6 (by omega), pk_at k 7 (by omega), pk_at k 8 (by omega), pk_at k 9 (by omega), pk_at k 10 (by omega), this⟩
    have HSAME : Hid ((EH, EB) = (zeroH, []) → Calls Tryd.prog 14 #[.agg pb, .agg #[.int .u8 0, .int .u16 0, .bool false, .bool false, .int .i64 0, .int .u8 0, .int .u8 0, .int .u32 0, .int .u32 0, .slice none 0 0, .slice none 0 0]] w8 fun e w' => e = .returned (.bool true) ∧ Below w8.heap.size w8 w') := fun e => zeros_same w8 EH EB e _ (hs7.below hb78) pb hpb
    have HS8 := hid (hs7.below hb78)
    have HPB := hid hpb
    have HL8 := hid (HQ.out _ (Below.refl _ _)).2.2.2.2.2.2.2
    have HW8 : Hid (w8 = (w7.alloc (.cells #[.int .u8 0, .int .u16 0, .bool false, .bool false, .int .i64 0, .int .u8 0, .int .u8 0, .int .u32 0, .int .u32 0, .slice none 0 0, .slice none 0 0] 29)).setCells w7.heap.size 0 pb.toList) := hw8
    have HB58 := hid hb58
    obtain ⟨_, c7', c8', _, _⟩ := HH.out _ hb58
    have HPS := hid (plainL_any h.src w8 hsrc)
    have HPD := hid (plainL_any h.dst w8 hdst)
    have HEND : Hid (∀ u, Below w8.heap.size w8 u → Below w.heap.size w u) := fun u hu => by
      have := HB58.out.trans (hu.mono HB58.out.size)
      exact HBW5.out.trans (this.mono HBW5.out.size)
    rw [← hpb]
    clear hpb hw8 hs7 hb7 hb78 hb57 hb58 r8 hlt8 HL6 HX6 HB6
    go_upto_region 12 with (first
      | (refine wpList_store_mid rfl 29 (.tmp 10) (.tmp 46) rfl w7.heap.size 0 pb rfl rfl HTB8.out HZB.out HOB.out ?_)
      | fail)
    rw [← HW8.out]
    clear HTB8 HOB HW8
    by_cases hq : q = 0
    · subst hq
      cases es : pln h.src with
      | false =>
        obtain ⟨y1, y2⟩ := HEF.out.2.1 rfl (by rw [es]; rfl)
        rw [es] at HPS
        subst y1
        have HX := hid (HSAME.out y2)
        clear HEF HSAME HQ HPB HS8 HTB y2
        generalize h.src = src at *
        generalize h.dst = dst at *
        go_upto_region 14 with fail
        go_wp2_with fail
        refine HPS.out.mono ?_
        rintro _ wx ⟨rfl, rfl⟩
        go_upto_region 15 with fail
        clear HPS HPD c7' c8'
        go_wp2_with (first | (refine wpList_ld 29 ⟨w7.heap.size, 0, none⟩ (.tmp 10) rfl rfl HL8.out rfl ?_) | fail)
        refine HX.out.mono ?_
        rintro _ wx ⟨rfl, hbx⟩
        go_wp2_with fail
        go_ret
        exact ⟨rfl, HEND.out _ hbx⟩
      | true =>
        rw [es] at HPS
        cases ed : pln h.dst with
        | false =>
          obtain ⟨y1, y2⟩ := HEF.out.2.1 rfl (by rw [es, ed]; rfl)
          rw [ed] at HPD
          subst y1
          have HX := hid (HSAME.out y2)
          clear HEF HSAME HQ HPB HS8 HTB y2
          generalize h.src = src at *
          generalize h.dst = dst at *
          go_upto_region 14 with fail
          go_wp2_with fail
          refine HPS.out.mono ?_
          rintro _ wx ⟨rfl, rfl⟩
          go_wp2_with fail
          refine HPD.out.mono ?_
          rintro _ wx ⟨rfl, rfl⟩
          go_upto_region 15 with fail
          clear HPS HPD c7' c8'
          go_wp2_with (first | (refine wpList_ld 29 ⟨w7.heap.size, 0, none⟩ (.tmp 10) rfl rfl HL8.out rfl ?_) | fail)
          refine HX.out.mono ?_
          rintro _ wx ⟨rfl, hbx⟩
          go_wp2_with fail
          go_ret
          exact ⟨rfl, HEND.out _ hbx⟩
        | true =>
          rw [ed] at HPD
          obtain ⟨y1, y2⟩ := HEF.out.2.2 rfl es ed
          subst y1
          rw [Prod.mk.injEq] at y2
          obtain ⟨rfl, rfl⟩ := y2
          obtain ⟨g1, g2, g3, g4, g5, g6⟩ := back_facts h.tos h.dst h.src m0.r m0.B hmr hlB0 ed es
          have hmd : (mdH h.tos h.dst h.src).Ok := ⟨htos, by show 0 < 65536; omega, by show -9223372036854775808 ≤ (0 : Int) ∧ (0 : Int) ≤ 9223372036854775807; omega, by show 64 < 256; omega, by show 1 < 256; omega, hdst, hsrc⟩
          have HQ' : Hid (∀ u, Below w8.heap.size w8 u → u.cell? ⟨w7.heap.size, 0, none⟩ = some (.int .u8 (h.tos : Int)) ∧ u.cell? ⟨w7.heap.size, 5, none⟩ = some (.int .u8 64) ∧ u.cell? ⟨w7.heap.size, 6, none⟩ = some (.int .u8 1) ∧ u.cell? ⟨w7.heap.size, 7, none⟩ = some (.int .u32 (h.dst : Int)) ∧ u.cell? ⟨w7.heap.size, 8, none⟩ = some (.int .u32 (h.src : Int)) ∧ u.cell? ⟨w7.heap.size, 9, none⟩ = some (.slice none 0 0) ∧ u.cell? ⟨w7.heap.size, 10, none⟩ = some (.slice a7 n7 c7) ∧ (Instr.loadAt 29 (.pointer (some ⟨w7.heap.size, 0, none⟩))).run Tryd.prog u = .ok (.agg pb) u) := HQ.out
          generalize Im.laid ⟨0, 0, m0.r, m0.B⟩ = QB at *
          have HPR := hid (iparse_any (.slice a7 n7 c7) QB w8 HS8.out)
          rw [g2, g3] at HPR
          have HE2 : Hid (∀ u, Below w8.heap.size w8 u → Calls Tryd.prog 22 #[.agg pb] u fun e w' => ∃ EH2 a2 n2 c2, e = .returned (.tuple #[.agg (pkCells EH2 (.slice none 0 0) (.slice a2 n2 c2)), .int .i64 62]) ∧ Below u.heap.size u w') := fun u hu => by
            rw [HPB.out]
            refine (echo_any (mdH h.tos h.dst h.src) (.slice none 0 0) (.slice a7 n7 c7) QB u hmd (sees_nil _) (HS8.out.below hu) (by show 0 ≤ 140737488355328; omega) (by omega) (HTB.out u (HB58.out.trans (hu.mono HB58.out.size))).1).mono ?_
            rintro e w' ⟨a2, n2, c2, rfl, _, _, hb⟩
            exact ⟨_, a2, n2, c2, by rw [g4], hb⟩
          have HAB : Hid (∀ u, Below w8.heap.size w8 u → Calls Tryd.prog 23 #[.agg pb] u fun e w' => ∃ EH2 a1 n1 c1 a2 n2 c2, e = .returned (.tuple #[.agg (hdCells EH2 (.slice a1 n1 c1)), .slice a2 n2 c2, .int .i64 62]) ∧ Below u.heap.size u w') := fun u hu => by
            rw [HPB.out]
            refine (about_any (mdH h.tos h.dst h.src) (.slice none 0 0) (.slice a7 n7 c7) QB u hmd (sees_nil _) (HS8.out.below hu) (by show 0 ≤ 140737488355328; omega) (by omega) (HTB.out u (HB58.out.trans (hu.mono HB58.out.size))).2.1).mono ?_
            rintro e w' ⟨a1, n1, c1, a2, n2, c2, rfl, _, _, hb⟩
            exact ⟨_, a1, n1, c1, a2, n2, c2, by rw [g5], hb⟩
          have HFT : Hid (∀ u, Below w8.heap.size w8 u → Calls Tryd.prog 9 #[.agg pb, .int .u8 3, .int .u8 1, .int .i64 0, .int .u32 167838209] u fun e w' => ∃ EH2 a2 n2 c2, e = .returned (.tuple #[.agg (pkCells EH2 (.slice none 0 0) (.slice a2 n2 c2)), .int .i64 0]) ∧ Below u.heap.size u w') := fun u hu => by
            rw [HPB.out]
            obtain ⟨t1, t2, _⟩ := HTB.out u (HB58.out.trans (hu.mono HB58.out.size))
            refine (fault_any (mdH h.tos h.dst h.src) (.slice none 0 0) (.slice a7 n7 c7) QB 3 1 0 167838209 u hmd (sees_nil _) (HS8.out.below hu) (by show 0 ≤ 140737488355328; omega) (by omega) (by decide) (by decide) (by decide) t1 t2).mono ?_
            rintro e w' ⟨a2, n2, c2, rfl, _, _, hb⟩
            exact ⟨_, a2, n2, c2, by rw [g6], hb⟩
          have HSM : Hid (∀ (v : Value) (u : World), Below w8.heap.size w8 u → SeesB u v m0.B → Calls Tryd.prog 25 #[v, .slice am nm capm] u fun e w' => e = .returned (.bool true) ∧ Below u.heap.size u w') := fun v u hu hv => by
            have := same_any v (.slice am nm capm) m0.B m0.B u hv (HTB.out u (HB58.out.trans (hu.mono HB58.out.size))).2.2
            rw [decide_eq_true (rfl : m0.B = m0.B)] at this
            exact this
          obtain ⟨_, _, _, _, _, _, q10, _⟩ := HQ'.out _ (Below.refl _ _)
          generalize h.src = src at *
          generalize h.dst = dst at *
          generalize h.tos = tos at *
          clear g1 g2 g3 g4 g5 g6 hmd HEF HQ HSAME HPB HS8 HL8 hsrc hdst htos hmr HTB es ed
          go_upto_region 14 with fail
          go_wp2_with fail
          refine HPS.out.mono ?_
          rintro _ wx ⟨rfl, rfl⟩
          go_wp2_with fail
          refine HPD.out.mono ?_
          rintro _ wx ⟨rfl, rfl⟩
          go_upto_region 16 with fail
          clear HPS HPD c7' c8'
          go_wp2_with fail
          refine HPR.out.mono ?_
          rintro _ w9 ⟨a9, n9, c9, rfl, hs9, _, hb9⟩
          obtain ⟨pc, hpc⟩ : ∃ pc : Array Value, pc = ctCells ⟨0, 0, m0.r, m0.B⟩ (.slice a9 n9 c9) := ⟨_, rfl⟩
          obtain ⟨wb, hwb⟩ : ∃ wb, wb = (w9.alloc (.cells zeroC 37)).setCells w9.heap.size 0 pc.toList := ⟨_, rfl⟩
          have HZC : Hid ((Tryd.prog.info? 37).map (·.size) = some pc.size) := by unfold Hid; rw [hpc]; exact size_ct
          have HOC : Hid (pc.all (·.oneCell') = true) := by unfold Hid; rw [hpc]; simp [ctCells, Value.oneCell']
          have HTC : Hid ((w9.alloc (.cells zeroC 37)).there w9.heap.size 0 pc.size) := by unfold Hid; rw [hpc]; exact there_blk (C := zeroC) (t := 37) (heap_alloc_new w9 _) rfl
          have rb : wb.heap[w9.heap.size]? = some (.cells (ctCells ⟨0, 0, m0.r, m0.B⟩ (.slice a9 n9 c9)) 37 (0, 0)) := by
            rw [hwb, hpc]
            have := heap_setCells_row (b := w9.heap.size) (T := 37) (ctCells ⟨0, 0, m0.r, m0.B⟩ (.slice a9 n9 c9)).toList 0 _ zeroC (heap_alloc_new w9 (.cells zeroC 37))
            rwa [show wr zeroC 0 (ctCells ⟨0, 0, m0.r, m0.B⟩ (.slice a9 n9 c9)).toList = ctCells ⟨0, 0, m0.r, m0.B⟩ (.slice a9 n9 c9) by simp [wr, zeroC, ctCells]] at this
          have hb9b : Below w9.heap.size w9 wb := by rw [hwb]; exact below_setCells (Nat.le_refl _) _ _ _ ((Below.refl _ _).alloc (Nat.le_refl _) _)
          have hb8b := hb9.trans (hb9b.mono hb9.size)
          have hb5b := HB58.out.trans (hb8b.mono HB58.out.size)
          obtain ⟨d0, d1, d2, d3⟩ := ct_at rb
          have d0 : wb.cell? ⟨w9.heap.size, 0, none⟩ = some (.int .u8 0) := d0
          have d1 : wb.cell? ⟨w9.heap.size, 1, none⟩ = some (.int .u8 0) := d1
          obtain ⟨_, _, _, x2, x3⟩ := HH.out _ hb5b
          have HXS := hid (HSM.out _ _ hb8b (hs9.below hb9b))
          have HWB : Hid (wb = (w9.alloc (.cells #[.int .u8 0, .int .u8 0, .int .u32 0, .slice none 0 0] 37)).setCells w9.heap.size 0 pc.toList) := hwb
          have HB8B := hid hb8b
          generalize m0.r = mr at *
          rw [← hpc]
          clear hpc hwb rb hb9 hb9b hb8b hb5b q10 HPR HSM hs9
          go_upto_region 17 with (first
            | (refine wpList_store_mid rfl 37 (.tmp 12) (.tmp 79) rfl w9.heap.size 0 pc rfl rfl HTC.out HZC.out HOC.out ?_)
            | fail)
          rw [← HWB.out]
          clear HTC HZC HOC HWB
          go_wp2_with fail
          refine HXS.out.mono ?_
          rintro _ wc ⟨rfl, hbc⟩
          have hb8c := HB8B.out.trans (hbc.mono HB8B.out.size)
          have hb5c := HB58.out.trans (hb8c.mono HB58.out.size)
          obtain ⟨z0, z5, z6, z7, z8, z9, _, _⟩ := HQ'.out _ hb8c
          obtain ⟨x0, x7, x8, _, _⟩ := HH.out _ hb5c
          have HLc := hid (HQ'.out _ hb8c).2.2.2.2.2.2.2
          have HXE := hid (HE2.out _ hb8c)
          have HB8C := hid hb8c
          clear hbc hb8c hb5c HB8B HXS d0 d1 d2 d3 x2 x3
          go_upto_region 19 with fail
          go_upto_region 21 with fail
          clear z0 z5 z6 z7 z8 z9 x0 x7 x8
          go_wp2_with (first | (refine wpList_ld 29 ⟨w7.heap.size, 0, none⟩ (.tmp 10) rfl rfl HLc.out rfl ?_) | fail)
          refine HXE.out.mono ?_
          rintro _ wd ⟨EH2, ad, nd, cd, rfl, hbd⟩
          obtain ⟨pd, hpd⟩ : ∃ pd : Array Value, pd = pkCells EH2 (.slice none 0 0) (.slice ad nd cd) := ⟨_, rfl⟩
          obtain ⟨we, hwe⟩ : ∃ we, we = (wd.alloc (.cells zeroP 29)).setCells wd.heap.size 0 pd.toList := ⟨_, rfl⟩
          have HZWE : Hid ((Tryd.prog.info? 29).map (·.size) = some pd.size) := by unfold Hid; rw [hpd]; exact size_pk
          have HOWE : Hid (pd.all (·.oneCell') = true) := by unfold Hid; rw [hpd]; simp [pkCells, Value.oneCell']
          have HTWE : Hid ((wd.alloc (.cells zeroP 29)).there wd.heap.size 0 pd.size) := by unfold Hid; rw [hpd]; exact there_blk (C := zeroP) (t := 29) (heap_alloc_new wd _) rfl
          have hbs : Below wd.heap.size wd we := by rw [hwe]; exact below_setCells (Nat.le_refl _) _ _ _ ((Below.refl _ _).alloc (Nat.le_refl _) _)
          have hbo := HB8C.out.trans (hbd.mono HB8C.out.size)
          have HB8E := hid (hbo.trans (hbs.mono hbo.size))
          have HWWE : Hid (we = (wd.alloc (.cells #[.int .u8 0, .int .u16 0, .bool false, .bool false, .int .i64 0, .int .u8 0, .int .u8 0, .int .u32 0, .int .u32 0, .slice none 0 0, .slice none 0 0] 29)).setCells wd.heap.size 0 pd.toList) := hwe
          rw [← hpd]
          clear hpd hwe hbs hbo hbd
          go_upto_region 22 with (first
            | (refine wpList_store_mid rfl 29 (.tmp 14) (.tmp 156) rfl wd.heap.size 0 pd rfl rfl HTWE.out HZWE.out HOWE.out ?_)
            | fail)
          rw [← HWWE.out]
          clear HTWE HZWE HOWE HWWE
          have HLe := hid (HQ'.out _ HB8E.out).2.2.2.2.2.2.2
          have HXA := hid (HAB.out _ HB8E.out)
          clear HXE HLc HB8C
          go_wp2_with (first | (refine wpList_ld 29 ⟨w7.heap.size, 0, none⟩ (.tmp 10) rfl rfl HLe.out rfl ?_) | fail)
          refine HXA.out.mono ?_
          rintro _ wf ⟨EH3, af, nf, cf, af', nf', cf', rfl, hbf⟩
          obtain ⟨pe, hpe⟩ : ∃ pe : Array Value, pe = hdCells EH3 (.slice af nf cf) := ⟨_, rfl⟩
          obtain ⟨wg, hwg⟩ : ∃ wg, wg = (wf.alloc (.cells zeroHC 27)).setCells wf.heap.size 0 pe.toList := ⟨_, rfl⟩
          have HZWG : Hid ((Tryd.prog.info? 27).map (·.size) = some pe.size) := by unfold Hid; rw [hpe]; exact size_hd
          have HOWG : Hid (pe.all (·.oneCell') = true) := by unfold Hid; rw [hpe]; simp [hdCells, Value.oneCell']
          have HTWG : Hid ((wf.alloc (.cells zeroHC 27)).there wf.heap.size 0 pe.size) := by unfold Hid; rw [hpe]; exact there_blk (C := zeroHC) (t := 27) (heap_alloc_new wf _) rfl
          have hbs : Below wf.heap.size wf wg := by rw [hwg]; exact below_setCells (Nat.le_refl _) _ _ _ ((Below.refl _ _).alloc (Nat.le_refl _) _)
          have hbo := HB8E.out.trans (hbf.mono HB8E.out.size)
          have HB8G := hid (hbo.trans (hbs.mono hbo.size))
          have HWWG : Hid (wg = (wf.alloc (.cells #[.int .u8 0, .int .u16 0, .bool false, .bool false, .int .i64 0, .int .u8 0, .int .u8 0, .int .u32 0, .int .u32 0, .slice none 0 0] 27)).setCells wf.heap.size 0 pe.toList) := hwg
          rw [← hpe]
          clear hpe hwg hbs hbo hbf
          go_upto_region 23 with (first
            | (refine wpList_store_mid rfl 27 (.tmp 16) (.tmp 161) rfl wf.heap.size 0 pe rfl rfl HTWG.out HZWG.out HOWG.out ?_)
            | fail)
          rw [← HWWG.out]
          clear HTWG HZWG HOWG HWWG
          have HLg := hid (HQ'.out _ HB8G.out).2.2.2.2.2.2.2
          have HXF := hid (HFT.out _ HB8G.out)
          clear HXA HLe HB8E
          go_wp2_with (first | (refine wpList_ld 29 ⟨w7.heap.size, 0, none⟩ (.tmp 10) rfl rfl HLg.out rfl ?_) | fail)
          refine HXF.out.mono ?_
          rintro _ wh ⟨EH4, ah, nh, ch, rfl, hbh⟩
          obtain ⟨pf, hpf⟩ : ∃ pf : Array Value, pf = pkCells EH4 (.slice none 0 0) (.slice ah nh ch) := ⟨_, rfl⟩
          obtain ⟨wi, hwi⟩ : ∃ wi, wi = (wh.alloc (.cells zeroP 29)).setCells wh.heap.size 0 pf.toList := ⟨_, rfl⟩
          have HZWI : Hid ((Tryd.prog.info? 29).map (·.size) = some pf.size) := by unfold Hid; rw [hpf]; exact size_pk
          have HOWI : Hid (pf.all (·.oneCell') = true) := by unfold Hid; rw [hpf]; simp [pkCells, Value.oneCell']
          have HTWI : Hid ((wh.alloc (.cells zeroP 29)).there wh.heap.size 0 pf.size) := by unfold Hid; rw [hpf]; exact there_blk (C := zeroP) (t := 29) (heap_alloc_new wh _) rfl
          have hbs : Below wh.heap.size wh wi := by rw [hwi]; exact below_setCells (Nat.le_refl _) _ _ _ ((Below.refl _ _).alloc (Nat.le_refl _) _)
          have hbo := HB8G.out.trans (hbh.mono HB8G.out.size)
          have HB8I := hid (hbo.trans (hbs.mono hbo.size))
          have HWWI : Hid (wi = (wh.alloc (.cells #[.int .u8 0, .int .u16 0, .bool false, .bool false, .int .i64 0, .int .u8 0, .int .u8 0, .int .u32 0, .int .u32 0, .slice none 0 0, .slice none 0 0] 29)).setCells wh.heap.size 0 pf.toList) := hwi
          rw [← hpf]
          clear hpf hwi hbs hbo hbh
          go_upto_region 24 with (first
            | (refine wpList_store_mid rfl 29 (.tmp 19) (.tmp 167) rfl wh.heap.size 0 pf rfl rfl HTWI.out HZWI.out HOWI.out ?_)
            | fail)
          rw [← HWWI.out]
          clear HTWI HZWI HOWI HWWI
          go_wp2_with fail
          go_ret
          exact ⟨rfl, HEND.out _ HB8I.out⟩
    · obtain ⟨y1, y2⟩ := HEF.out.1 hq
      subst y1
      have HX := hid (HSAME.out y2)
      clear HEF HSAME HQ HPB HS8 HTB HPS HPD c7' c8' y2
      go_upto_region 13 with fail
      go_wp2_with (first | (refine wpList_ld 29 ⟨w7.heap.size, 0, none⟩ (.tmp 10) rfl rfl HL8.out rfl ?_) | fail)
      refine HX.out.mono ?_
      rintro _ wx ⟨rfl, hbx⟩
      go_wp2_with fail
      go_ret
      exact ⟨rfl, HEND.out _ hbx⟩
end Go.Proofs.YtcboenmmkaochaaDoor.N
