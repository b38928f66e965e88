/-
  IcmpEchoBack: the walk.
-/
import Derived.Test.YtcboenmmkaochaaDoorM5
import Derived.Test.YtcboenmmkaochaaDoorRKI
namespace Go.Proofs.YtcboenmmkaochaaDoor.N
open Go.ChangeShapes Go.WideShapes Go.ChangeAt Go.RowKit
set_option maxHeartbeats 8000000
set_option maxRecDepth 100000

theorem field_hd (x0 x1 x2 x3 x4 x5 x6 x7 x8 x9 x10 : Value) (u : World) : (Instr.field 29 (.agg #[x0, x1, x2, x3, x4, x5, x6, x7, x8, x9, x10]) 0).run Tryd.prog u = .ok (.agg #[x0, x1, x2, x3, x4, x5, x6, x7, x8, x9]) u := by
  simp [Instr.field, run_underlying Tryd.underlying29, asAgg, part, go_sem]

theorem icmpEchoBack_walk (h : Hd) (vo : Value) (m0 : Im.Ct) (vm : Value) (w : World) (hok : h.Ok) (hmo : m0.Ok) (hvo : SeesB w vo h.opts) (hvm : SeesB w vm m0.B) (hlo : h.opts.length ≤ 140737488355328) (htC : Ad.TabC w) (htK : TabK w) :
    Calls Tryd.prog 6 #[.agg (hdCells h vo), .agg (ctCells m0 vm)] w fun e w' => e = .returned (.bool true) ∧ Below w.heap.size w w' := by
  obtain ⟨wa, hwa⟩ : ∃ wa, wa = w.alloc (.cells (hdCells h vo) 27) := ⟨_, rfl⟩
  obtain ⟨w1, hw1⟩ : ∃ w1, w1 = wa.alloc (.cells (ctCells m0 vm) 37) := ⟨_, rfl⟩
  have hsa : wa.heap.size = w.heap.size + 1 := by rw [hwa]; simp
  have hs1 : w1.heap.size = w.heap.size + 2 := by rw [hw1]; simp [hsa]
  have hba : Below w.heap.size w wa := by rw [hwa]; exact (Below.refl _ _).alloc (Nat.le_refl _) _
  have hbb : Below wa.heap.size wa w1 := by rw [hw1]; exact (Below.refl _ _).alloc (Nat.le_refl _) _
  have hb1 : Below w.heap.size w w1 := hba.trans (hbb.mono (by omega))
  have k0 : w1.heap[w.heap.size]? = some (.cells (hdCells h vo) 27 (0, 0)) := by
    rw [hbb.block _ (by omega), hwa]; exact heap_alloc_new w _
  have k1 : w1.heap[w.heap.size + 1]? = some (.cells (ctCells m0 vm) 37 (0, 0)) := by
    rw [← hsa, hw1]; exact heap_alloc_new wa _
  have HL : Hid (∀ u, Below w1.heap.size w1 u → (Instr.loadAt 27 (.pointer (some ⟨w.heap.size, 0, none⟩))).run Tryd.prog u = .ok (.agg (hdCells h vo)) u ∧ (Instr.loadAt 37 (.pointer (some ⟨w.heap.size + 1, 0, none⟩))).run Tryd.prog u = .ok (.agg (ctCells m0 vm)) u) := fun u hu =>
    ⟨row_load Tryd.underlying27 ((hu.block _ (by omega)).trans k0) size_hd, row_load Tryd.underlying37 ((hu.block _ (by omega)).trans k1) size_ct⟩
  have HSM := hid (small_any w1)
  have HE1 : Hid (∀ (u : World) (v1 v2 : Value), Below w1.heap.size w1 u → SeesB u v1 small6.opts → SeesB u v2 [1] → Calls Tryd.prog 12 #[.agg (hdCells small6 v1), .agg #[.int .u8 0, .int .u8 0, .int .u32 5, v2]] u fun e w' => e = .returned (.bool true) ∧ Below u.heap.size u w') := fun u v1 v2 hu h1 h2 =>
    echoed_any small6 v1 ⟨0, 0, 5, [1]⟩ v2 u small6_ok ⟨by decide, by decide, by decide⟩ h1 h2 (by decide) ((htC.below hb1).below hu) ((htK.below hb1).below hu)
  have HE2 : Hid (∀ u, Below w1.heap.size w1 u → Calls Tryd.prog 12 #[.agg (hdCells h vo), .agg (ctCells m0 vm)] u fun e w' => e = .returned (.bool true) ∧ Below u.heap.size u w') := fun u hu =>
    echoed_any h vo m0 vm u hok hmo (hvo.below (hb1.trans (hu.mono hb1.size))) (hvm.below (hb1.trans (hu.mono hb1.size))) hlo ((htC.below hb1).below hu) ((htK.below hb1).below hu)
  have HW1 : Hid (w1 = (w.alloc (.cells (hdCells h vo) 27)).alloc (.cells (ctCells m0 vm) 37)) := by unfold Hid; rw [hw1, hwa]
  have HB1 := hid hb1
  clear hwa hw1 hsa hs1 hba hbb hb1 k0 k1 hvo hvm hok hmo hlo htC htK
  generalize hdCells h vo = hc at *
  generalize ctCells m0 vm = ct at *
  go_enter Tryd.func6, Tryd.ntmps6
  go_upto_region 1 with fail
  rw [← HW1.out]
  go_wp2_with fail
  refine HSM.out.mono ?_
  rintro _ w2 ⟨a1, n1, c1, a2, n2, c2, rfl, ho, hbd, _, hb2⟩
  obtain ⟨w3, hw3⟩ : ∃ w3, w3 = w2.alloc (.cells #[.int .u8 1] 5) := ⟨_, rfl⟩
  have hb23 : Below w2.heap.size w2 w3 := by rw [hw3]; exact (Below.refl _ _).alloc (Nat.le_refl _) _
  have h1 : SeesB w3 (.slice (some ⟨w2.heap.size, 0, none⟩) 1 1) [1] := by rw [hw3]; exact sees_one rfl 1 (by decide) 5
  have hb3 := hb2.trans (hb23.mono hb2.size)
  have HX := hid (HE1.out w3 _ _ hb3 (ho.below hb23) h1)
  have HX' : Hid (Calls Tryd.prog 12 #[.agg #[.int .u8 0, .int .u16 7, .bool false, .bool false, .int .i64 0, .int .u8 1, .int .u8 17, .int .u32 167838211, .int .u32 167904004, .slice a1 n1 c1], .agg #[.int .u8 0, .int .u8 0, .int .u32 5, .slice (some ⟨w2.heap.size, 0, none⟩) 1 1]] w3 fun e w' => e = .returned (.bool true) ∧ Below w3.heap.size w3 w') := HX.out
  have HW3 := hid hw3
  have HB3 := hid hb3
  clear ho hbd hb2 hb23 h1 hb3 HX HE1 HSM hw3
  rw [show pkCells small6 (.slice a1 n1 c1) (.slice a2 n2 c2) = #[.int .u8 0, .int .u16 7, .bool false, .bool false, .int .i64 0, .int .u8 1, .int .u8 17, .int .u32 167838211, .int .u32 167904004, .slice a1 n1 c1, .slice a2 n2 c2] from rfl]
  have hfd := field_hd (.int .u8 0) (.int .u16 7) (.bool false) (.bool false) (.int .i64 0) (.int .u8 1) (.int .u8 17) (.int .u32 167838211) (.int .u32 167904004) (.slice a1 n1 c1) (.slice a2 n2 c2)
  go_wp2_with fail
  rw [← HW3.out]
  refine HX'.out.mono ?_
  rintro _ w4 ⟨rfl, hb4⟩
  have hb14 := HB3.out.trans (hb4.mono HB3.out.size)
  have HLh := hid (HL.out _ hb14).1
  have HLc := hid (HL.out _ hb14).2
  have HY := hid (HE2.out _ hb14)
  have HB14 := hid hb14
  clear hb4 hb14 HX'
  go_wp2_with (first
    | (refine wpList_ld 27 ⟨w.heap.size, 0, none⟩ (.tmp 2) rfl rfl HLh.out rfl ?_)
    | (refine wpList_ld 37 ⟨w.heap.size + 1, 0, none⟩ (.tmp 3) rfl rfl HLc.out rfl ?_)
    | fail)
  refine HY.out.mono ?_
  rintro _ w5 ⟨rfl, hb5⟩
  go_wp2_with fail
  go_ret
  exact ⟨rfl, HB1.out.trans ((HB14.out.trans (hb5.mono HB14.out.size)).mono HB1.out.size)⟩
end Go.Proofs.YtcboenmmkaochaaDoor.N
